import PyProof.Rows.All
import Wide.All
import OpenK.AllK
import Wide.FinOn
import HandS.ForMost
import HandS.IsInst
import HandS.TupAny
import HandS.RaiseMore
import HandS.DictComp
import HandS.SetKeys
import HandS.Star
import HandS.Defaults
import HandS.SetFor
import PyProof.SeqIndex
import HandS.SortOrd
import HandS.DictTup
import KE.OsSort
import PySem.Str
import HandS.DeepEq
import HandS.MakeKw
import HandS.ListItems
import HandS.Zip
import HandS.GenList
import PyProof.ExcBaseAll.LookupError
import PyProof.ExcBaseAll.IndexError
import PyProof.ExcBaseAll.TypeError
import PyProof.ExcBaseAll.OverflowError
import KE.KExcInit
import HandS.ExcInit
import HandS.WordsExc
import HandS.ExcOwn
import HandS.ExcIs
import HandS.ExcField
import HandS.Walk
import HandS.FStr
import HandS.Text
import KE.KCallOwn
import PyProof.FitsInt
import HandS.MakeKwOnly
import KE.KNest
import HandS.Lambda
import HandS.EndBits
import HandS.Replace
import PyProof.SetRoads
import PyProof.Rows.SetFrom
import HandS.TryOnly
import HandS.Style
import PySem.Challenge.RW_equalunlike_k03_members_and_entries_refu
set_option Elab.async false
set_option maxRecDepth 100000
set_option maxHeartbeats 4000000
namespace My
open PySem PySem.Spec PyProof.Rows L2


section
variable {P : Program} {w : World} {K : PySem.W.Frag} {mg : Str → Option Value} {base : Heap} {CX : CXT}
structure FnG (P : Program) (w : World) (K : PySem.W.Frag) (mg : Str → Option Value) (base : Heap)
    (CX : CXT) (k : Nat) (f : Addr) (fd : FuncData) (ps : List Str) (sp : Sp) : Prop where
  len : ∀ vs H Q E, sp vs H Q E → vs.length = ps.length
  run : ∀ (A : Around) (outer : List Env) (s : Shared) (H : Hp) (args : Args) (us : List Value)
    (vs : List V) (Q : VK) (E : XK), A.guards = some [] → Room k A →
    Env0 P w K mg base A outer s H → BindsTo s fd args (ps.zip us) → Vals vs us →
    sp vs H Q E → codeAny (model P w) A (.call (.ref f) args) (CR CX outer P w H s Q E) s
theorem FnG.of {k : Nat} {f : Addr} {fd : FuncData} {ps : List Str} {sp : Sp}
    (F : FnOk P w K mg base CX k f fd ps sp) : FnG P w K mg base CX k f fd ps sp :=
  ⟨F.len, fun A outer s H args us vs Q E _ hr he hb hv hs => F.run A outer s H args us vs Q E hr he hb hv hs⟩
theorem deeper_guards (A : Around) (env : Env) (h : A.guards = some []) : (A.deeper env).guards = some [] := by
  first
  | exact h
  | (simp [Around.deeper]; exact h)


theorem okGX {x qual : Str} {st : Stmt} {f : Addr} {fd : FuncData} {N ps : List Str} {k : Nat} {sp : Sp}
    (F : Fun K x qual st f fd) (S : FnScope N ps (defScope st))
    (len : ∀ vs H Q E, sp vs H Q E → vs.length = ps.length)
    (body : ∀ (cdv : Value) (A : Around) (outer : List Env) (s : Shared) (H : Hp) (vs : List V) (Q : VK) (E : XK),
      (A.deeper (envOfC qual (defScope st) s.heap.objs.size f cdv)).guards = some [] →
      Room k (A.deeper (envOfC qual (defScope st) s.heap.objs.size f cdv)) → sp vs H Q E →
      ∃ t, PSs (cxOf CX P w K mg base N qual (defScope st) f cdv A outer s H E) (defBody st) t ∧
        t { nx := fun _ H' => Q .non H', rt := Q } (start N vs) H) :
    FnG P w K mg base CX (k + 1) f fd ps sp := by
  obtain ⟨oc, od, kV, doc, pm, an, cdv, ct, osl, rfl, lk, hcd⟩ := F.ex
  refine ⟨len, ?_⟩
  intro A outer s H args us vs Q E hg hr e0 hb r hsp
  have ln := len _ _ _ _ hsp
  have kin : K.In s.heap := e0.mod.kin.keeps fun b o e =>
    (e0.bs b o e).1
  have lim : s.heap.NoLimit := e0.mod.nolimit.keeps fun b o e =>
    (e0.bs b o e).1
  have kinds : ∀ y ∈ ps.zip us, (defScope st).names.lookup y.1 = some .local ∨
      ((defScope st).names.lookup y.1 = some .cell ∧
        ((cellsFrom (s.heap.objs.size + 1) (defScope st).names []).lookup y.1).isSome = true) := by
    rintro ⟨n, v⟩ hy
    rcases S.par n (List.of_mem_zip hy).1 with q | q
    · left; exact q
    · right; exact ⟨q, PySem.W.cellsFrom_some _ _ _ (.inl q)⟩
  refine codeAny_call_function hr.depth (kin _ _ lk) rfl S.co S.gen
    rfl (PySem.W.codeRec_of kin hcd) (hb _ _ _ _ ?_)
  refine wpAny_newFunctionEnv_cells S.kind kinds ?_
  intro env he s1 x
  subst he
  refine ⟨lim.keeps x.toInCall.keep, codeAny_func ?_⟩
  obtain ⟨t, ht, hq⟩ := body cdv A outer s H vs Q E
    (deeper_guards A _ hg) (hr.deeper _) hsp
  have I := inv_start (CX := CX) (P := P) (mg := mg) (base := base) (E := E) S hr.hd e0 ln r x
  refine wpAny_mono (ht.run [] s1 (start N vs) H _ I hq) ?_ (fun e s' hs => hs)
  intro fl s' hs
  cases fl with
  | ret u =>
    obtain ⟨v, σ', H', J, rv, q⟩ := hs
    exact ⟨v, H', J.os, J.bare, J.base, J.hok, rv, q⟩
  | next =>
    obtain ⟨σ', H', J, q⟩ := hs
    exact ⟨V.non, H', J.os, J.bare, J.base, J.hok, rfl, q⟩
  | brk => obtain ⟨_, _, _, z⟩ := hs; exact z.elim
  | cont => obtain ⟨_, _, _, z⟩ := hs; exact z.elim

theorem okG {x qual : Str} {st : Stmt} {f : Addr} {fd : FuncData} {N ps : List Str} {k : Nat} {sp : Sp}
    (F : Fun K x qual st f fd) (S : FnScope N ps (defScope st))
    (len : ∀ vs H Q E, sp vs H Q E → vs.length = ps.length)
    (body : ∀ (cdv : Value) (A : Around) (outer : List Env) (s : Shared) (H : Hp) (vs : List V) (Q : VK) (E : XK),
      (A.deeper (envOfC qual (defScope st) s.heap.objs.size f cdv)).guards = some [] →
      Room k (A.deeper (envOfC qual (defScope st) s.heap.objs.size f cdv)) → sp vs H Q E →
      ∃ t, PSs (cxOf CX P w K mg base N qual (defScope st) f cdv A outer s H E).nox (defBody st) t ∧
        t { nx := fun _ H' => Q .non H', rt := Q } (start N vs) H) :
    FnG P w K mg base CX (k + 1) f fd ps sp := by
  refine okGX F S len ?_
  intro cdv A outer s H vs Q E hg hr hsp
  obtain ⟨t, h, q⟩ := body cdv A outer s H vs Q E hg hr hsp
  exact ⟨t, h.nox, q⟩
end

section
variable {X : Cx} {CX : CXT} {k : Nat} {f : Addr} {fd : FuncData} {ps : List Str} {sp : Sp}
  {dvs : List V} {ds : List Value} {E : XK} {x : Str} {p pos : Pos} {e : Expr} {es : List Expr} {t : TA}
theorem run_fnG {pins : List (Addr × Obj)} {σ : L2.St} {H : Hp} {s : Shared} {Q : VK} {us : List Value} {vs : List V}
    (F : FnG X.prog X.w X.K X.mg X.base CX k f fd ps sp) (g : X.A.guards = some []) (hr : Room k X.A)
    (hb : Binds X.K fd ps ds) (hd : Vals dvs ds) (hx : Passes CX X E) (I : Inv X pins σ H s) (r : Vals vs us)
    (h : sp (vs ++ dvs) H Q E) :
    wpAny (model X.prog X.w) X.A (call (.ref f) us) (EP X pins σ Q) X.xe s := by
  have r2 := r.append hd
  have hl : (us ++ ds).length = ps.length :=
    r2.length.symm.trans (F.len _ _ _ _ h)
  have z := F.run X.A X.stack s H ⟨us, []⟩ (us ++ ds)
    (vs ++ dvs) Q E g hr I.env0 (hb s us I.kIn hl) r2 h
  refine wpAny_call (codeAny_mono z ?_)
  intro r s' hq
  match r, hq with
  | .error e, hq => exact hx pins σ H s e s' I hq
  | .ok (.ret u), hq => exact I.after hq
  | .ok .next, hq => exact hq.elim
  | .ok .brk, hq => exact hq.elim
  | .ok .cont, hq => exact hq.elim

theorem pe_callG (F : FnG X.prog X.w X.K X.mg X.base CX k f fd ps sp) (g : X.A.guards = some []) (hr : Room k X.A)
    (hg : Gl X x) (hm : X.mg x = some (.ref f)) (hk : PySem.W.keepIn X.K (.ref f) = true)
    (hb : Binds X.K fd ps ds) (hd : Vals dvs ds) (hx : Passes CX X E) (ha : PA X (e :: es) t)
    (hdb : (x == ("__debug__" : Str)) = false := by decide)
    (he : starEach (e :: es) X.env = (false, eval e X.env) :: starEach es X.env := by rfl)
    (hpl : (backTo pos (starEach es X.env)).any (·.1) = false := by rfl) :
    PE X (.Call (.Name x p) (e :: es) [] pos) (tCall sp dvs E t) := by
  constructor
  intro pins s σ H Q I h
  refine wpAny_Call_Name_kw (ld_glob I hg hm ?_ hdb)
  have a1 := ha.run pos pins s σ H _ I h
  refine PySem.W.callWith_K (h₀ := X.base) I.ok.mod.kin hk
    (thn a1 ?_) he hpl
  rintro us s1 ⟨vs, H1, I1, r, q⟩
  exact ⟨I1.kIn, run_fnG F g hr hb hd hx I1 r q⟩
end


section
variable {P : Program} {w : World} {K : PySem.W.Frag}

def only1 (a : Addr) (o : Obj) (u : HO) : Hp := fun b => if b = a then some (.frz o u) else none
theorem only1_at {a : Addr} {o : Obj} {u : HO} : only1 a o u a = some (.frz o u) := if_pos rfl
theorem only1_ne {a b : Addr} {o : Obj} {u : HO} (h : b ≠ a) : only1 a o u b = none := if_neg h
theorem callG {mg mb : Str → Option Value} {CX : CXT} {k : Nat} {fa a : Addr} {fd : FuncData} {x : Str} {sp : Sp}
    {s : Shared} {vs : List Value} {ns : List Int}
    (KX : K.In s.heap) (h1 : s.heap.Ns mainGlobals mg) (h2 : s.heap.Ns builtinsNs mb)
    (h3 : ∀ x : Str, x ≠ "__name__" → mb x = bootBuiltins x) (h4 : s.heap.NoLimit) (h5 : s.gens = #[])
    (ha : s.heap.get? a = some { cls := .type "list", data := .seq vs.toArray }) (hi : IntsAre vs ns)
    (hl : ns.length ≤ sizeLine) (hr : Room k callerA)
    (F : ∀ base : Heap, K.In base → base.Ns mainGlobals mg → FnG P w K mg base CX k fa fd [x] sp)
    (hb : ∀ (s : Shared) (u : Value), BindsTo s fd ⟨[u], []⟩ [(x, u)])
    (hsp : ∀ H : Hp, Only H → SqL K H a (ns.map V.int) → sp [.ref a] H (fun v _ => v = .bl true) fun _ _ _ => False)
    (hCX : ∀ H e s', CX [] H s (fun _ _ _ => False) e s' → False) :
    codeAny (model P w) callerA (.call (.ref fa) ⟨[.ref a], []⟩)
      (fun r s' => r = .ok (.ret (.bool true)) ∧ OldK s.heap s'.heap ∧ s'.os = s.os ∧ AllBare s'.gens) s := by
  have rv := vals_ints hi
  have main : ∀ H : Hp, Only H → SqL K H a (ns.map V.int) → HOk P w H s.heap →
      (∀ b u, H b = some u → b = a ∧ K.lookup a = none) →
      codeAny (model P w) callerA (.call (.ref fa) ⟨[.ref a], []⟩)
        (fun r s' => r = .ok (.ret (.bool true)) ∧ OldK s.heap s'.heap ∧ s'.os = s.os ∧ AllBare s'.gens) s := by
    intro H hO hS hok hA
    have isL : ∀ {b : Addr} {o : Obj} {u : HO}, s.heap.get? b = some o → H b = some u →
        o = { cls := .type "list", data := .seq vs.toArray } := by
      intro b o u e q
      obtain rfl := (hA b u q).1
      exact Option.some.inj (e.symm.trans ha)
    have up : ∀ {b : Addr} {o : Obj} {es : Array DictEntry} {n : Nat}, s.heap.get? b = some o →
        o.data = .dict es n → (hidT s.heap H).get? b = some o := by
      intro b o es n e d
      refine hidT_get e ?_
      cases q : H b with
      | none => rfl
      | some u => rw [isL e q] at d; cases d
    have upN : ∀ {b : Addr} {m : Str → Option Value}, s.heap.Ns b m → (hidT s.heap H).Ns b m := by
      rintro b m ⟨o, es, n, e, d, r⟩
      exact ⟨o, es, n, up e d, d, r⟩
    have KH : K.In (hidT s.heap H) := by
      intro b o e
      refine hidT_get (KX b o e) ?_
      cases q : H b with
      | none => rfl
      | some u =>
        obtain ⟨rfl, z⟩ := hA b u q
        rw [z] at e; cases e
    have M : Mod K mg (hidT s.heap H) := by
      refine ⟨KH, upN h1, ⟨mb, upN h2, h3⟩, ?_⟩
      obtain ⟨mc, l1, l2⟩ := h4
      exact ⟨mc, upN l1, l2⟩
    have e0 : Env0 P w K mg (hidT s.heap H) callerA [] s H :=
      { frames := rfl, mod := M, bs := fun b o e => of_hidT e, bsz := Nat.le_of_eq (hidT_size _ _)
        funs := trivial, frf := fun b z => absurd z (List.not_mem_nil), hok := hok, bare := .of_eq h5 }
    have run := (F _ KH (upN h1)).run callerA [] s H ⟨[.ref a], []⟩ [.ref a] [.ref a] _ _
      rfl hr e0 (hb s (.ref a)) (.cons rfl .nil) (hsp H hO hS)
    refine codeAny_mono run ?_
    intro r s' h
    match r, h with
    | .error e, h => exact (hCX H e s' h).elim
    | .ok .next, h => exact h.elim
    | .ok .brk, h => exact h.elim
    | .ok .cont, h => exact h.elim
    | .ok (.ret u), h =>
      obtain ⟨v, H', os, bare, un, hok', r', q⟩ := h
      obtain rfl : v = .bl true := q
      obtain rfl : u = Value.bool true := r'
      refine ⟨rfl, OldK.of_keep ?_, os, bare⟩
      intro b o e
      cases q : H b with
      | none => exact un.keep b o e q (fun z => absurd z (List.not_mem_nil)) (List.not_mem_nil)
      | some u =>
        rcases hO b with z | ⟨ob, xs, z⟩
        · rw [q] at z; cases z
        · obtain ⟨g1, _⟩ := hok b _ z
          obtain ⟨g2, _⟩ := hok' b _ (un.frzs b ob _ z)
          rw [e] at g1; cases g1
          exact g2
  cases hk : K.lookup a with
  | some o =>
    obtain rfl := Option.some.inj ((KX a o hk).symm.trans ha)
    refine main (fun _ => none) (fun _ => Or.inl rfl) (Or.inr ?_) (fun b u z => ?_) fun b u z => ?_
    · exact ⟨_, vs.toArray, _, hk, rfl, rfl, rfl, by rw [List.size_toArray, hi.length]; exact hl, by simpa using rv⟩
    · cases (show (none : Option HO) = some u from z)
    · cases (show (none : Option HO) = some u from z)
  | none =>
    refine main (only1 a { cls := .type "list", data := .seq vs.toArray } (.lst (ns.map V.int))) (fun b => ?_)
      (Or.inl (Or.inr ⟨_, only1_at⟩)) (fun b u z => ?_) fun b u z => ?_
    · by_cases e : b = a
      · subst e; exact Or.inr ⟨_, _, only1_at⟩
      · exact Or.inl (only1_ne e)
    · by_cases e : b = a
      · subst e
        obtain rfl := Option.some.inj (only1_at.symm.trans z)
        exact ⟨ha, by rw [List.length_map]; exact hl, vs, _, rv, ha⟩
      · rw [only1_ne e] at z; cases z
    · by_cases e : b = a
      · exact ⟨e, hk⟩
      · rw [only1_ne e] at z; cases z
end

theorem walkG {l : PySem.W.OpenLaw} {n k : Nat} {q : Program} {loose : List Str}
    {XP : (Str → Option Value) → Heap → Prop} {YP : World → Heap → Prop} {d : DefRec} {K : Params → PySem.W.Frag}
    {CX : World → CXT} {sp : World → Sp} {x : Str} (hn : l.most = some n) (hn2 : n ≤ sizeLine)
    (hdf : d.params.defaults = []) (hr : Room k callerA) (hY : ∀ (w : World) (h : Heap), YP w h → (K w.params).In h)
    (F : ∀ (w : World) (mg : Str → Option Value) (fa : Addr) (h : Heap), (K w.params).In h → h.Ns mainGlobals mg →
      mg d.name = some (.ref fa) → ∃ fd : FuncData, (∀ (s : Shared) (u : Value), BindsTo s fd ⟨[u], []⟩ [(x, u)]) ∧
        ∀ base : Heap, (K w.params).In base → base.Ns mainGlobals mg →
          FnG l.prog w (K w.params) mg base (CX w) k fa fd [x] (sp w))
    (hsp : ∀ (w : World) (H : Hp) (a : Addr) (ns : List Int), ns.length ≤ n → Only H →
      SqL (K w.params) H a (ns.map V.int) → sp w [.ref a] H (fun v _ => v = .bl true) fun _ _ _ => False)
    (hCX : ∀ (w : World) (H : Hp) (s : Shared) (e : Value) (s' : Shared),
      CX w [] H s (fun _ _ _ => False) e s' → False) :
    PySem.W.WalkO q loose XP YP l.row.toRowW d [] (fun f vs => PySem.call f vs) := by
  refine Att.attach_call hn hdf ?_
  intro w s₀ s₁ mg mb fa o pm cd doc a vs ns G Y ho hd hcd hmg hobj hints hlen hg
  have KX := hY w _ Y
  obtain ⟨fd, hb, hF⟩ := F w mg fa _ KX G.T.g hmg
  exact callG KX G.T.g G.T.b G.T.builtins G.T.nolimit hg hobj hints
    (Nat.le_trans hlen hn2) hr hF hb (fun H hO hS => hsp w H a ns hlen hO hS) fun H e s' => hCX w H s₁ e s'
end My
set_option Elab.async false
set_option maxRecDepth 100000
set_option maxHeartbeats 4000000
namespace My
open PySem PySem.Spec PyProof.Rows L2


def flatD : V → Option PyData
  | .non => some .none
  | .bl b => some (.bool b)
  | .int i => some (.int i)
  | .str x => some (.str x)
  | _ => none
def keyD : Key → PyData
  | .inl i => .int i
  | .inr x => .str x
inductive FlatKv : List (Key × V) → List (PyData × PyData) → Prop
  | nil : FlatKv [] []
  | cons {k : Key} {v : V} {d : PyData} {r : List (Key × V)} {ds : List (PyData × PyData)} :
      flatD v = some d → FlatKv r ds → FlatKv ((k, v) :: r) ((keyD k, d) :: ds)
inductive Dx (K : PySem.W.Frag) (H : Hp) : V → PyData → Prop
  | of {v : V} {d : PyData} : Dp K H v d → Dx K H v d
  | dict {a : Addr} {kvs : List (Key × V)} {ds : List (PyData × PyData)} :
      H a = some (.dK kvs) → FlatKv kvs ds → Dx K H (.ref a) (.dict ds)

theorem same_seqT {K : PySem.W.Frag} {H H' : Hp} {a : Addr} {xs : List V} (s : Same H H') (h : SqT K H a xs) : SqT K H' a xs := by
  rcases h with (h | ⟨o, h⟩) | h
  · exact Or.inl (Or.inl (s _ _ h))
  · exact Or.inl (Or.inr ⟨o, s _ _ h⟩)
  · exact Or.inr h
mutual
theorem dp_same {K : PySem.W.Frag} {H H' : Hp} (s : Same H H') : ∀ (d : PyData) (v : V), Dp K H v d → Dp K H' v d
  | .none, _, h => by cases h; exact .non
  | .bool b, _, h => by cases h; exact .bl b
  | .int i, _, h => by cases h; exact .int i
  | .str x, _, h => by cases h; exact .str x
  | .list ds, _, h => by
    cases h with
    | lst hs ha => exact .lst (s.seq hs) (dpAll_same s ds _ ha)
  | .tuple ds, _, h => by
    cases h with
    | tup hs ha =>
      refine .tup ?_ (dpAll_same s ds _ ha)
      exact same_seqT s hs
  | .dict _, _, h => by cases h
theorem dpAll_same {K : PySem.W.Frag} {H H' : Hp} (s : Same H H') : ∀ (ds : List PyData) (vs : List V), DpAll K H vs ds → DpAll K H' vs ds
  | [], _, h => by cases h; exact .nil
  | d :: ds, _, h => by
    cases h with
    | cons h1 h2 => exact .cons (dp_same s d _ h1) (dpAll_same s ds _ h2)
end
theorem Dx.same {K : PySem.W.Frag} {H H' : Hp} {v : V} {d : PyData} (h : Dx K H v d) (s : Same H H') : Dx K H' v d := by
  cases h with
  | of h => exact .of (dp_same s _ _ h)
  | dict h f => exact .dict (s _ _ h) f

section
variable {X : Cx} {pins : List (Addr × Obj)} {σ : L2.St} {H : Hp} {s : Shared}
theorem flat_reads {h : Heap} {v : V} {d : PyData} {u : Value} (e : flatD v = some d) (r : RelV v u) : Reads h u d [] := by
  cases v with
  | non => cases e; cases r; exact .none
  | bl b => cases e; cases r; exact .bool b
  | int i => cases e; obtain ⟨t, rfl⟩ := r; exact .int i t
  | str x => cases e; obtain ⟨t, rfl⟩ := r; exact .str x t
  | byt b => cases e
  | flt b => cases e
  | ref a => cases e
  | ty n => cases e
theorem key_reads {h : Heap} {prog : Program} {w : World} {k : Key} {u : Value} (e : (mixKind prog w).is k u = true) : Reads h u (keyD k) [] := by
  rw [mixKind_is] at e
  rcases keyIs_shape e with ⟨i, t, rfl, rfl⟩ | ⟨x, t, rfl, rfl⟩
  · exact .int i t
  · exact .str x t
theorem readsAll_flat {h : Heap} {prog : Program} {w : World} : ∀ {es : List DictEntry} {vs : List (Key × Value)}
    {kvs : List (Key × V)} {ds : List (PyData × PyData)}, Pairs (mixKind prog w) es vs → KV kvs vs → FlatKv kvs ds →
    ReadsAll h (es.map (·.key)) (ds.map (·.1)) [] ∧ ReadsAll h (es.map (·.val)) (ds.map (·.2)) []
  | _, _, _, _, .nil, r, f => by
    cases r; cases f
    exact ⟨.nil, .nil⟩
  | _, _, _, _, .cons h1 h2 p, r, f => by
    cases r with
    | cons r1 r2 =>
      cases f with
      | cons f1 f2 =>
        obtain ⟨z1, z2⟩ := readsAll_flat (h := h) p r2 f2
        obtain ⟨e1, e2⟩ := r1
        rw [← e1] at h1
        rw [← h2] at e2
        exact ⟨.cons (as := []) (bs := []) (key_reads h1) z1, .cons (as := []) (bs := []) (flat_reads f1 e2) z2⟩
theorem dp_noDict {K : PySem.W.Frag} {H : Hp} : ∀ (d : PyData) (v : V), Dp K H v d → d.hasDict = false
  | .none, _, _ => by simp only [PyData.hasDict]
  | .bool _, _, _ => by simp only [PyData.hasDict]
  | .int _, _, _ => by simp only [PyData.hasDict]
  | .str _, _, _ => by simp only [PyData.hasDict]
  | .list ds, _, h => by
    cases h with
    | lst hs ha => simp only [PyData.hasDict]; exact all ds _ ha
  | .tuple ds, _, h => by
    cases h with
    | tup hs ha => simp only [PyData.hasDict]; exact all ds _ ha
  | .dict _, _, h => by cases h
where all {K : PySem.W.Frag} {H : Hp} : ∀ (ds : List PyData) (vs : List V), DpAll K H vs ds → PyData.hasDictAll ds = false
  | [], _, _ => by simp only [PyData.hasDictAll]
  | d :: ds, _, h => by
    cases h with
    | cons h1 h2 => simp only [PyData.hasDictAll, dp_noDict d _ h1, all ds _ h2, Bool.or_self]

def rRepr (K : PySem.W.Frag) : List V → Hp → VK → Prop := fun xs H Q => ∃ x d, xs = [x] ∧ Dx K H x d ∧
  d.showable = true ∧ d.depth ≤ 60 ∧ d.shown.length ≤ sizeLine ∧ Q (.str d.shown) H
theorem call_repr (g : X.A.guards = some []) (hu : X.A.units + 64 < cLine) : CallR X (.builtin "repr") (rRepr X.K) := by
  intro pins s σ H xs us Q I r h
  obtain ⟨x, d, rfl, hx, hs, hd, hz, q⟩ := h
  obtain ⟨u, rfl, ru⟩ := vals1 r
  have fin : ∀ h' t tk, (∀ b o, s.heap.get? b = some o → h'.get? b = some o) →
      EP X pins σ Q (.str d.shown t) { s with heap := h', toks := tk } :=
    fun h' t tk k => ⟨.str d.shown, H, I.kept k, ⟨t, rfl⟩, q⟩
  have ref : ∀ {a : Addr} {as : List Addr}, Reads s.heap (.ref a) d as → (d.hasDict = true → sysModules ∉ as) →
      wpAny (model X.prog X.w) X.A (call (.builtin "repr") [.ref a]) (EP X pins σ Q) X.xe s := by
    intro a as rd nm
    exact repr_of_reads' rd hs nm g (by omega) (fun _ _ e => e) fin hz
  cases hx with
  | of hp =>
    have nd := dp_noDict d x hp
    obtain ⟨as, rd⟩ := Dp.reads I d x u hp ru
    cases hp with
    | non => cases ru; exact PySem.P.repr_of_none (by simpa [PyData.shown] using fin s.heap s.toks (s.toks + 1) fun _ _ e => e)
    | bl b => cases ru; exact PySem.P.repr_of_bool (by simpa [PyData.shown] using fin s.heap s.toks (s.toks + 1) fun _ _ e => e)
    | int i =>
      obtain ⟨t, rfl⟩ := ru
      exact PySem.P.repr_of_int (by simpa [PyData.showable] using hs) (by simpa [PyData.shown] using fin s.heap s.toks (s.toks + 1) fun _ _ e => e)
    | str y =>
      obtain ⟨t, rfl⟩ := ru
      exact PySem.P.repr_of_str (by simpa [PyData.shown] using fin s.heap s.toks (s.toks + 1) fun _ _ e => e) (by simpa [PyData.shown] using hz)
    | lst h1 h2 => cases ru; exact ref rd fun z => by rw [nd] at z; cases z
    | tup h1 h2 => cases ru; exact ref rd fun z => by rw [nd] at z; cases z
  | @dict a kvs ds ha f =>
    cases ru
    obtain ⟨_, ne, vs, kv, o, es, ep, e1, e2, e3, _, p, _⟩ := I.hok a _ ha
    obtain ⟨z1, z2⟩ := readsAll_flat (h := s.heap) p kv f
    refine ref (Reads.dict e1 e2.1 e3 z1 z2) fun _ m => ?_
    have m2 : sysModules ∈ [a] := by simpa using m
    rw [List.mem_singleton] at m2
    subst m2
    simp at ne
end


def repS (x : Str) (n : Nat) : Str := ⟨(List.replicate n x.cps).foldl (· ++ ·) #[]⟩
theorem repS_one (x : Str) : repS x 1 = x := by
  unfold repS
  simp
theorem repFold : ∀ (n : Nat) (x a : Array Nat), ((List.replicate n x).foldl (· ++ ·) a).size = a.size + n * x.size
  | 0, x, a => by simp
  | n + 1, x, a => by
    rw [List.replicate_succ, List.foldl_cons, repFold n x (a ++ x), Array.size_append, Nat.succ_mul]
    omega
theorem repS_len (x : Str) (n : Nat) : (repS x n).length = n * x.length := by
  show ((List.replicate n x.cps).foldl (· ++ ·) #[]).size = n * x.cps.size
  rw [repFold]
  simp
theorem op_mul_str {X : Cx} : OpR X (binaryOp .Mult) (fun x y H Q => ∃ z n, x = .str z ∧ y = .int n ∧ 1 ≤ n ∧ n ≤ 1000 ∧
    0 < z.length ∧ z.length ≤ 1000 ∧ Q (.str (repS z n.toNat)) H) := by
  intro pins s σ H x y v u Q I rx ry h
  obtain ⟨z, n, rfl, rfl, h1, h2, h3, h4, q⟩ := h
  obtain ⟨t, rfl⟩ := rx
  obtain ⟨t', rfl⟩ := ry
  refine PySem.P.mul_str ?_ ?_ ?_ ?_
  · have a1 : ¬ n < -(2 ^ 63 : Int) := by omega
    have a2 : ¬ n ≥ 2 ^ 63 := by omega
    rw [decide_eq_false a1, decide_eq_false a2]; rfl
  · intro _ _ hgt
    have : (1000 : Int) ≤ (2 ^ 63 - 1) / n := (Int.le_ediv_iff_mul_le (by omega)).mpr (by
      have := Int.mul_le_mul_of_nonneg_left h2 (show (0 : Int) ≤ 1000 by decide)
      omega)
    omega
  · intro _ _
    unfold Builtin.Str.tooLong
    refine decide_eq_false ?_
    have a : z.length * n.toNat ≤ 1000 * 1000 := Nat.mul_le_mul h4 (by omega)
    have b : (1000 * 1000 : Nat) ≤ sizeLine := by decide
    omega
  · rw [if_neg (by omega)]
    by_cases e : n = 1
    · subst e
      rw [if_pos (by simp)]
      exact ⟨.str z, H, I, ⟨t, rfl⟩, by rw [← repS_one z]; exact q⟩
    · rw [if_neg (by simp; omega)]
      have sz : (repS z n.toNat).length ≤ sizeLine := by
        have a : (repS z n.toNat).length = n.toNat * z.length := repS_len z n.toNat
        have b : n.toNat * z.length ≤ 1000 * 1000 := Nat.mul_le_mul (by omega) h4
        have c : (1000 * 1000 : Nat) ≤ sizeLine := by decide
        omega
      exact ⟨sz, .str (repS z n.toNat), H, I.tok _, ⟨_, rfl⟩, q⟩
end My
set_option Elab.async false
set_option maxRecDepth 100000
set_option maxHeartbeats 4000000
namespace My
open PySem PySem.Spec PyProof.Rows L2

def Fn (P : Program) (w : World) (K : PySem.W.Frag) (mg : Str → Option Value) (base : Heap) (k : Nat) (x : Str) (ps : List Str) (sp : Sp) : Prop :=
  ∃ f fd, mg x = some (.ref f) ∧ FnOk P w K mg base CX0 k f fd ps sp ∧ PySem.W.keepIn K (.ref f) = true ∧ Binds K fd ps []
def FnGr (P : Program) (w : World) (K : PySem.W.Frag) (mg : Str → Option Value) (base : Heap) (k : Nat) (x : Str) (ps : List Str) (sp : Sp) : Prop :=
  ∃ f fd, mg x = some (.ref f) ∧ FnG P w K mg base CX0 k f fd ps sp ∧ PySem.W.keepIn K (.ref f) = true ∧ Binds K fd ps []
section
variable {X : Cx} {k : Nat} {ps : List Str} {sp : Sp} {x : Str} {p pos : Pos} {e : Expr} {es : List Expr} {t : TA}
theorem pe_fn (D : Fn X.prog X.w X.K X.mg X.base k x ps sp) (hr : Room k X.A) (hg : Gl X x) (ha : PA X (e :: es) t)
    (hdb : (x == ("__debug__" : Str)) = false := by decide)
    (he : starEach (e :: es) X.env = (false, eval e X.env) :: starEach es X.env := by rfl)
    (hpl : (backTo pos (starEach es X.env)).any (·.1) = false := by rfl) :
    PE X (.Call (.Name x p) (e :: es) [] pos) (tCall sp [] E0 t) := by
  obtain ⟨f, fd, hm, F, kp, b⟩ := D
  exact pe_call F hr hg hm kp b .nil pass0 ha hdb he hpl
theorem pe_fnG (D : FnGr X.prog X.w X.K X.mg X.base k x ps sp) (g : X.A.guards = some []) (hr : Room k X.A) (hg : Gl X x) (ha : PA X (e :: es) t)
    (hdb : (x == ("__debug__" : Str)) = false := by decide)
    (he : starEach (e :: es) X.env = (false, eval e X.env) :: starEach es X.env := by rfl)
    (hpl : (backTo pos (starEach es X.env)).any (·.1) = false := by rfl) :
    PE X (.Call (.Name x p) (e :: es) [] pos) (tCall sp [] E0 t) := by
  obtain ⟨f, fd, hm, F, kp, b⟩ := D
  exact pe_callG F g hr hg hm kp b .nil pass0 ha hdb he hpl
end

def Bag (H : Hp) (a : Addr) (n : Nat) : Prop := ∃ x y z : Int, H a = some (.lst [.int x, .int y, .int z]) ∧ 0 ≤ y ∧ y < 2305843009213693951 ∧ 0 ≤ z ∧ z ≤ n

def But (a : Addr) (H H' : Hp) : Prop := ∀ b, b ≠ a → H' b = H b
theorem But.refl (a : Addr) (H : Hp) : But a H H := fun _ _ => rfl
theorem But.upd {a : Addr} {H : Hp} {o : HO} : But a H (upd H a o) := fun _ h => upd_ne h
theorem But.trans {a : Addr} {H H1 H2 : Hp} (x : But a H H1) (y : But a H1 H2) : But a H H2 := fun b h => (y b h).trans (x b h)
def spBag (K : PySem.W.Frag) : Sp := fun vs H Q _ => ∃ (p : Addr) (ns : List Int) (i : Nat), vs = [.ref p, .int (i : Int)] ∧ SqL K H p (ns.map V.int) ∧ i < 64 ∧
  ∀ (a : Addr) (o : HO), H a = none → Bag (upd H a o) a 0 → Q (.ref a) (upd H a o)
def spTake : Sp := fun vs H Q _ => ∃ (a : Addr) (m : Int) (n : Nat), vs = [.ref a, .int m] ∧ Bag H a n ∧ n < 1000000 ∧ 0 < m ∧ m < 1073741824 ∧
  ∀ (i : Int) (H' : Hp), 0 ≤ i → i < m → But a H H' → Bag H' a (n + 1) → Q (.int i) H'
end My
set_option Elab.async false
set_option maxRecDepth 100000
set_option maxHeartbeats 4000000
namespace My
open PySem PySem.Spec PyProof.Rows L2

theorem same_new {H : Hp} {p : Addr} {o : HO} (h : H p = none) : Same H (upd H p o) := fun _ _ e => (upd_ne (ne_of_none e h)).trans e
theorem new_same {H H1 : Hp} {p : Addr} {o : HO} (e : upd H p o = H1) (h : H p = none) : Same H H1 := e ▸ same_new h
theorem new_at {H H1 : Hp} {p : Addr} {o : HO} (e : upd H p o = H1) : H1 p = some o := e ▸ upd_same
theorem new_ne {H H1 : Hp} {p b : Addr} {o : HO} (e : upd H p o = H1) (n : b ≠ p) : H1 b = H b := e ▸ upd_ne n

def Ext (a : Addr) (H H' : Hp) : Prop := ∀ b o, b ≠ a → H b = some o → H' b = some o
theorem Ext.of {a : Addr} {H H' : Hp} (s : Same H H') : Ext a H H' := fun b o _ e => s b o e
theorem Ext.but {a : Addr} {H H' : Hp} (s : But a H H') : Ext a H H' := fun b o n e => (s b n).trans e
theorem Ext.trans {a : Addr} {H H1 H2 : Hp} (x : Ext a H H1) (y : Ext a H1 H2) : Ext a H H2 := fun b o n e => y b o n (x b o n e)

def del (a : Addr) (H : Hp) : Hp := fun b => if b = a then none else H b
theorem del_but {a : Addr} {H H' : Hp} (h : But a H H') : del a H' = del a H := by
  funext b
  unfold del
  by_cases e : b = a
  · rw [if_pos e, if_pos e]
  · rw [if_neg e, if_neg e, h b e]
theorem del_same {a : Addr} {H H' : Hp} (h : Same H H') : Same (del a H) (del a H') := by
  intro b o e
  unfold del at e ⊢
  by_cases q : b = a
  · rw [if_pos q] at e; cases e
  · rw [if_neg q] at e ⊢; exact h b o e
theorem del_ext {a : Addr} {H H' : Hp} (h : Ext a H H') : Same (del a H) (del a H') := by
  intro b o e
  unfold del at e ⊢
  by_cases q : b = a
  · rw [if_pos q] at e; cases e
  · rw [if_neg q] at e ⊢; exact h b o q e
theorem del_sub {a : Addr} {H : Hp} : Same (del a H) H := by
  intro b o e
  unfold del at e
  by_cases q : b = a
  · rw [if_pos q] at e; cases e
  · rw [if_neg q] at e; exact e
theorem del_at {a b : Addr} {H : Hp} (h : b ≠ a) : del a H b = H b := if_neg h
theorem del_none {a b : Addr} {H : Hp} (h : H b = none) : del a H b = none := by
  unfold del
  by_cases q : b = a
  · rw [if_pos q]
  · rw [if_neg q, h]
theorem Bag.ne {H : Hp} {a b : Addr} {n : Nat} (h : Bag H a n) (e : H b = none) : b ≠ a := by
  rintro rfl
  obtain ⟨x, y, z, h, _⟩ := h
  rw [h] at e; cases e
theorem Bag.same {H H' : Hp} {a : Addr} {n : Nat} (h : Bag H a n) (s : Same H H') : Bag H' a n := by
  obtain ⟨x, y, z, h, r⟩ := h
  exact ⟨x, y, z, s _ _ h, r⟩
theorem Bag.mono {H : Hp} {a : Addr} {n m : Nat} (h : Bag H a n) (l : n ≤ m) : Bag H a m := by
  obtain ⟨x, y, z, h, r1, r2, r3, r4⟩ := h
  exact ⟨x, y, z, h, r1, r2, r3, by omega⟩

theorem at_all {xs : List V} {i : Int} {Pr : V → Prop} (h0 : 0 ≤ i) (h1 : i < xs.length) (h : ∀ v, v ∈ xs → Pr v) : ∃ v, atI xs i = some v ∧ Pr v := by
  have hlt : i.toNat < xs.length := by omega
  refine ⟨xs[i.toNat], ?_, h _ (List.getElem_mem hlt)⟩
  unfold atI ixN
  rw [if_pos h0, if_pos h1]
  simp [hlt]

theorem lc_text {x : Str} {g : TG} {tt : TT} {te : TE} {vs : List Nat} {σ : L2.St} {H1 : Hp} {D : Addr} {Qd : Hp → Prop}
    (Pv : Nat → Hp → Prop) (h0 : Pv 0 (upd H1 D (.lst [])))
    (hs : ∀ i c H, x.cps[i]? = some c → Pv i H → g (.str ⟨#[c]⟩) (wipe σ vs) H fun σ2 H2 =>
      wipe σ2 vs = wipe σ vs ∧ tt σ2 H2 fun b H3 => if b = true then te σ2 H3 fun y H4 =>
        ∃ acc, H4 D = some (.lst acc) ∧ acc.length < sizeLine ∧ Pv (i + 1) (upd H4 D (.lst (acc ++ [y])))
      else Pv (i + 1) H3)
    (hd : ∀ H, Pv x.cps.size H → Qd H) :
    ∃ W : Nat → Nat → Hp → Prop, (∃ m, W 0 m (upd H1 D (.lst []))) ∧ ∀ i m H, W i m H →
      ((Its x).stop i H ∧ Qd H) ∨ ((Its x).go i H ∧ ∃ Nx : Hp → Prop, (∀ H', Nx H' → ∃ m', m' < m ∧ W (i + 1) m' H') ∧
        ∀ v H', (Its x).yld i H v H' → g v (wipe σ vs) H' fun σ2 H2 => wipe σ2 vs = wipe σ vs ∧ tt σ2 H2 fun b H3 =>
          if b = true then te σ2 H3 fun y H4 => ∃ acc, H4 D = some (.lst acc) ∧ acc.length < sizeLine ∧
            Nx (upd H4 D (.lst (acc ++ [y]))) else Nx H3) := by
  refine ⟨fun i m H => i ≤ x.cps.size ∧ m + i = x.cps.size ∧ Pv i H, ⟨x.cps.size, Nat.zero_le _, rfl, h0⟩, ?_⟩
  rintro i m H ⟨hi, hm, p⟩
  by_cases l : i < x.cps.size
  · right
    refine ⟨l, Pv (i + 1), fun H' z => ⟨m - 1, by omega, by omega, by omega, z⟩, ?_⟩
    rintro v H' ⟨rfl, c, hc, rfl⟩
    exact hs i c H' hc p
  · left
    obtain rfl : i = x.cps.size := by omega
    exact ⟨Nat.le_refl _, hd H p⟩

def tyD : PyData → String
  | .none => "NoneType"
  | .bool _ => "bool"
  | .int _ => "int"
  | .str _ => "str"
  | .list _ => "list"
  | .tuple _ => "tuple"
  | .dict _ => "dict"
theorem ty_of {K : PySem.W.Frag} {H : Hp} {v : V} {d : PyData} (h : Dx K H v d) : TyX K H v (.type (tyD d)) := by
  cases h with
  | of h =>
    cases h with
    | non => exact .base .non
    | bl b => exact .base (.bl b)
    | int i => exact .base (.int i)
    | str x => exact .base (.str x)
    | lst hs _ =>
      rcases hs with (h | ⟨o, h⟩) | ⟨o, its, n, h, c, _⟩
      · exact .base (.lst h)
      · exact .base (.frz h)
      · exact .kList h c
    | tup hs _ =>
      rcases hs with (h | ⟨o, h⟩) | ⟨o, its, n, h, c, _⟩
      · exact .base (.tup h)
      · exact .fTuple h
      · exact .kTuple h c
  | dict h f => exact .base (.dK h)
def isD (T : String) (d : PyData) : Bool := (kitB (tyD d) T).getD false
theorem kit_all : ∀ S ∈ ["NoneType", "bool", "int", "str", "list", "tuple", "dict"], ∀ T ∈ ["int", "bool", "str", "tuple", "list", "dict"],
    (kitB S T).isSome = true := by decide +kernel
theorem isD_some {T : String} {d : PyData} (h : T = "int" ∨ T = "bool" ∨ T = "str" ∨ T = "tuple" ∨ T = "list" ∨ T = "dict") : kitB (tyD d) T = some (isD T d) := by
  have e : (kitB (tyD d) T).isSome = true := by
    refine kit_all (tyD d) ?_ T ?_
    · cases d <;> simp [tyD]
    · simpa using h
  unfold isD
  cases q : kitB (tyD d) T with
  | none => rw [q] at e; cases e
  | some b => rfl
theorem isi_of {K : PySem.W.Frag} {H : Hp} {v : V} {d : PyData} {T : String} {Q : VK} (h : Dx K H v d)
    (hT : T = "int" ∨ T = "bool" ∨ T = "str" ∨ T = "tuple" ∨ T = "list" ∨ T = "dict") (q : Q (.bl (isD T d)) H) : rIsi K [v, .ty T] H Q :=
  ⟨v, .ty T, _, _, _, rfl, .ty T, ty_of h, kit_ty (isD_some hT), q⟩
def isS (S T : String) : Bool := (kitB S T).getD false
theorem isD_int (d : PyData) : isD "int" d = (match d with | .int _ => true | .bool _ => true | _ => false) := by
  cases d with
  | none => exact (by decide +kernel : isS "NoneType" "int" = false)
  | bool b => exact (by decide +kernel : isS "bool" "int" = true)
  | int i => exact (by decide +kernel : isS "int" "int" = true)
  | str x => exact (by decide +kernel : isS "str" "int" = false)
  | list xs => exact (by decide +kernel : isS "list" "int" = false)
  | tuple xs => exact (by decide +kernel : isS "tuple" "int" = false)
  | dict kvs => exact (by decide +kernel : isS "dict" "int" = false)
theorem isD_bool (d : PyData) : isD "bool" d = (match d with | .bool _ => true | _ => false) := by
  cases d with
  | none => exact (by decide +kernel : isS "NoneType" "bool" = false)
  | bool b => exact (by decide +kernel : isS "bool" "bool" = true)
  | int i => exact (by decide +kernel : isS "int" "bool" = false)
  | str x => exact (by decide +kernel : isS "str" "bool" = false)
  | list xs => exact (by decide +kernel : isS "list" "bool" = false)
  | tuple xs => exact (by decide +kernel : isS "tuple" "bool" = false)
  | dict kvs => exact (by decide +kernel : isS "dict" "bool" = false)
theorem isD_str (d : PyData) : isD "str" d = (match d with | .str _ => true | _ => false) := by
  cases d with
  | none => exact (by decide +kernel : isS "NoneType" "str" = false)
  | bool b => exact (by decide +kernel : isS "bool" "str" = false)
  | int i => exact (by decide +kernel : isS "int" "str" = false)
  | str x => exact (by decide +kernel : isS "str" "str" = true)
  | list xs => exact (by decide +kernel : isS "list" "str" = false)
  | tuple xs => exact (by decide +kernel : isS "tuple" "str" = false)
  | dict kvs => exact (by decide +kernel : isS "dict" "str" = false)
theorem isD_tuple (d : PyData) : isD "tuple" d = (match d with | .tuple _ => true | _ => false) := by
  cases d with
  | none => exact (by decide +kernel : isS "NoneType" "tuple" = false)
  | bool b => exact (by decide +kernel : isS "bool" "tuple" = false)
  | int i => exact (by decide +kernel : isS "int" "tuple" = false)
  | str x => exact (by decide +kernel : isS "str" "tuple" = false)
  | list xs => exact (by decide +kernel : isS "list" "tuple" = false)
  | tuple xs => exact (by decide +kernel : isS "tuple" "tuple" = true)
  | dict kvs => exact (by decide +kernel : isS "dict" "tuple" = false)
theorem isD_list (d : PyData) : isD "list" d = (match d with | .list _ => true | _ => false) := by
  cases d with
  | none => exact (by decide +kernel : isS "NoneType" "list" = false)
  | bool b => exact (by decide +kernel : isS "bool" "list" = false)
  | int i => exact (by decide +kernel : isS "int" "list" = false)
  | str x => exact (by decide +kernel : isS "str" "list" = false)
  | list xs => exact (by decide +kernel : isS "list" "list" = true)
  | tuple xs => exact (by decide +kernel : isS "tuple" "list" = false)
  | dict kvs => exact (by decide +kernel : isS "dict" "list" = false)
end My
set_option Elab.async false
set_option maxRecDepth 100000
set_option maxHeartbeats 4000000
namespace My
open PySem PySem.Spec PyProof.Rows L2

section
variable {X : Cx} {pins : List (Addr × Obj)} {σ : L2.St} {H : Hp} {s : Shared}
theorem fr_of (I : Inv X pins σ H s) : ∃ m, Fr X.base X.env.locals s.heap m := by
  obtain ⟨m, n, _⟩ := I.loc
  exact ⟨m, n, fun b o e => (I.bs b o e).1, Nat.le_trans I.ok.bsz I.ok.above⟩
theorem inst_of {a C dx : Addr} {fs : List (Str × V)} (I : Inv X pins σ H s) (e : H a = some (.ins C dx fs)) :
    ∃ ox od, PySem.W.InstAt s.heap a ox C (some od) := by
  obtain ⟨mA, O, _⟩ := ins_get I.hok e
  obtain ⟨od, J, _⟩ := O.look
  exact ⟨_, od, J⟩
theorem cmp_back {Q : VK} {u : Value} {s' : Shared} (h : EP X pins σ Q u s') : PySem.W.CmpBack (EP X pins σ Q) u s' := by
  obtain ⟨v, H', I', r, q⟩ := h
  cases u with
  | notImplemented =>
    cases v with
    | int i => obtain ⟨t, z⟩ := r; cases z
    | str x => obtain ⟨t, z⟩ := r; cases z
    | byt x => obtain ⟨t, z⟩ := r; cases z
    | flt x => obtain ⟨t, z⟩ := r; cases z
    | non => cases r
    | bl b => cases r
    | ref a => cases r
    | ty n => cases r
  | _ => exact ⟨v, H', I', r, q⟩

structure OwnOp (X : Cx) (C : Addr) (name : Str) (k : Nat) (ps : List Str) (sp : Sp) : Prop where
  ex : ∃ f fd, PySem.W.findIn X.K (.ref C) name = some (some (.ref f)) ∧ PySem.W.isFn X.K (.ref f) = true ∧
    FnOk X.prog X.w X.K X.mg X.base CX0 k f fd ps sp ∧ Binds X.K fd ps []
def rBin (C : Addr) (sp : Sp) : R2 := fun x y H Q => ∃ a b dx fs dy gs, x = .ref a ∧ y = .ref b ∧ H a = some (.ins C dx fs) ∧
  H b = some (.ins C dy gs) ∧ sp [x, y] H Q E0
theorem op_own2 {op : Operator} {C : Addr} {k : Nat} {ps : List Str} {sp : Sp} (O : OwnOp X C (PySem.dunder op.info.2) k ps sp)
    (hr : Room k X.A) (hc : PySem.W.selfFirst X.K C = true) : OpR X (binaryOp op) (rBin C sp) := by
  intro pins s σ H x y v u Q I rx ry h
  obtain ⟨a, b, dx, fs, dy, gs, rfl, rfl, ha, hb, q⟩ := h
  cases rx; cases ry
  obtain ⟨f, fd, hs, hf, F, bd⟩ := O.ex
  obtain ⟨m, Fr⟩ := fr_of I
  obtain ⟨ox, od, J⟩ := inst_of I ha
  obtain ⟨oy, oe, J2⟩ := inst_of I hb
  refine PySem.W.binop_K Fr I.ok.mod.kin J J2.type hc hs hf ?_
  refine thn (run_fn (us := [.ref a, .ref b]) (vs := [.ref a, .ref b]) F hr bd .nil pass0 I (.cons rfl (.cons rfl .nil)) q) ?_
  intro u s' z
  exact cmp_back z
def rIn1 (C : Addr) (sp : Sp) (neg : Bool) : R2 := fun x y H Q => ∃ b dy gs, y = .ref b ∧ H b = some (.ins C dy gs) ∧
  sp [y, x] H (fun v H' => ∃ c, v = .bl c ∧ Q (.bl (if neg = true then !c else c)) H') E0
theorem truthy_bool {M : Model} {A : Around} {E : Value → Shared → Prop} {s : Shared} {b : Bool} {Q : Bool → Shared → Prop} (h : Q b s) :
    wpAny M A (truthy (.bool b)) Q E s := by
  unfold truthy
  exact wpAny_pure h
theorem op_ownIn {C : Addr} {k : Nat} {ps : List Str} {sp : Sp} (O : OwnOp X C "__contains__" k ps sp) (hr : Room k X.A) :
    OpR X (compareOp .In) (rIn1 C sp false) := by
  intro pins s σ H x y v u Q I rx ry h
  obtain ⟨b, dy, gs, rfl, hb, q⟩ := h
  cases ry
  obtain ⟨f, fd, hs, hf, F, bd⟩ := O.ex
  obtain ⟨m, Fr⟩ := fr_of I
  obtain ⟨ox, od, J⟩ := inst_of I hb
  refine PySem.W.in_K Fr I.ok.mod.kin J hs hf ?_
  refine thn (run_fn (us := [.ref b, v]) (vs := [.ref b, x]) F hr bd .nil pass0 I (.cons rfl (.cons rx .nil)) q) ?_
  rintro u s' ⟨_, H', I', r, c, rfl, z⟩
  cases r
  exact truthy_bool ⟨.bl c, H', I', rfl, z⟩
theorem op_ownNotIn {C : Addr} {k : Nat} {ps : List Str} {sp : Sp} (O : OwnOp X C "__contains__" k ps sp) (hr : Room k X.A) :
    OpR X (compareOp .NotIn) (rIn1 C sp true) := by
  intro pins s σ H x y v u Q I rx ry h
  obtain ⟨b, dy, gs, rfl, hb, q⟩ := h
  cases ry
  obtain ⟨f, fd, hs, hf, F, bd⟩ := O.ex
  obtain ⟨m, Fr⟩ := fr_of I
  obtain ⟨ox, od, J⟩ := inst_of I hb
  refine PySem.W.notIn_K Fr I.ok.mod.kin J hs hf ?_
  refine thn (run_fn (us := [.ref b, v]) (vs := [.ref b, x]) F hr bd .nil pass0 I (.cons rfl (.cons rx .nil)) q) ?_
  rintro u s' ⟨_, H', I', r, c, rfl, z⟩
  cases r
  exact truthy_bool ⟨.bl (!c), H', I', rfl, z⟩

theorem run_in1 {k : Nat} {f : Addr} {fd : FuncData} {ps : List Str} {sp : Sp} {Q : VK} {us : List Value} {vs : List V}
    (F : FnOk X.prog X.w X.K X.mg X.base CX0 k f fd ps sp) (hr : Room (k + 1) X.A) (hb : Binds X.K fd ps []) (I : Inv X pins σ H s)
    (r : Vals vs us) (h : sp vs H Q E0) {E : Value → Shared → Prop} :
    wpAny (model X.prog X.w) X.A.in1 (call (.ref f) us) (EP X pins σ Q) E s := by
  have hl : us.length = ps.length := r.length.symm.trans (F.len _ _ _ _ h)
  have b0 : BindsTo s fd ⟨us, []⟩ (ps.zip us) := by
    have := hb s us I.kIn (by simpa using hl)
    simpa using this
  have z := F.run X.A.in1 X.stack s H ⟨us, []⟩ us vs Q E0 hr.in1 I.env0.in1 b0 r h
  refine wpAny_call (codeAny_mono z ?_)
  intro r s' hq
  match r, hq with
  | .error e, hq => exact hq.elim
  | .ok (.ret u), hq => exact I.after hq
  | .ok .next, hq => exact hq.elim
  | .ok .brk, hq => exact hq.elim
  | .ok .cont, hq => exact hq.elim
def rLen1 (C : Addr) (sp : Sp) : List V → Hp → VK → Prop := fun vs H Q => ∃ b dy gs, vs = [.ref b] ∧ H b = some (.ins C dy gs) ∧
  sp [.ref b] H (fun v H' => ∃ n : Int, v = .int n ∧ 0 ≤ n ∧ n < 2 ^ 63 ∧ Q (.int n) H') E0
theorem call_ownLen {C : Addr} {k : Nat} {ps : List Str} {sp : Sp} (O : OwnOp X C "__len__" k ps sp) (hr : Room (k + 1) X.A) :
    CallR X (.builtin "len") (rLen1 C sp) := by
  intro pins s σ H vs us Q I r h
  obtain ⟨b, dy, gs, rfl, hb, q⟩ := h
  obtain ⟨u, rfl, ru⟩ := vals1 r
  cases ru
  obtain ⟨f, fd, hs, hf, F, bd⟩ := O.ex
  obtain ⟨m, Fr⟩ := fr_of I
  obtain ⟨ox, od, J⟩ := inst_of I hb
  refine PySem.W.len_K Fr I.ok.mod.kin J hs hf ?_
  refine thn (run_in1 (us := [.ref b]) (vs := [.ref b]) F hr bd I (.cons rfl .nil) q) ?_
  rintro u s' ⟨_, H', I', r, n, rfl, n0, n1, z⟩
  obtain ⟨t, rfl⟩ := r
  exact ⟨⟨n0, n1⟩, .int n, H', I'.tok _, ⟨_, rfl⟩, z⟩
end
end My
set_option Elab.async false
set_option maxRecDepth 100000
set_option maxHeartbeats 4000000
namespace My
open PySem PySem.Spec PyProof.Rows L2

theorem lock_same {H H' : Hp} {d : Addr} {od : Obj} {u : HO} (s : Same (upd H d (.frz od u)) H') (e : H d = some u) : Same H (upd H' d u) := by
  intro b o q
  by_cases hb : b = d
  · subst hb
    rw [e] at q
    cases q
    exact upd_same
  · rw [upd_ne hb]
    exact s b o ((upd_ne hb).trans q)
theorem for_items {d : Addr} {od : Obj} {kvs : List (Key × V)} {g : TG} {tb : TS} {D : Ends} {σ : L2.St} {H : Hp} (Pv : Nat → L2.St → Hp → Prop)
    (h0 : Pv 0 σ H) (hl : ∀ i σ H, i ≤ kvs.length → Pv i σ H → H d = some (.frz od (.dK kvs)))
    (hs : ∀ i k v T σ H, kvs[i]? = some (k, v) → Pv i σ H → H T = none → g (.ref T) σ (upd H T (.tup [kV k, v])) fun σ2 H2 =>
      tb { D with nx := Pv (i + 1), ct := Pv (i + 1), bk := D.nx } σ2 H2)
    (hd : ∀ σ H, Pv kvs.length σ H → D.nx σ H) :
    ∃ W : Nat → Nat → L2.St → Hp → Prop, (∃ m, W 0 m σ H) ∧ ∀ i m σ H, W i m σ H → ((Iti d od kvs).stop i H ∧ D.nx σ H) ∨
      ((Iti d od kvs).go i H ∧ ∃ N : L2.St → Hp → Prop, (∀ σ' H', N σ' H' → ∃ m', m' < m ∧ W (i + 1) m' σ' H') ∧
        ∀ x H', (Iti d od kvs).yld i H x H' → g x σ H' fun σ2 H2 => tb { D with nx := N, ct := N, bk := D.nx } σ2 H2) := by
  refine ⟨fun i m σ H => i ≤ kvs.length ∧ m + i = kvs.length ∧ Pv i σ H, ⟨kvs.length, Nat.zero_le _, rfl, h0⟩, ?_⟩
  rintro i m σ H ⟨hi, hm, p⟩
  have q := hl i σ H hi p
  by_cases l : i < kvs.length
  · right
    refine ⟨⟨q, l⟩, Pv (i + 1), fun σ' H' z => ⟨m - 1, by omega, by omega, by omega, z⟩, ?_⟩
    rintro x H' ⟨T, k, v, e, rfl, hT, rfl⟩
    exact hs i k v T σ H e p hT
  · left
    obtain rfl : i = kvs.length := by omega
    exact ⟨⟨q, Nat.le_refl _⟩, hd σ H p⟩
theorem dc_items {d : Addr} {od : Obj} {kvs : List (Key × V)} {g : TG} {tt : TT} {tk tv : TE} {vs : List Nat} {σ : L2.St} {H1 : Hp} {D : Addr} {Qd : Hp → Prop}
    (Pv : Nat → Hp → Prop) (h0 : Pv 0 (upd H1 D (.dK []))) (hl : ∀ i H, i ≤ kvs.length → Pv i H → H d = some (.frz od (.dK kvs)))
    (hs : ∀ i k v T H, kvs[i]? = some (k, v) → Pv i H → H T = none → g (.ref T) (wipe σ vs) (upd H T (.tup [kV k, v])) fun σ2 H2 =>
      wipe σ2 vs = wipe σ vs ∧ tt σ2 H2 fun b H3 => if b = true then tk σ2 H3 fun y H4 => tv σ2 H4 fun z H5 => ∃ kvs k, y = kV k ∧
        H5 D = some (.dK kvs) ∧ kvs.length < sizeLine ∧ Pv (i + 1) (upd H5 D (.dK (putK kvs k z))) else Pv (i + 1) H3)
    (hd : ∀ H, Pv kvs.length H → Qd H) :
    ∃ W : Nat → Nat → Hp → Prop, (∃ m, W 0 m (upd H1 D (.dK []))) ∧ ∀ i m H, W i m H → ((Iti d od kvs).stop i H ∧ Qd H) ∨
      ((Iti d od kvs).go i H ∧ ∃ Nx : Hp → Prop, (∀ H', Nx H' → ∃ m', m' < m ∧ W (i + 1) m' H') ∧
        ∀ x H', (Iti d od kvs).yld i H x H' → g x (wipe σ vs) H' fun σ2 H2 => wipe σ2 vs = wipe σ vs ∧ tt σ2 H2 fun b H3 =>
          if b = true then tk σ2 H3 fun y H4 => tv σ2 H4 fun z H5 => ∃ kvs k, y = kV k ∧ H5 D = some (.dK kvs) ∧ kvs.length < sizeLine ∧
            Nx (upd H5 D (.dK (putK kvs k z))) else Nx H3) := by
  refine ⟨fun i m H => i ≤ kvs.length ∧ m + i = kvs.length ∧ Pv i H, ⟨kvs.length, Nat.zero_le _, rfl, h0⟩, ?_⟩
  rintro i m H ⟨hi, hm, p⟩
  have q := hl i H hi p
  by_cases l : i < kvs.length
  · right
    refine ⟨⟨q, l⟩, Pv (i + 1), fun H' z => ⟨m - 1, by omega, by omega, by omega, z⟩, ?_⟩
    rintro x H' ⟨T, k, v, e, rfl, hT, rfl⟩
    exact hs i k v T H e p hT
  · left
    obtain rfl : i = kvs.length := by omega
    exact ⟨⟨q, Nat.le_refl _⟩, hd H p⟩

def ents (es : List (Int × Str)) : List (Key × V) := es.map fun p => (Sum.inl p.1, V.str p.2)
def keys (es : List (Int × Str)) : List Int := es.map (·.1)
theorem ents_len (es : List (Int × Str)) : (ents es).length = es.length := List.length_map _
theorem ents_app (xs ys : List (Int × Str)) : ents (xs ++ ys) = ents xs ++ ents ys := List.map_append
theorem ents_at {es : List (Int × Str)} {i : Nat} {k : Key} {v : V} (h : (ents es)[i]? = some (k, v)) : ∃ n x, es[i]? = some (n, x) ∧ k = .inl n ∧ v = .str x := by
  unfold ents at h
  rw [List.getElem?_map] at h
  cases e : es[i]? with
  | none => rw [e] at h; cases h
  | some p =>
    rw [e] at h
    cases h
    exact ⟨p.1, p.2, rfl, rfl, rfl⟩
def look (es : List (Int × Str)) (k : Int) : Option Str := (es.find? fun p => decide (p.1 = k)).map (·.2)
theorem look_nil (k : Int) : look [] k = none := rfl
theorem look_cons (p : Int × Str) (es : List (Int × Str)) (k : Int) : look (p :: es) k = if p.1 = k then some p.2 else look es k := by
  unfold look
  rw [List.find?_cons]
  by_cases e : p.1 = k
  · rw [if_pos e, decide_eq_true e]; rfl
  · rw [if_neg e, decide_eq_false e]
theorem valV_ents (k : Int) : ∀ es : List (Int × Str), valV (ents es) (.inl k) = (look es k).map V.str
  | [] => rfl
  | p :: es => by
    rw [look_cons]
    show valV ((Sum.inl p.1, V.str p.2) :: ents es) (.inl k) = _
    by_cases e : p.1 = k
    · rw [valV_pos (show (Sum.inl p.1 : Key) = .inl k by rw [e]), if_pos e]; rfl
    · rw [valV_neg (show ¬ (Sum.inl p.1 : Key) = .inl k from fun z => e (Sum.inl.inj z)), if_neg e, valV_ents k es]
theorem look_none {es : List (Int × Str)} {k : Int} : look es k = none ↔ k ∉ keys es := by
  induction es with
  | nil => exact ⟨fun _ => List.not_mem_nil, fun _ => rfl⟩
  | cons p es ih =>
    rw [look_cons]
    unfold keys at ih ⊢
    rw [List.map_cons, List.mem_cons, not_or]
    by_cases e : p.1 = k
    · rw [if_pos e]
      exact ⟨fun z => (nomatch z), fun z => absurd e.symm z.1⟩
    · rw [if_neg e, ih]
      exact ⟨fun z => ⟨fun q => e q.symm, z⟩, fun z => z.2⟩
theorem look_some {es : List (Int × Str)} {k : Int} : (look es k).isSome = true ↔ k ∈ keys es := by
  cases e : look es k with
  | none =>
    refine ⟨fun z => ?_, fun z => absurd z (look_none.mp e)⟩
    cases z
  | some x =>
    refine ⟨fun _ => Decidable.byContradiction fun n => ?_, fun _ => rfl⟩
    rw [look_none.mpr n] at e
    cases e
theorem put_new {es : List (Int × Str)} {k : Int} {x : Str} (h : k ∉ keys es) : putK (ents es) (.inl k) (.str x) = ents (es ++ [(k, x)]) := by
  unfold putK
  rw [valV_any, valV_ents, look_none.mpr h, if_neg (by simp), ents_app]
  rfl
end My
set_option Elab.async false
set_option maxRecDepth 100000
set_option maxHeartbeats 4000000
namespace My
open PySem PySem.Spec PyProof.Rows L2

section
open PySem.W
variable {prog : Program} {w : World} {A : Around} {E : Value → Shared → Prop} {s : Shared} {K : Frag} {x C f : Addr} {ox : Obj} {od : Option Obj} {b : Value}
theorem one_bool {M : Model} {A : Around} {E : Value → Shared → Prop} {Q : Fin → Shared → Prop} {c : Bool} {s : Shared} (h : Q (.done (.ret (.bool (!c)))) s) :
    wpAny M A (do ret (.bool (!(← truthy (.bool c))))) Q E s := by
  unfold truthy
  refine wpAny_bind (wpAny_pure ?_)
  exact wpAny_pure h
theorem one_ne (X : K.In s.heap) (I : InstAt s.heap x ox C od) (hs : findIn K (.ref C) "__eq__" = some (some (.ref f))) (hf : isFn K (.ref f) = true) (hu : A.units < cLine) {Q : Fin → Shared → Prop}
    (h : wpAny (model prog w) A (call (.ref f) [.ref x, b]) (fun v s' => ∃ c, v = .bool c ∧ Q (.done (.ret (.bool (!c)))) s') E s) :
    wpAny (model prog w) A (Builtin.«object.__ne__» ⟨[.ref x, b], []⟩) Q E s := by
  unfold Builtin.«object.__ne__»
  show wpAny _ _ (cRoomFor "comparison" [.ref x, b] >>= fun _ => callSpecialIfBound? (.ref x) "__eq__" [b] >>= _) _ _ _
  refine wpAny_bind (wpAny_cRoomFor hu ?_)
  refine wpAny_bind (ifBound_K X I hs hf (wpAny_mono h (fun v s' hv => ?_) fun _ _ e => e))
  obtain ⟨c, rfl, q⟩ := hv
  exact one_bool q
theorem ne_own (hu : A.units + 1 < cLine) (X : K.In s.heap) (I : InstAt s.heap x ox C od) {tb : Value} (hb : Looks (model prog w) s.heap (typeOf b) tb) (hn : notFirst K C tb = true)
    (ht : mroIn K C (.type "object") = some true)
    (hd : findIn K (.ref C) "__ne__" = some (some (.builtin "object.__ne__"))) (hs : findIn K (.ref C) "__eq__" = some (some (.ref f))) (hf : isFn K (.ref f) = true) {Q : Value → Shared → Prop}
    (h : wpAny (model prog w) A.in1 (call (.ref f) [.ref x, b]) (fun v s' => ∃ c, v = .bool c ∧ Q (.bool (!c)) s') E s) :
    wpAny (model prog w) A (compareOp .NotEq (.ref x) b) Q E s := by
  have one : wpAny (model prog w) A (tryCompare (.ref x) "__ne__" b) (fun r s' => ∃ v, r = some v ∧ Q v s') E s := by
    unfold tryCompare
    refine wpAny_bind ?_
    simp only [callSpecialIfBound?, bindSpecialIfBound?]
    refine wpAny_holding (wpAny_bind (wpAny_bind (wpAny_bind (I.type.here ((looks_findIn X hd).here ?_)))))
    refine wpAny_bind (wpAny_askSetting (wpAny_ite ?_))
    have L : Looks (model prog w) s.heap (isInstance (.ref x) (.type "object")) true := I.type.andThen (looks_mroIn X ht)
    have bnd := PySem.F.cmp_object.ne.bind (.ref x)
    split
    rotate_left
    refine wpAny_tryCatch ?_
    all_goals
      refine wpAny_bind ?_
      rw [bnd]
      refine wpAny_pure (wpAny_pure (wpAny_bind (wpAny_call (codeAny_call_builtin PySem.F.cmp_object.ne.plain F.cmpEntry_ne
        (@PySem.W.check_slot (model prog w) _ _ _ "object.__ne__" "object" "__ne__" (.ref x) [b] [] _ F.cmpKind_ne F.cmpSplit_ne L (F.cmpArgs_ne _ _) ?_)))))
      refine one_ne (A := A.in1) X I hs hf hu (wpAny_mono h (fun y s' hy => ?_) fun _ _ z => z)
      obtain ⟨c, rfl, q⟩ := hy
      exact ⟨c, rfl, wpAny_pure (wpAny_pure ⟨_, rfl, q⟩)⟩
  show wpAny _ _ (richCompare .NotEq (.ref x) b) _ _ _
  unfold richCompare
  simp only [oneThing_ref]
  refine wpAny_holding (wpAny_bind (wpAny_cRoomFor (Nat.lt_of_succ_lt hu) ?_))
  refine wpAny_bind (I.type.here ?_)
  refine wpAny_bind (hb.here ?_)
  rw [PySem.cmpInfo_NotEq]
  dsimp only
  have last : ∀ {f : Option Value → Sem Value}, (∀ v, f (some v) = pure v) → wpAny (model prog w) A (tryCompare (.ref x) "__ne__" b >>= f) Q E s := by
    intro f hf2
    refine wpAny_bind (wpAny_mono one (fun y s' hy => ?_) fun _ _ z => z)
    obtain ⟨v, rfl, q⟩ := hy
    rw [hf2]
    exact wpAny_pure q
  split
  · rename_i q
    have no : subIn K tb (.ref C) = some false := by
      cases hq : tb == .ref C with
      | true => rw [beq_iff_eq.mp hq] at q; simp at q
      | false =>
        unfold notFirst at hn
        rw [hq, Bool.false_or] at hn
        exact beq_iff_eq.mp hn
    refine wpAny_bind ((looks_subIn X no).here ?_)
    rw [if_neg (by simp)]
    exact last fun _ => rfl
  · refine wpAny_bind (wpAny_pure (a := false) ?_)
    rw [if_neg (by simp)]
    exact last fun _ => rfl
end
section
variable {X : Cx}

def rEq1 (C : Addr) (sp : Sp) (neg : Bool) : R2 := fun x y H Q => ∃ a b dx fs dy gs, x = .ref a ∧ y = .ref b ∧ H a = some (.ins C dx fs) ∧
  H b = some (.ins C dy gs) ∧ sp [x, y] H (fun v H' => ∃ c, v = .bl c ∧ Q (.bl (if neg = true then !c else c)) H') E0
theorem op_ownEq {C : Addr} {k : Nat} {ps : List Str} {sp : Sp} (O : OwnOp X C "__eq__" k ps sp) (hr : Room k X.A) (hu : X.A.units < cLine) :
    OpR X (compareOp .Eq) (rEq1 C sp false) := by
  intro pins s σ H x y v u Q I rx ry h
  obtain ⟨a, b, dx, fs, dy, gs, rfl, rfl, ha, hb, q⟩ := h
  cases rx; cases ry
  obtain ⟨f, fd, hs, hf, F, bd⟩ := O.ex
  obtain ⟨m, Fr⟩ := fr_of I
  obtain ⟨ox, od, J⟩ := inst_of I ha
  obtain ⟨oy, oe, J2⟩ := inst_of I hb
  show wpAny _ _ (richCompare .Eq _ _) _ _ _
  refine PySem.W.cmp_K hu Fr I.ok.mod.kin J J2.type (by unfold PySem.W.notFirst; simp) hs hf ?_
  refine thn (run_fn (us := [.ref a, .ref b]) (vs := [.ref a, .ref b]) F hr bd .nil pass0 I (.cons rfl (.cons rfl .nil)) q) ?_
  rintro u s' ⟨_, H', I', r, c, rfl, z⟩
  cases r
  exact ⟨.bl c, H', I', rfl, z⟩
theorem op_ownNe {C : Addr} {k : Nat} {ps : List Str} {sp : Sp} (O : OwnOp X C "__eq__" k ps sp) (hr : Room (k + 1) X.A) (hu : X.A.units + 1 < cLine)
    (ht : PySem.W.mroIn X.K C (.type "object") = some true)
    (hd : PySem.W.findIn X.K (.ref C) "__ne__" = some (some (.builtin "object.__ne__"))) :
    OpR X (compareOp .NotEq) (rEq1 C sp true) := by
  intro pins s σ H x y v u Q I rx ry h
  obtain ⟨a, b, dx, fs, dy, gs, rfl, rfl, ha, hb, q⟩ := h
  cases rx; cases ry
  obtain ⟨f, fd, hs, hf, F, bd⟩ := O.ex
  obtain ⟨m, Fr⟩ := fr_of I
  obtain ⟨ox, od, J⟩ := inst_of I ha
  obtain ⟨oy, oe, J2⟩ := inst_of I hb
  refine ne_own hu I.kIn J J2.type (by unfold PySem.W.notFirst; simp) ht hd hs hf ?_
  refine thn (run_in1 (us := [.ref a, .ref b]) (vs := [.ref a, .ref b]) F hr bd I (.cons rfl (.cons rfl .nil)) q) ?_
  rintro u s' ⟨_, H', I', r, c, rfl, z⟩
  cases r
  exact ⟨c, rfl, .bl (!c), H', I', rfl, z⟩
end
end My
set_option Elab.async false
set_option maxRecDepth 100000
set_option maxHeartbeats 4000000
namespace My
open PySem PySem.Spec PyProof.Rows L2



def laid (d : PyData) : Prop := d.canLay0 = true ∨ ∃ kvs, d = .dict kvs
def sm (d : PyData) : Prop := d.weight ≤ 100000 ∧ laid d
def mWhole : PyData → Bool
  | .int _ => true
  | _ => false
def between (a b : Int) : PyData → Bool
  | .int i => decide (a ≤ i) && decide (i ≤ b)
  | _ => false
def mKey (d : PyData) : Bool := between 0 999999 d
def mVal (d : PyData) : Bool := between (1 - 10 ^ 40) (10 ^ 40 - 1) d
def abc : Str := "abcdefghijklmnopqrstuvwxyz"
def nameOk (x : Str) : Bool := decide (1 ≤ x.length ∧ x.length ≤ 4) && !(inV (.str x) [.str "keys", .str "look", .str "self"]) &&
  x.cps.toList.all fun c => decide (c ∈ abc.cps.toList)
def mName : PyData → Bool
  | .str x => nameOk x
  | _ => false
def mEl : PyData → Bool
  | .tuple [k, f] => mKey k && mName f
  | _ => false
def mEnt : PyData → Bool
  | .tuple [k, f, v] => mKey k && (mName f && mVal v)
  | _ => false

def spIs (K : PySem.W.Frag) (m : PyData → Bool) : Sp := fun vs H Q _ => ∃ v d, vs = [v] ∧ Dx K H v d ∧ sm d ∧ ∀ H', Same H H' → Q (.bl (m d)) H'
def spBetween (K : PySem.W.Frag) : Sp := fun vs H Q _ => ∃ v d a b, vs = [v, .int a, .int b] ∧ Dx K H v d ∧ Q (.bl (between a b d)) H
def okB (d : PyData) : Bool := d.showable && (d.leavesShort 100 && (decide (d.weight ≤ 1000) && (decide (d.depth ≤ 10) && d.canLay0)))
def okT (d : PyData) : Prop := d.showable = true ∧ d.leavesShort 100 = true ∧ d.weight ≤ 10000 ∧ d.depth ≤ 30 ∧ laid d
def okD (d : PyData) : Prop := d.showable = true ∧ d.leavesShort 100 = true ∧ d.weight ≤ 1000 ∧ d.depth ≤ 10
def spWord : Sp := fun vs H Q _ => ∃ (a : Addr) (n : Nat), vs = [.ref a] ∧ Bag H a n ∧ n < 10000 ∧
  ∀ (x : Str) (H' : Hp), okB (.str x) = true → Same (del a H) (del a H') → Bag H' a (n + 2) → Q (.str x) H'
def spNumber (K : PySem.W.Frag) : Sp := fun vs H Q _ => ∃ (a : Addr) (n : Nat), vs = [.ref a] ∧ Bag H a n ∧ n < 10000 ∧
  ∀ (v : V) (d : PyData) (H' : Hp), Dp K (del a H') v d → okB d = true → Same (del a H) (del a H') → Bag H' a (n + 2) → Q v H'
def spThing (K : PySem.W.Frag) : Sp := fun vs H Q _ => ∃ (a : Addr) (n : Nat), vs = [.ref a] ∧ Bag H a n ∧ n < 9000 ∧
  ∀ (v : V) (d : PyData) (H' : Hp), Dx K H' v d → okT d → Same (del a H) (del a H') → Bag H' a (n + 8) → Q v H'
def spLaw (K : PySem.W.Frag) : Sp := fun vs H Q _ => ∃ (a : Addr) (ns : List Int), vs = [.ref a] ∧ SqL K H a (ns.map V.int) ∧ ns.length ≤ 63 ∧ ∀ H', Q (.bl true) H'
theorem sqT_len {K : PySem.W.Frag} {H : Hp} : ∀ {vs : List V} {ds : List PyData}, DpAll K H vs ds → vs.length = ds.length
  | _, _, .nil => rfl
  | _, _, .cons _ r => by rw [List.length_cons, List.length_cons, sqT_len r]
theorem dx_tuple {K : PySem.W.Frag} {H : Hp} {v : V} {ds : List PyData} (h : Dx K H v (.tuple ds)) : ∃ a vs, v = .ref a ∧ SqT K H a vs ∧ DpAll K H vs ds := by
  cases h with
  | of h => cases h with | tup h1 h2 => exact ⟨_, _, rfl, h1, h2⟩
theorem dx_str {K : PySem.W.Frag} {H : Hp} {v : V} {x : Str} (h : Dx K H v (.str x)) : v = .str x := by
  cases h with
  | of h => cases h; rfl
theorem dx_int {K : PySem.W.Frag} {H : Hp} {v : V} {i : Int} (h : Dx K H v (.int i)) : v = .int i := by
  cases h with
  | of h => cases h; rfl
theorem rd_isi {K : PySem.W.Frag} {i : Nat} {σ : L2.St} {H : Hp} {v : V} {d : PyData} {T : String} {Q : VK} (hσ : σ[i]? = some (some v)) (hx : Dx K H v d)
    (hT : T = "int" ∨ T = "bool" ∨ T = "str" ∨ T = "tuple" ∨ T = "list" ∨ T = "dict") (q : Q (.bl (isD T d)) H) :
    tCB (rIsi K) (tCons (tVar i) (tCons (tC (.ty T)) tNil)) σ H Q := ⟨v, hσ, isi_of hx hT q⟩
theorem isNot (b : Bool) : (if (!b) = true then true else false) = !b := by cases b <;> rfl

theorem take_snoc {xs : Array Nat} {i c : Nat} (h : xs[i]? = some c) : xs.toList.take (i + 1) = xs.toList.take i ++ [c] := by
  rw [List.take_add_one]
  have e : xs.toList[i]? = some c := by rw [Array.getElem?_toList]; exact h
  rw [e]
  rfl
def inAbc (c : Nat) : Bool := decide (c ∈ abc.cps.toList)
theorem len_le {x : Str} (h : sm (.str x)) : x.length ≤ 100000 := h.1
theorem laid_str {x : Str} (h : laid (.str x)) : ∀ c ∈ x.cps.toList, c < 0x110000 := by
  rcases h with h | ⟨_, h⟩
  · intro c hc
    have h2 : x.cps.all (· < 0x110000) = true := h
    rw [Array.all_eq_true'] at h2
    simpa using h2 c (by simpa using hc)
  · cases h
theorem laid_tup {ds : List PyData} (h : laid (.tuple ds)) : ∀ d ∈ ds, laid d := by
  rcases h with h | ⟨_, h⟩
  · have h2 : PyData.canLayAll0 ds = true := h
    intro d hd
    left
    induction ds with
    | nil => cases hd
    | cons a r ih =>
      rw [PyData.canLayAll0, Bool.and_eq_true] at h2
      rcases List.mem_cons.mp hd with rfl | hd
      · exact h2.1
      · exact ih h2.2 h2.2 hd
  · cases h
theorem size_ok {n : Nat} (h : n ≤ 1000000) : n ≤ sizeLine := Nat.le_trans h (by decide)
theorem size_lt {n : Nat} (h : n ≤ 1000000) : n < sizeLine := Nat.lt_of_le_of_lt h (by decide)
theorem all_ids (l : List Nat) (p : Nat → Bool) : (l.map p).all id = l.all p := by
  induction l with
  | nil => rfl
  | cons a r ih => rw [List.map_cons, List.all_cons, List.all_cons, ih]; rfl

theorem inV_14 (n : Nat) : inV (.int n) [.int 1, .int 2, .int 3, .int 4] = decide (1 ≤ n ∧ n ≤ 4) := by
  match n with
  | 0 => rfl
  | 1 => rfl
  | 2 => rfl
  | 3 => rfl
  | 4 => rfl
  | k + 5 =>
    rw [decide_eq_false (by omega)]
    simp only [inV, eqV, List.any_cons, List.any_nil, Bool.or_false, Bool.or_eq_false_iff, beq_eq_false_iff_ne, ne_eq]
    omega
def chars (l : List Nat) : List PyData := l.map fun c => .str ⟨#[c]⟩
theorem dp_chars {K : PySem.W.Frag} {H : Hp} : ∀ l : List Nat, DpAll K H (l.map fun c => V.str ⟨#[c]⟩) (chars l)
  | [] => .nil
  | c :: r => .cons (.str _) (dp_chars r)
theorem lay_chars : ∀ l : List Nat, (∀ c ∈ l, c < 0x110000) → PyData.canLayAll0 (chars l) = true
  | [], _ => rfl
  | c :: r, h => by
    show (PyData.canLay0 (.str ⟨#[c]⟩) && PyData.canLayAll0 (chars r)) = true
    rw [lay_chars r fun x hx => h x (List.mem_cons_of_mem _ hx), Bool.and_true]
    show (#[c].all fun x => decide (x < 0x110000)) = true
    simpa using h c List.mem_cons_self
theorem deep_chars : ∀ l : List Nat, PyData.depthAll (chars l) = 0
  | [] => rfl
  | c :: r => by
    show max (PyData.depth (.str ⟨#[c]⟩)) (PyData.depthAll (chars r)) = 0
    rw [deep_chars r]
    rfl
theorem shaped_chars (l : List Nat) (h : ∀ c ∈ l, c < 0x110000) : SeqAt.shaped (.list (chars l)) = true := by
  show (PyData.canLayAll0 (chars l) && decide (PyData.depthAll (chars l) + 1 ≤ 64)) = true
  rw [lay_chars l h, deep_chars]
  rfl
theorem eqv_nil (l : List Nat) : PyData.eqv (.list (chars l)) (.list []) = l.isEmpty := by
  cases l with
  | nil => rfl
  | cons c r => rfl
theorem filter_empty (l : List Nat) (p : Nat → Bool) : (l.filter fun c => !p c).isEmpty = l.all p := by
  induction l with
  | nil => rfl
  | cons a r ih =>
    rw [List.filter_cons, List.all_cons]
    cases p a with
    | true => simpa using ih
    | false => rfl

theorem okD_of {d : PyData} (h : okB d = true) : okD d ∧ d.canLay0 = true := by
  unfold okB at h
  simp only [Bool.and_eq_true, decide_eq_true_eq] at h
  exact ⟨⟨h.1, h.2.1, h.2.2.1, h.2.2.2.1⟩, h.2.2.2.2⟩
def words : List Str := ["a", "z", "ab", "keyz", "key", "look", "keys", "self", "seld", "looks", "abcde", "", "A", "aB", "a1", "a b", "a\n", " a", "a_", "loo", "zzzz"]
theorem words_ok : words.all (fun x => okB (.str x)) = true := by decide +kernel
theorem xs_ok : ∀ n, n < 7 → okB (.str (repS "x" n)) = true := by decide +kernel
def nums : List V := [.int 0, .int 1, .int 999999, .int 1000000, .int (-1), .bl true, .bl false, .non, .str "1", .int (10 ^ Int.toNat 40 - 1), .int (1 - 10 ^ Int.toNat 40), .int 999998]
theorem nums_ok : nums.all (fun v => match flatD v with | some d => okB d | none => false) = true := by decide +kernel
theorem dp_flat {K : PySem.W.Frag} {H : Hp} {v : V} {d : PyData} (h : flatD v = some d) : Dp K H v d := by
  cases v with
  | non => cases h; exact .non
  | bl b => cases h; exact .bl b
  | int i => cases h; exact .int i
  | str x => cases h; exact .str x
  | byt b => cases h
  | flt b => cases h
  | ref a => cases h
  | ty n => cases h
theorem small_int {i : Int} (h0 : 0 ≤ i) (h1 : i < 1000000) : okB (.int i) = true := by
  unfold okB
  have a1 : i.natAbs < 10 ^ 12 := by omega
  have a2 : i.natAbs.log2 < 1920 := log2_small (by
    have : (1000000 : Nat) < 2 ^ 1920 := by decide
    omega)
  have a3 := PyData.shown_int_le a1
  have a4 : (PyData.int i).weight ≤ 1000 := by
    show (if i == 0 then 0 else i.natAbs.log2 + 1) ≤ 1000
    have : i.natAbs.log2 < 20 := by
      by_cases e : i.natAbs = 0
      · rw [e]; decide
      · exact (Nat.log2_lt e).mpr (by omega)
    split <;> omega
  have b1 : (PyData.int i).showable = true := by simp only [PyData.showable]; exact decide_eq_true a2
  have b2 : (PyData.int i).leavesShort 100 = true := by simp only [PyData.leavesShort]; exact decide_eq_true (by omega)
  rw [b1, b2, decide_eq_true a4]
  rfl

def okP (W D : Nat) (d : PyData) : Prop := d.showable = true ∧ d.leavesShort 100 = true ∧ d.weight ≤ W ∧ d.depth ≤ D ∧ d.canLay0 = true
theorem okP_of {d : PyData} (h : okB d = true) : okP 1000 10 d :=
  let ⟨⟨h1, h2, h3, h4⟩, h5⟩ := okD_of h
  ⟨h1, h2, h3, h4, h5⟩
theorem okP_all {W D : Nat} : ∀ {ds : List PyData}, (∀ d ∈ ds, okP W D d) → PyData.showableAll ds = true ∧ PyData.leavesShortAll 100 ds = true ∧
    PyData.weightAll ds ≤ ds.length * (W + 1) ∧ PyData.depthAll ds ≤ D ∧ PyData.canLayAll0 ds = true
  | [], _ => ⟨rfl, rfl, Nat.zero_le _, Nat.zero_le _, rfl⟩
  | d :: r, h => by
    obtain ⟨a1, a2, a3, a4, a5⟩ := h d List.mem_cons_self
    obtain ⟨b1, b2, b3, b4, b5⟩ := okP_all (W := W) (D := D) fun x hx => h x (List.mem_cons_of_mem _ hx)
    refine ⟨?_, ?_, ?_, ?_, ?_⟩
    · rw [PyData.showableAll, a1, b1]; rfl
    · rw [PyData.leavesShortAll, a2, b2]; rfl
    · rw [PyData.weightAll, List.length_cons, Nat.succ_mul]; omega
    · rw [PyData.depthAll]; exact Nat.max_le.mpr ⟨a4, b4⟩
    · rw [PyData.canLayAll0, a5, b5]; rfl
theorem okP_list {W D W' D' : Nat} {ds : List PyData} (h : ∀ d ∈ ds, okP W D d) (hw : ds.length * (W + 1) ≤ W') (hd : D + 1 ≤ D') : okP W' D' (.list ds) := by
  obtain ⟨b1, b2, b3, b4, b5⟩ := okP_all h
  refine ⟨?_, ?_, Nat.le_trans b3 hw, ?_, b5⟩
  · rw [PyData.showable]; exact b1
  · rw [PyData.leavesShort]; exact b2
  · rw [PyData.depth]; omega
theorem okP_tup {W D W' D' : Nat} {ds : List PyData} (h : ∀ d ∈ ds, okP W D d) (hw : ds.length * (W + 1) ≤ W') (hd : D + 1 ≤ D') : okP W' D' (.tuple ds) := by
  obtain ⟨b1, b2, b3, b4, b5⟩ := okP_all h
  refine ⟨?_, ?_, Nat.le_trans b3 hw, ?_, b5⟩
  · rw [PyData.showable]; exact b1
  · rw [PyData.leavesShort]; exact b2
  · rw [PyData.depth]; omega
theorem okT_of {d : PyData} (h : okP 10000 30 d) : okT d := ⟨h.1, h.2.1, h.2.2.1, h.2.2.2.1, .inl h.2.2.2.2⟩
theorem okP_mono {W D W' D' : Nat} {d : PyData} (h : okP W D d) (hw : W ≤ W') (hd : D ≤ D') : okP W' D' d :=
  ⟨h.1, h.2.1, Nat.le_trans h.2.2.1 hw, Nat.le_trans h.2.2.2.1 hd, h.2.2.2.2⟩
theorem okT_dict {w : Str} (h : okB (.str w) = true) : okT (.dict [(.int 0, .str w)]) := by
  obtain ⟨a1, a2, a3, a4, a5⟩ := okP_of h
  refine ⟨?_, ?_, ?_, ?_, .inr ⟨_, rfl⟩⟩
  · rw [PyData.showable, PyData.showableKv, a1]
    rw [show PyData.showable (.int 0) = true by decide +kernel]
    rfl
  · rw [PyData.leavesShort, PyData.leavesShortKv, a2]
    rw [show PyData.leavesShort 100 (.int 0) = true by decide +kernel]
    rfl
  · rw [PyData.weight, PyData.weightKv, show PyData.weight (.int 0) = 0 from rfl, PyData.weightKv]; omega
  · rw [PyData.depth, PyData.depthKv, show PyData.depth (.int 0) = 0 from rfl, PyData.depthKv, show PyData.depth (.str w) = 0 from rfl]; decide
theorem okP_int0 : okP 1000 10 (.int 0) := okP_of (by decide +kernel)

theorem okT_len {d : PyData} (h : okT d) : d.shown.length ≤ sizeLine := by
  have a := PyData.shown_le 100 (by decide) d h.2.1
  have b : (100 + 2) * d.weight + 100 ≤ 102 * 10000 + 100 := by have := h.2.2.1; omega
  exact Nat.le_trans a (Nat.le_trans b (by decide))
theorem okT_sm {d : PyData} (h : okT d) : sm d := ⟨by have := h.2.2.1; omega, h.2.2.2.2⟩
theorem ok_bools (a b c : Bool) : okT (.list [.bool a, .bool b, .bool c]) := okT_of (okP_list (W := 1000) (D := 10) (by
  intro d hd
  simp only [List.mem_cons, List.not_mem_nil, or_false] at hd
  rcases hd with rfl | rfl | rfl
  · cases a <;> exact okP_of (by decide +kernel)
  · cases b <;> exact okP_of (by decide +kernel)
  · cases c <;> exact okP_of (by decide +kernel)) (by simp) (by decide))

end My
set_option Elab.async false
set_option maxRecDepth 100000
set_option maxHeartbeats 4000000
namespace My
open PySem PySem.Spec PyProof.Rows L2

structure FunV (K : PySem.W.Frag) (x qual : Str) (st : Stmt) (dV : Value) (f : Addr) (fd : FuncData) : Prop where
  ex : ∃ (oc : Value) (od : Option Addr) (kV doc pm : Value) (an : Option Addr) (cdv ct : Value) (osl : Array (Option Value)),
    fd = PySem.W.fnOf x qual (defArgs st) (defBody st) (defScope st) dV kV doc pm an cdv ct ∧ K.lookup f = some ⟨oc, od, .func fd, osl⟩ ∧ PySem.W.codeIn K cdv qual = true
section
variable {P : Program} {w : World} {K : PySem.W.Frag} {mg : Str → Option Value} {base : Heap} {x qual : Str} {st : Stmt} {f : Addr} {fd : FuncData} {dV : Value}
theorem funV_mk {oc : Value} {od an : Option Addr} {osl : Array (Option Value)} {kV doc pm cdv ct : Value}
    (l : K.lookup f = some ⟨oc, od, .func (PySem.W.fnOf x qual (defArgs st) (defBody st) (defScope st) dV kV doc pm an cdv ct), osl⟩) (c : PySem.W.codeIn K cdv qual = true) :
    FunV K x qual st dV f (PySem.W.fnOf x qual (defArgs st) (defBody st) (defScope st) dV kV doc pm an cdv ct) := ⟨⟨oc, od, kV, doc, pm, an, cdv, ct, osl, rfl, l, c⟩⟩
theorem FunV.ok {N ps : List Str} {k : Nat} {sp : Sp} (F : FunV K x qual st dV f fd) (S : FnScope N ps (defScope st))
    (len : ∀ vs H Q E, sp vs H Q E → vs.length = ps.length)
    (hbody : ∀ (cdv : Value) (A : Around) (outer : List Env) (s : Shared) (H : Hp) (vs : List V) (Q : VK) (E : XK), Room k (A.deeper (envOfC qual (defScope st) s.heap.objs.size f cdv)) → sp vs H Q E →
      ∃ t, PSs (cxOf CX0 P w K mg base N qual (defScope st) f cdv A outer s H E).nox (defBody st) t ∧ t { nx := fun _ H' => Q .non H', rt := Q } (start N vs) H) : FnOk P w K mg base CX0 (k + 1) f fd ps sp := by
  obtain ⟨oc, od, kV, doc, pm, an, cdv, ct, osl, rfl, lk, hcd⟩ := F.ex
  refine fn_of lk hcd S len fun A outer s H vs Q E hr hsp => ?_
  obtain ⟨t, h, q⟩ := hbody cdv A outer s H vs Q E hr hsp
  exact ⟨t, h.nox, q⟩

theorem FunV.binds1 {t : Addr} {o : Obj} {v : Value} {m : Nat} {ps : List Str} {n : Nat} (F : FunV K x qual st (.ref t) f fd) (lt : K.lookup t = some o) (ot : o.data = .seq #[v] m) (hn : n + 1 = ps.length)
    (h : ∀ (kV doc pm : Value) (an : Option Addr) (cdv ct : Value) (us : List Value), us.length = n →
      ∃ k, bindArgs (PySem.W.fnOf x qual (defArgs st) (defBody st) (defScope st) (.ref t) kV doc pm an cdv ct) ⟨us, []⟩ = seqItems? (.ref t) >>= k ∧ k (some #[v]) = pure (ps.zip (us ++ [v]))) : Binds K fd ps [v] := by
  obtain ⟨oc, od, kV, doc, pm, an, cdv, ct, osl, rfl, lk, hcd⟩ := F.ex
  intro s us X hlen
  have l2 : us.length = n := by
    rw [List.length_append, List.length_singleton] at hlen
    omega
  obtain ⟨k, e1, e2⟩ := h kV doc pm an cdv ct us l2
  refine BindsTo.of_looks fun M => ?_
  rw [e1]
  exact looks_items X lt ot (.of_pure e2)
theorem FunV.bindsAll {ps : List Str} (F : FunV K x qual st dV f fd)
    (h : ∀ (kV doc pm : Value) (an : Option Addr) (cdv ct : Value) (us : List Value), us.length = ps.length →
      bindArgs (PySem.W.fnOf x qual (defArgs st) (defBody st) (defScope st) dV kV doc pm an cdv ct) ⟨us, []⟩ = pure (ps.zip us)) : Binds K fd ps [] := by
  obtain ⟨oc, od, kV, doc, pm, an, cdv, ct, osl, rfl, lk, hcd⟩ := F.ex
  exact .all (h kV doc pm an cdv ct)

def spStar (ps : List Str) (sp : Sp) : Sp := fun vs H Q E => ∃ ws rest, vs = ws ++ rest ∧ ws.length = ps.length ∧ rest.length ≤ sizeLine ∧
  ∀ p, H p = Option.none → sp (ws ++ [V.ref p]) (upd H p (.tup rest)) Q E
theorem Fun.star {N ps : List Str} {pv : Str} {k : Nat} {sp : Sp} (F : Fun K x qual st f fd) (S : FnScope N (ps ++ [pv]) (defScope st))
    (hb : ∀ (kV doc pm : Value) (an : Option Addr) (cdv ct : Value) (us rest : List Value), us.length = ps.length →
      bindArgs (PySem.W.fnOf x qual (defArgs st) (defBody st) (defScope st) .none kV doc pm an cdv ct) ⟨us ++ rest, []⟩ = (newTuple rest >>= fun t => pure (ps.zip us ++ [(pv, t)])))
    (hbody : ∀ (cdv : Value) (A : Around) (outer : List Env) (s : Shared) (H : Hp) (vs : List V) (Q : VK) (E : XK), Room k (A.deeper (envOfC qual (defScope st) s.heap.objs.size f cdv)) → sp vs H Q E →
      ∃ t, PSs (cxOf CX0 P w K mg base N qual (defScope st) f cdv A outer s H E).nox (defBody st) t ∧ t { nx := fun _ H' => Q .non H', rt := Q } (start N vs) H) :
    FnR P w K mg base CX0 (k + 1) f (spStar ps sp) := by
  obtain ⟨oc, od, kV, doc, pm, an, cdv, ct, osl, rfl, lk, hcd⟩ := F.ex
  refine StX.fn_star lk hcd S StX.cxUp_none (hb kV doc pm an cdv ct) fun A outer s H vs Q E hr hsp => ?_
  obtain ⟨t, h, q⟩ := hbody cdv A outer s H vs Q E hr hsp
  exact ⟨t, h.nox, q⟩
end

def Mt (P : Program) (w : World) (K : PySem.W.Frag) (mg : Str → Option Value) (base : Heap) (C : Addr) (m : Str) (k : Nat) (ps : List Str) (sp : Sp) : Prop :=
  ∃ f fd, PySem.W.findIn K (.ref C) m = some (some (.ref f)) ∧ PySem.W.isFn K (.ref f) = true ∧ PySem.W.keepIn K (.ref f) = true ∧
    FnOk P w K mg base CX0 k f fd ps sp ∧ Binds K fd ps []

def MtR (P : Program) (w : World) (K : PySem.W.Frag) (mg : Str → Option Value) (base : Heap) (C : Addr) (m : Str) (k : Nat) (ps : List Str) (sp : Sp) : Prop :=
  ∃ f, PySem.W.findIn K (.ref C) m = some (some (.ref f)) ∧ PySem.W.isFn K (.ref f) = true ∧ PySem.W.keepIn K (.ref f) = true ∧
    FnR P w K mg base CX0 k f (spStar ps sp)

def MkFn (P : Program) (w : World) (K : PySem.W.Frag) (mg : Str → Option Value) (base : Heap) (C : Addr) (k : Nat) (ps : List Str) (sp : Sp) : Prop :=
  ∃ f fd, Mk K C f ∧ FnOk P w K mg base CX0 k f fd ps sp ∧ Binds K fd ps [] ∧ ∃ t ds, Vals [V.ref t] ds ∧ Binds K fd ps ds ∧ ∀ H, SqT K H t []
section
variable {X : Cx} {k : Nat} {C : Addr} {ps : List Str} {sp : Sp} {x m : Str} {p pos apos : Pos} {e o : Expr} {es : List Expr} {ta : TE} {t : TA}
theorem Mt.op (D : Mt X.prog X.w X.K X.mg X.base C m k ps sp) : OwnOp X C m k ps sp := by
  obtain ⟨f, fd, h1, h2, _, h4, h5⟩ := D
  exact ⟨f, fd, h1, h2, h4, h5⟩
theorem op_own {op : Operator} {nm : Str} (D : Mt X.prog X.w X.K X.mg X.base C nm k ps sp) (hr : Room k X.A) (hc : PySem.W.selfFirst X.K C = true) (hn : PySem.dunder op.info.2 = nm) : OpR X (binaryOp op) (rBin C sp) := by
  subst hn
  exact op_own2 D.op hr hc
theorem pe_mt {pl : Sem Bool} (D : Mt X.prog X.w X.K X.mg X.base C m k ps sp) (hr : Room k X.A) (c : Cls X.K C) (he : PE X o ta) (ha : PA X (e :: es) t)
    (hst : starEach (e :: es) X.env = (false, eval e X.env) :: starEach es X.env := by rfl) (hpl : (backTo pos (starEach es X.env)).any (·.1) = false := by rfl)
    (ht : eval (.Call (.Attribute o m apos) (e :: es) [] pos) X.env = (do
      let ov ← eval o X.env
      standAt apos.atName
      let (f, first) ← holding [ov] (getMethod ov m pl)
      callWith pos f first (backTo pos (starEach (e :: es) X.env)) (backToKw pos (keywordEach [] X.env))) := by rfl) :
    PE X (.Call (.Attribute o m apos) (e :: es) [] pos) (tMeth C m sp [] E0 ta t) := by
  obtain ⟨f, fd, h1, h2, h3, F, b⟩ := D
  exact pe_meth (ds := []) he c ⟨h1, h2, h3⟩ F hr b .nil pass0 ha hst hpl ht
theorem pe_mt0 {pl : Sem Bool} (D : Mt X.prog X.w X.K X.mg X.base C m k ps sp) (hr : Room k X.A) (c : Cls X.K C) (he : PE X o ta)
    (ht : eval (.Call (.Attribute o m apos) [] [] pos) X.env = (do
      let ov ← eval o X.env
      standAt apos.atName
      let (f, first) ← holding [ov] (getMethod ov m pl)
      callWith pos f first (backTo pos (starEach [] X.env)) (backToKw pos (keywordEach [] X.env))) := by rfl) :
    PE X (.Call (.Attribute o m apos) [] [] pos) (tMeth C m sp [] E0 ta tNil) := by
  obtain ⟨f, fd, h1, h2, h3, F, b⟩ := D
  exact pe_meth0 (ds := []) he c ⟨h1, h2, h3⟩ F hr b .nil pass0 ht
theorem pe_mk (D : MkFn X.prog X.w X.K X.mg X.base C k ps sp) (hr : Room (k + 1) X.A) (hg : Gl X x) (hm : X.mg x = some (.ref C)) (ha : PA X (e :: es) t)
    (hdb : (x == ("__debug__" : Str)) = false := by decide) (he : starEach (e :: es) X.env = (false, eval e X.env) :: starEach es X.env := by rfl) (hpl : (backTo pos (starEach es X.env)).any (·.1) = false := by rfl) :
    PE X (.Call (.Name x p) (e :: es) [] pos) (tMake C sp [] E0 t) := by
  obtain ⟨f, fd, M, F, b, _⟩ := D
  exact pe_make (ds := []) M F hr hg hm b .nil pass0 ha hdb he hpl
def tMk0 (K : PySem.W.Frag) (C : Addr) (sp : Sp) : TE := fun σ H Q => ∀ t, (∀ H, SqT K H t []) → tMake C sp [V.ref t] E0 tNil σ H Q
theorem pe_mk0 (D : MkFn X.prog X.w X.K X.mg X.base C k ps sp) (hr : Room (k + 1) X.A) (hg : Gl X x) (hm : X.mg x = some (.ref C))
    (hdb : (x == ("__debug__" : Str)) = false := by decide) : PE X (.Call (.Name x p) [] [] pos) (tMk0 X.K C sp) := by
  obtain ⟨f, fd, M, F, _, t, ds, hv, b, hT⟩ := D
  refine ⟨fun pins s σ H Q I h => ?_⟩
  exact (pe_make0 M F hr hg hm b hv pass0 hdb).run pins s σ H Q I (h t hT)
end

def Good (U : List Int) (es : List (Int × Str)) : Prop := (keys es).Nodup ∧ (∀ k ∈ keys es, k ∈ U) ∧ U.length ≤ 1000
def FD (U : List Int) (H : Hp) (d : Addr) (es : List (Int × Str)) : Prop := H d = some (.dK (ents es)) ∧ Good U es
def FS (C : Addr) (U : List Int) (H : Hp) (x : Addr) (es : List (Int × Str)) : Prop := ∃ dx d, H x = some (.ins C dx [("_forms", .ref d)]) ∧ FD U H d es
theorem FD.same {U : List Int} {H H' : Hp} {d : Addr} {es : List (Int × Str)} (h : FD U H d es) (s : Same H H') : FD U H' d es := ⟨s _ _ h.1, h.2⟩
theorem FS.same {C : Addr} {U : List Int} {H H' : Hp} {d : Addr} {es : List (Int × Str)} (h : FS C U H d es) (s : Same H H') : FS C U H' d es := by
  obtain ⟨dx, d, h1, h2⟩ := h
  exact ⟨dx, d, s _ _ h1, h2.same s⟩
theorem nodup_sub : ∀ {l U : List Int}, l.Nodup → (∀ k ∈ l, k ∈ U) → l.length ≤ U.length
  | [], U, _, _ => Nat.zero_le _
  | a :: r, U, nd, h => by
    have ha : a ∈ U := h a List.mem_cons_self
    have := nodup_sub (l := r) (U := U.erase a) (List.nodup_cons.mp nd).2 fun k hk =>
      (List.mem_erase_of_ne (fun e : k = a => (List.nodup_cons.mp nd).1 (by rw [← e]; exact hk))).mpr (h k (List.mem_cons_of_mem _ hk))
    rw [List.length_erase_of_mem ha] at this
    have p := List.length_pos_of_mem ha
    rw [List.length_cons]
    omega
theorem Good.len {U : List Int} {es : List (Int × Str)} (g : Good U es) : es.length ≤ 1000 := by
  have := nodup_sub g.1 g.2.1
  unfold keys at this
  rw [List.length_map] at this
  exact Nat.le_trans this g.2.2
def has (es : List (Int × Str)) (k : Int) : Bool := (look es k).isSome
theorem has_iff {es : List (Int × Str)} {k : Int} : has es k = true ↔ k ∈ keys es := look_some
def united (es fs : List (Int × Str)) : List (Int × Str) := es ++ fs.filter fun p => !has es p.1
def common (es fs : List (Int × Str)) : List (Int × Str) := es.filter fun p => has fs p.1
def rest (es fs : List (Int × Str)) : List (Int × Str) := es.filter fun p => !has fs p.1
theorem look_app (es gs : List (Int × Str)) (k : Int) : look (es ++ gs) k = (look es k).or (look gs k) := by
  induction es with
  | nil => rfl
  | cons p r ih =>
    rw [List.cons_append, look_cons, look_cons]
    by_cases e : p.1 = k
    · rw [if_pos e, if_pos e]; rfl
    · rw [if_neg e, if_neg e, ih]
theorem look_filter (c : Int → Bool) (es : List (Int × Str)) (k : Int) : look (es.filter fun p => c p.1) k = if c k = true then look es k else none := by
  induction es with
  | nil => rw [List.filter_nil, look_nil, ite_self]
  | cons p r ih =>
    rw [List.filter_cons]
    by_cases e : p.1 = k
    · rw [e]
      by_cases q : c k = true
      · rw [if_pos q, if_pos q, look_cons, look_cons, if_pos e, if_pos e]
      · rw [if_neg q, if_neg q, ih, if_neg q]
    · by_cases q : c p.1 = true
      · rw [if_pos q, look_cons, if_neg e, ih, look_cons, if_neg e]
      · rw [if_neg q, ih, look_cons, if_neg e]
theorem look_united (es fs : List (Int × Str)) (k : Int) : look (united es fs) k = (look es k).or (look fs k) := by
  unfold united
  rw [look_app, look_filter fun k => !has es k]
  unfold has
  cases look es k <;> rfl
theorem look_common (es fs : List (Int × Str)) (k : Int) : look (common es fs) k = if (look fs k).isSome = true then look es k else none :=
  look_filter (fun k => has fs k) es k
theorem look_rest (es fs : List (Int × Str)) (k : Int) : look (rest es fs) k = if (look fs k).isSome = true then none else look es k := by
  refine (look_filter (fun k => !has fs k) es k).trans ?_
  unfold has
  cases look fs k <;> rfl
theorem keys_filter_sub (c : Int × Str → Bool) (es : List (Int × Str)) : (keys (es.filter c)).Sublist (keys es) := List.Sublist.map _ List.filter_sublist
theorem Good.filter {U : List Int} {es : List (Int × Str)} (g : Good U es) (c : Int × Str → Bool) : Good U (es.filter c) :=
  ⟨g.1.sublist (keys_filter_sub c es), fun k hk => g.2.1 k ((keys_filter_sub c es).subset hk), g.2.2⟩
theorem Good.common {U : List Int} {es : List (Int × Str)} (g : Good U es) (fs : List (Int × Str)) : Good U (common es fs) := g.filter _
theorem Good.rest {U : List Int} {es : List (Int × Str)} (g : Good U es) (fs : List (Int × Str)) : Good U (rest es fs) := g.filter _
theorem mem_keys_filter {c : Int → Bool} {es : List (Int × Str)} {k : Int} : k ∈ keys (es.filter fun p => c p.1) ↔ k ∈ keys es ∧ c k = true := by
  unfold keys
  simp only [List.mem_map, List.mem_filter]
  constructor
  · rintro ⟨p, ⟨h1, h2⟩, rfl⟩; exact ⟨⟨p, h1, rfl⟩, h2⟩
  · rintro ⟨⟨p, h1, rfl⟩, h2⟩; exact ⟨p, ⟨h1, h2⟩, rfl⟩
theorem keys_app (es fs : List (Int × Str)) : keys (es ++ fs) = keys es ++ keys fs := List.map_append
theorem Good.united {U : List Int} {es fs : List (Int × Str)} (g : Good U es) (h : Good U fs) : Good U (united es fs) := by
  refine ⟨?_, ?_, g.2.2⟩
  · unfold My.united
    rw [keys_app]
    refine List.nodup_append.mpr ⟨g.1, (h.filter _).1, fun a ha b hb e => ?_⟩
    subst e
    have := (mem_keys_filter (c := fun k => !has es k)).mp hb
    have q := this.2
    rw [has_iff.mpr ha] at q
    cases q
  · intro k hk
    unfold My.united at hk
    rw [keys_app] at hk
    rcases List.mem_append.mp hk with hk | hk
    · exact g.2.1 k hk
    · exact (h.filter _).2.1 k hk

def spRaw (f : List (Int × Str) → List (Int × Str) → List (Int × Str)) : Sp := fun vs H Q _ => ∃ U a b es fs, vs = [.ref a, .ref b] ∧ FD U H a es ∧ FD U H b fs ∧
  ∀ d H', Same H H' → FD U H' d (f es fs) → Q (.ref d) H'
def spSetOf (C : Addr) : Sp := fun vs H Q _ => ∃ U d es, vs = [.ref d] ∧ FD U H d es ∧ ∀ x H', Same H H' → FS C U H' x es → Q (.ref x) H'
def spOp (C : Addr) (f : List (Int × Str) → List (Int × Str) → List (Int × Str)) : Sp := fun vs H Q _ => ∃ U a b es fs, vs = [.ref a, .ref b] ∧ FS C U H a es ∧ FS C U H b fs ∧
  ∀ d H', Same H H' → FS C U H' d (f es fs) → Q (.ref d) H'
def spLen (C : Addr) : Sp := fun vs H Q _ => ∃ U a es, vs = [.ref a] ∧ FS C U H a es ∧ Q (.int (es.length : Nat)) H
def alike (es fs : List (Int × Str)) : Prop := es.length = fs.length ∧ ∀ p ∈ es, look fs p.1 = some p.2
def spEqT (C : Addr) : Sp := fun vs H Q _ => ∃ U a b es fs, vs = [.ref a, .ref b] ∧ FS C U H a es ∧ FS C U H b fs ∧ alike es fs ∧ Q (.bl true) H
def smaller (es fs : List (Int × Str)) : List (Int × Str) := if es.length < fs.length then common es fs else common fs es
def apart (es fs : List (Int × Str)) : List (Int × Str) := united (rest es fs) (rest fs es)
theorem look_ents {es : List (Int × Str)} {p : Int × Str} (nd : (keys es).Nodup) (h : p ∈ es) : look es p.1 = some p.2 := by
  induction es with
  | nil => cases h
  | cons q r ih =>
    rw [look_cons]
    have nd2 : q.1 ∉ keys r ∧ (keys r).Nodup := List.nodup_cons.mp nd
    rcases List.mem_cons.mp h with rfl | h
    · rw [if_pos rfl]
    · rw [if_neg (fun e : q.1 = p.1 => nd2.1 (by rw [e]; exact List.mem_map_of_mem h)), ih nd2.2 h]

inductive ElAll (K : PySem.W.Frag) (H : Hp) : List V → List (Int × Str) → Prop
  | nil : ElAll K H [] []
  | cons {t : Addr} {k : Int} {x : Str} {vs : List V} {es : List (Int × Str)} (h : SqT K H t [.int k, .str x]) (hk : 0 ≤ k ∧ k ≤ 999999) (hx : nameOk x = true) (r : ElAll K H vs es) : ElAll K H (.ref t :: vs) ((k, x) :: es)
theorem sqT_same {K : PySem.W.Frag} {H H' : Hp} {a : Addr} {xs : List V} (e : Same H H') (h : SqT K H a xs) : SqT K H' a xs := by
  rcases h with h | h
  · rcases h with h | ⟨o, h⟩
    · exact .inl (.inl (e _ _ h))
    · exact .inl (.inr ⟨o, e _ _ h⟩)
  · exact .inr h
theorem ElAll.same {K : PySem.W.Frag} {H H' : Hp} (s : Same H H') : ∀ {vs : List V} {es : List (Int × Str)}, ElAll K H vs es → ElAll K H' vs es
  | _, _, .nil => .nil
  | _, _, .cons h hk hx r => .cons (sqT_same s h) hk hx (ElAll.same s r)
theorem ElAll.len {K : PySem.W.Frag} {H : Hp} : ∀ {vs : List V} {es : List (Int × Str)}, ElAll K H vs es → vs.length = es.length
  | _, _, .nil => rfl
  | _, _, .cons _ _ _ r => by rw [List.length_cons, List.length_cons, r.len]
theorem ElAll.at {K : PySem.W.Frag} {H : Hp} : ∀ {vs : List V} {es : List (Int × Str)} {i : Nat} {v : V}, ElAll K H vs es → vs[i]? = some v →
    ∃ t k x, v = .ref t ∧ es[i]? = some (k, x) ∧ SqT K H t [.int k, .str x] ∧ (0 ≤ k ∧ k ≤ 999999) ∧ nameOk x = true
  | _, _, i, v, .nil, h => by simp at h
  | _, _, 0, v, .cons h1 hk hx r, h => by
    cases Option.some.inj h
    exact ⟨_, _, _, rfl, rfl, h1, hk, hx⟩
  | _, _, i + 1, v, .cons h1 hk hx r, h => r.at h
def firsts (l : List (Int × Str)) : List (Int × Str) := l.foldl (fun acc p => if has acc p.1 = true then acc else acc ++ [p]) []
end My
set_option Elab.async false
set_option maxRecDepth 100000
set_option maxHeartbeats 4000000
namespace My
open PySem PySem.Spec PyProof.Rows L2
section
variable {X : Cx} {k : Nat} {C : Addr} {ps : List Str} {sp : Sp} {x m : Str} {p pos apos : Pos} {e o : Expr} {es : List Expr} {ta : TE} {t : TA}
theorem pe_mtR {pl : Sem Bool} (D : MtR X.prog X.w X.K X.mg X.base C m k ps sp) (hr : Room k X.A) (c : Cls X.K C) (he : PE X o ta) (ha : PA X (e :: es) t)
    (hst : starEach (e :: es) X.env = (false, eval e X.env) :: starEach es X.env := by rfl) (hpl : (backTo pos (starEach es X.env)).any (·.1) = false := by rfl)
    (ht : eval (.Call (.Attribute o m apos) (e :: es) [] pos) X.env = (do
      let ov ← eval o X.env
      standAt apos.atName
      let (f, first) ← holding [ov] (getMethod ov m pl)
      callWith pos f first (backTo pos (starEach (e :: es) X.env)) (backToKw pos (keywordEach [] X.env))) := by rfl) :
    PE X (.Call (.Attribute o m apos) (e :: es) [] pos) (tMethR C m (spStar ps sp) E0 ta t) := by
  obtain ⟨f, h1, h2, h3, F⟩ := D
  exact pe_methR he c ⟨h1, h2, h3⟩ F hr pass0 ha hst hpl ht
end

def spFirst (K : PySem.W.Frag) : Sp := fun vs H Q _ => ∃ (a : Addr) (xs : List V) (l : List (Int × Str)), vs = [.ref a] ∧ (H a = some (.lst xs) ∨ SqT K H a xs) ∧ ElAll K H xs l ∧ l.length ≤ 1000 ∧
  ∀ d H', Same H H' → H' d = some (.dK (ents (firsts l))) → Q (.ref d) H'
def spInit (K : PySem.W.Frag) (C : Addr) : Sp := fun vs H Q _ => ∃ (x dx a : Addr) (xs : List V) (l : List (Int × Str)), vs = [.ref x, .ref a] ∧ H x = some (.ins C dx []) ∧
  (H a = some (.lst xs) ∨ SqT K H a xs) ∧ ElAll K H xs l ∧ l.length ≤ 1000 ∧
  ∀ d H', Same (del x H) (del x H') → H' x = some (.ins C dx [("_forms", .ref d)]) → H' d = some (.dK (ents (firsts l))) → Q .non H'
def joinAll (es : List (Int × Str)) (ls : List (List (Int × Str))) : List (Int × Str) := ls.foldl united es
inductive FSs (C : Addr) (U : List Int) (H : Hp) : List V → List (List (Int × Str)) → Prop
  | nil : FSs C U H [] []
  | cons {x : Addr} {es : List (Int × Str)} {vs : List V} {ls : List (List (Int × Str))} (h : FS C U H x es) (r : FSs C U H vs ls) : FSs C U H (.ref x :: vs) (es :: ls)
theorem FSs.same {C : Addr} {U : List Int} {H H' : Hp} (s : Same H H') : ∀ {vs : List V} {ls : List (List (Int × Str))}, FSs C U H vs ls → FSs C U H' vs ls
  | _, _, .nil => .nil
  | _, _, .cons h r => .cons (h.same s) (FSs.same s r)
theorem FSs.len {C : Addr} {U : List Int} {H : Hp} : ∀ {vs : List V} {ls : List (List (Int × Str))}, FSs C U H vs ls → vs.length = ls.length
  | _, _, .nil => rfl
  | _, _, .cons _ r => by rw [List.length_cons, List.length_cons, r.len]
theorem FSs.at {C : Addr} {U : List Int} {H : Hp} : ∀ {vs : List V} {ls : List (List (Int × Str))} {i : Nat} {v : V}, FSs C U H vs ls → vs[i]? = some v → ∃ x es, v = .ref x ∧ ls[i]? = some es ∧ FS C U H x es
  | _, _, i, v, .nil, h => by simp at h
  | _, _, 0, v, .cons h1 r, h => by
    cases Option.some.inj h
    exact ⟨_, _, rfl, rfl, h1⟩
  | _, _, i + 1, v, .cons h1 r, h => r.at h
def spJoin (K : PySem.W.Frag) (C : Addr) : Sp := fun vs H Q _ => ∃ U a p es xs ls, vs = [.ref a, .ref p] ∧ FS C U H a es ∧ SqT K H p xs ∧ FSs C U H xs ls ∧
  ∀ d H', Same H H' → FS C U H' d (joinAll es ls) → Q (.ref d) H'
def likeKeys (es fs : List (Int × Str)) : Prop := ∀ k, has es k = has fs k
def spEqK (C : Addr) : Sp := fun vs H Q _ => ∃ U a b es fs, vs = [.ref a, .ref b] ∧ FS C U H a es ∧ FS C U H b fs ∧ likeKeys es fs ∧ ∀ H', Same H H' → Q (.bl true) H'
def spAll3 (C : Addr) : Sp := fun vs H Q _ => ∃ U a b c es fs gs, vs = [.ref a, .ref b, .ref c] ∧ FS C U H a es ∧ FS C U H b fs ∧ FS C U H c gs ∧ ∀ H', Same H H' → Q (.bl true) H'
def spAll2 (C : Addr) : Sp := fun vs H Q _ => ∃ U a b es fs, vs = [.ref a, .ref b] ∧ FS C U H a es ∧ FS C U H b fs ∧ ∀ H', Same H H' → Q (.bl true) H'
def below (m : Nat) : List Int := (List.range m).map fun i : Nat => (i : Int)
def spSet (C : Addr) : Sp := fun vs H Q _ => ∃ (a : Addr) (n m : Nat) (x : Str), vs = [.ref a, .int m, .str x] ∧ Bag H a n ∧ n < 1000 ∧ 1 ≤ m ∧ m ≤ 20 ∧ (x = "p" ∨ x = "q" ∨ x = "r") ∧
  ∀ z es H', Same (del a H) (del a H') → Bag H' a (n + 100) → FS C (below m) H' z es → Q (.ref z) H'
theorem FD.app {U : List Int} {es fs : List (Int × Str)} (g : Good U es) (h : Good U fs) (i : Nat) : (ents (es ++ (fs.take i).filter fun p => !has es p.1)).length < sizeLine := by
  rw [ents_len, List.length_append]
  have h1 := g.len
  have h2 := h.len
  have h3 : ((fs.take i).filter fun p => !has es p.1).length ≤ fs.length := Nat.le_trans (List.length_filter_le _ _) (by rw [List.length_take]; omega)
  exact Nat.lt_of_le_of_lt (Nat.le_trans (Nat.add_le_add h1 (Nat.le_trans h3 h2)) (by decide : 1000 + 1000 ≤ 2000)) (by decide)
theorem take_one {α : Type} {l : List α} {i : Nat} {x : α} (h : l[i]? = some x) : l.take (i + 1) = l.take i ++ [x] := by
  rw [List.take_add_one, h]
  rfl
theorem look_part {fs : List (Int × Str)} {i : Nat} {n : Int} {x : Str} (nd : (keys fs).Nodup) (h : fs[i]? = some (n, x)) : look (fs.take i) n = none := by
  refine look_none.mpr fun z => ?_
  have e := List.take_append_drop i fs
  have q : keys fs = keys (fs.take i) ++ keys (fs.drop i) := by rw [← keys_app, e]
  rw [q] at nd
  have := (List.nodup_append.mp nd).2.2 n z n ?_
  · exact this rfl
  · obtain ⟨hi, e2⟩ := List.getElem?_eq_some_iff.mp h
    have : (n, x) ∈ fs.drop i := by
      rw [List.mem_iff_getElem?]
      exact ⟨0, by rw [List.getElem?_drop]; exact h⟩
    exact List.mem_map_of_mem this
theorem united_old {es fs : List (Int × Str)} {i : Nat} {n : Int} {x : Str} {v : V} (nd : (keys fs).Nodup) (h : fs[i]? = some (n, x))
    (e : valV (ents (es ++ (fs.take i).filter fun q => !has es q.1)) (.inl n) = some v) :
    (es ++ (fs.take (i + 1)).filter fun q => !has es q.1) = es ++ (fs.take i).filter fun q => !has es q.1 := by
  rw [take_one h, List.filter_append]
  rw [valV_ents, look_app, look_filter fun k => !has es k, look_part nd h, ite_self, Option.or_none] at e
  have : has es n = true := by
    unfold has
    cases q : look es n with
    | none => rw [q] at e; cases e
    | some y => rfl
  rw [List.filter_cons, this]
  simp
theorem united_new {es fs : List (Int × Str)} {i : Nat} {n : Int} {x : Str} (nd : (keys fs).Nodup) (h : fs[i]? = some (n, x))
    (e : valV (ents (es ++ (fs.take i).filter fun q => !has es q.1)) (.inl n) = none) :
    putK (ents (es ++ (fs.take i).filter fun q => !has es q.1)) (.inl n) (.str x) = ents (es ++ (fs.take (i + 1)).filter fun q => !has es q.1) := by
  have e0 := e
  rw [valV_ents, look_app, look_filter fun k => !has es k, look_part nd h, ite_self, Option.or_none] at e
  have h0 : look es n = none := by
    cases q : look es n with
    | none => rfl
    | some y => rw [q] at e; cases e
  have : has es n = false := by unfold has; rw [h0]; rfl
  rw [take_one h, List.filter_append, List.filter_cons, this, ← List.append_assoc]
  refine put_new ?_
  refine look_none.mp ?_
  rw [valV_ents] at e0
  cases q : look (es ++ (fs.take i).filter fun q => !has es q.1) n with
  | none => rfl
  | some y => rw [q] at e0; cases e0
def iOr (w1 w2 : TI) : TI := fun σ H R => w1 σ H R ∨ w2 σ H R
theorem pi_or {X : Cx} {tg e : Expr} {w1 w2 : TI} (h1 : PI X tg e w1) (h2 : PI X tg e w2) : PI X tg e (iOr w1 w2) := by
  refine ⟨fun pins s σ H R I h => ?_⟩
  rcases h with h | h
  · exact h1.run pins s σ H R I h
  · exact h2.run pins s σ H R I h
theorem for_either {K : PySem.W.Frag} {a : Addr} {xs : List V} {g : TG} {tb : TS} {D : Ends} {σ : L2.St} {H : Hp} {tl : TE} {L : Hp → Prop} (hv : ∀ Q : VK, Q (.ref a) H → tl σ H Q)
    (hL : (∀ H, L H → SqL K H a xs) ∨ (∀ H, L H → SqT K H a xs)) (Pv : Nat → L2.St → Hp → Prop) (h0 : Pv 0 σ H) (hl : ∀ i σ H, i ≤ xs.length → Pv i σ H → L H)
    (hs : ∀ i x σ H, xs[i]? = some x → Pv i σ H → g x σ H fun σ2 H2 => tb { D with nx := Pv (i + 1), ct := Pv (i + 1), bk := D.nx } σ2 H2) (hd : ∀ σ H, Pv xs.length σ H → D.nx σ H) :
    tFor (iOr (iList K tl) (iTup K tl)) g tb D σ H := by
  rcases hL with h | h
  · exact .inl (hv _ ⟨a, rfl, ⟨xs, h _ (hl 0 _ _ (Nat.zero_le _) h0)⟩, for_list Pv h0 (fun i σ H hi p => h _ (hl i σ H hi p)) hs hd⟩)
  · exact .inr (hv _ ⟨a, rfl, ⟨xs, h _ (hl 0 _ _ (Nat.zero_le _) h0)⟩, for_tup Pv h0 (fun i σ H hi p => h _ (hl i σ H hi p)) hs hd⟩)
theorem kit_list (K : PySem.W.Frag) : PySem.W.kitAny K (.type "list") [.type "list", .type "tuple"] = some true :=
  kitAny_cons (b := true) (kit_ty (by decide +kernel)) (fun z => (nomatch z)) (fun _ => rfl)
theorem kit_tuple (K : PySem.W.Frag) : PySem.W.kitAny K (.type "tuple") [.type "list", .type "tuple"] = some true :=
  kitAny_cons (b := false) (kit_ty (by decide +kernel)) (fun _ => kitAny_cons (b := true) (kit_ty (by decide +kernel)) (fun z => (nomatch z)) (fun _ => rfl)) (fun z => (nomatch z))
theorem lt_ty {K : PySem.W.Frag} {H : Hp} {a : Addr} {xs : List V} (h : H a = some (.lst xs) ∨ SqT K H a xs) :
    ∃ t, TyX K H (.ref a) t ∧ PySem.W.kitAny K t [.type "list", .type "tuple"] = some true := by
  rcases h with h | (h | ⟨o, h⟩) | ⟨o, its, n, h1, h2, _⟩
  · exact ⟨_, .base (.lst h), kit_list K⟩
  · exact ⟨_, .base (.tup h), kit_tuple K⟩
  · exact ⟨_, .fTuple h, kit_tuple K⟩
  · exact ⟨_, .kTuple h1 h2, kit_tuple K⟩
theorem sqT_ext {K : PySem.W.Frag} {H H' : Hp} {a p : Addr} {xs : List V} (hp : H p = none) (e : Ext p H H') (h : SqT K H a xs) : SqT K H' a xs := by
  rcases h with (h | ⟨o, h⟩) | h
  · exact .inl (.inl (e _ _ (ne_of_none h hp) h))
  · exact .inl (.inr ⟨o, e _ _ (ne_of_none h hp) h⟩)
  · exact .inr h
theorem firsts_app (l : List (Int × Str)) (q : Int × Str) : firsts (l ++ [q]) = if has (firsts l) q.1 = true then firsts l else firsts l ++ [q] := by
  unfold firsts
  rw [List.foldl_append]
  rfl
theorem firsts_len (l : List (Int × Str)) : ∀ i, (firsts (l.take i)).length ≤ i
  | 0 => by rw [List.take_zero]; exact Nat.le_refl _
  | i + 1 => by
    have ih := firsts_len l i
    rw [List.take_add_one]
    cases h : l[i]? with
    | none => rw [Option.toList_none, List.append_nil]; omega
    | some q =>
      show (firsts (l.take i ++ [q])).length ≤ i + 1
      rw [firsts_app]
      split
      · omega
      · rw [List.length_append, List.length_singleton]; omega
theorem name_sm {x : Str} (h : nameOk x = true) : sm (.str x) := by
  unfold nameOk at h
  rw [Bool.and_eq_true, Bool.and_eq_true] at h
  have h1 := of_decide_eq_true h.1.1
  refine ⟨?_, .inl ?_⟩
  · show x.length ≤ 100000
    omega
  · show x.cps.all (· < 0x110000) = true
    rw [Array.all_eq_true']
    intro c hc
    have := List.all_eq_true.mp h.2 c (by simpa using hc)
    have m := of_decide_eq_true this
    have : ∀ c ∈ abc.cps.toList, c < 0x110000 := by decide
    exact decide_eq_true (this c m)
theorem el_sm {k : Int} {x : Str} (hk : 0 ≤ k ∧ k ≤ 999999) (h : nameOk x = true) : sm (.tuple [.int k, .str x]) := by
  have s := name_sm h
  unfold nameOk at h
  rw [Bool.and_eq_true, Bool.and_eq_true] at h
  have h1 := of_decide_eq_true h.1.1
  refine ⟨?_, .inl ?_⟩
  · show PyData.weightAll [.int k, .str x] ≤ 100000
    have e : x.cps.size = x.length := rfl
    have b : (if (k == 0) = true then 0 else k.natAbs.log2 + 1) ≤ 21 := by
      split
      · omega
      · rename_i z
        have nz : k.natAbs ≠ 0 := by
          intro q
          apply z
          rw [Int.natAbs_eq_zero.mp q]
          rfl
        have := (Nat.log2_lt nz (k := 20)).mpr (by omega)
        omega
    simp only [PyData.weightAll, PyData.weight]
    omega
  · rcases s.2 with q | ⟨_, q⟩
    · show (PyData.canLay0 (.int k) && (PyData.canLay0 (.str x) && true)) = true
      rw [q]; rfl
    · cases q
theorem el_ok {k : Int} {x : Str} (hk : 0 ≤ k ∧ k ≤ 999999) (h : nameOk x = true) : mEl (.tuple [.int k, .str x]) = true := by
  show ((decide (0 ≤ k) && decide (k ≤ 999999)) && nameOk x) = true
  rw [h, decide_eq_true hk.1, decide_eq_true hk.2]
  rfl
theorem el_dx {K : PySem.W.Frag} {H : Hp} {t : Addr} {k : Int} {x : Str} (h : SqT K H t [.int k, .str x]) : Dx K H (.ref t) (.tuple [.int k, .str x]) :=
  .of (.tup h (.cons (.int k) (.cons (.str x) .nil)))
end My
set_option Elab.async false
set_option maxRecDepth 100000
set_option maxHeartbeats 4000000
set_option linter.unusedVariables false
namespace My
open PySem PySem.Spec PyProof.Rows L2

def Den (C : Addr) (U : List Int) (σ : L2.St) (F : Hp → Prop) (t : TE) (es : List (Int × Str)) : Prop :=
  ∀ (H : Hp) (Q : VK), F H → (∀ y H', Same H H' → FS C U H' y es → Q (.ref y) H') → t σ H Q
def Stable (F : Hp → Prop) : Prop := ∀ H H', Same H H' → F H → F H'
section
variable {C : Addr} {U : List Int} {σ : L2.St} {F : Hp → Prop} {ta tb tc : TE} {es fs gs : List (Int × Str)} {f : List (Int × Str) → List (Int × Str) → List (Int × Str)} {K : PySem.W.Frag}
theorem den_var {i : Nat} {a : Addr} (e : σ[i]? = some (some (.ref a))) (h : ∀ H, F H → FS C U H a es) : Den C U σ F (tVar i) es :=
  fun H Q hf k => ⟨_, e, k a H (Same.refl H) (h H hf)⟩
theorem den_op (hF : Stable F) (ha : Den C U σ F ta es) (hb : Den C U σ F tb fs) : Den C U σ F (tOp (rBin C (spOp C f)) ta tb) (f es fs) := by
  intro H Q hf k
  refine ha H _ hf fun x H1 s1 hx => hb H1 _ (hF _ _ s1 hf) fun y H2 s2 hy => ?_
  have hx2 := hx.same s2
  have hy2 := hy
  obtain ⟨dx, d, e1, _⟩ := hx2
  obtain ⟨dy, d', e2, _⟩ := hy2
  exact ⟨x, y, _, _, _, _, rfl, rfl, e1, e2, U, x, y, es, fs, rfl, hx.same s2, hy, fun d H3 s3 hd => k d H3 ((s1.trans s2).trans s3) hd⟩
theorem den_meth {m : Str} (hm : ∀ v : V, List.lookup m [(("_forms" : Str), v)] = none) (hF : Stable F) (ha : Den C U σ F ta es) (hb : Den C U σ F tb fs) :
    Den C U σ F (tMeth C m (spOp C f) [] E0 ta (tCons tb tNil)) (f es fs) := by
  intro H Q hf k
  refine ha H _ hf fun x H1 s1 hx => ?_
  have hx1 := hx
  obtain ⟨dx, d, e1, _⟩ := hx1
  refine ⟨x, _, _, rfl, e1, hm _, hb H1 _ (hF _ _ s1 hf) fun y H2 s2 hy => ?_⟩
  exact ⟨U, x, y, es, fs, rfl, hx.same s2, hy, fun d H3 s3 hd => k d H3 ((s1.trans s2).trans s3) hd⟩
theorem den_join2 {m : Str} (hm : ∀ v : V, List.lookup m [(("_forms" : Str), v)] = none) (hF : Stable F) (ha : Den C U σ F ta es) (hb : Den C U σ F tb fs) (hc : Den C U σ F tc gs) :
    Den C U σ F (tMethR C m (spStar ["self"] (spJoin K C)) E0 ta (tCons tb (tCons tc tNil))) (united (united es fs) gs) := by
  intro H Q hf k
  refine ha H _ hf fun x H1 s1 hx => ?_
  have hx1 := hx
  obtain ⟨dx, d, e1, _⟩ := hx1
  refine ⟨x, _, _, rfl, e1, hm _, hb H1 _ (hF _ _ s1 hf) fun y H2 s2 hy => hc H2 _ (hF _ _ s2 (hF _ _ s1 hf)) fun z H3 s3 hz => ?_⟩
  refine ⟨[.ref x], [.ref y, .ref z], rfl, rfl, size_ok (by simp), fun p hp => ?_⟩
  have s4 := same_new hp (o := .tup [.ref y, .ref z])
  refine ⟨U, x, p, es, [.ref y, .ref z], [fs, gs], rfl, ((hx.same s2).same s3).same s4, .inl (.inl upd_same), .cons ((hy.same s3).same s4) (.cons (hz.same s4) .nil), fun d H5 s5 hd => ?_⟩
  exact k d H5 ((((s1.trans s2).trans s3).trans s4).trans s5) hd
theorem good_nil (hU : U.length ≤ 1000) : Good U [] := ⟨List.nodup_nil, fun _ h => (nomatch h), hU⟩
theorem den_mk0 (hU : U.length ≤ 1000) : Den C U σ F (tMk0 K C (spInit K C)) [] := by
  intro H Q hf k t ht x dx hx hdx hne
  refine ⟨x, dx, t, [], [], rfl, upd_same, .inr (ht _), .nil, by decide, fun d H' s hx' hd => ⟨rfl, k x H' ?_ ⟨dx, d, hx', hd, good_nil hU⟩⟩⟩
  intro b o e
  have n1 := ne_of_none e hx
  have n2 := ne_of_none e hdx
  have q := s b o ((del_at n1).trans ((upd_ne n1).trans ((upd_ne n2).trans e)))
  rw [del_at n1] at q
  exact q

theorem den_if {c1 c2 t1 t2 : TE} {es1 es2 : List (Int × Str)} {g1 g2 : List (Int × Str)} (hF : Stable F) (h1 : Den C U σ F c1 es1) (h2 : Den C U σ F c2 es2) (ht : Den C U σ F t1 g1) (he : Den C U σ F t2 g2) :
    Den C U σ F (tIf (tB (tOp (rI0 fun i j => V.bl (decide (i < j))) (tCB (rLen1 C (spLen C)) (tCons c1 tNil)) (tCB (rLen1 C (spLen C)) (tCons c2 tNil)))) t1 t2)
      (if es1.length < es2.length then g1 else g2) := by
  intro H Q hf k
  refine h1 H _ hf fun x H1 s1 hx => ?_
  have hx1 := hx
  obtain ⟨dx, d, e1, hd⟩ := hx1
  have l1 := hd.2.len
  refine ⟨x, _, _, rfl, e1, U, x, es1, rfl, hx, _, rfl, by omega, by omega, ?_⟩
  refine h2 H1 _ (hF _ _ s1 hf) fun y H2 s2 hy => ?_
  have hy1 := hy
  obtain ⟨dy, d2, e2, hd2⟩ := hy1
  have l2 := hd2.2.len
  refine ⟨y, _, _, rfl, e2, U, y, es2, rfl, hy, _, rfl, by omega, by omega, ?_⟩
  refine ⟨_, _, rfl, rfl, _, rfl, ?_⟩
  have hf2 := hF _ _ s2 (hF _ _ s1 hf)
  by_cases c : es1.length < es2.length
  · have c2 : ((es1.length : Nat) : Int) < ((es2.length : Nat) : Int) := by omega
    rw [if_pos c] at k
    rw [decide_eq_true c2]
    exact ht H2 _ hf2 fun z H3 s3 hz => k z H3 ((s1.trans s2).trans s3) hz
  · have c2 : ¬ ((es1.length : Nat) : Int) < ((es2.length : Nat) : Int) := by omega
    rw [if_neg c] at k
    rw [decide_eq_false c2]
    exact he H2 _ hf2 fun z H3 s3 hz => k z H3 ((s1.trans s2).trans s3) hz
end

abbrev Rl := List (Int × Str) → List (Int × Str) → Prop
def Pairs (C : Addr) (U : List Int) (R : Rl) (H : Hp) (ps : List V) : Prop := ∀ v ∈ ps, ∃ t x y es fs, v = V.ref t ∧ H t = some (.tup [.ref x, .ref y]) ∧ FS C U H x es ∧ FS C U H y fs ∧ R es fs
theorem Pairs.same {C : Addr} {U : List Int} {R : Rl} {H H' : Hp} {ps : List V} (h : Pairs C U R H ps) (s : Same H H') : Pairs C U R H' ps := fun v hv => by
  obtain ⟨t, x, y, es, fs, h1, h2, h3, h4, h5⟩ := h v hv
  exact ⟨t, x, y, es, fs, h1, s _ _ h2, h3.same s, h4.same s, h5⟩
theorem FS.upd {C : Addr} {U : List Int} {H : Hp} {D x : Addr} {ls : List V} {o : HO} {es : List (Int × Str)} (h : FS C U H x es) (e : H D = some (.lst ls)) : FS C U (upd H D o) x es := by
  obtain ⟨dx, d, h1, h2, h3⟩ := h
  refine ⟨dx, d, (upd_ne fun z => ?_).trans h1, (upd_ne fun z => ?_).trans h2, h3⟩
  · rw [z, e] at h1; cases h1
  · rw [z, e] at h2; cases h2
theorem Pairs.upd {C : Addr} {U : List Int} {R : Rl} {H : Hp} {D : Addr} {ls : List V} {o : HO} {ps : List V} (h : Pairs C U R H ps) (e : H D = some (.lst ls)) : Pairs C U R (L2.upd H D o) ps := fun v hv => by
  obtain ⟨t, x, y, es, fs, h1, h2, h3, h4, h5⟩ := h v hv
  exact ⟨t, x, y, es, fs, h1, (upd_ne fun z => by rw [z, e] at h2; cases h2).trans h2, h3.upd e, h4.upd e, h5⟩
theorem Pairs.app {C : Addr} {U : List Int} {R : Rl} {H : Hp} {ps qs : List V} (h : Pairs C U R H ps) (g : Pairs C U R H qs) : Pairs C U R H (ps ++ qs) := fun v hv => by
  rcases List.mem_append.mp hv with hv | hv
  · exact h v hv
  · exact g v hv

def DenL (C : Addr) (U : List Int) (R : Rl) (σ : L2.St) (F : Hp → Prop) (t : TA) (n : Nat) : Prop :=
  ∀ (H : Hp) (Q : List V → Hp → Prop), F H → (∀ qs H', Same H H' → qs.length = n → Pairs C U R H' qs → Q qs H') → t σ H Q
section
variable {C : Addr} {U : List Int} {R : Rl} {σ : L2.St} {F : Hp → Prop} {t1 t2 : TE} {t : TA} {es fs : List (Int × Str)} {n : Nat} {K : PySem.W.Frag}
theorem denl_nil : DenL C U R σ F tNil 0 := fun H Q _ k => k [] H (Same.refl H) rfl fun _ h => (nomatch h)
theorem denl_cons (hF : Stable F) (h1 : Den C U σ F t1 es) (h2 : Den C U σ F t2 fs) (r : R es fs) (ht : DenL C U R σ F t n) :
    DenL C U R σ F (tCons (tTup (tCons t1 (tCons t2 tNil))) t) (n + 1) := by
  intro H Q hf k
  refine h1 H _ hf fun x H1 s1 hx => h2 H1 _ (hF _ _ s1 hf) fun y H2 s2 hy => ⟨size_ok (by simp), fun p hp => ?_⟩
  have s3 := same_new hp (o := .tup [.ref x, .ref y])
  refine ht _ _ (hF _ _ s3 (hF _ _ s2 (hF _ _ s1 hf))) fun qs H4 s4 hl hp4 => ?_
  refine k _ H4 (((s1.trans s2).trans s3).trans s4) (by rw [List.length_cons, hl]) fun v hv => ?_
  rcases List.mem_cons.mp hv with rfl | hv
  · exact ⟨p, x, y, es, fs, rfl, s4 _ _ upd_same, ((hx.same s2).same s3).same s4, (hy.same s3).same s4, r⟩
  · exact hp4 v hv

structure Du (C : Addr) (U : List Int) (R : Rl) (vars : List (Addr × List (Int × Str))) (H0 : Hp) (D : Addr) (ps : List V) (H : Hp) : Prop where
  vs : ∀ p ∈ vars, FS C U H p.1 p.2
  here : H D = some (.lst ps)
  pr : Pairs C U R H ps
  fresh : H0 D = none
  ext : Ext D H0 H
def Vs (C : Addr) (U : List Int) (vars : List (Addr × List (Int × Str))) (H : Hp) : Prop := ∀ p ∈ vars, FS C U H p.1 p.2
theorem Vs.stable {vars : List (Addr × List (Int × Str))} : Stable (Vs C U vars) := fun H H' s h p hp => (h p hp).same s
theorem Du.stable {vars : List (Addr × List (Int × Str))} {H0 : Hp} {D : Addr} {ps : List V} : Stable (Du C U R vars H0 D ps) := fun H H' s h =>
  ⟨fun p hp => (h.vs p hp).same s, s _ _ h.here, h.pr.same s, h.fresh, h.ext.trans (Ext.of s)⟩
theorem du_start {vars : List (Addr × List (Int × Str))} {i : Nat} {D' : Ends} {H : Hp} (ht : DenL C U R σ (Vs C U vars) t n) (hn : n ≤ 1000) (h : Vs C U vars H)
    (k : ∀ D ps H', ps.length = n → Du C U R vars H D ps H' → D'.nx (σ.set i (some (.ref D))) H') : tAsg (tLst t) (gName i) D' σ H := by
  refine ht H _ h fun qs H1 s1 hl hq => ⟨size_ok (by omega), fun D hD => ?_⟩
  refine k D qs _ hl ⟨fun p hp => ((h p hp).same s1).same (same_new hD), upd_same, hq.same (same_new hD), s1.free hD, fun b o n e => (upd_ne n).trans (s1 _ _ e)⟩
theorem du_append {vars : List (Addr × List (Int × Str))} {H0 : Hp} {D : Addr} {ps : List V} {i : Nat} {D' : Ends} {H : Hp} (hσ : σ[i]? = some (some (.ref D)))
    (ht : DenL C U R σ (Du C U R vars H0 D ps) t 1) (hl : ps.length ≤ 1000) (h : Du C U R vars H0 D ps H)
    (k : ∀ qs H', qs.length = ps.length + 1 → Du C U R vars H0 D qs H' → D'.nx σ H') : tDrop (tBM K "list" rAppend (tVar i) t) D' σ H := by
  refine ⟨_, hσ, .inl ⟨rfl, ps, SqL.of h.here⟩, ?_⟩
  refine ht H _ h fun qs H1 s1 hq hp => ?_
  match qs, hq with
  | [y], _ =>
    have h1 := Du.stable H H1 s1 h
    refine ⟨D, ps, y, rfl, rfl, h1.here, Nat.lt_of_le_of_lt hl (by decide), ?_⟩
    refine k _ _ (by rw [List.length_append]; rfl) ⟨fun p hp => (h1.vs p hp).upd h1.here, upd_same, (h1.pr.app hp).upd h1.here, h1.fresh, fun b o n e => (upd_ne n).trans (h1.ext b o n e)⟩
theorem du_cat {vars : List (Addr × List (Int × Str))} {H0 : Hp} {D : Addr} {ps : List V} {i : Nat} {D' : Ends} {H : Hp} (hσ : σ[i]? = some (some (.ref D)))
    (ht : DenL C U R σ (Du C U R vars H0 D ps) t n) (hl : ps.length + n ≤ 1000) (h : Du C U R vars H0 D ps H)
    (k : ∀ D2 qs H', qs.length = ps.length + n → H' D2 = some (.lst qs) → Pairs C U R H' qs → Same H0 H' → D'.nx (σ.set i (some (.ref D2))) H') : tAsg (tOp rCat (tVar i) (tLst t)) (gName i) D' σ H := by
  refine ⟨_, hσ, ?_⟩
  refine ht H _ h fun qs H1 s1 hq hp => ⟨size_ok (by omega), fun p hp2 => ?_⟩
  have h1 := Du.stable H H1 s1 h
  have s2 := same_new hp2 (o := .lst qs)
  have h2 := Du.stable _ _ s2 h1
  refine ⟨D, p, ps, qs, rfl, rfl, h2.here, upd_same, size_ok (by omega), fun D2 hD2 => ?_⟩
  have s3 := same_new hD2 (o := .lst (ps ++ qs))
  have h3 := Du.stable _ _ s3 h2
  refine k D2 _ _ (by rw [List.length_append, hq]) upd_same (h3.pr.app ((hp.same s2).same s3)) fun b o e => h3.ext b o (ne_of_none e h3.fresh) e
end
end My
set_option Elab.async false
set_option maxRecDepth 100000
set_option maxHeartbeats 4000000
set_option linter.unusedVariables false
namespace My
open PySem PySem.Spec PyProof.Rows L2
theorem allB (n : Nat) : (List.replicate n true).all id = true := by
  rw [List.all_eq_true]
  intro b hb
  rw [(List.mem_replicate.mp hb).2]
  rfl

theorem pairs_all {C : Addr} {U : List Int} {R : Rl} {K : PySem.W.Frag} {σ : L2.St} {H : Hp} {D' : Ends} {i j l : Nat} {D : Addr} {qs : List V} {te : TE} (hσ : σ[i]? = some (some (.ref D))) (hD : H D = some (.lst qs)) (hp : Pairs C U R H qs) (hl : qs.length ≤ 1000)
    (hw : ∀ x y, wipe (((wipe σ [j, l]).set j x).set l y) [j, l] = wipe σ [j, l])
    (hte : ∀ x y es fs H1 (Q : VK), FS C U H1 x es → FS C U H1 y fs → R es fs → (∀ H2, Same H1 H2 → Q (.bl true) H2) → te (((wipe σ [j, l]).set j (some (.ref x))).set l (some (.ref y))) H1 Q)
    (k : ∀ H', Same H H' → D'.rt (.bl true) H') :
    tRet (tCB (rAll K) (tCons (tLc (iList K (tVar i)) (gTup K 2 (gCons (gName j) (gCons (gName l) gNil))) tYes te [j, l]) tNil)) D' σ H := by
  refine ⟨_, hσ, D, rfl, ⟨qs, SqL.of hD⟩, fun E hE => ?_⟩
  refine lc_list (xs := qs) (fun i H' => Ext E H H' ∧ H' E = some (.lst ((List.replicate i true).map V.bl))) ?_ ?_ ?_ ?_
  · exact ⟨fun b o n e => (upd_ne n).trans e, upd_same⟩
  · rintro i H' hi ⟨x, _⟩
    exact SqL.of (x _ _ (ne_of_none hD hE) hD)
  · rintro i v H' hv ⟨x, hd⟩
    obtain ⟨t, y, z, es, fs, rfl, h2, h3, h4, h5⟩ := hp v (List.mem_of_getElem? hv)
    refine ⟨t, _, rfl, .inl (.inl (x _ _ (ne_of_none h2 hE) h2)), rfl, _, _, rfl, _, _, rfl, rfl, hw _ _, ?_⟩
    have hd2 : ∀ {y es}, FS C U H y es → FS C U H' y es := by
      rintro y es ⟨dx, d, q1, q2, q3⟩
      exact ⟨dx, d, x _ _ (ne_of_none q1 hE) q1, x _ _ (ne_of_none q2 hE) q2, q3⟩
    refine hte y z es fs H' _ (hd2 h3) (hd2 h4) h5 fun H2 s2 => ?_
    refine ⟨_, s2 _ _ hd, ?_, ?_, upd_same.trans ?_⟩
    · rw [List.length_map, List.length_replicate]
      have := (List.getElem?_eq_some_iff.mp hv).1
      exact small1000 (by omega)
    · exact fun b o n e => (upd_ne n).trans (s2 _ _ (x b o n e))
    · rw [List.replicate_succ', List.map_append]
      rfl
  · rintro H' ⟨x, hd⟩
    refine ⟨E, _, rfl, SqL.of hd, ?_⟩
    rw [allB]
    exact k _ fun b o e => x b o (ne_of_none e hE) e

theorem look_mem {es : List (Int × Str)} {k : Int} {x : Str} (h : look es k = some x) : (k, x) ∈ es := by
  induction es with
  | nil => cases h
  | cons p r ih =>
    rw [look_cons] at h
    by_cases e : p.1 = k
    · rw [if_pos e] at h
      cases h
      subst e
      exact List.mem_cons_self
    · rw [if_neg e] at h
      exact List.mem_cons_of_mem _ (ih h)
theorem keys_len (es : List (Int × Str)) : (keys es).length = es.length := List.length_map _
theorem len_of_has {U V : List Int} {es fs : List (Int × Str)} (g : Good U es) (h : Good V fs) (e : ∀ k, has es k = has fs k) : es.length = fs.length := by
  rw [← keys_len, ← keys_len]
  refine Nat.le_antisymm (nodup_sub g.1 fun k hk => ?_) (nodup_sub h.1 fun k hk => ?_)
  · rw [← has_iff] at hk ⊢
    rw [← e]; exact hk
  · rw [← has_iff] at hk ⊢
    rw [e]; exact hk
theorem alike_of {U V : List Int} {es fs : List (Int × Str)} (g : Good U es) (h : Good V fs) (e : ∀ k, look es k = look fs k) : alike es fs :=
  ⟨len_of_has g h fun k => by unfold has; rw [e], fun p hp => by rw [← e]; exact look_ents g.1 hp⟩
theorem alike_same {U : List Int} {es : List (Int × Str)} (g : Good U es) : alike es es := alike_of g g fun _ => rfl
theorem Good.smaller {U : List Int} {es fs : List (Int × Str)} (g : Good U es) (h : Good U fs) : Good U (smaller es fs) := by
  unfold My.smaller
  split
  · exact g.common fs
  · exact h.common es
theorem Good.apart {U : List Int} {es fs : List (Int × Str)} (g : Good U es) (h : Good U fs) : Good U (apart es fs) := (g.rest fs).united (h.rest es)
theorem look_apart (es fs : List (Int × Str)) (k : Int) : look (apart es fs) k = (if (look fs k).isSome = true then none else look es k).or (if (look es k).isSome = true then none else look fs k) := by
  unfold apart
  rw [look_united, look_rest, look_rest]
theorem has_united (es fs : List (Int × Str)) (k : Int) : has (united es fs) k = (has es k || has fs k) := by
  unfold has; rw [look_united]; cases look es k <;> rfl
theorem has_common (es fs : List (Int × Str)) (k : Int) : has (common es fs) k = (has es k && has fs k) := by
  unfold has; rw [look_common]; cases look es k <;> cases look fs k <;> rfl
theorem has_rest (es fs : List (Int × Str)) (k : Int) : has (rest es fs) k = (has es k && !has fs k) := by
  unfold has; rw [look_rest]; cases look es k <;> cases look fs k <;> rfl
theorem has_apart (es fs : List (Int × Str)) (k : Int) : has (apart es fs) k = ((has es k && !has fs k) || (has fs k && !has es k)) := by
  unfold apart; rw [has_united, has_rest, has_rest]
theorem has_smaller (es fs : List (Int × Str)) (k : Int) : has (smaller es fs) k = (has es k && has fs k) := by
  unfold smaller
  split
  · exact has_common es fs k
  · rw [has_common, Bool.and_comm]
theorem good_if {U : List Int} {c : Prop} [Decidable c] {es fs : List (Int × Str)} (g : Good U es) (h : Good U fs) : Good U (if c then es else fs) := by
  split
  · exact g
  · exact h
def likeK : Rl := fun es fs => likeKeys es fs ∧ es.length = fs.length
theorem likeK_of {U V : List Int} {es fs : List (Int × Str)} (g : Good U es) (h : Good V fs) (e : ∀ k, has es k = has fs k) : likeK es fs := ⟨e, len_of_has g h e⟩
end My
set_option Elab.async false
set_option maxRecDepth 100000
set_option maxHeartbeats 4000000
set_option linter.unusedVariables false
namespace My
open PySem PySem.Spec PyProof.Rows L2
theorem sqT_chg {K : PySem.W.Frag} {H H' : Hp} {a t : Addr} {ls xs : List V} (e : H a = some (.lst ls)) (x : Ext a H H') (h : SqT K H t xs) : SqT K H' t xs := by
  rcases h with (h | ⟨o, h⟩) | h
  · exact .inl (.inl (x _ _ (fun z => by rw [z, e] at h; cases h) h))
  · exact .inl (.inr ⟨o, x _ _ (fun z => by rw [z, e] at h; cases h) h⟩)
  · exact .inr h
theorem ElAll.chg {K : PySem.W.Frag} {H H' : Hp} {a : Addr} {ls : List V} (e : H a = some (.lst ls)) (x : Ext a H H') : ∀ {vs : List V} {es : List (Int × Str)}, ElAll K H vs es → ElAll K H' vs es
  | _, _, .nil => .nil
  | _, _, .cons h hk hx r => .cons (sqT_chg e x h) hk hx (ElAll.chg e x r)
theorem ElAll.app {K : PySem.W.Frag} {H : Hp} {t : Addr} {k : Int} {x : Str} (h : SqT K H t [.int k, .str x]) (hk : 0 ≤ k ∧ k ≤ 999999) (hx : nameOk x = true) :
    ∀ {vs : List V} {es : List (Int × Str)}, ElAll K H vs es → ElAll K H (vs ++ [.ref t]) (es ++ [(k, x)])
  | _, _, .nil => .cons h hk hx .nil
  | _, _, .cons h1 hk1 hx1 r => .cons h1 hk1 hx1 (ElAll.app h hk hx r)
theorem firsts_from : ∀ (l acc : List (Int × Str)), (keys acc).Nodup →
    (keys (l.foldl (fun acc p => if has acc p.1 = true then acc else acc ++ [p]) acc)).Nodup ∧
    ∀ k ∈ keys (l.foldl (fun acc p => if has acc p.1 = true then acc else acc ++ [p]) acc), k ∈ keys acc ∨ k ∈ keys l
  | [], acc, nd => ⟨nd, fun k h => .inl h⟩
  | p :: r, acc, nd => by
    rw [List.foldl_cons]
    by_cases h : has acc p.1 = true
    · rw [if_pos h]
      obtain ⟨h1, h2⟩ := firsts_from r acc nd
      exact ⟨h1, fun k hk => (h2 k hk).imp id (List.mem_cons_of_mem _)⟩
    · rw [if_neg h]
      have nd2 : (keys (acc ++ [p])).Nodup := by
        rw [keys_app]
        refine List.nodup_append.mpr ⟨nd, List.nodup_cons.mpr ⟨List.not_mem_nil, List.nodup_nil⟩, fun a ha b hb e => ?_⟩
        have : b = p.1 := by simpa [keys] using hb
        subst this
        subst e
        exact h (has_iff.mpr ha)
      obtain ⟨h1, h2⟩ := firsts_from r _ nd2
      refine ⟨h1, fun k hk => ?_⟩
      rcases h2 k hk with q | q
      · rw [keys_app] at q
        rcases List.mem_append.mp q with q | q
        · exact .inl q
        · exact .inr (by simp [keys] at q ⊢; exact .inl q)
      · exact .inr (List.mem_cons_of_mem _ q)
theorem good_firsts {U : List Int} {l : List (Int × Str)} (h : ∀ p ∈ l, p.1 ∈ U) (hU : U.length ≤ 1000) : Good U (firsts l) := by
  obtain ⟨h1, h2⟩ := firsts_from l [] List.nodup_nil
  refine ⟨h1, fun k hk => ?_, hU⟩
  rcases h2 k hk with q | q
  · cases q
  · obtain ⟨p, hp, rfl⟩ := List.mem_map.mp q
    exact h p hp
theorem below_len (m : Nat) : (below m).length = m := by unfold below; rw [List.length_map, List.length_range]
theorem below_mem {m : Nat} {k : Int} (h0 : 0 ≤ k) (h1 : k < m) : k ∈ below m := by
  unfold below
  refine List.mem_map.mpr ⟨k.toNat, List.mem_range.mpr (by omega), by omega⟩
theorem name_two : ∀ x : Str, (x = "p" ∨ x = "q" ∨ x = "r") → ∀ y : Str, (y = "x" ∨ y = "y") → nameOk (x ++ y) = true := by
  rintro x (rfl | rfl | rfl) y (rfl | rfl) <;> decide +kernel
theorem made_same {H : Hp} {x dx C : Addr} {fs : List (Str × V)} (hx : H x = none) (hdx : H dx = none) (hne : dx ≠ x) : Same H (upd (upd H dx (.own x)) x (.ins C dx fs)) :=
  (same_new hdx).trans (same_new ((upd_ne (Ne.symm hne)).trans hx))
theorem FS.chg {C : Addr} {U : List Int} {H H' : Hp} {g x : Addr} {ls : List V} {es : List (Int × Str)} (e : H g = some (.lst ls)) (s : Ext g H H') (h : FS C U H x es) : FS C U H' x es := by
  obtain ⟨dx, d, h1, h2, h3⟩ := h
  exact ⟨dx, d, s _ _ (fun z => by rw [z, e] at h1; cases h1) h1, s _ _ (fun z => by rw [z, e] at h2; cases h2) h2, h3⟩
theorem FSs.chg {C : Addr} {U : List Int} {H H' : Hp} {g : Addr} {ls : List V} (e : H g = some (.lst ls)) (s : Ext g H H') : ∀ {vs : List V} {es : List (List (Int × Str))}, FSs C U H vs es → FSs C U H' vs es
  | _, _, .nil => .nil
  | _, _, .cons h r => .cons (h.chg e s) (FSs.chg e s r)
theorem FSs.app {C : Addr} {U : List Int} {H : Hp} {x : Addr} {es : List (Int × Str)} (h : FS C U H x es) : ∀ {vs : List V} {ls : List (List (Int × Str))}, FSs C U H vs ls → FSs C U H (vs ++ [.ref x]) (ls ++ [es])
  | _, _, .nil => .cons h .nil
  | _, _, .cons h1 r => .cons h1 (FSs.app h r)
theorem ext_del {g : Addr} {H H' : Hp} (s : Same (del g H) (del g H')) : Ext g H H' := fun b o n e => by
  have q := s b o ((del_at n).trans e)
  rw [del_at n] at q
  exact q
theorem FSs.pick {C : Addr} {U : List Int} {H : Hp} {vs : List V} {ls : List (List (Int × Str))} (h : FSs C U H vs ls) {i : Int} (h0 : 0 ≤ i) (h1 : i < vs.length) : ∃ x es, atI vs i = some (.ref x) ∧ FS C U H x es := by
  have hlt : i.toNat < vs.length := by omega
  obtain ⟨x, es, e, _, f⟩ := h.at (List.getElem?_eq_getElem hlt)
  refine ⟨x, es, ?_, f⟩
  rw [← e]
  unfold atI ixN
  rw [if_pos h0, if_pos h1]
  simp [hlt]
end My
set_option Elab.async false
set_option maxRecDepth 100000
set_option maxHeartbeats 4000000
set_option linter.unusedVariables false
namespace My
open PySem PySem.Spec PyProof.Rows L2

theorem above_go (n : Nat) : ∀ fuel size, SetTable.sizeAbove.go n fuel size ≤ max size (2 * n)
  | 0, size => by unfold SetTable.sizeAbove.go; exact Nat.le_max_left _ _
  | fuel + 1, size => by
    unfold SetTable.sizeAbove.go
    split
    · have := above_go n fuel (size * 2)
      omega
    · exact Nat.le_max_left _ _
theorem above_le {n : Nat} (h : n ≤ 100000) : ¬ SetTable.sizeAbove n > sizeLine := by
  have := above_go n 64 8
  have e : SetTable.sizeAbove n = SetTable.sizeAbove.go n 64 8 := rfl
  rw [e]
  have z : (200000 : Nat) ≤ sizeLine := by decide
  omega
theorem clean_nil (m : Nat) : SetTable.layClean m #[] = some (Array.replicate (m + 1) none) := rfl
theorem none_all (m j : Nat) : (Array.replicate m (none : Option Nat)).getD j none = none := by
  simp [Array.getD]
theorem live_nil (m : Nat) : ((List.range (m + 1)).filterMap fun j => ((Array.replicate (m + 1) (none : Option Nat)).getD j none).map (j, ·)) = [] := by
  rw [List.filterMap_eq_nil_iff]
  intro j _
  rw [none_all]
  rfl
theorem relaid_nil (t : SetTable) (wanted : Nat) : ∃ t', t.relaid #[] wanted = some (t', #[]) ∧ t'.place = #[] ∧ t'.dummies = #[] ∧ t'.led = t.led := by
  unfold SetTable.relaid SetTable.laid
  rw [clean_nil]
  refine ⟨⟨SetTable.sizeAbove wanted - 1, #[], #[], t.finger, t.led, t.movedTo (SetTable.sizeAbove wanted - 1), t.plain⟩, ?_, rfl, rfl, rfl⟩
  show some _ = some _
  rw [live_nil]
  rfl
section
variable {P : Program} {w : World} {s : Shared} {A : Around} {E : Value → Shared → Prop}
theorem room_for {a : Addr} {n ep : Nat} {o : Obj} {t : SetTable} {Q : Unit → Shared → Prop} (hn : n ≤ 1000) (ho : s.heap.get? a = some o) (hx : o.ExactSet) (hd : o.data = .set #[] ep t) (hp : t.place = #[]) (hdm : t.dummies = #[])
    (hl : w.params.followText "set-order" = true ∨ t.led = true)
    (h : ∀ h', Heap.SameBut a s.heap h' → SetR w h' a (fun _ => false) 0 → Q () { s with heap := h' }) : wpAny (model P w) A (setRoomFor a n) Q E s := by
  have hf : t.fits (#[] : Array (Int × Value)).size = true := by
    unfold SetTable.fits SetTable.fill
    rw [hp, hdm]
    rfl
  unfold setRoomFor
  refine wpAny_bind (wpAny_setState_of ho hd hf ?_)
  dsimp only
  have stay : SetR w s.heap a (fun _ => false) 0 := ⟨o, #[], ep, t, ho, hx, hd, (fun e he => by simp at he), (by simp), (fun k => by simp), (by decide), hf, rfl, by rw [hp]; exact List.Pairwise.nil, hl⟩
  cases hr : t.roomFor n with
  | none =>
    dsimp only
    exact wpAny_pure (h _ (Heap.SameBut.refl a s.heap) stay)
  | some wanted =>
    dsimp only
    have hw : wanted ≤ 100000 := by
      unfold SetTable.roomFor at hr
      split at hr
      · cases hr
        rw [hp]
        show (0 + n) * 2 ≤ 100000
        omega
      · cases hr
    obtain ⟨t', e1, e2, e3, e4⟩ := relaid_nil t wanted
    unfold setRelay
    refine wpAny_bind (wpAny_setState_of ho hd hf ?_)
    dsimp only
    refine wp_if_neg (above_le hw) ?_
    have er : (#[] : Array (Int × Value)).map (·.1) = #[] := by simp
    rw [er, e1]
    refine wpAny_bind (wpAny_pure (M := model P w) (A := A) (E := E) (s := s) (a := ((#[] : Array (Int × Value)), t')) ?_)
    refine wpAny_storeSet_of ho hd (h _ (Heap.SameBut.update s.heap a (Obj.putSet #[] t')) ?_) (by show 0 ≤ sizeLine; exact Nat.zero_le _)
    refine ⟨_, #[], _, t', store_at ho hd, hx, rfl, (fun e he => by simp at he), (by simp), (fun k => by simp), (by decide), ?_, rfl, by rw [e2]; exact List.Pairwise.nil, hl.imp id fun z => by rw [e4]; exact z⟩
    unfold SetTable.fits SetTable.fill
    rw [e2, e3]
    rfl

def IntKeys (es : Array DictEntry) (ns : List Int) : Prop := es.size = ns.length ∧ ∀ (i : Nat) (n : Int), ns[i]? = some n → ∃ (e : DictEntry) (tk : Tok), es[i]? = some e ∧ e.key = Value.int n tk ∧ e.hash = hashInt n

abbrev bare (w : World) : Obj := { cls := .type "set", dict := none, data := .set #[] 0 (.fresh 0 0 (!w.params.followText "set-order")) }
theorem bare_led (w : World) : w.params.followText "set-order" = true ∨ (SetTable.fresh 0 0 (!w.params.followText "set-order")).led = true := by
  show w.params.followText "set-order" = true ∨ (!w.params.followText "set-order") = true
  cases q : w.params.followText "set-order" <;> simp
theorem not_before {ns : List Int} {i : Nat} (nd : ns.Nodup) (h : i < ns.length) : ns[i] ∉ ns.take i := by
  intro z
  have e := List.take_append_drop i ns
  rw [← e] at nd
  refine (List.nodup_append.mp nd).2.2 _ z _ ?_ rfl
  rw [List.mem_iff_getElem?]
  exact ⟨0, by rw [List.getElem?_drop]; exact List.getElem?_eq_getElem h⟩
set_option maxHeartbeats 3200000 in
theorem call_set_dict {l : Addr} {od : Obj} {es : Array DictEntry} {ep : Nat} (ns : List Int) {Q : Value → Shared → Prop} (hl : s.heap.get? l = some od) (hcd : od.cls = .type "dict") (hod : od.data = .dict es ep)
    (hsm : (l == sysModules) = false) (hk : IntKeys es ns) (nd : ns.Nodup) (hb : ns.length ≤ 1000)
    (done : ∀ h' : Heap, SetR w h' s.heap.objs.size (fun j => decide (j ∈ ns)) ns.length → (∀ b o, s.heap.get? b = some o → h'.get? b = some o) → Q (.ref s.heap.objs.size) { s with heap := h' }) :
    wpAny (model P w) A (call (.type "set") [.ref l]) Q E s := by
  obtain ⟨_, _, m1⟩ := F.called_set.mro
  have m2 := F.called_set.made; have m3 := F.called_set.sub; have m4 := F.called_set.notType; have m5 := F.called_set.canCreate
  have m6 := F.typeCall_set_1 (.ref l)
  refine wpAny_call (codeAny_of_tree (show wpAny _ _ (callAny (.type "set") _) _ _ _ from wpAny_pure ⟨Code.quiet_builtin _ (by decide +kernel), codeAny_builtin F.entry_type_call ?_⟩))
  rw [Around.under_plain (weight_type_call_type "set" [Value.ref l] []) rfl]
  repeat any_goals first | assumption | wp_step
  refine codeAny_mono (code_set_led1 (.ref l) (E := E) (Q₁ := fun x s₁ => x = .ref s.heap.objs.size ∧ s₁ = { s with heap := s.heap.push (bare w) }) ⟨rfl, rfl⟩) ?_
  rintro (e | fl) s₁ hr
  · exact hr
  cases fl with
  | next | brk | cont => exact hr.elim
  | ret obj =>
    obtain ⟨rfl, rfl⟩ := hr
    have at0 : (s.heap.push (bare w)).get? s.heap.objs.size = some (bare w) := Heap.get?_push_size _ rfl
    have ty : Shared.TypeIs { s with heap := s.heap.push (bare w) } (.ref s.heap.objs.size) "set" := ⟨_, at0, rfl⟩
    have m7 := F.called_set.init.lookup; have m8 := F.called_set.init.bind (.ref s.heap.objs.size)
    repeat any_goals first | assumption | wp_step
    refine codeAny_mono (codeAny_call_builtin (R := wants (fun r s₂ => r = .none ∧ ∃ h', s₂ = { s with heap := h' } ∧ SetR w h' s.heap.objs.size (fun j => decide (j ∈ ns)) ns.length ∧
        ∀ b o, s.heap.get? b = some o → h'.get? b = some o) E) F.called_set.init.plain F.entry_set_init (check_set_init_1 ty ?body)) ?back
    case back =>
      rintro (e | fl) s₂ hr
      · exact hr
      cases fl with
      | next | brk | cont => exact hr.elim
      | ret r =>
        obtain ⟨rfl, h', rfl, hS, hK⟩ := hr
        repeat any_goals first | assumption | wp_step
        exact done _ hS hK
    case body =>
      obtain ⟨oc, odi, oda, osl⟩ := od
      simp only at hcd hod
      subst hcd hod
      have lt : l < s.heap.objs.size := Heap.lt_size hl
      have at1 : (s.heap.push (bare w)).get? l = some { cls := .type "dict", dict := odi, data := .dict es ep, slots := osl } := Heap.get?_push_of_some _ hl
      have n1 := F.sub_dict_set; have n2 := F.sub_dict_frozenset
      have n3 : (Value.type "dict" == Value.type "dict") = true := by decide
      unfold Builtin.«set.__init__»; unfold noKeywords Builtin.Frozenset.updateFrom
      generalize hRF : setRoomFor = RF
      wp_walk
      subst hRF
      have size : es.size = ns.length := hk.1
      refine room_for (t := .fresh 0 0 (!w.params.followText "set-order")) (by omega) at0 ⟨rfl, rfl, rfl⟩ rfl rfl rfl (bare_led w) fun h1 b1 r1 => ?_
      have ne : l ≠ s.heap.objs.size := Nat.ne_of_lt lt
      have at2 : ∀ h2 : Heap, Heap.SameBut s.heap.objs.size h1 h2 → h2.get? l = some { cls := .type "dict", dict := odi, data := .dict es ep, slots := osl } := by
        intro h2 b2
        rw [b2.2 l ne, b1.2 l ne]
        exact at1
      refine wpAny_bind (wpAny_dictEntries (at2 h1 (Heap.SameBut.refl _ h1)) rfl ?_)
      refine wpAny_bind (PySem.SeqAt.wpAny_forIn_span 0 es.size _ (fun i _ s' => ∃ h', s' = { s with heap := h' } ∧ Heap.SameBut s.heap.objs.size h1 h' ∧ SetR w h' s.heap.objs.size (fun j => decide (j ∈ ns.take i)) i) _ ?turn ?out _ ?start)
      case start => exact ⟨h1, rfl, Heap.SameBut.refl _ h1, by simpa using r1⟩
      case out =>
        rintro _ _ ⟨h2, rfl, b2, r2⟩
        rw [Nat.zero_max, size, List.take_length] at r2
        refine wpAny_pure ?_
        show wpAny _ _ (ret .none) _ _ _
        refine wpAny_pure ⟨rfl, h2, rfl, r2, fun b o e => ?_⟩
        have nb : b ≠ s.heap.objs.size := Nat.ne_of_lt (Heap.lt_size e)
        rw [b2.2 b nb, b1.2 b nb]
        exact (Heap.get?_push_of_some _ e)
      case turn =>
        rintro i _ _ _ hi ⟨h2, rfl, b2, r2⟩
        have hlt : i < ns.length := by omega
        obtain ⟨e, tk, e1, e2, e3⟩ := hk.2 i ns[i] (List.getElem?_eq_getElem hlt)
        refine wpAny_bind (wpAny_dictEntries (at2 h2 b2) rfl ?_)
        rw [e1]
        dsimp only
        rw [e2, e3]
        have fresh := not_before nd hlt
        refine wpAny_bind (wpAny_holding (setR_add_hashed (s := { s with heap := h2 }) r2 (by rw [show scanBound = 4096 from rfl]; omega) fun h3 b3 r3 => ?_))
        refine wpAny_bind (wpAny_dictEpoch (at2 h3 (b2.trans b3)) rfl ?_)
        rw [bne_self_eq_false]
        refine wpAny_pure ⟨h3, rfl, b2.trans b3, ?_⟩
        rw [decide_eq_false fresh, if_neg (by simp)] at r3
        refine r3.congr fun j => ?_
        rw [take_one (List.getElem?_eq_getElem hlt), ← Bool.decide_or]
        exact decide_eq_decide.mpr (by rw [List.mem_append, List.mem_singleton])
end
end My
set_option Elab.async false
set_option maxRecDepth 100000
set_option maxHeartbeats 4000000
set_option linter.unusedVariables false
namespace My
open PySem PySem.Spec PyProof.Rows L2
theorem slot_set_eq : Slot "set" (cmpInfo .Eq).2.1 "set.__eq__" :=
  .of (owner := "set") (n := "__eq__") (by rw [typeLookup_type, builtinLookup_eq_fast]; kernel_rfl) (by decide +kernel) (by decide +kernel) (by decide +kernel) (by first | exact .inl (by decide +kernel) | exact .inr (by decide +kernel)) (by rw [isSubtype_type]; kernel_rfl)
theorem entry_set_eq : entryFor table "set.__eq__" = some Builtin.«frozenset.__eq__» :=
  entryFor_alias (id' := "frozenset.__eq__") (by kernel_rfl) rfl (by decide +kernel) (by kernel_rfl)
theorem args_set_eq_2 (a b : Value) : argsOk "set.__eq__" ⟨[a, b], []⟩ := by unfold argsOk; kernel_rfl
section
variable {P : Program} {w : World} {A : Around} {E : Value → Shared → Prop} {s : Shared}
theorem quiet_int {k : Int} {tk : Tok} {A' : Around} {Q : Bool → Shared → Prop} (h : Q true s) : wpAny (model P w) A' (Builtin.Frozenset.quietEq (.int k tk)) Q E s := wpAny_pure h
theorem is_int {k : Int} {v : Value} (h : (intKind P w).is k v = true) : ∃ tk, v = .int k tk := Value.isInt_shape h
theorem walk_quiet {a b : Addr} {oa ob : Obj} {ea eb : Array (Int × Value)} {epa epb : Nat} {ta tb : SetTable} {A' : Around} {Q : List (Int × Value) → Shared → Prop} (hoa : s.heap.get? a = some oa) (hda : oa.data = .set ea epa ta) (hfa : ta.fits ea.size = true)
    (hob : s.heap.get? b = some ob) (hdb : ob.data = .set eb epb tb) (hfb : tb.fits eb.size = true) (ga : ElemsOf (intKind P w) ea.toList) (gb : ElemsOf (intKind P w) eb.toList) (h : Q ea.toList s) :
    wpAny (model P w) A' (Builtin.Frozenset.walkUnseen a b) Q E s := by
  have se : ∀ {c : Addr} {o : Obj} {es : Array (Int × Value)} {ep : Nat} {t : SetTable} {Q' : Array (Int × Value) → Shared → Prop}, s.heap.get? c = some o → o.data = .set es ep t → t.fits es.size = true → Q' es s →
      wpAny (model P w) A' (setEntries c) Q' E s := by
    intro c o es ep t Q' ho hd hf h
    unfold setEntries
    exact wpAny_bind (wpAny_setState_of ho hd hf (wpAny_pure h))
  unfold Builtin.Frozenset.walkUnseen
  refine wpAny_bind (se hoa hda hfa ?_)
  refine wpAny_bind (se hob hdb hfb ?_)
  refine wpAny_bind (wpAny_forIn_list _ (fun rest r s' => r.1 = none ∧ s' = s ∧ ∀ e ∈ rest, ∃ k tk, e.2 = Value.int k tk) _ ?_ ?_ _ _ ?_)
  · rintro ⟨hh, x⟩ rest r s' ⟨hr, rfl, hi⟩
    obtain ⟨k, tk, e⟩ := hi _ List.mem_cons_self
    dsimp only at e
    subst e
    refine wpAny_bind (quiet_int ?_)
    simp only [Bool.not_true, Bool.false_eq_true, if_false]
    exact wpAny_pure ⟨rfl, rfl, fun e he => hi e (List.mem_cons_of_mem _ he)⟩
  · rintro ⟨r, u⟩ s' ⟨hr, rfl, _⟩
    dsimp only at hr
    subst hr
    exact wpAny_pure h
  · refine ⟨rfl, rfl, fun e he => ?_⟩
    rcases List.mem_append.mp he with he | he
    · obtain ⟨⟨k, hk, _⟩, _⟩ := ga e he
      obtain ⟨tk, q⟩ := is_int hk
      exact ⟨k, tk, q⟩
    · obtain ⟨⟨k, hk, _⟩, _⟩ := gb e he
      obtain ⟨tk, q⟩ := is_int hk
      exact ⟨k, tk, q⟩
theorem subset_true {a b : Addr} {S : Int → Bool} {n : Nat} {nm : String} {A' : Around} {Q : Bool → Shared → Prop} (ha : s.heap.SetOf (intKind P w) a S n) (hb : s.heap.SetOf (intKind P w) b S n) (h : Q true s) :
    wpAny (model P w) A' (Builtin.Frozenset.subsetOf nm a b) Q E s := by
  obtain ⟨oa, ea, epa, ta, hoa, hxa, hda, hela, hma, hba, hfa, hna⟩ := id ha
  obtain ⟨ob, eb, epb, tb, hob, hxb, hdb, helb, hmb, hbb, hfb, hnb⟩ := id hb
  have sz : ∀ {c : Addr} {o : Obj} {es : Array (Int × Value)} {ep : Nat} {t : SetTable} {Q' : Nat → Shared → Prop} {A' : Around}, s.heap.get? c = some o → o.data = .set es ep t → t.fits es.size = true → Q' es.size s →
      wpAny (model P w) A' (Builtin.Frozenset.sizeOf c) Q' E s := by
    intro c o es ep t Q' A' ho hd hf h
    unfold Builtin.Frozenset.sizeOf setEntries
    exact wpAny_bind (wpAny_bind (wpAny_setState_of ho hd hf (wpAny_pure (wpAny_pure h))))
  unfold Builtin.Frozenset.subsetOf
  refine wpAny_bind (sz hoa hda hfa ?_)
  refine wpAny_bind (sz hob hdb hfb ?_)
  rw [hna, hnb, if_neg (by omega)]
  refine wpAny_bind (wpAny_setEpoch_of hoa hda hfa ?_)
  refine wpAny_bind (walk_quiet hoa hda hfa hob hdb hfb hela helb ?_)
  refine wpAny_bind (wpAny_forIn_list _ (fun rest r s' => r.1 = none ∧ s' = s ∧ ∀ e ∈ rest, e ∈ ea.toList) _ ?_ ?_ _ _ ?_)
  · rintro ⟨hh, x⟩ rest r s' ⟨hr, rfl, hi⟩
    have hm := hi _ List.mem_cons_self
    obtain ⟨⟨k, hk, hq⟩, hsc⟩ := hela _ hm
    dsimp only at hk hq hsc
    subst hq
    have hS : S k = true := (hma k).2 ⟨_, hm, hk⟩
    refine wpAny_bind (wpAny_holding (wpAny_setFind_of (knd := intKind P w) hk hsc hb fun r hr => ?_))
    cases r with
    | none => rw [hS] at hr; cases hr
    | some j =>
      simp only [Option.isNone_some, Bool.false_eq_true, if_false]
      unfold Builtin.Frozenset.unchanged
      refine wpAny_bind (wpAny_bind (wpAny_setEpoch_of hoa hda hfa ?_))
      rw [bne_self_eq_false]
      simp only [Bool.false_eq_true, if_false]
      exact wpAny_pure (wpAny_pure ⟨rfl, rfl, fun e he => hi e (List.mem_cons_of_mem _ he)⟩)
  · rintro ⟨r, u⟩ s' ⟨hr, rfl, _⟩
    dsimp only at hr
    subst hr
    exact wpAny_pure h
  · exact ⟨rfl, rfl, fun e he => he⟩
theorem set_eq {a b : Addr} {S : Int → Bool} {n : Nat} {Q : Value → Shared → Prop} (ha : s.heap.SetOf (intKind P w) a S n) (hb : s.heap.SetOf (intKind P w) b S n) (hu : A.units < cLine) (h : Q (.bool true) s) :
    wpAny (model P w) A (compareOp .Eq (.ref a) (.ref b)) Q E s := by
  refine wpAny_richCompare_same_room (op := .Eq) ha.typeIs hb.typeIs slot_set_eq (wpAny_call_entry slot_set_eq ha.typeIs entry_set_eq ?_ (args_set_eq_2 _ _)) hu
  have f1 := F.sub_set_set
  obtain ⟨oa, ea, epa, ta, hoa, hxa, hda, hela, hma, hba, hfa, hna⟩ := id ha
  obtain ⟨ob, eb, epb, tb, hob, hxb, hdb, helb, hmb, hbb, hfb, hnb⟩ := id hb
  obtain ⟨ac, ad, adt, asl⟩ := oa
  obtain ⟨bc, bd, bdt, bsl⟩ := ob
  simp only at hda hdb
  have hca : ac = .type "set" := hxa.1
  have hcb : bc = .type "set" := hxb.1
  subst hda hdb hca hcb
  have f2 := F.sub_set_frozenset
  have sz : ∀ {c : Addr} {o : Obj} {es : Array (Int × Value)} {ep : Nat} {t : SetTable} {Q' : Nat → Shared → Prop} {A' : Around}, s.heap.get? c = some o → o.data = .set es ep t → t.fits es.size = true → Q' es.size s →
      wpAny (model P w) A' (Builtin.Frozenset.sizeOf c) Q' E s := by
    intro c o es ep t Q' A' ho hd hf h
    unfold Builtin.Frozenset.sizeOf setEntries
    exact wpAny_bind (wpAny_bind (wpAny_setState_of ho hd hf (wpAny_pure (wpAny_pure h))))
  unfold Builtin.«frozenset.__eq__»
  refine wpAny_bind ?_
  generalize hSZ : Builtin.Frozenset.sizeOf = SZ
  generalize hSB : Builtin.Frozenset.subsetOf = SB
  wp_walk
  subst hSZ
  refine sz hoa rfl hfa ?_
  refine wpAny_bind (sz hob rfl hfb ?_)
  rw [hna, hnb, bne_self_eq_false]
  wp_walk
  subst hSB
  refine subset_true ha hb ?_
  exact wpAny_pure ⟨_, rfl, fun z => (nomatch z), h⟩
end
end My
set_option Elab.async false
set_option maxRecDepth 100000
set_option maxHeartbeats 4000000
set_option linter.unusedVariables false
namespace My
open PySem PySem.Spec PyProof.Rows L2
theorem FunV.bindsFull {K : PySem.W.Frag} {x qual : Str} {st : Stmt} {f t : Addr} {fd : FuncData} {o : Obj} {v : Value} {m : Nat} {ps : List Str} (F : FunV K x qual st (.ref t) f fd) (lt : K.lookup t = some o) (ot : o.data = .seq #[v] m)
    (h : ∀ (kV doc pm : Value) (an : Option Addr) (cdv ct : Value) (us : List Value), us.length = ps.length →
      ∃ k, bindArgs (PySem.W.fnOf x qual (defArgs st) (defBody st) (defScope st) (.ref t) kV doc pm an cdv ct) ⟨us, []⟩ = seqItems? (.ref t) >>= k ∧ k (some #[v]) = pure (ps.zip us)) : Binds K fd ps [] := by
  obtain ⟨oc, od, kV, doc, pm, an, cdv, ct, osl, rfl, lk, hcd⟩ := F.ex
  intro s us X hlen
  rw [List.append_nil] at hlen ⊢
  obtain ⟨k, e1, e2⟩ := h kV doc pm an cdv ct us hlen
  refine BindsTo.of_looks fun M => ?_
  rw [e1]
  exact looks_items X lt ot (.of_pure e2)
section
variable {X : Cx}
def rSetD : List V → Hp → VK → Prop := fun xs H Q => ∃ (d : Addr) (es : List (Int × Str)), xs = [.ref d] ∧ H d = some (.dK (ents es)) ∧ (keys es).Nodup ∧ es.length ≤ 1000 ∧
  ∀ p, H p = none → Q (.ref p) (upd H p (.set (has es) es.length))
theorem KV.at_key {kvs : List (Key × V)} {vs : List (Key × Value)} (r : KV kvs vs) : ∀ {i : Nat} {k : Key} {v : V}, kvs[i]? = some (k, v) → ∃ u, vs[i]? = some (k, u) := by
  unfold KV at r
  induction r with
  | nil => intro i k v h; simp at h
  | cons h r ih =>
    intro i k v e
    cases i with
    | zero =>
      cases Option.some.inj e
      obtain ⟨h1, _⟩ := h
      dsimp only at h1
      subst h1
      exact ⟨_, rfl⟩
    | succ i => exact ih e
theorem pairs_at {P : Program} {w : World} {l : List DictEntry} {vs : List (Key × Value)} (r : PySem.Pairs (mixKind P w) l vs) : ∀ {i : Nat} {k : Key} {u : Value}, vs[i]? = some (k, u) → ∃ e, l[i]? = some e ∧ (mixKind P w).is k e.key = true := by
  induction r with
  | nil => intro i k v h; simp at h
  | cons h1 h2 r ih =>
    intro i k v e
    cases i with
    | zero =>
      cases Option.some.inj e
      exact ⟨_, rfl, h1⟩
    | succ i => exact ih e
theorem pairs_len {P : Program} {w : World} {l : List DictEntry} {vs : List (Key × Value)} (r : PySem.Pairs (mixKind P w) l vs) : l.length = vs.length := by
  induction r with
  | nil => rfl
  | cons h1 h2 r ih => rw [List.length_cons, List.length_cons, ih]
theorem kv_len {kvs : List (Key × V)} {vs : List (Key × Value)} (r : KV kvs vs) : kvs.length = vs.length := by
  unfold KV at r
  induction r with
  | nil => rfl
  | cons h r ih => rw [List.length_cons, List.length_cons, ih]
theorem int_keys {P : Program} {w : World} {es : List (Int × Str)} {vs : List (Key × Value)} {ed : Array DictEntry} (kv : KV (ents es) vs) (ks : KeysOf (mixKind P w) ed) (pr : PySem.Pairs (mixKind P w) ed.toList vs) : IntKeys ed (keys es) := by
  refine ⟨?_, fun i n h => ?_⟩
  · rw [← Array.length_toList, pairs_len pr, ← kv_len kv, ents_len, keys_len]
  · unfold keys at h
    rw [List.getElem?_map] at h
    cases q : es[i]? with
    | none => rw [q] at h; cases h
    | some p =>
      rw [q] at h
      cases h
      have e1 : (ents es)[i]? = some (.inl p.1, .str p.2) := by unfold ents; rw [List.getElem?_map, q]; rfl
      obtain ⟨u, e2⟩ := KV.at_key kv e1
      obtain ⟨e, e3, e4⟩ := pairs_at pr e2
      rw [Array.getElem?_toList] at e3
      obtain ⟨k, hk1, hk2⟩ := ks e (Array.mem_of_getElem? e3)
      have : k = .inl p.1 := (mixKind P w).inj _ _ _ hk1 e4
      subst this
      rcases keyIs_shape (k := .inl p.1) (v := e.key) e4 with ⟨j, t, z, e5⟩ | ⟨x, t, z, e5⟩
      · cases z
        exact ⟨e, t, e3, e5, hk2⟩
      · cases z
theorem call_setD (hc : X.calm = true) : CallR X (.type "set") rSetD := by
  intro pins s σ H xs us Q I r h
  obtain ⟨d, es, rfl, hd, nd, hl, q⟩ := h
  obtain ⟨u, rfl, ru⟩ := vals1 r
  obtain rfl : u = Value.ref d := ru
  obtain ⟨_, hs, vs, kv, o, ed, ep, ho, hx, hdt, ks, pr, _⟩ := dk_of I.hok hd
  refine call_set_dict (keys es) ho hx.1 hdt hs (int_keys kv ks pr) nd (by rw [keys_len]; exact hl) fun h' R k => ?_
  have R2 : SetR X.w h' s.heap.objs.size (has es) es.length := by
    rw [keys_len] at R
    refine R.congr fun j => ?_
    cases q : has es j with
    | true => rw [decide_eq_true (has_iff.mp q)]
    | false => rw [decide_eq_false fun z => by rw [has_iff.mpr z] at q; cases q]
  exact ⟨.ref _, upd H s.heap.objs.size (.set (has es) es.length), I.laid (t' := s.toks) k (Nat.le_refl _) R2.setOf, rfl, q _ (I.hok.fresh (Nat.le_refl _))⟩
def rEqSet : R2 := fun x y H Q => ∃ a b S n, x = .ref a ∧ y = .ref b ∧ H a = some (.set S n) ∧ H b = some (.set S n) ∧ Q (.bl true) H
theorem op_eqSet (hu : X.A.units + 1 < cLine) : OpR X (compareOp .Eq) rEqSet := by
  intro pins s σ H x y v u Q I rx ry h
  obtain ⟨a, b, S, n, rfl, rfl, ha, hb, q⟩ := h
  cases rx; cases ry
  exact set_eq (I.hok a _ ha) (I.hok b _ hb) (Nat.lt_of_succ_lt hu) ⟨.bl true, H, I, rfl, q⟩
end
end My
set_option Elab.async false
set_option maxRecDepth 100000
set_option maxHeartbeats 4000000
set_option linter.unusedVariables false
namespace My
open PySem PySem.Spec PyProof.Rows L2


def Ent (h : Heap) (v : Value) (x : Int) (y : Str) : Prop := ∃ a o t u n, v = .ref a ∧ h.get? a = some o ∧ o.cls = .type "tuple" ∧ o.data = .seq #[.int x t, .str y u] n
theorem Ent.keeps {h h' : Heap} {v : Value} {x : Int} {y : Str} (p : Ent h v x y) (k : ∀ b o, h.get? b = some o → o.cls = .type "tuple" → h'.get? b = some o) : Ent h' v x y := by
  obtain ⟨a, o, t, u, n, e, ho, hc, hd⟩ := p
  exact ⟨a, o, t, u, n, e, k a o ho hc, hc, hd⟩
theorem ent_firsts {h : Heap} : ∀ {vs : List Value}, (∀ v ∈ vs, ∃ x y, Ent h v x y) → ∃ fs : List Value, PySem.W.KatTups h vs fs ∧ fs.length = vs.length ∧ ∀ f ∈ fs, ∃ x t, f = Value.int x t
  | [], _ => ⟨[], .nil, rfl, fun _ hm => (nomatch hm)⟩
  | v :: vs, hp => by
    obtain ⟨fs, h1, h2, h3⟩ := ent_firsts (vs := vs) fun z hz => hp z (List.mem_cons_of_mem _ hz)
    obtain ⟨x, y, a, o, t, u, n, rfl, ho, hc, hd⟩ := hp v List.mem_cons_self
    refine ⟨Value.int x t :: fs, .cons ho hc hd rfl h1, congrArg Nat.succ h2, ?_⟩
    intro f hf
    rcases List.mem_cons.mp hf with e | hf
    · exact ⟨x, t, e⟩
    · exact h3 f hf
section
variable {P : Program} {w : World} {A : Around} {E : Value → Shared → Prop} {s : Shared}
theorem ent_cmp {vs : List Value} {k : Value → Int} {y : Value → Str} (hp : ∀ v ∈ vs, Ent s.heap v (k v) (y v)) (one : ∀ v ∈ vs, ∀ u ∈ vs, k v = k u → y v = y u) :
    SrtO.Cmp P w A s (tuples' true) (fun p => p.1 ∈ vs) (SrtO.lt2 fun v u => decide (k v < k u)) := by
  intro p q hm hm'
  have h1 := hp _ hm
  have h2 := hp _ hm'
  have h3 := one _ hm _ hm'
  show wpAny (model P w) A (keyLt' (tuples' true) p.1 q.1) (fun r s' => s' = s ∧ r = decide (k p.1 < k q.1)) (fun _ _ => False) s
  generalize k p.1 = x1 at h1 h3 ⊢
  generalize k q.1 = x2 at h2 h3 ⊢
  generalize y p.1 = y1 at h1 h3
  generalize y q.1 = y2 at h2 h3
  obtain ⟨a, o, t, u, n, e, ho, hc, hd⟩ := h1
  obtain ⟨b, o', t', u', n', e', ho', hc', hd'⟩ := h2
  rw [e, e']
  refine PySem.W.kat_lt ho hd ho' hd' ?_
  show PySem.W.KatLex P w A true (decide (2 < 2)) _ [(.int x1 t, .int x2 t'), (.str y1 u, .str y2 u')] 0 s
  refine PySem.W.kat_cons (SeqAt.EqAt.int_int x1 t x2 t' P w _ _ (PySem.W.kat_go (fun e1 => ?_) fun e1 => ?_))
  · have ex : x1 = x2 := by simpa using e1
    have ey := h3 ex
    subst ex
    subst ey
    refine PySem.W.kat_yes (PySem.W.kat_cons (SeqAt.EqAt.str_str y1 u y1 u' P w _ _ (PySem.W.kat_go (fun _ => ?_) fun e2 => ?_)))
    · exact PySem.W.kat_yes (PySem.W.kat_nil ⟨rfl, (decide_eq_false (Int.lt_irrefl _)).symm⟩)
    · simp at e2
  · exact PySem.W.kat_no (oneLt_int ⟨rfl, rfl⟩)
theorem swo_key (k : Value → Int) : SrtO.Swo fun v u => decide (k v < k u) := by
  refine ⟨fun x y h => ?_, fun x y z h1 h2 => ?_⟩
  · have := of_decide_eq_true h
    exact decide_eq_false (by omega)
  · have a := of_decide_eq_false h1
    have b := of_decide_eq_false h2
    exact decide_eq_false (by omega)
theorem ent_sortable {a : Addr} {vs : List Value} {k : Value → Int} {y : Value → Str} (h0 : 0 < vs.length) (hp : ∀ v ∈ vs, Ent s.heap v (k v) (y v)) (one : ∀ v ∈ vs, ∀ u ∈ vs, k v = k u → y v = y u)
    (ha : ∀ o, s.heap.get? a = some o → o.cls ≠ .type "tuple") : SrtO.SortableO P w A s a vs fun v u => decide (k v < k u) := by
  intro h' keep
  have hp2 : ∀ v ∈ vs, Ent h' v (k v) (y v) := fun v hm => (hp v hm).keeps fun b o e c => keep b o (fun z => by rw [z] at e; exact ha o e c) e
  obtain ⟨fs, h1, h2, h3⟩ := ent_firsts fun v hm => ⟨_, _, hp2 v hm⟩
  refine ⟨tuples' true, fun Q E hq => ?_, ent_cmp hp2 one⟩
  refine PySem.W.kat_kind (T := .type "int") h1 (by omega) (fun f hm => ?_) rfl ?_
  · obtain ⟨x, t, rfl⟩ := h3 f hm
    exact PySem.W.Looks.now
  · rw [show (Value.type "int" != Value.type "tuple") = true by decide]
    exact hq
end
end My
set_option Elab.async false
set_option maxRecDepth 100000
set_option maxHeartbeats 4000000
set_option linter.unusedVariables false
namespace My
open PySem PySem.Spec PyProof.Rows L2 L2.DX

def rItemsK : V → List V → Hp → VK → Prop := fun x xs H Q => ∃ (a : Addr) (kvs : List (Key × V)), x = .ref a ∧ xs = [] ∧ H a = some (.dK kvs) ∧ ∀ p, H p = none → Q (.ref p) (upd H p (itemsO p a))
inductive TupS (H : Hp) : List V → List (Int × Str) → Prop
  | nil : TupS H [] []
  | cons {a : Addr} {k : Int} {x : Str} {vs : List V} {es : List (Int × Str)} (h : H a = some (.tup [.int k, .str x])) (r : TupS H vs es) : TupS H (.ref a :: vs) ((k, x) :: es)
def rSortE : List V → Hp → VK → Prop := fun vs H Q => ∃ (p d : Addr) (es : List (Int × Str)), vs = [.ref p] ∧ H p = some (itemsO p d) ∧ H d = some (.dK (ents es)) ∧ (keys es).Nodup ∧ es.length ≤ 1000 ∧
  ∀ (H' : Hp) (l : Addr) (ts : List V) (es' : List (Int × Str)), Same H H' → H' l = some (.lst ts) → TupS H' ts es' → es'.Perm es → es'.Pairwise (fun p q => p.1 < q.1) → Q (.ref l) H'
theorem perm_map {α β : Type} (f : α → β) {l : List α} {out : List β} (h : out.Perm (l.map f)) : ∃ zs : List α, zs.Perm l ∧ zs.map f = out := by
  generalize e : l.map f = m at h
  induction h generalizing l with
  | nil => exact ⟨[], by rw [List.map_eq_nil_iff.mp e], rfl⟩
  | cons x _ ih =>
    match l, e with
    | a :: r, e =>
      rw [List.map_cons] at e
      injection e with e1 e2
      obtain ⟨zs, h1, h2⟩ := ih e2
      exact ⟨a :: zs, h1.cons a, by rw [List.map_cons, h2, e1]⟩
  | swap x y t =>
    match l, e with
    | a :: b :: r, e =>
      rw [List.map_cons, List.map_cons] at e
      injection e with e1 e2
      injection e2 with e2 e3
      exact ⟨b :: a :: r, List.Perm.swap _ _ _, by rw [List.map_cons, List.map_cons, e1, e2, e3]⟩
  | trans _ _ ih1 ih2 =>
    obtain ⟨z2, h1, h2⟩ := ih2 e
    obtain ⟨z1, h3, h4⟩ := ih1 h2
    exact ⟨z1, h3.trans h1, h4⟩
def keyIn (h : Heap) (v : Value) : Int := match v with
  | .ref a => (match h.get? a with
    | some o => (match o.data with
      | .seq its _ => (match (its[0]? : Option Value) with
        | some (Value.int x _) => x
        | _ => 0)
      | _ => 0)
    | none => 0)
  | _ => 0
def txtIn (h : Heap) (v : Value) : Str := match v with
  | .ref a => (match h.get? a with
    | some o => (match o.data with
      | .seq its _ => (match (its[1]? : Option Value) with
        | some (Value.str x _) => x
        | _ => Str.empty)
      | _ => Str.empty)
    | none => Str.empty)
  | _ => Str.empty
theorem tupS_of {H : Hp} : ∀ zs : List (Addr × Int × Str), (∀ z ∈ zs, H z.1 = some (.tup [.int z.2.1, .str z.2.2])) → TupS H (zs.map fun z => V.ref z.1) (zs.map (·.2))
  | [], _ => .nil
  | z :: zs, h => .cons (h z List.mem_cons_self) (tupS_of zs fun y hy => h y (List.mem_cons_of_mem _ hy))
theorem ent_of {P : Program} {w : World} {es : List (Int × Str)} {vs : List (Key × Value)} {ed : Array DictEntry} (kv : KV (ents es) vs) (pr : PySem.Pairs (mixKind P w) ed.toList vs) {i : Nat} {n : Int} {x : Str} (h : es[i]? = some (n, x)) :
    ∃ (e : DictEntry) (t u : Tok), ed[i]? = some e ∧ e.key = Value.int n t ∧ e.val = Value.str x u := by
  have e1 : (ents es)[i]? = some (.inl n, .str x) := by unfold ents; rw [List.getElem?_map, h]; rfl
  have kv2 : ∀ {kvs : List (Key × V)} {vs : List (Key × Value)}, KV kvs vs → ∀ {i : Nat} {k : Key} {x : Str}, kvs[i]? = some (k, .str x) → ∃ u, vs[i]? = some (k, .str x u) := by
    intro kvs vs r
    unfold KV at r
    induction r with
    | nil => intro i k x h; simp at h
    | cons h r ih =>
      intro i k x e
      cases i with
      | zero =>
        cases Option.some.inj e
        rename_i b _ _
        obtain ⟨b1, b2⟩ := b
        obtain ⟨h1, u, h2⟩ := h
        dsimp only at h1 h2
        subst h1 h2
        exact ⟨u, rfl⟩
      | succ i => exact ih e
  have pr2 : ∀ {l : List DictEntry} {vs : List (Key × Value)}, PySem.Pairs (mixKind P w) l vs → ∀ {i : Nat} {k : Key} {u : Value}, vs[i]? = some (k, u) → ∃ e, l[i]? = some e ∧ (mixKind P w).is k e.key = true ∧ e.val = u := by
    intro l vs r
    induction r with
    | nil => intro i k v h; simp at h
    | cons h1 h2 r ih =>
      intro i k v e
      cases i with
      | zero =>
        cases Option.some.inj e
        exact ⟨_, rfl, h1, h2⟩
      | succ i => exact ih e
  obtain ⟨u, e2⟩ := kv2 kv e1
  obtain ⟨e, e3, e4, e5⟩ := pr2 pr e2
  rw [Array.getElem?_toList] at e3
  rcases keyIs_shape (k := .inl n) (v := e.key) e4 with ⟨j, t, z, e6⟩ | ⟨_, _, z, _⟩
  · cases z
    exact ⟨e, t, u, e3, e6, e5⟩
  · cases z
section
variable {X : Cx}
theorem mt_itemsK : L2.MtR X "dict.items" rItemsK := by
  intro pins s σ H x xs v us Q I rx rxs h
  obtain ⟨a, kvs, rfl, rfl, ha, q⟩ := h
  cases rx
  cases rxs
  obtain ⟨_, hd, _, _, o, ed, ep, ho, hx, hdt, _⟩ := dk_of I.hok ha
  refine DT.callItems (es := ed) (ep := ep) hd ⟨o, ho, hx, hdt⟩ ?_
  have free : H s.heap.objs.size = none := I.hok.fresh (Nat.le_refl _)
  refine ⟨.ref s.heap.objs.size, _, I.laid (t' := s.toks) (fun b u e => Heap.get?_push_of_some _ e) (Nat.le_refl _) (itemsO_ok (d := a) (Heap.get?_push_size _ rfl)), rfl, q _ free⟩
theorem cr_sortedE (hc : X.calm = true) : CallR X (.builtin "sorted") rSortE := by
  intro pins s σ H xs us Q I r h
  obtain ⟨p, d, es, rfl, hp, hd, nd, hlen, q⟩ := h
  obtain rfl := Vals.ref1 r
  have view : s.heap.IsItemsView p d := (show ObjOk X.prog X.w H s.heap p (itemsO p d) from I.hok p _ hp).1
  obtain ⟨_, hs, vs, kv, o, ed, ep, ho, hx, hdt, ks, pr, _⟩ := dk_of I.hok hd
  have size : ed.size = es.length := by rw [← Array.length_toList, pairs_len pr, ← kv_len kv, ents_len]
  refine DT.sortedI (es := ed) (ep := ep) (I.ok.hd hc) view ⟨o, ho, hx, hdt⟩ (by rw [size]; exact size_ok (by omega)) fun h' tk as hk hlt hl hG => ?_
  have la : as.length = es.length := hl.trans size
  have nda : as.Nodup := List.Pairwise.imp (fun h => Nat.ne_of_lt h) hG.rise
  have made : ∀ (j : Nat) (b : Addr), as[j]? = some b → ∃ n x t u, es[j]? = some (n, x) ∧ h'.get? b = some { cls := .type "tuple", data := .seq #[Value.int n t, Value.str x u] } := by
    intro j b hj
    obtain ⟨e, he, hb⟩ := hG.pairs j b hj
    have hj2 : j < es.length := by rw [← la]; exact (List.getElem?_eq_some_iff.mp hj).1
    have hj3 : es[j]? = some (es[j].1, es[j].2) := List.getElem?_eq_getElem hj2
    obtain ⟨e2, t, u, h1, h2, h3⟩ := ent_of kv pr hj3
    obtain rfl := Option.some.inj (he.symm.trans h1)
    exact ⟨_, _, t, u, hj3, by rw [hb, h2, h3]⟩
  have hget : ∀ (b : Addr), b ∈ as → ∃ (j : Nat) (n : Int) (x : Str) (t u : Tok), as[j]? = some b ∧ es[j]? = some (n, x) ∧ h'.get? b = some { cls := .type "tuple", data := .seq #[Value.int n t, Value.str x u] } := by
    intro b hb
    obtain ⟨j, hj⟩ := List.mem_iff_getElem?.mp hb
    obtain ⟨n, x, t, u, h1, h2⟩ := made j b hj
    exact ⟨j, n, x, t, u, hj, h1, h2⟩
  have kk : ∀ {b : Addr} {n : Int} {x : Str} {t u : Tok}, h'.get? b = some { cls := .type "tuple", data := .seq #[Value.int n t, Value.str x u] } → keyIn h' (.ref b) = n ∧ txtIn h' (.ref b) = x := by
    intro b n x t u e
    unfold keyIn txtIn
    dsimp only
    rw [e]
    exact ⟨rfl, rfl⟩
  have old : ∀ b o, h'.get? b = some o → b ≠ h'.objs.size := fun b o e => Nat.ne_of_lt (Heap.lt_size e)
  have hob : (h'.push { cls := .type "list", data := .seq (as.map Value.ref).toArray }).get? h'.objs.size = some (seqObj "list" (as.map Value.ref).toArray 0) := Heap.get?_push_size _ rfl
  have ka : ∀ b o, h'.get? b = some o → (h'.push { cls := .type "list", data := .seq (as.map Value.ref).toArray }).get? b = some o := fun b o e => Heap.get?_push_of_some _ e
  generalize h'.push { cls := .type "list", data := .seq (as.map Value.ref).toArray } = h2 at hob ka ⊢
  have hz : (as.map Value.ref).length ≤ sizeLine := by rw [List.length_map, la]; exact size_ok (by omega)
  have ents2 : ∀ v ∈ as.map Value.ref, Ent h2 v (keyIn h' v) (txtIn h' v) := by
    intro v hv
    obtain ⟨b, hb, rfl⟩ := List.mem_map.mp hv
    obtain ⟨j, n, x, t, u, _, _, e⟩ := hget b hb
    rw [(kk e).1, (kk e).2]
    exact ⟨b, _, t, u, _, rfl, ka _ _ e, rfl, rfl⟩
  have one : ∀ v ∈ as.map Value.ref, ∀ u ∈ as.map Value.ref, keyIn h' v = keyIn h' u → txtIn h' v = txtIn h' u := by
    intro v hv u hu e
    obtain ⟨b, hb, rfl⟩ := List.mem_map.mp hv
    obtain ⟨c, hc2, rfl⟩ := List.mem_map.mp hu
    obtain ⟨j, n, x, t1, u1, _, e1, g1⟩ := hget b hb
    obtain ⟨i, m, y, t2, u2, _, e2, g2⟩ := hget c hc2
    rw [(kk g1).1, (kk g2).1] at e
    subst e
    rw [(kk g1).2, (kk g2).2]
    have l1 := look_ents nd (List.mem_of_getElem? e1)
    have l2 := look_ents nd (List.mem_of_getElem? e2)
    dsimp only at l1 l2
    rw [l1] at l2
    exact Option.some.inj l2
  refine wpAny_call_entry PyProof.Rows.slot_list_sort ⟨_, hob, rfl⟩ PyProof.Rows.entry_list_sort
    (SrtO.list_sort_ord (s := { s with heap := h2, toks := tk }) (swo_key (keyIn h')) hob hz (fun n2 => ent_sortable (by omega) ents2 one fun o e => ?_) fun out o1 o2 => ⟨.none, rfl, ?_⟩) (PyProof.Rows.args_list_sort _)
  · cases hob.symm.trans e
    intro z
    injection z with z
    revert z
    decide
  · show EP X pins σ Q (.ref h'.objs.size) { s with heap := sortedHeap h2 h'.objs.size (as.map Value.ref) out.toArray, toks := tk }
    have ez : (as.zip es).map (fun z => Value.ref z.1) = as.map Value.ref := by
      have q : (as.zip es).map (·.1) = as := List.map_fst_zip (by omega)
      rw [show (fun z : Addr × Int × Str => Value.ref z.1) = Value.ref ∘ (·.1) from rfl, ← List.map_map, q]
    obtain ⟨zs, pz, eo⟩ := perm_map (fun z : Addr × Int × Str => Value.ref z.1) (l := as.zip es) (out := out) (by rw [ez]; exact o2.perm)
    have at_ : ∀ z ∈ zs, ∃ j : Nat, as[j]? = some z.1 ∧ es[j]? = some z.2 := by
      intro z hz
      obtain ⟨j, hj⟩ := List.mem_iff_getElem?.mp (pz.mem_iff.mp hz)
      exact ⟨j, List.getElem?_zip_eq_some.mp hj⟩
    have pes : (zs.map (·.2)).Perm es := by
      have e := pz.map (·.2)
      rw [List.map_snd_zip (by omega)] at e
      exact e
    have key : ∀ z ∈ zs, keyIn h' (.ref z.1) = z.2.1 := by
      intro z hz
      obtain ⟨j, j1, j2⟩ := at_ z hz
      obtain ⟨n, x, t, u, e1, e2⟩ := made j z.1 j1
      rw [(kk e2).1]
      rw [j2] at e1
      rw [Option.some.inj e1]
    have srt : (zs.map (·.2)).Pairwise (fun p q => p.1 < q.1) := by
      have le : (zs.map (·.2)).Pairwise (fun p q => p.1 ≤ q.1) := by
        rw [← eo] at o1
        rw [List.pairwise_map]
        refine List.Pairwise.imp_of_mem (fun {a b} ha hb h => ?_) (List.pairwise_map.mp o1)
        have := of_decide_eq_false h
        rw [key a ha, key b hb] at this
        omega
      have nd2 : ((zs.map (·.2)).map (fun p : Int × Str => p.1)).Nodup := ((pes.map (fun p : Int × Str => p.1)).nodup_iff).mpr nd
      have ne : (zs.map (·.2)).Pairwise (fun p q => p.1 ≠ q.1) := List.pairwise_map.mp nd2
      exact (List.Pairwise.and le ne).imp fun h => by have := h.1; have := h.2; omega
    have kF : ∀ b o, b ≠ h'.objs.size → h2.get? b = some o → (sortedHeap h2 h'.objs.size (as.map Value.ref) out.toArray).get? b = some o :=
      fun b o nb e => (PyProof.Rows.sortedHeap_old nb (Heap.lt_size e)).trans e
    obtain ⟨eF, heF⟩ := PyProof.Rows.sortedHeap_at (vs := as.map Value.ref) (out := out.toArray) hob
    have I1 : Inv X pins σ H { s with heap := sortedHeap h2 h'.objs.size (as.map Value.ref) out.toArray, toks := tk } :=
      I.kept (t' := tk) fun b o e => kF b o (old _ _ (hk b o e)) (ka b o (hk b o e))
    have hn : H h'.objs.size = none := I.hok.fresh (Nat.le_of_lt hlt)
    have lz : zs.length = es.length := by
      have := pes.length_eq
      rw [List.length_map] at this
      exact this
    have rv : Vals (zs.map fun z => V.ref z.1) out := by
      rw [← eo]
      exact vals_maps (fun z : Addr × Int × Str => V.ref z.1) (fun z => Value.ref z.1) zs fun _ _ => rfl
    have I2 : Inv X pins σ (upd H h'.objs.size (.lst (zs.map fun z => V.ref z.1))) { s with heap := sortedHeap h2 h'.objs.size (as.map Value.ref) out.toArray, toks := tk } :=
      I1.take (h' := sortedHeap h2 h'.objs.size (as.map Value.ref) out.toArray) (t' := tk) (fun b ob _ e => e) (I.fpOk (Nat.le_of_lt hlt) hn)
        ⟨by rw [List.length_map, lz]; exact size_ok (by omega), out, eF, rv, by simpa using heF⟩
    obtain ⟨H2, I3, g, qt⟩ := takeT (P := fun b vs => ∃ (j : Nat) (n : Int) (x : Str), as[j]? = some b ∧ es[j]? = some (n, x) ∧ vs = [.int n, .str x]) I as _ I2 nda fun b hb => by
      obtain ⟨j, n, x, t, u, j1, j2, e⟩ := hget b hb
      have lb : s.heap.objs.size ≤ b := Nat.le_of_lt (hG.above b hb)
      refine ⟨lb, ?_, [.int n, .str x], ⟨j, n, x, j1, j2, rfl⟩, fun H3 => ⟨size_ok (by simp), [Value.int n t, Value.str x u], .cons ⟨_, rfl⟩ (.cons ⟨_, rfl⟩ .nil), ⟨_, kF _ _ (old _ _ e) (ka _ _ e), rfl, 0, rfl⟩⟩⟩
      rw [upd_ne (old _ _ e)]
      exact I.hok.fresh lb
    have gr : Same H H2 := fun b o e => g b o ((upd_ne (ne_of_none e hn)).trans e)
    refine ⟨.ref h'.objs.size, H2, I3, rfl, q H2 h'.objs.size _ _ gr (g _ _ upd_same) (tupS_of zs fun z hz => ?_) pes srt⟩
    obtain ⟨i, i1, i2⟩ := at_ z hz
    obtain ⟨vs, ⟨j, n, x, j1, j2, rfl⟩, hH⟩ := qt z.1 (List.mem_of_getElem? i1)
    have eij : i = j := (List.getElem?_inj (List.getElem?_eq_some_iff.mp i1).1 nda).mp (i1.trans j1.symm)
    subst eij
    rw [i2] at j2
    rw [Option.some.inj j2]
    exact hH
end
end My
set_option Elab.async false
set_option maxRecDepth 100000
set_option maxHeartbeats 4000000
set_option linter.unusedVariables false
namespace My
open PySem PySem.Spec PyProof.Rows L2 L2.DX

theorem int_small {n : Int} (h : 0 ≤ n ∧ n ≤ 999999) : (PyData.int n).weight ≤ 100000 := by
  have b : (if (n == 0) = true then 0 else n.natAbs.log2 + 1) ≤ 21 := by
    split
    · omega
    · rename_i z
      have nz : n.natAbs ≠ 0 := by
        intro q
        apply z
        rw [Int.natAbs_eq_zero.mp q]
        rfl
      have := (Nat.log2_lt nz (k := 20)).mpr (by omega)
      omega
  exact Nat.le_trans b (by decide)
def without (es : List (Int × Str)) (k : Int) : List (Int × Str) := es.filter fun p => !decide (p.1 = k)
def spMem (C : Addr) : Sp := fun vs H Q _ => ∃ U a es, vs = [.ref a] ∧ FS C U H a es ∧
  ∀ (H' : Hp) (l : Addr) (ts : List V) (es' : List (Int × Str)), Same H H' → H' l = some (.lst ts) → TupS H' ts es' → es'.Perm es → es'.Pairwise (fun p q => p.1 < q.1) → Q (.ref l) H'
def spHas (C : Addr) : Sp := fun vs H Q _ => ∃ U a es n, vs = [.ref a, .int n] ∧ FS C U H a es ∧ (0 ≤ n ∧ n ≤ 999999) ∧ ∀ H', Same H H' → Q (.bl (has es n)) H'
def spWith (K : PySem.W.Frag) (C : Addr) : Sp := fun vs H Q _ => ∃ U a t es n x, vs = [.ref a, .ref t] ∧ FS C U H a es ∧ SqT K H t [.int n, .str x] ∧ (0 ≤ n ∧ n ≤ 999999) ∧ nameOk x = true ∧ n ∈ U ∧
  ∀ d H', Same H H' → FS C U H' d (united es [(n, x)]) → Q (.ref d) H'
def spLess (C : Addr) : Sp := fun vs H Q _ => ∃ U a es n, vs = [.ref a, .int n] ∧ FS C U H a es ∧ (0 ≤ n ∧ n ≤ 999999) ∧
  ∀ d H', Same H H' → FS C U H' d (without es n) → Q (.ref d) H'
theorem drop_ents (es : List (Int × Str)) (k : Int) : dropK (ents es) (.inl k) = ents (without es k) := by
  unfold dropK ents without
  rw [List.filter_map]
  congr 1
  refine List.filter_congr fun p _ => ?_
  show decide ((Sum.inl p.1 : Key) ≠ .inl k) = !decide (p.1 = k)
  by_cases e : p.1 = k
  · rw [e]; simp
  · rw [decide_eq_false e]
    exact decide_eq_true fun z => e (Sum.inl.inj z)
theorem without_id {es : List (Int × Str)} {k : Int} (h : has es k = false) : without es k = es := by
  unfold without
  rw [List.filter_eq_self]
  intro p hp
  have : p.1 ≠ k := fun e => by
    have q : k ∈ keys es := by rw [← e]; exact List.mem_map_of_mem hp
    rw [← has_iff] at q
    rw [h] at q
    cases q
  rw [decide_eq_false this]; rfl
theorem look_without (es : List (Int × Str)) (k n : Int) : look (without es k) n = if n = k then none else look es n := by
  unfold without
  rw [look_filter fun q => !decide (q = k)]
  by_cases e : n = k
  · rw [if_pos e, e]; simp
  · rw [if_neg e, decide_eq_false e]; rfl

def tupD (p : Int × Str) : PyData := .tuple [.int p.1, .str p.2]
theorem tupS_dp {K : PySem.W.Frag} {H : Hp} : ∀ {ts : List V} {es : List (Int × Str)}, TupS H ts es → DpAll K H ts (es.map tupD)
  | _, _, .nil => .nil
  | _, _, .cons h r => .cons (.tup (.inl (.inl h)) (.cons (.int _) (.cons (.str _) .nil))) (tupS_dp r)
theorem tupS_same {H H' : Hp} (s : Same H H') : ∀ {ts : List V} {es : List (Int × Str)}, TupS H ts es → TupS H' ts es
  | _, _, .nil => .nil
  | _, _, .cons h r => .cons (s _ _ h) (tupS_same s r)
theorem tupS_chg {H H' : Hp} {a : Addr} {ls : List V} (e : H a = some (.lst ls)) (x : Ext a H H') : ∀ {ts : List V} {es : List (Int × Str)}, TupS H ts es → TupS H' ts es
  | _, _, .nil => .nil
  | _, _, .cons h r => .cons (x _ _ (fun z => by rw [z, e] at h; cases h) h) (tupS_chg e x r)
theorem tupS_app {H : Hp} {t : Addr} {k : Int} {x : Str} (h : H t = some (.tup [.int k, .str x])) : ∀ {ts : List V} {es : List (Int × Str)}, TupS H ts es → TupS H (ts ++ [.ref t]) (es ++ [(k, x)])
  | _, _, .nil => .cons h .nil
  | _, _, .cons h1 r => .cons h1 (tupS_app h r)
theorem name_lay {x : Str} (h : nameOk x = true) : PyData.canLay0 (.str x) = true := by
  rcases (name_sm h).2 with q | ⟨_, q⟩
  · exact q
  · cases q
def NE (es : List (Int × Str)) : Prop := ∀ p ∈ es, nameOk p.2 = true
theorem lay_tups : ∀ {es : List (Int × Str)}, NE es → PyData.canLayAll0 (es.map tupD) = true
  | [], _ => rfl
  | p :: r, h => by
    show ((PyData.canLay0 (.int p.1) && (PyData.canLay0 (.str p.2) && true)) && PyData.canLayAll0 (r.map tupD)) = true
    rw [lay_tups fun q hq => h q (List.mem_cons_of_mem _ hq), name_lay (h p List.mem_cons_self)]
    rfl
theorem deep_tups : ∀ es : List (Int × Str), PyData.depthAll (es.map tupD) ≤ 1
  | [] => by decide
  | p :: r => by
    show max (PyData.depth (tupD p)) (PyData.depthAll (r.map tupD)) ≤ 1
    exact Nat.max_le.mpr ⟨Nat.le_of_eq rfl, deep_tups r⟩
theorem shaped_tups {es : List (Int × Str)} (h : NE es) : SeqAt.shaped (.list (es.map tupD)) = true := by
  show (PyData.canLayAll0 (es.map tupD) && decide (PyData.depthAll (es.map tupD) + 1 ≤ 64)) = true
  have := deep_tups es
  rw [lay_tups h, decide_eq_true (by omega)]
  rfl
theorem eqv_tups {es : List (Int × Str)} (h : NE es) : PyData.eqv (.list (es.map tupD)) (.list (es.map tupD)) = true :=
  PySem.SeqAt.eqv_refl _ (lay_tups h)

theorem sorted_eq {es ds es' : List (Int × Str)} {ks : List Int} (ne : (keys es).Nodup) (nd : (keys ds).Nodup) (hl : ∀ k, look es k = look ds k) (p1 : es'.Perm es) (s1 : es'.Pairwise (fun p q => p.1 < q.1))
    (p2 : ks.Perm (keys ds)) (s2 : ks.Pairwise (· ≤ ·)) : es' = ks.map fun k => (k, (look ds k).getD Str.empty) := by
  have hk : (keys es).Perm (keys ds) := by
    refine (List.perm_ext_iff_of_nodup ne nd).mpr fun k => ?_
    rw [← has_iff, ← has_iff]
    unfold has
    rw [hl]
  have e1 : (keys es').Perm ks := ((p1.map (fun p : Int × Str => p.1)).trans hk).trans p2.symm
  have s3 : (keys es').Pairwise (· ≤ ·) := List.pairwise_map.mpr (s1.imp fun h => Int.le_of_lt h)
  have e2 : keys es' = ks := PySem.W.os_sorted_one e1 s3 s2
  rw [← e2]
  unfold keys
  rw [List.map_map]
  have : ∀ p ∈ es', p = (p.1, (look ds p.1).getD Str.empty) := by
    intro p hp
    have l := look_ents ne (p1.mem_iff.mp hp)
    rw [← hl, l]
    rfl
  exact (List.map_id _).symm.trans (List.map_congr_left this)

def spIsIt (C : Addr) : Sp := fun vs H Q _ => ∃ U V2 x d es ds, vs = [.ref x, .ref d] ∧ FS C U H x es ∧ FD V2 H d ds ∧ ds.length < 64 ∧ NE ds ∧ (∀ k, look es k = look ds k) ∧ ∀ H', Same H H' → Q (.bl true) H'
def spPart : Sp := fun vs H Q _ => ∃ U V2 a b c es fs, vs = [.ref a, .ref b, .bl c] ∧ FD U H a es ∧ FD V2 H b fs ∧ ∀ d H', H d = none → Same H H' → FD U H' d (if c = true then common es fs else rest es fs) → Q (.ref d) H'
inductive FDs (U : List Int) (H : Hp) : List V → List (List (Int × Str)) → Prop
  | nil : FDs U H [] []
  | cons {x : Addr} {es : List (Int × Str)} {vs : List V} {ls : List (List (Int × Str))} (h : FD U H x es) (r : FDs U H vs ls) : FDs U H (.ref x :: vs) (es :: ls)
theorem FDs.same {U : List Int} {H H' : Hp} (s : Same H H') : ∀ {vs : List V} {ls : List (List (Int × Str))}, FDs U H vs ls → FDs U H' vs ls
  | _, _, .nil => .nil
  | _, _, .cons h r => .cons (h.same s) (FDs.same s r)
theorem FDs.len {U : List Int} {H : Hp} : ∀ {vs : List V} {ls : List (List (Int × Str))}, FDs U H vs ls → vs.length = ls.length
  | _, _, .nil => rfl
  | _, _, .cons _ r => by rw [List.length_cons, List.length_cons, r.len]
theorem FDs.at {U : List Int} {H : Hp} : ∀ {vs : List V} {ls : List (List (Int × Str))} {i : Nat} {v : V}, FDs U H vs ls → vs[i]? = some v → ∃ x es, v = .ref x ∧ ls[i]? = some es ∧ FD U H x es
  | _, _, i, v, .nil, h => by simp at h
  | _, _, 0, v, .cons h1 r, h => by
    cases Option.some.inj h
    exact ⟨_, _, rfl, rfl, h1⟩
  | _, _, i + 1, v, .cons h1 r, h => r.at h
def spJoined (K : PySem.W.Frag) : Sp := fun vs H Q _ => ∃ U l xs ess, vs = [.ref l] ∧ SqL K H l xs ∧ FDs U H xs ess ∧ U.length ≤ 1000 ∧ ∀ d H', Same H H' → FD U H' d (joinAll [] ess) → Q (.ref d) H'
def spRow (K : PySem.W.Frag) : Sp := fun vs H Q _ => ∃ (a b : Addr) (n m : Nat) (fl : List Str), vs = [.ref a, .int m, .ref b] ∧ Bag H a n ∧ n < 5000 ∧ 1 ≤ m ∧ m ≤ 20 ∧ H b = some (.lst (fl.map V.str)) ∧ 1 ≤ fl.length ∧ fl.length ≤ 10 ∧ (∀ x ∈ fl, nameOk x = true) ∧
  ∀ d es H', Same (del a H) (del a H') → Bag H' a (n + 100) → FD (below m) H' d es → NE es → Q (.ref d) H'
def spRows : Sp := fun vs H Q _ => ∃ (a : Addr) (n : Nat), vs = [.ref a] ∧ Bag H a n ∧ n < 1000 ∧
  ∀ l xs ess H', Same (del a H) (del a H') → Bag H' a (n + 1000) → H' l = some (.lst xs) → FDs (below 14) H' xs ess → (∀ es ∈ ess, NE es) → 2 ≤ xs.length → xs.length ≤ 5 → Q (.ref l) H'
def spJR (K : PySem.W.Frag) (C : Addr) : Sp := fun vs H Q _ => ∃ (l r : Addr) (xs ys : List V) (ess uss : List (List (Int × Str))), vs = [.ref l, .ref r] ∧ H l = some (.lst xs) ∧ FDs (below 14) H xs ess ∧ H r = some (.lst ys) ∧ FSs C (below 14) H ys uss ∧
  xs.length = ys.length ∧ 2 ≤ xs.length ∧ xs.length ≤ 5 ∧ (∀ es ∈ ess, NE es) ∧ (∀ (i : Nat) (e u : List (Int × Str)), ess[i]? = some e → uss[i]? = some u → ∀ j, look u j = look e j) ∧ ∀ H', Same H H' → Q (.bl true) H'
def spPR (C : Addr) : Sp := fun vs H Q _ => ∃ (a b x y : Addr) (es fs us ws : List (Int × Str)), vs = [.ref a, .ref b, .ref x, .ref y] ∧ FD (below 14) H a es ∧ FD (below 14) H b fs ∧ FS C (below 14) H x us ∧ FS C (below 14) H y ws ∧
  NE es ∧ NE fs ∧ (∀ k, look us k = look es k) ∧ (∀ k, look ws k = look fs k) ∧ ∀ H', Same H H' → Q (.bl true) H'
def spSR (C : Addr) : Sp := fun vs H Q _ => ∃ (a : Addr) (n : Nat) (d x : Addr) (es us : List (Int × Str)), vs = [.ref a, .ref d, .ref x] ∧ Bag H a n ∧ n < 5000 ∧ FD (below 14) H d es ∧ FS C (below 14) H x us ∧ NE es ∧ (∀ k, look us k = look es k) ∧
  ∀ H', Same (del a H) (del a H') → Bag H' a (n + 10) → Q (.bl true) H'
end My
set_option Elab.async false
set_option maxRecDepth 100000
set_option maxHeartbeats 4000000
set_option linter.unusedVariables false
namespace My
open PySem PySem.Spec PyProof.Rows L2 L2.DX

theorem for_keys {d : Addr} {od : Obj} {kvs : List (Key × V)} {g : TG} {tb : TS} {D : Ends} {σ : L2.St} {H : Hp} (Pv : Nat → L2.St → Hp → Prop)
    (h0 : Pv 0 σ H) (hl : ∀ i σ H, i ≤ kvs.length → Pv i σ H → H d = some (.frz od (.dK kvs)))
    (hs : ∀ i k v σ H, kvs[i]? = some (k, v) → Pv i σ H → g (kV k) σ H fun σ2 H2 => tb { D with nx := Pv (i + 1), ct := Pv (i + 1), bk := D.nx } σ2 H2)
    (hd : ∀ σ H, Pv kvs.length σ H → D.nx σ H) :
    ∃ W : Nat → Nat → L2.St → Hp → Prop, (∃ m, W 0 m σ H) ∧ ∀ i m σ H, W i m σ H → ((Itk d od kvs).stop i H ∧ D.nx σ H) ∨
      ((Itk d od kvs).go i H ∧ ∃ N : L2.St → Hp → Prop, (∀ σ' H', N σ' H' → ∃ m', m' < m ∧ W (i + 1) m' σ' H') ∧
        ∀ x H', (Itk d od kvs).yld i H x H' → g x σ H' fun σ2 H2 => tb { D with nx := N, ct := N, bk := D.nx } σ2 H2) := by
  refine ⟨fun i m σ H => i ≤ kvs.length ∧ m + i = kvs.length ∧ Pv i σ H, ⟨kvs.length, Nat.zero_le _, rfl, h0⟩, ?_⟩
  rintro i m σ H ⟨hi, hm, p⟩
  have q := hl i σ H hi p
  by_cases l : i < kvs.length
  · right
    refine ⟨⟨q, l⟩, Pv (i + 1), fun σ' H' z => ⟨m - 1, by omega, by omega, by omega, z⟩, ?_⟩
    rintro x H' ⟨rfl, k, v, e, rfl⟩
    exact hs i k v σ _ e p
  · left
    obtain rfl : i = kvs.length := by omega
    exact ⟨⟨q, Nat.le_refl _⟩, hd σ H p⟩
theorem lc_keys {d : Addr} {od : Obj} {kvs : List (Key × V)} {g : TG} {tt : TT} {te : TE} {vs : List Nat} {σ : L2.St} {H1 : Hp} {D : Addr} {Qd : Hp → Prop}
    (Pv : Nat → Hp → Prop) (h0 : Pv 0 (upd H1 D (.lst []))) (hl : ∀ i H, i ≤ kvs.length → Pv i H → H d = some (.frz od (.dK kvs)))
    (hs : ∀ i k v H, kvs[i]? = some (k, v) → Pv i H → g (kV k) (wipe σ vs) H fun σ2 H2 => wipe σ2 vs = wipe σ vs ∧ tt σ2 H2 fun b H3 =>
      if b = true then te σ2 H3 fun y H4 => ∃ acc, H4 D = some (.lst acc) ∧ acc.length < sizeLine ∧ Pv (i + 1) (upd H4 D (.lst (acc ++ [y]))) else Pv (i + 1) H3)
    (hd : ∀ H, Pv kvs.length H → Qd H) :
    ∃ W : Nat → Nat → Hp → Prop, (∃ m, W 0 m (upd H1 D (.lst []))) ∧ ∀ i m H, W i m H → ((Itk d od kvs).stop i H ∧ Qd H) ∨
      ((Itk d od kvs).go i H ∧ ∃ Nx : Hp → Prop, (∀ H', Nx H' → ∃ m', m' < m ∧ W (i + 1) m' H') ∧
        ∀ x H', (Itk d od kvs).yld i H x H' → g x (wipe σ vs) H' fun σ2 H2 => wipe σ2 vs = wipe σ vs ∧ tt σ2 H2 fun b H3 =>
          if b = true then te σ2 H3 fun y H4 => ∃ acc, H4 D = some (.lst acc) ∧ acc.length < sizeLine ∧ Nx (upd H4 D (.lst (acc ++ [y]))) else Nx H3) := by
  refine ⟨fun i m H => i ≤ kvs.length ∧ m + i = kvs.length ∧ Pv i H, ⟨kvs.length, Nat.zero_le _, rfl, h0⟩, ?_⟩
  rintro i m H ⟨hi, hm, p⟩
  have q := hl i H hi p
  by_cases l : i < kvs.length
  · right
    refine ⟨⟨q, l⟩, Pv (i + 1), fun H' z => ⟨m - 1, by omega, by omega, by omega, z⟩, ?_⟩
    rintro x H' ⟨rfl, k, v, e, rfl⟩
    exact hs i k v _ e p
  · left
    obtain rfl : i = kvs.length := by omega
    exact ⟨⟨q, Nat.le_refl _⟩, hd H p⟩
theorem tupS_refs {K : PySem.W.Frag} {H : Hp} : ∀ {ts : List V} {es : List (Int × Str)}, TupS H ts es → ∃ ps : List Addr, ts = ps.map V.ref ∧ Paired (fun p (kv : Key × V) => SqT K H p [kV kv.1, kv.2]) ps (ents es)
  | _, _, .nil => ⟨[], rfl, .nil⟩
  | _, _, .cons (a := a) h r => by
    obtain ⟨ps, rfl, h2⟩ := tupS_refs (K := K) r
    exact ⟨a :: ps, rfl, .cons (.inl (.inl h)) h2⟩
theorem merge_from : ∀ (es acc : List (Int × Str)), (keys (acc ++ es)).Nodup → mergeK (ents acc) (ents es) = ents (acc ++ es)
  | [], acc, _ => by rw [List.append_nil]; rfl
  | (k, x) :: r, acc, nd => by
    have e : acc ++ (k, x) :: r = (acc ++ [(k, x)]) ++ r := by simp
    have hk : k ∉ keys acc := by
      rw [keys_app] at nd
      intro z
      exact (List.nodup_append.mp nd).2.2 k z k List.mem_cons_self rfl
    have step : mergeK (ents acc) (ents ((k, x) :: r)) = mergeK (putK (ents acc) (.inl k) (.str x)) (ents r) := rfl
    rw [step, put_new hk, e]
    exact merge_from r _ (by rw [← e]; exact nd)
theorem merge_ents {es : List (Int × Str)} (nd : (keys es).Nodup) : mergeK [] (ents es) = ents es := merge_from es [] nd
theorem tupS_at {H : Hp} {a : Addr} {od : Obj} {u o : HO} (e : H a = some (.frz od u)) : ∀ {ts : List V} {es : List (Int × Str)}, TupS H ts es → TupS (upd H a o) ts es
  | _, _, .nil => .nil
  | _, _, .cons h r => .cons ((upd_ne fun z => by rw [z, e] at h; cases h).trans h) (tupS_at e r)
theorem sqL_ext {K : PySem.W.Frag} {H H' : Hp} {a p : Addr} {xs : List V} (hp : H p = none) (e : Ext p H H') (h : SqL K H a xs) : SqL K H' a xs := by
  rcases h with (h | ⟨o, h⟩) | h
  · exact .inl (.inl (e _ _ (ne_of_none h hp) h))
  · exact .inl (.inr ⟨o, e _ _ (ne_of_none h hp) h⟩)
  · exact .inr h
theorem join_good {U : List Int} (hU : U.length ≤ 1000) {ls : List (List (Int × Str))} (h : ∀ es ∈ ls, Good U es) : Good U (joinAll [] ls) := by
  have : ∀ (ls : List (List (Int × Str))) (acc : List (Int × Str)), Good U acc → (∀ es ∈ ls, Good U es) → Good U (ls.foldl united acc) := by
    intro ls
    induction ls with
    | nil => exact fun acc g _ => g
    | cons x r ih => exact fun acc g h => ih _ (g.united (h x List.mem_cons_self)) fun y hy => h y (List.mem_cons_of_mem _ hy)
  exact this ls [] (good_nil hU) h
theorem FDs.good {U : List Int} {H : Hp} : ∀ {vs : List V} {ls : List (List (Int × Str))}, FDs U H vs ls → ∀ es ∈ ls, Good U es
  | _, _, .nil => fun _ h => (nomatch h)
  | _, _, .cons h r => fun es hm => by
    rcases List.mem_cons.mp hm with rfl | hm
    · exact h.2
    · exact r.good es hm
theorem join_step (es : List (Int × Str)) (ls : List (List (Int × Str))) (fs : List (Int × Str)) : joinAll es (ls ++ [fs]) = united (joinAll es ls) fs := by
  unfold joinAll
  rw [List.foldl_append]
  rfl

def putE (es : List (Int × Str)) (k : Int) (x : Str) : List (Int × Str) := if has es k = true then es.map fun p => if p.1 = k then (p.1, x) else p else es ++ [(k, x)]
theorem put_ents (es : List (Int × Str)) (k : Int) (x : Str) : putK (ents es) (.inl k) (.str x) = ents (putE es k x) := by
  unfold putE
  by_cases h : has es k = true
  · rw [if_pos h]
    unfold putK
    have hv : (valV (ents es) (.inl k)).isSome = true := by
      rw [valV_ents]
      unfold has at h
      cases q : look es k with
      | none => rw [q] at h; cases h
      | some y => rfl
    rw [valV_any, hv, if_pos rfl]
    unfold ents
    rw [List.map_map, List.map_map]
    refine List.map_congr_left fun p _ => ?_
    show (if (Sum.inl p.1 : Key) = .inl k then _ else _) = _
    by_cases e : p.1 = k
    · rw [if_pos (by rw [e])]
      show _ = ((Sum.inl (if p.1 = k then (p.1, x) else p).1 : Key), V.str (if p.1 = k then (p.1, x) else p).2)
      rw [if_pos e]
    · rw [if_neg (fun z => e (Sum.inl.inj z))]
      show _ = ((Sum.inl (if p.1 = k then (p.1, x) else p).1 : Key), V.str (if p.1 = k then (p.1, x) else p).2)
      rw [if_neg e]
  · rw [if_neg h]
    exact put_new fun z => h (has_iff.mpr z)
theorem keys_put (es : List (Int × Str)) (k : Int) (x : Str) : keys (putE es k x) = if has es k = true then keys es else keys es ++ [k] := by
  unfold putE
  by_cases h : has es k = true
  · rw [if_pos h, if_pos h]
    unfold keys
    rw [List.map_map]
    refine List.map_congr_left fun p _ => ?_
    show (if p.1 = k then (p.1, x) else p).1 = p.1
    split <;> rfl
  · rw [if_neg h, if_neg h, keys_app]
    rfl
theorem Good.put {U : List Int} {es : List (Int × Str)} (g : Good U es) {k : Int} (x : Str) (hk : k ∈ U) : Good U (putE es k x) := by
  unfold Good
  rw [keys_put]
  by_cases h : has es k = true
  · rw [if_pos h]; exact g
  · rw [if_neg h]
    refine ⟨List.nodup_append.mpr ⟨g.1, List.nodup_cons.mpr ⟨List.not_mem_nil, List.nodup_nil⟩, fun a ha b hb e => ?_⟩, fun q hq => ?_, g.2.2⟩
    · rw [List.mem_singleton.mp hb] at e
      rw [e] at ha
      exact h (has_iff.mpr ha)
    · rcases List.mem_append.mp hq with hq | hq
      · exact g.2.1 q hq
      · rw [List.mem_singleton.mp hq]; exact hk
theorem NE.put {es : List (Int × Str)} (g : NE es) (k : Int) {x : Str} (hx : nameOk x = true) : NE (putE es k x) := by
  unfold putE
  intro p hp
  by_cases h : has es k = true
  · rw [if_pos h] at hp
    obtain ⟨q, hq, rfl⟩ := List.mem_map.mp hp
    split
    · exact hx
    · exact g q hq
  · rw [if_neg h] at hp
    rcases List.mem_append.mp hp with hp | hp
    · exact g p hp
    · rw [List.mem_singleton.mp hp]; exact hx
theorem look_put (es : List (Int × Str)) (k : Int) (x : Str) (n : Int) : look (putE es k x) n = if n = k then some x else look es n := by
  unfold putE
  by_cases h : has es k = true
  · rw [if_pos h]
    have : ∀ es : List (Int × Str), look (es.map fun p => if p.1 = k then (p.1, x) else p) n = if n = k then (if has es k = true then some x else none) else look es n := by
      intro es
      induction es with
      | nil => show none = _; split <;> rfl
      | cons p r ih =>
        rw [List.map_cons, look_cons, ih]
        by_cases e : p.1 = k
        · rw [if_pos e]
          by_cases q : n = k
          · have hh : has (p :: r) k = true := by unfold has; rw [look_cons, if_pos e]; rfl
            rw [if_pos (show p.1 = n by rw [e, q]), hh, if_pos rfl, if_pos q]
          · rw [if_neg q, look_cons]
            have : ¬ p.1 = n := fun z => q (by rw [← z, e])
            rw [if_neg this, if_neg this, if_neg q]
        · rw [if_neg e]
          by_cases q : n = k
          · have : ¬ p.1 = n := fun z => e (by rw [z, q])
            have hh : has (p :: r) k = has r k := by unfold has; rw [look_cons, if_neg e]
            rw [if_neg this, hh, if_pos q, if_pos q]
          · rw [if_neg q, look_cons, if_neg q]
    rw [this, h]
    rfl
  · rw [if_neg h, look_app, look_cons, look_nil]
    have hk : look es k = none := by
      cases q : look es k with
      | none => rfl
      | some y => exact absurd (by unfold has; rw [q]; rfl) h
    by_cases e : n = k
    · rw [if_pos e, e, hk, if_pos rfl]; rfl
    · rw [if_neg e, if_neg (fun z => e z.symm), Option.or_none]
end My
set_option Elab.async false
set_option maxRecDepth 100000
set_option maxHeartbeats 4000000
set_option linter.unusedVariables false
namespace My
open PySem PySem.Spec PyProof.Rows L2 L2.DX
section
variable {X : Cx}
def rUpdK : V → List V → Hp → VK → Prop := fun x xs H Q => ∃ (a b : Addr) (ks ls : List (Key × V)), x = .ref a ∧ xs = [.ref b] ∧ a ≠ b ∧ H a = some (.dK ks) ∧ H b = some (.dK ls) ∧ ks.length + ls.length ≤ 100000 ∧ Q .non (upd H a (.dK (mergeK ks ls)))
theorem merge_len : ∀ (ls ks : List (Key × V)), (mergeK ks ls).length ≤ ks.length + ls.length
  | [], ks => Nat.le_refl _
  | p :: r, ks => by
    have h := merge_len r (putK ks p.1 p.2)
    have e : mergeK ks (p :: r) = mergeK (putK ks p.1 p.2) r := rfl
    have h2 : (putK ks p.1 p.2).length ≤ ks.length + 1 := by
      unfold putK
      split
      · rw [List.length_map]; omega
      · rw [List.length_append]; exact Nat.le_refl _
    rw [e, List.length_cons]
    omega
theorem mt_updateK : MtM X "dict.update" rUpdK := by
  intro pins s σ H x xs v us Q I rx rxs h
  obtain ⟨a, b, ks, ls, rfl, rfl, nab, ha, hb, hz, q⟩ := h
  cases rx
  obtain ⟨u, rfl, ru⟩ := vals1 rxs
  cases ru
  obtain ⟨_, sa, va, kva, da⟩ := dk_of I.hok ha
  obtain ⟨_, sb, vb, kvb, db⟩ := dk_of I.hok hb
  have l1 := kv_len kva
  have l2 := kv_len kvb
  have big : (200000 : Nat) ≤ sizeLine := by decide
  refine call_meetsIn PySem.F.slot_dict_update da.typeIs PySem.F.entry_dict_update (PySem.F.args_dict_update_2 _ _) (meets_dict_update (mixKind X.prog X.w) a b nab sb)
    ⟨va, vb, da, db, by omega, fun h' hm _ hs => ?_⟩
  have hm2 := hm
  obtain ⟨o', _, _, ho', _⟩ := hm2
  have ml := merge_len ls ks
  exact ⟨.non, _, d_write (t' := s.toks) I (by rw [ha]; exact True.intro) hs ⟨o', ho'⟩ (dk_new (by omega) sa (KV.merge kvb kva) hm), rfl, q⟩
end

theorem merge_apart {es fs : List (Int × Str)} (nd : (keys (es ++ fs)).Nodup) : mergeK (ents es) (ents fs) = ents (es ++ fs) := merge_from fs es nd
theorem good_apart {U : List Int} {es fs : List (Int × Str)} (g : Good U es) (h : Good U fs) : Good U (rest es fs ++ rest fs es) := by
  refine ⟨?_, fun k hk => ?_, g.2.2⟩
  · rw [keys_app]
    refine List.nodup_append.mpr ⟨(g.rest fs).1, (h.rest es).1, fun a ha b hb e => ?_⟩
    subst e
    have h1 := has_iff.mpr ha
    have h2 := has_iff.mpr hb
    rw [has_rest] at h1 h2
    cases p : has es a <;> cases q : has fs a <;> rw [p, q] at h1 h2 <;> simp at h1 h2
  · rw [keys_app] at hk
    rcases List.mem_append.mp hk with hk | hk
    · exact (g.rest fs).2.1 k hk
    · exact (h.rest es).2.1 k hk
theorem FD.chg {U : List Int} {H H' : Hp} {g d : Addr} {ls : List V} {es : List (Int × Str)} (e : H g = some (.lst ls)) (s : Ext g H H') (h : FD U H d es) : FD U H' d es :=
  ⟨s _ _ (fun z => by have := h.1; rw [z, e] at this; cases this) h.1, h.2⟩
theorem FDs.chg {U : List Int} {H H' : Hp} {g : Addr} {ls : List V} (e : H g = some (.lst ls)) (s : Ext g H H') : ∀ {vs : List V} {es : List (List (Int × Str))}, FDs U H vs es → FDs U H' vs es
  | _, _, .nil => .nil
  | _, _, .cons h r => .cons (h.chg e s) (FDs.chg e s r)
theorem FDs.app {U : List Int} {H : Hp} {x : Addr} {es : List (Int × Str)} (h : FD U H x es) : ∀ {vs : List V} {ls : List (List (Int × Str))}, FDs U H vs ls → FDs U H (vs ++ [.ref x]) (ls ++ [es])
  | _, _, .nil => .cons h .nil
  | _, _, .cons h1 r => .cons h1 (FDs.app h r)
theorem FDs.set {U : List Int} {H : Hp} {x : Addr} {es : List (Int × Str)} (h : FD U H x es) : ∀ {vs : List V} {ls : List (List (Int × Str))} (i : Nat), FDs U H vs ls → FDs U H (vs.set i (.ref x)) (ls.set i es)
  | _, _, _, .nil => .nil
  | _, _, 0, .cons h1 r => .cons h r
  | _, _, i + 1, .cons h1 r => .cons h1 (FDs.set h i r)
theorem Good.widen {m : Nat} {es : List (Int × Str)} (g : Good (below m) es) (h : m ≤ 14) : Good (below 14) es := by
  refine ⟨g.1, fun k hk => ?_, by rw [below_len]; omega⟩
  have := g.2.1 k hk
  unfold below at this ⊢
  obtain ⟨i, hi, rfl⟩ := List.mem_map.mp this
  exact List.mem_map.mpr ⟨i, List.mem_range.mpr (by have := List.mem_range.mp hi; omega), rfl⟩
theorem FD.widen {m : Nat} {H : Hp} {d : Addr} {es : List (Int × Str)} (g : FD (below m) H d es) (h : m ≤ 14) : FD (below 14) H d es := ⟨g.1, g.2.widen h⟩
theorem keys_same (es : List (Int × Str)) (x : Str) : keys (es.map fun p => (p.1, x)) = keys es := by
  unfold keys
  rw [List.map_map]
  rfl
theorem at_zero (v : V) (r : List V) : atI (v :: r) 0 = some v := by
  unfold atI ixN
  rw [if_pos (by decide), if_pos (by rw [List.length_cons]; omega)]
  rfl
theorem ix_one {n : Nat} (h : 2 ≤ n) : ixN n 1 = some 1 := by
  unfold ixN
  rw [if_pos (by decide), if_pos (by omega)]
  rfl
section
variable {X : Cx} {k : Nat} {C : Addr} {ps : List Str} {sp : Sp} {m : Str} {pos apos : Pos} {o : Expr} {ta : TE}
theorem pe_mtR0 {pl : Sem Bool} (D : MtR X.prog X.w X.K X.mg X.base C m k ps sp) (hr : Room k X.A) (c : Cls X.K C) (he : PE X o ta)
    (ht : eval (.Call (.Attribute o m apos) [] [] pos) X.env = (do
      let ov ← eval o X.env
      standAt apos.atName
      let (f, first) ← holding [ov] (getMethod ov m pl)
      callWith pos f first (backTo pos (starEach [] X.env)) (backToKw pos (keywordEach [] X.env))) := by rfl) :
    PE X (.Call (.Attribute o m apos) [] [] pos) (tMethR C m (spStar ps sp) E0 ta tNil) := by
  obtain ⟨f, h1, h2, h3, F⟩ := D
  refine ⟨fun pins s σ H Q I h => ?_⟩
  refine PySem.W.methodCall_KW (pl := pl) (thn (he.run pins s σ H _ I h) fun u s1 ⟨x, H1, I1, rx, a, dx, fs, ex, ea, l, q⟩ => ?_) ht
  subst ex
  cases rx
  refine getmeth_ok I1 ea c (⟨h1, h2, h3⟩ : Meth X.K C m f) l ?_
  exact PySem.W.callWith_K0 (first := [.ref a]) I1.kIn h3 (wpAny_call (run_fnR (us := [.ref a]) (vs := [.ref a]) F hr pass0 I1 (.cons rfl .nil) q))
end

theorem range_all {K : PySem.W.Frag} {σ : L2.St} {H : Hp} {D' : Ends} {j : Nat} {n : Nat} {ta te : TE} (hta : ∀ R : VK, R (.int n) H → ta σ H R) (hn : n ≤ 1000)
    (hw : ∀ x, wipe ((wipe σ [j]).set j x) [j] = wipe σ [j])
    (hte : ∀ (i : Nat) (H1 : Hp) (Q : VK), i < n → Same H H1 → (∀ H2, Same H1 H2 → Q (.bl true) H2) → te ((wipe σ [j]).set j (some (.int (0 + i)))) H1 Q)
    (k : ∀ H', Same H H' → D'.rt (.bl true) H') :
    tRet (tCB (rAll K) (tCons (tLc (iRng1 (tCons ta tNil)) (gName j) tYes te [j]) tNil)) D' σ H := by
  refine hta _ ⟨n, rfl, by omega, by omega, fun E hE => ?_⟩
  refine lc_range (lo := 0) (fun i H' => Ext E H H' ∧ H' E = some (.lst ((List.replicate i true).map V.bl))) ?_ ?_ ?_
  · exact ⟨fun b o n e => (upd_ne n).trans e, upd_same⟩
  · rintro i H' hi ⟨x, hd⟩
    have hi2 : i < n := by omega
    refine ⟨hw _, hte i H' _ hi2 (fun b o e => x b o (ne_of_none e hE) e) fun H2 s2 => ?_⟩
    refine ⟨_, s2 _ _ hd, ?_, ?_, upd_same.trans ?_⟩
    · rw [List.length_map, List.length_replicate]
      exact small1000 (by omega)
    · exact fun b o nb e => (upd_ne nb).trans (s2 _ _ (x b o nb e))
    · rw [List.replicate_succ', List.map_append]
      rfl
  · rintro H' ⟨x, hd⟩
    refine ⟨E, _, rfl, SqL.of hd, ?_⟩
    rw [allB]
    exact k _ fun b o e => x b o (ne_of_none e hE) e

theorem sl_listK {X : Cx} {K : PySem.W.Frag} (h : X.K = K) : SlR X (rSlL K) := by
  subst h
  exact sl_list
theorem ix_listK {X : Cx} {K : PySem.W.Frag} (h : X.K = K) : IxR X (rIxL K) := by
  subst h
  exact ix_list
theorem look_join (ls : List (List (Int × Str))) : ∀ (es : List (Int × Str)) (k : Int), look (joinAll es ls) k = ls.foldl (fun acc l => acc.or (look l k)) (look es k) := by
  unfold joinAll
  induction ls with
  | nil => exact fun _ _ => rfl
  | cons l r ih =>
    intro es k
    rw [List.foldl_cons, List.foldl_cons, ih, look_united]
theorem look_join_like : ∀ (us ws : List (List (Int × Str))) (k : Int) (a : Option Str), us.length = ws.length → (∀ (i : Nat) (u w : List (Int × Str)), us[i]? = some u → ws[i]? = some w → look u k = look w k) →
    us.foldl (fun acc l => acc.or (look l k)) a = ws.foldl (fun acc l => acc.or (look l k)) a
  | [], [], _, _, _, _ => rfl
  | u :: us, w :: ws, k, a, hl, h => by
    rw [List.foldl_cons, List.foldl_cons, h 0 u w rfl rfl]
    exact look_join_like us ws k _ (by simpa using hl) fun i x y e1 e2 => h (i + 1) x y e1 e2
theorem NE.join {ls : List (List (Int × Str))} (h : ∀ es ∈ ls, NE es) : NE (joinAll [] ls) := by
  have : ∀ (ls : List (List (Int × Str))) (acc : List (Int × Str)), NE acc → (∀ es ∈ ls, NE es) → NE (ls.foldl united acc) := by
    intro ls
    induction ls with
    | nil => exact fun acc g _ => g
    | cons x r ih =>
      refine fun acc g h => ih _ (fun p hp => ?_) fun y hy => h y (List.mem_cons_of_mem _ hy)
      unfold united at hp
      rcases List.mem_append.mp hp with hp | hp
      · exact g p hp
      · exact h x List.mem_cons_self p (List.mem_filter.mp hp).1
  exact this ls [] (fun p hp => (nomatch hp)) h
theorem FDs.take {U : List Int} {H : Hp} : ∀ {vs : List V} {ls : List (List (Int × Str))} (i : Nat), FDs U H vs ls → FDs U H (vs.take i) (ls.take i)
  | _, _, 0, _ => by rw [List.take_zero, List.take_zero]; exact .nil
  | _, _, i + 1, .nil => .nil
  | _, _, i + 1, .cons h r => .cons h (FDs.take i r)
theorem cut_to (xs : List V) (i : Nat) (h : i ≤ xs.length) : cutV xs none (some (i : Int)) = xs.take i := by
  have e : HT.sIx xs.length xs.length (some (i : Int)) = i := by
    rw [HT.sIx_nat]
    omega
  unfold cutV
  rw [e]
  rfl
theorem range_allE {K : PySem.W.Frag} {σ : L2.St} {H : Hp} {Q : VK} {j : Nat} {n : Nat} {ta te : TE} (hta : ∀ R : VK, R (.int n) H → ta σ H R) (hn : n ≤ 1000)
    (hw : ∀ x, wipe ((wipe σ [j]).set j x) [j] = wipe σ [j])
    (hte : ∀ (i : Nat) (H1 : Hp) (Q : VK), i < n → Same H H1 → (∀ H2, Same H1 H2 → Q (.bl true) H2) → te ((wipe σ [j]).set j (some (.int (0 + i)))) H1 Q)
    (k : ∀ H', Same H H' → Q (.bl true) H') :
    tCB (rAll K) (tCons (tLc (iRng1 (tCons ta tNil)) (gName j) tYes te [j]) tNil) σ H Q :=
  range_all (D' := { nx := fun _ _ => True, rt := Q }) hta hn hw hte k
theorem firsts_self {es : List (Int × Str)} (nd : (keys es).Nodup) : firsts es = es := by
  have : ∀ (r acc : List (Int × Str)), (keys (acc ++ r)).Nodup → r.foldl (fun acc p => if has acc p.1 = true then acc else acc ++ [p]) acc = acc ++ r := by
    intro r
    induction r with
    | nil => intro acc _; rw [List.append_nil]; rfl
    | cons p r ih =>
      intro acc h
      rw [List.foldl_cons]
      have e : acc ++ p :: r = (acc ++ [p]) ++ r := by simp
      have hk : has acc p.1 = false := by
        cases q : has acc p.1 with
        | false => rfl
        | true =>
          rw [keys_app] at h
          exact absurd rfl ((List.nodup_append.mp h).2.2 p.1 (has_iff.mp q) p.1 List.mem_cons_self)
      rw [hk, if_neg (by simp), ih _ (by rw [← e]; exact h), e]
  exact this es [] nd
theorem elAll_of {K : PySem.W.Frag} {H : Hp} : ∀ {ts : List Addr} {es : List (Int × Str)}, Paired (fun (t : Addr) (q : Key × V) => H t = some (.tup [kV q.1, q.2])) ts (ents es) → Good (below 14) es → NE es → ElAll K H (ts.map V.ref) es
  | _, [], h, _, _ => by
    cases h
    exact .nil
  | _, (k, x) :: r, h, g, ne => by
    cases h with
    | cons h1 h2 =>
      have hk := g.2.1 k List.mem_cons_self
      unfold below at hk
      obtain ⟨i, hi, rfl⟩ := List.mem_map.mp hk
      have := List.mem_range.mp hi
      exact .cons (.inl (.inl h1)) ⟨by omega, by omega⟩ (ne _ List.mem_cons_self) (elAll_of h2 ⟨(List.nodup_cons.mp g.1).2, fun q hq => g.2.1 q (List.mem_cons_of_mem _ hq), g.2.2⟩ fun q hq => ne q (List.mem_cons_of_mem _ hq))
end My
set_option Elab.async false
set_option maxRecDepth 100000
set_option linter.unusedVariables false
namespace My
open PySem

section
variable {α β : Type}
def lk (es : List (Int × α)) (k : Int) : Option α := (es.find? fun p => decide (p.1 = k)).map (·.2)
def ks (es : List (Int × α)) : List Int := es.map (·.1)
def hs (es : List (Int × α)) (k : Int) : Bool := (lk es k).isSome
theorem lk_nil (k : Int) : lk ([] : List (Int × α)) k = none := rfl
theorem lk_cons (p : Int × α) (es : List (Int × α)) (k : Int) : lk (p :: es) k = if p.1 = k then some p.2 else lk es k := by
  unfold lk
  rw [List.find?_cons]
  by_cases e : p.1 = k
  · rw [if_pos e, decide_eq_true e]; rfl
  · rw [if_neg e, decide_eq_false e]
theorem ks_len (es : List (Int × α)) : (ks es).length = es.length := List.length_map _
theorem ks_app (es fs : List (Int × α)) : ks (es ++ fs) = ks es ++ ks fs := List.map_append
theorem lk_none {es : List (Int × α)} {k : Int} : lk es k = none ↔ k ∉ ks es := by
  induction es with
  | nil => exact ⟨fun _ => List.not_mem_nil, fun _ => rfl⟩
  | cons p es ih =>
    rw [lk_cons]
    unfold ks at ih ⊢
    rw [List.map_cons, List.mem_cons, not_or]
    by_cases e : p.1 = k
    · rw [if_pos e]
      exact ⟨fun z => (nomatch z), fun z => absurd e.symm z.1⟩
    · rw [if_neg e, ih]
      exact ⟨fun z => ⟨fun q => e q.symm, z⟩, fun z => z.2⟩
theorem hs_iff {es : List (Int × α)} {k : Int} : hs es k = true ↔ k ∈ ks es := by
  unfold hs
  cases e : lk es k with
  | none =>
    refine ⟨fun z => ?_, fun z => absurd z (lk_none.mp e)⟩
    cases z
  | some x =>
    refine ⟨fun _ => Decidable.byContradiction fun n => ?_, fun _ => rfl⟩
    rw [lk_none.mpr n] at e
    cases e
theorem hs_not {es : List (Int × α)} {k : Int} : hs es k = false ↔ k ∉ ks es := by
  rw [← hs_iff]
  cases hs es k <;> simp
theorem lk_app (es gs : List (Int × α)) (k : Int) : lk (es ++ gs) k = (lk es k).or (lk gs k) := by
  induction es with
  | nil => rfl
  | cons p r ih =>
    rw [List.cons_append, lk_cons, lk_cons]
    by_cases e : p.1 = k
    · rw [if_pos e, if_pos e]; rfl
    · rw [if_neg e, if_neg e, ih]
theorem lk_filter (c : Int → Bool) (es : List (Int × α)) (k : Int) : lk (es.filter fun p => c p.1) k = if c k = true then lk es k else none := by
  induction es with
  | nil => rw [List.filter_nil, lk_nil, ite_self]
  | cons p r ih =>
    rw [List.filter_cons]
    by_cases e : p.1 = k
    · rw [e]
      by_cases q : c k = true
      · rw [if_pos q, if_pos q, lk_cons, lk_cons, if_pos e, if_pos e]
      · rw [if_neg q, if_neg q, ih, if_neg q]
    · by_cases q : c p.1 = true
      · rw [if_pos q, lk_cons, if_neg e, ih, lk_cons, if_neg e]
      · rw [if_neg q, ih, lk_cons, if_neg e]
theorem lk_ents {es : List (Int × α)} {p : Int × α} (nd : (ks es).Nodup) (h : p ∈ es) : lk es p.1 = some p.2 := by
  induction es with
  | nil => cases h
  | cons q r ih =>
    rw [lk_cons]
    have nd2 : q.1 ∉ ks r ∧ (ks r).Nodup := List.nodup_cons.mp nd
    rcases List.mem_cons.mp h with rfl | h
    · rw [if_pos rfl]
    · rw [if_neg (fun e : q.1 = p.1 => nd2.1 (by rw [e]; exact List.mem_map_of_mem h)), ih nd2.2 h]
theorem lk_mem {es : List (Int × α)} {k : Int} {x : α} (h : lk es k = some x) : (k, x) ∈ es := by
  induction es with
  | nil => cases h
  | cons p r ih =>
    rw [lk_cons] at h
    by_cases e : p.1 = k
    · rw [if_pos e] at h
      cases h
      subst e
      exact List.mem_cons_self
    · rw [if_neg e] at h
      exact List.mem_cons_of_mem _ (ih h)
theorem ks_filter_sub (c : Int × α → Bool) (es : List (Int × α)) : (ks (es.filter c)).Sublist (ks es) := List.Sublist.map _ List.filter_sublist
theorem lk_map (f : Int → α → β) (es : List (Int × α)) (k : Int) : lk (es.map fun p => (p.1, f p.1 p.2)) k = (lk es k).map (f k) := by
  induction es with
  | nil => rfl
  | cons p r ih =>
    rw [List.map_cons, lk_cons, lk_cons, ih]
    by_cases e : p.1 = k
    · rw [if_pos e, if_pos e, e]; rfl
    · rw [if_neg e, if_neg e]
theorem ks_map (f : Int → α → β) (es : List (Int × α)) : ks (es.map fun p => (p.1, f p.1 p.2)) = ks es := by
  unfold ks
  rw [List.map_map]
  rfl

def putA (es : List (Int × α)) (k : Int) (x : α) : List (Int × α) := if hs es k = true then es.map fun p => if p.1 = k then (p.1, x) else p else es ++ [(k, x)]
theorem ks_put (es : List (Int × α)) (k : Int) (x : α) : ks (putA es k x) = if hs es k = true then ks es else ks es ++ [k] := by
  unfold putA
  by_cases h : hs es k = true
  · rw [if_pos h, if_pos h]
    unfold ks
    rw [List.map_map]
    refine List.map_congr_left fun p _ => ?_
    show (if p.1 = k then (p.1, x) else p).1 = p.1
    split <;> rfl
  · rw [if_neg h, if_neg h, ks_app]
    rfl
theorem lk_put (es : List (Int × α)) (k : Int) (x : α) (n : Int) : lk (putA es k x) n = if n = k then some x else lk es n := by
  unfold putA
  by_cases h : hs es k = true
  · rw [if_pos h]
    have main : ∀ es : List (Int × α), lk (es.map fun p => if p.1 = k then (p.1, x) else p) n = if n = k then (if hs es k = true then some x else none) else lk es n := by
      intro es
      induction es with
      | nil => show none = _; split <;> rfl
      | cons p r ih =>
        rw [List.map_cons, lk_cons, ih]
        by_cases e : p.1 = k
        · rw [if_pos e]
          by_cases q : n = k
          · have hh : hs (p :: r) k = true := by unfold hs; rw [lk_cons, if_pos e]; rfl
            rw [if_pos (show p.1 = n by rw [e, q]), hh, if_pos rfl, if_pos q]
          · rw [if_neg q, lk_cons]
            have z : ¬ p.1 = n := fun z => q (by rw [← z, e])
            rw [if_neg z, if_neg z, if_neg q]
        · rw [if_neg e]
          by_cases q : n = k
          · have z : ¬ p.1 = n := fun z => e (by rw [z, q])
            have hh : hs (p :: r) k = hs r k := by unfold hs; rw [lk_cons, if_neg e]
            rw [if_neg z, hh, if_pos q, if_pos q]
          · rw [if_neg q, lk_cons, if_neg q]
    rw [main, h]
    rfl
  · rw [if_neg h, lk_app, lk_cons, lk_nil]
    have hk : lk es k = none := by
      cases q : lk es k with
      | none => rfl
      | some y => exact absurd (by unfold hs; rw [q]; rfl) h
    by_cases e : n = k
    · rw [if_pos e, e, hk, if_pos rfl]; rfl
    · rw [if_neg e, if_neg (fun z => e z.symm), Option.or_none]
theorem put_len (es : List (Int × α)) (k : Int) (x : α) : (putA es k x).length ≤ es.length + 1 := by
  rw [← ks_len, ks_put]
  split
  · rw [ks_len]; omega
  · rw [List.length_append, ks_len]; exact Nat.le_refl _
theorem put_all {P : Int × α → Prop} {es : List (Int × α)} (h : ∀ p ∈ es, P p) (k : Int) (x : α) (hx : P (k, x)) : ∀ p ∈ putA es k x, P p := by
  intro p hp
  unfold putA at hp
  split at hp
  · obtain ⟨q, hq, rfl⟩ := List.mem_map.mp hp
    split
    · rename_i e; rw [e]; exact hx
    · exact h q hq
  · rcases List.mem_append.mp hp with hp | hp
    · exact h p hp
    · rw [List.mem_singleton.mp hp]; exact hx
theorem nd_sub : ∀ {l U : List Int}, l.Nodup → (∀ k ∈ l, k ∈ U) → l.length ≤ U.length
  | [], U, _, _ => Nat.zero_le _
  | a :: r, U, nd, h => by
    have ha : a ∈ U := h a List.mem_cons_self
    have := nd_sub (l := r) (U := U.erase a) (List.nodup_cons.mp nd).2 fun k hk =>
      (List.mem_erase_of_ne (fun e : k = a => (List.nodup_cons.mp nd).1 (by rw [← e]; exact hk))).mpr (h k (List.mem_cons_of_mem _ hk))
    rw [List.length_erase_of_mem ha] at this
    have p := List.length_pos_of_mem ha
    rw [List.length_cons]
    omega

def Gd (U : List Int) (es : List (Int × α)) : Prop := (ks es).Nodup ∧ (∀ k ∈ ks es, k ∈ U) ∧ U.length ≤ 1000
theorem Gd.len {U : List Int} {es : List (Int × α)} (g : Gd U es) : es.length ≤ 1000 := by
  have := nd_sub g.1 g.2.1
  rw [ks_len] at this
  exact Nat.le_trans this g.2.2
theorem Gd.nil {U : List Int} (h : U.length ≤ 1000) : Gd U ([] : List (Int × α)) := ⟨List.nodup_nil, fun _ h => (nomatch h), h⟩
theorem Gd.filter {U : List Int} {es : List (Int × α)} (g : Gd U es) (c : Int × α → Bool) : Gd U (es.filter c) :=
  ⟨g.1.sublist (ks_filter_sub c es), fun k hk => g.2.1 k ((ks_filter_sub c es).subset hk), g.2.2⟩
theorem Gd.put {U : List Int} {es : List (Int × α)} (g : Gd U es) {k : Int} (x : α) (hk : k ∈ U) : Gd U (putA es k x) := by
  unfold Gd
  rw [ks_put]
  by_cases h : hs es k = true
  · rw [if_pos h]; exact g
  · rw [if_neg h]
    refine ⟨List.nodup_append.mpr ⟨g.1, List.nodup_cons.mpr ⟨List.not_mem_nil, List.nodup_nil⟩, fun a ha b hb e => ?_⟩, fun q hq => ?_, g.2.2⟩
    · rw [List.mem_singleton.mp hb] at e
      rw [e] at ha
      exact h (hs_iff.mpr ha)
    · rcases List.mem_append.mp hq with hq | hq
      · exact g.2.1 q hq
      · rw [List.mem_singleton.mp hq]; exact hk
theorem Gd.of_ks {U : List Int} {es : List (Int × α)} {fs : List (Int × β)} (g : Gd U es) (e : ks fs = ks es) : Gd U fs := by
  unfold Gd
  rw [e]
  exact g
theorem len_of_hs {U V : List Int} {es : List (Int × α)} {fs : List (Int × β)} (g : Gd U es) (h : Gd V fs) (e : ∀ k, hs es k = hs fs k) : es.length = fs.length := by
  rw [← ks_len, ← ks_len fs]
  refine Nat.le_antisymm (nd_sub g.1 fun k hk => ?_) (nd_sub h.1 fun k hk => ?_)
  · rw [← hs_iff] at hk ⊢
    rw [← e]; exact hk
  · rw [← hs_iff] at hk ⊢
    rw [e]; exact hk
theorem lk_part {fs : List (Int × α)} {i : Nat} {n : Int} {x : α} (nd : (ks fs).Nodup) (h : fs[i]? = some (n, x)) : lk (fs.take i) n = none := by
  refine lk_none.mpr fun z => ?_
  have e := List.take_append_drop i fs
  have q : ks fs = ks (fs.take i) ++ ks (fs.drop i) := by rw [← ks_app, e]
  rw [q] at nd
  refine (List.nodup_append.mp nd).2.2 n z n ?_ rfl
  have : (n, x) ∈ fs.drop i := by
    rw [List.mem_iff_getElem?]
    exact ⟨0, by rw [List.getElem?_drop]; exact h⟩
  exact List.mem_map_of_mem this
theorem lk_take_snoc {fs : List (Int × α)} {i : Nat} {p : Int × α} (h : fs[i]? = some p) : fs.take (i + 1) = fs.take i ++ [p] := by
  rw [List.take_add_one, h]
  rfl
end

abbrev Rw := Str × Int

def over1 (a : Option Rw) (b : Rw) : Rw := ((a.map (·.1)).getD b.1, b.2)
def over (a b : Option Rw) : Option Rw := match b with
  | none => a
  | some r => some (over1 a r)

def lay1 (base acc : List (Int × Rw)) (r : Int × Rw) : List (Int × Rw) := putA acc r.1 (over1 (lk base r.1) r.2)
theorem lk_lay {base acc : List (Int × Rw)} (r : Int × Rw) (h : lk base r.1 = lk acc r.1) (k : Int) : lk (lay1 base acc r) k = over (lk acc k) (if k = r.1 then some r.2 else none) := by
  unfold lay1
  rw [lk_put]
  by_cases e : k = r.1
  · rw [if_pos e, if_pos e, h, e]; rfl
  · rw [if_neg e, if_neg e]; rfl
def mergedA (es fs : List (Int × Rw)) : List (Int × Rw) := fs.foldl (lay1 es) es
def laid1 (acc : List (Int × Rw)) (r : Int × Rw) : List (Int × Rw) := lay1 acc acc r
def laidA (es fs : List (Int × Rw)) : List (Int × Rw) := fs.foldl laid1 es
theorem lk_mergedA_take {es fs : List (Int × Rw)} (nd : (ks fs).Nodup) (k : Int) : ∀ i, i ≤ fs.length → lk ((fs.take i).foldl (lay1 es) es) k = over (lk es k) (lk (fs.take i) k)
  | 0, _ => by rw [List.take_zero]; rfl
  | i + 1, hi => by
    have e : fs[i]? = some (fs[i].1, fs[i].2) := List.getElem?_eq_getElem (by omega)
    generalize fs[i].1 = n at e
    generalize fs[i].2 = r at e
    have ih := fun k => lk_mergedA_take (es := es) nd k i (by omega)
    have e0 := lk_part nd e
    rw [lk_take_snoc e, List.foldl_append, List.foldl_cons, List.foldl_nil]
    rw [lk_lay (n, r) (by rw [ih]; show lk es n = over (lk es n) (lk (fs.take i) n); rw [e0]; rfl), ih, lk_app, lk_cons, lk_nil]
    by_cases z : k = n
    · rw [if_pos z, if_pos z.symm, z, e0]; rfl
    · rw [if_neg z, if_neg (fun q => z q.symm), Option.or_none]; rfl
theorem lk_mergedA {es fs : List (Int × Rw)} (nd : (ks fs).Nodup) (k : Int) : lk (mergedA es fs) k = over (lk es k) (lk fs k) := by
  have := lk_mergedA_take (es := es) nd k fs.length (Nat.le_refl _)
  rw [List.take_length] at this
  exact this
theorem lk_laidA {es fs : List (Int × Rw)} (nd : (ks fs).Nodup) (k : Int) : lk (laidA es fs) k = over (lk es k) (lk fs k) := by
  unfold laidA
  induction fs generalizing es with
  | nil => rfl
  | cons p r ih =>
    obtain ⟨n, x⟩ := p
    have nd2 : n ∉ ks r ∧ (ks r).Nodup := List.nodup_cons.mp nd
    rw [List.foldl_cons, ih nd2.2]
    show over (lk (lay1 es es (n, x)) k) (lk r k) = _
    rw [lk_lay (n, x) rfl, lk_cons]
    by_cases z : k = n
    · have e : lk r n = none := lk_none.mpr nd2.1
      rw [if_pos z, if_pos z.symm, z, e]; rfl
    · rw [if_neg z, if_neg (fun q => z q.symm)]; rfl
theorem laid_self {l : List (Int × Rw)} (nd : (ks l).Nodup) : laidA [] l = l := by
  have main : ∀ (r acc : List (Int × Rw)), (ks (acc ++ r)).Nodup → laidA acc r = acc ++ r := by
    intro r
    induction r with
    | nil => intro acc _; rw [List.append_nil]; rfl
    | cons p r ih =>
      intro acc h
      have e : acc ++ p :: r = (acc ++ [p]) ++ r := by simp
      have hk : hs acc p.1 = false := by
        cases q : hs acc p.1 with
        | false => rfl
        | true =>
          rw [ks_app] at h
          exact absurd rfl ((List.nodup_append.mp h).2.2 p.1 (hs_iff.mp q) p.1 List.mem_cons_self)
      have l0 : lk acc p.1 = none := lk_none.mpr (hs_not.mp hk)
      have st : laid1 acc p = acc ++ [p] := by
        unfold laid1 lay1 putA
        rw [hk, if_neg (by simp), l0]
        rfl
      unfold laidA
      rw [List.foldl_cons, st]
      have := ih (acc ++ [p]) (by rw [← e]; exact h)
      unfold laidA at this
      rw [this, e]
  exact main l [] nd
section
variable {U : List Int} {P : Int × Rw → Prop}
theorem Gd.lay {acc : List (Int × Rw)} (base : List (Int × Rw)) {r : Int × Rw} (g : Gd U acc) (h : r.1 ∈ U) : Gd U (lay1 base acc r) := g.put _ h
theorem Gd.merged {es fs : List (Int × Rw)} (g : Gd U es) (h : Gd U fs) : Gd U (mergedA es fs) := by
  unfold mergedA
  have main : ∀ (l acc : List (Int × Rw)), Gd U acc → (∀ p ∈ l, p.1 ∈ U) → Gd U (l.foldl (lay1 es) acc) := by
    intro l
    induction l with
    | nil => exact fun acc g _ => g
    | cons p r ih => exact fun acc g h => ih _ (g.lay es (h p List.mem_cons_self)) fun q hq => h q (List.mem_cons_of_mem _ hq)
  exact main fs es g fun p hp => h.2.1 _ (List.mem_map_of_mem hp)
theorem Gd.laid {es fs : List (Int × Rw)} (g : Gd U es) (h : ∀ p ∈ fs, p.1 ∈ U) : Gd U (laidA es fs) := by
  unfold laidA
  induction fs generalizing es with
  | nil => exact g
  | cons p r ih => exact ih (g.lay es (h p List.mem_cons_self)) fun q hq => h q (List.mem_cons_of_mem _ hq)
end

theorem over_ok (P : Rw → Prop) (hP : ∀ a b : Rw, P a → P b → P (a.1, b.2)) {a : Option Rw} {b : Rw} (ha : ∀ x, a = some x → P x) (hb : P b) : P (over1 a b) := by
  unfold over1
  cases a with
  | none => exact hb
  | some x => exact hP x b (ha x rfl) hb

theorem sorted_to {α : Type} {es ds es' : List (Int × α)} {ys : List Int} (x0 : α) (ne : (ks es).Nodup) (nd : (ks ds).Nodup) (hl : ∀ k, lk es k = lk ds k) (p1 : es'.Perm es) (e2 : ks es' = ys) : es' = ys.map fun k => (k, (lk ds k).getD x0) := by
  rw [← e2]
  unfold ks
  rw [List.map_map]
  have main : ∀ p ∈ es', p = (p.1, (lk ds p.1).getD x0) := by
    intro p hp
    have l := lk_ents ne (p1.mem_iff.mp hp)
    rw [← hl, l]
    rfl
  exact (List.map_id _).symm.trans (List.map_congr_left main)
end My
set_option Elab.async false
set_option maxRecDepth 100000
set_option maxHeartbeats 4000000
set_option linter.unusedVariables false
namespace My
open PySem PySem.Spec PyProof.Rows L2

def EntV (h : Heap) (v : Value) (x : Int) (y : Value) : Prop := ∃ a o t n, v = .ref a ∧ h.get? a = some o ∧ o.cls = .type "tuple" ∧ o.data = .seq #[.int x t, y] n
theorem EntV.keeps {h h' : Heap} {v : Value} {x : Int} {y : Value} (p : EntV h v x y) (k : ∀ b o, h.get? b = some o → o.cls = .type "tuple" → h'.get? b = some o) : EntV h' v x y := by
  obtain ⟨a, o, t, n, e, ho, hc, hd⟩ := p
  exact ⟨a, o, t, n, e, k a o ho hc, hc, hd⟩
theorem entV_firsts {h : Heap} : ∀ {vs : List Value}, (∀ v ∈ vs, ∃ x y, EntV h v x y) → ∃ fs : List Value, PySem.W.KatTups h vs fs ∧ fs.length = vs.length ∧ ∀ f ∈ fs, ∃ x t, f = Value.int x t
  | [], _ => ⟨[], .nil, rfl, fun _ hm => (nomatch hm)⟩
  | v :: vs, hp => by
    obtain ⟨fs, h1, h2, h3⟩ := entV_firsts (vs := vs) fun z hz => hp z (List.mem_cons_of_mem _ hz)
    obtain ⟨x, y, a, o, t, n, rfl, ho, hc, hd⟩ := hp v List.mem_cons_self
    refine ⟨Value.int x t :: fs, .cons ho hc hd rfl h1, congrArg Nat.succ h2, ?_⟩
    intro f hf
    rcases List.mem_cons.mp hf with e | hf
    · exact ⟨x, t, e⟩
    · exact h3 f hf
section
variable {P : Program} {w : World} {A : Around} {E : Value → Shared → Prop} {s : Shared}
theorem entV_cmp {vs : List Value} {k : Value → Int} {y : Value → Value} (hp : ∀ v ∈ vs, EntV s.heap v (k v) (y v)) (one : ∀ v ∈ vs, ∀ u ∈ vs, k v = k u → y v = y u) :
    SrtO.Cmp P w A s (tuples' true) (fun p => p.1 ∈ vs) (SrtO.lt2 fun v u => decide (k v < k u)) := by
  intro p q hm hm'
  have h1 := hp _ hm
  have h2 := hp _ hm'
  have h3 := one _ hm _ hm'
  show wpAny (model P w) A (keyLt' (tuples' true) p.1 q.1) (fun r s' => s' = s ∧ r = decide (k p.1 < k q.1)) (fun _ _ => False) s
  generalize k p.1 = x1 at h1 h3 ⊢
  generalize k q.1 = x2 at h2 h3 ⊢
  generalize y p.1 = y1 at h1 h3
  generalize y q.1 = y2 at h2 h3
  obtain ⟨a, o, t, n, e, ho, hc, hd⟩ := h1
  obtain ⟨b, o', t', n', e', ho', hc', hd'⟩ := h2
  rw [e, e']
  refine PySem.W.kat_lt ho hd ho' hd' ?_
  show PySem.W.KatLex P w A true (decide (2 < 2)) _ [(.int x1 t, .int x2 t'), (y1, y2)] 0 s
  refine PySem.W.kat_cons (SeqAt.EqAt.int_int x1 t x2 t' P w _ _ (PySem.W.kat_go (fun e1 => ?_) fun e1 => ?_))
  · have ex : x1 = x2 := by simpa using e1
    have ey := h3 ex
    subst ex
    subst ey
    refine PySem.W.kat_yes (PySem.W.kat_cons (SeqAt.EqAt.same y1 P w _ _ (PySem.W.kat_go (fun _ => ?_) fun e2 => ?_)))
    · exact PySem.W.kat_yes (PySem.W.kat_nil ⟨rfl, (decide_eq_false (Int.lt_irrefl _)).symm⟩)
    · simp at e2
  · exact PySem.W.kat_no (oneLt_int ⟨rfl, rfl⟩)
theorem swoV (k : Value → Int) : SrtO.Swo fun v u => decide (k v < k u) := by
  refine ⟨fun x y h => ?_, fun x y z h1 h2 => ?_⟩
  · have := of_decide_eq_true h
    exact decide_eq_false (by omega)
  · have a := of_decide_eq_false h1
    have b := of_decide_eq_false h2
    exact decide_eq_false (by omega)
theorem entV_sortable {a : Addr} {vs : List Value} {k : Value → Int} {y : Value → Value} (h0 : 0 < vs.length) (hp : ∀ v ∈ vs, EntV s.heap v (k v) (y v)) (one : ∀ v ∈ vs, ∀ u ∈ vs, k v = k u → y v = y u)
    (ha : ∀ o, s.heap.get? a = some o → o.cls ≠ .type "tuple") : SrtO.SortableO P w A s a vs fun v u => decide (k v < k u) := by
  intro h' keep
  have hp2 : ∀ v ∈ vs, EntV h' v (k v) (y v) := fun v hm => (hp v hm).keeps fun b o e c => keep b o (fun z => by rw [z] at e; exact ha o e c) e
  obtain ⟨fs, h1, h2, h3⟩ := entV_firsts fun v hm => ⟨_, _, hp2 v hm⟩
  refine ⟨tuples' true, fun Q E hq => ?_, entV_cmp hp2 one⟩
  refine PySem.W.kat_kind (T := .type "int") h1 (by omega) (fun f hm => ?_) rfl ?_
  · obtain ⟨x, t, rfl⟩ := h3 f hm
    exact PySem.W.Looks.now
  · rw [show (Value.type "int" != Value.type "tuple") = true by decide]
    exact hq
end
end My
set_option Elab.async false
set_option maxRecDepth 100000
set_option maxHeartbeats 4000000
set_option linter.unusedVariables false
namespace My
open PySem PySem.Spec PyProof.Rows L2 L2.DX

def entsV (es : List (Int × V)) : List (Key × V) := es.map fun p => (Sum.inl p.1, p.2)
theorem entsV_len (es : List (Int × V)) : (entsV es).length = es.length := List.length_map _
theorem entsV_app (xs ys : List (Int × V)) : entsV (xs ++ ys) = entsV xs ++ entsV ys := List.map_append
theorem entsV_at {es : List (Int × V)} {i : Nat} {k : Key} {v : V} (h : (entsV es)[i]? = some (k, v)) : ∃ n, es[i]? = some (n, v) ∧ k = .inl n := by
  unfold entsV at h
  rw [List.getElem?_map] at h
  cases e : es[i]? with
  | none => rw [e] at h; cases h
  | some p =>
    rw [e] at h
    cases h
    exact ⟨p.1, rfl, rfl⟩
theorem valV_entsV (k : Int) : ∀ es : List (Int × V), valV (entsV es) (.inl k) = lk es k
  | [] => rfl
  | p :: es => by
    rw [lk_cons]
    show valV ((Sum.inl p.1, p.2) :: entsV es) (.inl k) = _
    by_cases e : p.1 = k
    · rw [valV_pos (show (Sum.inl p.1 : Key) = .inl k by rw [e]), if_pos e]
    · rw [valV_neg (show ¬ (Sum.inl p.1 : Key) = .inl k from fun z => e (Sum.inl.inj z)), if_neg e, valV_entsV k es]
theorem put_entsV (es : List (Int × V)) (k : Int) (v : V) : putK (entsV es) (.inl k) v = entsV (putA es k v) := by
  unfold putK putA
  rw [valV_any, valV_entsV]
  by_cases h : hs es k = true
  · rw [if_pos (show (lk es k).isSome = true from h), if_pos h]
    unfold entsV
    rw [List.map_map, List.map_map]
    refine List.map_congr_left fun p _ => ?_
    show (if (Sum.inl p.1 : Key) = .inl k then ((Sum.inl p.1 : Key), v) else ((Sum.inl p.1 : Key), p.2)) = ((Sum.inl (if p.1 = k then (p.1, v) else p).1 : Key), (if p.1 = k then (p.1, v) else p).2)
    by_cases e : p.1 = k
    · rw [if_pos (by rw [e]), if_pos e]
    · rw [if_neg (fun z => e (Sum.inl.inj z)), if_neg e]
  · rw [if_neg (show ¬ (lk es k).isSome = true from h), if_neg h, entsV_app]
    rfl
theorem merge_fromV : ∀ (es acc : List (Int × V)), (ks (acc ++ es)).Nodup → mergeK (entsV acc) (entsV es) = entsV (acc ++ es)
  | [], acc, _ => by rw [List.append_nil]; rfl
  | (k, x) :: r, acc, nd => by
    have e : acc ++ (k, x) :: r = (acc ++ [(k, x)]) ++ r := by simp
    have hk : hs acc k = false := by
      rw [ks_app] at nd
      exact hs_not.mpr fun z => (List.nodup_append.mp nd).2.2 k z k List.mem_cons_self rfl
    have step : mergeK (entsV acc) (entsV ((k, x) :: r)) = mergeK (putK (entsV acc) (.inl k) x) (entsV r) := rfl
    have p1 : putA acc k x = acc ++ [(k, x)] := by unfold putA; rw [hk, if_neg (by simp)]
    rw [step, put_entsV, p1, e]
    exact merge_fromV r _ (by rw [← e]; exact nd)
theorem merge_entsV {es : List (Int × V)} (nd : (ks es).Nodup) : mergeK [] (entsV es) = entsV es := merge_fromV es [] nd

inductive Rws (K : PySem.W.Frag) (H : Hp) : List (Int × V) → List (Int × Rw) → Prop
  | nil : Rws K H [] []
  | cons {t : Addr} {k : Int} {x : Str} {v : Int} {es : List (Int × V)} {rs : List (Int × Rw)} (h : SqT K H t [.str x, .int v]) (r : Rws K H es rs) : Rws K H ((k, .ref t) :: es) ((k, (x, v)) :: rs)
section
variable {K : PySem.W.Frag} {H H' : Hp}
theorem Rws.same (s : Same H H') : ∀ {es : List (Int × V)} {rs : List (Int × Rw)}, Rws K H es rs → Rws K H' es rs
  | _, _, .nil => .nil
  | _, _, .cons h r => .cons (sqT_same s h) (Rws.same s r)
theorem sqT_chg2 {K : PySem.W.Frag} {H H' : Hp} {a t : Addr} {o : HO} {xs : List V} (e : H a = some o) (n1 : ∀ ys, o ≠ .tup ys) (n2 : ∀ q ys, o ≠ .frz q (.tup ys)) (x : Ext a H H') (h : SqT K H t xs) : SqT K H' t xs := by
  rcases h with (h | ⟨q, h⟩) | h
  · exact .inl (.inl (x _ _ (fun z => by rw [z, e] at h; exact n1 _ (Option.some.inj h)) h))
  · exact .inl (.inr ⟨q, x _ _ (fun z => by rw [z, e] at h; exact n2 _ _ (Option.some.inj h)) h⟩)
  · exact .inr h
theorem Rws.chg2 {a : Addr} {o : HO} (e : H a = some o) (n1 : ∀ ys, o ≠ .tup ys) (n2 : ∀ q ys, o ≠ .frz q (.tup ys)) (x : Ext a H H') : ∀ {es : List (Int × V)} {rs : List (Int × Rw)}, Rws K H es rs → Rws K H' es rs
  | _, _, .nil => .nil
  | _, _, .cons h r => .cons (sqT_chg2 e n1 n2 x h) (Rws.chg2 e n1 n2 x r)
theorem Rws.chg {a : Addr} {ls : List V} (e : H a = some (.lst ls)) (x : Ext a H H') {es : List (Int × V)} {rs : List (Int × Rw)} (r : Rws K H es rs) : Rws K H' es rs :=
  r.chg2 e (fun _ z => nomatch z) (fun _ _ z => nomatch z) x
theorem Rws.chgD {a : Addr} {kvs : List (Key × V)} (e : H a = some (.dK kvs)) (x : Ext a H H') {es : List (Int × V)} {rs : List (Int × Rw)} (r : Rws K H es rs) : Rws K H' es rs :=
  r.chg2 e (fun _ z => nomatch z) (fun _ _ z => nomatch z) x
theorem Rws.ks : ∀ {es : List (Int × V)} {rs : List (Int × Rw)}, Rws K H es rs → My.ks es = My.ks rs
  | _, _, .nil => rfl
  | _, _, .cons (k := k) h r => congrArg (k :: ·) r.ks
theorem Rws.len {es : List (Int × V)} {rs : List (Int × Rw)} (h : Rws K H es rs) : es.length = rs.length := by
  rw [← ks_len, h.ks, ks_len]
theorem Rws.at : ∀ {es : List (Int × V)} {rs : List (Int × Rw)} {i : Nat} {k : Int} {v : V}, Rws K H es rs → es[i]? = some (k, v) → ∃ t x n, v = .ref t ∧ rs[i]? = some (k, (x, n)) ∧ SqT K H t [.str x, .int n]
  | _, _, i, _, _, .nil, h => by simp at h
  | _, _, 0, _, _, .cons h1 r, h => by
    cases Option.some.inj h
    exact ⟨_, _, _, rfl, rfl, h1⟩
  | _, _, i + 1, _, _, .cons h1 r, h => r.at h
theorem Rws.lk (k : Int) : ∀ {es : List (Int × V)} {rs : List (Int × Rw)}, Rws K H es rs → (My.lk es k = none ∧ My.lk rs k = none) ∨ ∃ t x n, My.lk es k = some (.ref t) ∧ My.lk rs k = some (x, n) ∧ SqT K H t [.str x, .int n]
  | _, _, .nil => .inl ⟨rfl, rfl⟩
  | _, _, .cons (t := t) (k := j) (x := x) (v := v) (es := es) (rs := rs) h r => by
    rw [lk_cons, lk_cons]
    by_cases e : j = k
    · rw [if_pos e, if_pos e]
      exact .inr ⟨t, x, v, rfl, rfl, h⟩
    · rw [if_neg e, if_neg e]
      exact r.lk k
theorem Rws.lk' {es : List (Int × V)} {rs : List (Int × Rw)} (h : Rws K H es rs) {k : Int} {x : Str} {n : Int} (e : My.lk rs k = some (x, n)) : ∃ t, My.lk es k = some (.ref t) ∧ SqT K H t [.str x, .int n] := by
  rcases h.lk k with ⟨_, z⟩ | ⟨t, x', n', h1, h2, h3⟩
  · rw [z] at e; cases e
  · rw [h2] at e
    cases e
    exact ⟨t, h1, h3⟩
theorem Rws.hs {es : List (Int × V)} {rs : List (Int × Rw)} (h : Rws K H es rs) (k : Int) : My.hs es k = My.hs rs k := by
  unfold My.hs
  rcases h.lk k with ⟨h1, h2⟩ | ⟨t, x, n, h1, h2, _⟩
  · rw [h1, h2]; rfl
  · rw [h1, h2]; rfl
theorem Rws.app : ∀ {es fs : List (Int × V)} {rs qs : List (Int × Rw)}, Rws K H es rs → Rws K H fs qs → Rws K H (es ++ fs) (rs ++ qs)
  | _, _, _, _, .nil, g => g
  | _, _, _, _, .cons h r, g => .cons h (Rws.app r g)
theorem Rws.mapPut {k : Int} {t : Addr} {x : Str} {n : Int} (ht : SqT K H t [.str x, .int n]) : ∀ {es : List (Int × V)} {rs : List (Int × Rw)}, Rws K H es rs → Rws K H (es.map fun p => if p.1 = k then (p.1, .ref t) else p) (rs.map fun p => if p.1 = k then (p.1, (x, n)) else p)
  | _, _, .nil => .nil
  | _, _, .cons (t := u) (k := j) (x := y) (v := v) (es := es) (rs := rs) h r => by
    rw [List.map_cons, List.map_cons]
    show Rws K H ((if j = k then (j, V.ref t) else (j, V.ref u)) :: _) ((if j = k then (j, (x, n)) else (j, (y, v))) :: _)
    by_cases e : j = k
    · rw [if_pos e, if_pos e]
      exact .cons ht (Rws.mapPut ht r)
    · rw [if_neg e, if_neg e]
      exact .cons h (Rws.mapPut ht r)
theorem Rws.put {es : List (Int × V)} {rs : List (Int × Rw)} (h : Rws K H es rs) (k : Int) {t : Addr} {x : Str} {n : Int} (ht : SqT K H t [.str x, .int n]) : Rws K H (putA es k (.ref t)) (putA rs k (x, n)) := by
  unfold putA
  rw [h.hs k]
  split
  · exact h.mapPut ht
  · exact h.app (.cons ht .nil)
theorem Rws.filter (c : Int → Bool) : ∀ {es : List (Int × V)} {rs : List (Int × Rw)}, Rws K H es rs → Rws K H (es.filter fun p => c p.1) (rs.filter fun p => c p.1)
  | _, _, .nil => .nil
  | _, _, .cons (k := j) h r => by
    rw [List.filter_cons, List.filter_cons]
    dsimp only
    split
    · exact .cons h (r.filter c)
    · exact r.filter c
theorem Rws.take : ∀ {es : List (Int × V)} {rs : List (Int × Rw)} (i : Nat), Rws K H es rs → Rws K H (es.take i) (rs.take i)
  | _, _, 0, _ => by rw [List.take_zero, List.take_zero]; exact .nil
  | _, _, i + 1, .nil => .nil
  | _, _, i + 1, .cons h r => .cons h (r.take i)
end

def big : Int := 10 ^ 40 - 1
def rowOk (r : Int × Rw) : Prop := (0 ≤ r.1 ∧ r.1 ≤ 999999) ∧ nameOk r.2.1 = true ∧ (1 - 10 ^ 40 ≤ r.2.2 ∧ r.2.2 ≤ 10 ^ 40 - 1)
def VR (rs : List (Int × Rw)) : Prop := ∀ r ∈ rs, rowOk r
def RD (K : PySem.W.Frag) (U : List Int) (H : Hp) (d : Addr) (rs : List (Int × Rw)) : Prop := ∃ es, H d = some (.dK (entsV es)) ∧ Rws K H es rs ∧ Gd U rs
def DD (K : PySem.W.Frag) (C : Addr) (U : List Int) (H : Hp) (x : Addr) (rs : List (Int × Rw)) : Prop := ∃ dx d, H x = some (.ins C dx [("_rows", .ref d)]) ∧ RD K U H d rs ∧ VR rs
section
variable {K : PySem.W.Frag} {C : Addr} {U : List Int} {H H' : Hp} {d x : Addr} {rs qs : List (Int × Rw)}
theorem RD.same (h : RD K U H d rs) (s : Same H H') : RD K U H' d rs := by
  obtain ⟨es, h1, h2, h3⟩ := h
  exact ⟨es, s _ _ h1, h2.same s, h3⟩
theorem DD.same (h : DD K C U H x rs) (s : Same H H') : DD K C U H' x rs := by
  obtain ⟨dx, d, h1, h2, h3⟩ := h
  exact ⟨dx, d, s _ _ h1, h2.same s, h3⟩
theorem RD.chg {g : Addr} {ls : List V} (e : H g = some (.lst ls)) (s : Ext g H H') (h : RD K U H d rs) : RD K U H' d rs := by
  obtain ⟨es, h1, h2, h3⟩ := h
  exact ⟨es, s _ _ (fun z => by rw [z, e] at h1; cases h1) h1, h2.chg e s, h3⟩
theorem DD.chg {g : Addr} {ls : List V} (e : H g = some (.lst ls)) (s : Ext g H H') (h : DD K C U H x rs) : DD K C U H' x rs := by
  obtain ⟨dx, d, h1, h2, h3⟩ := h
  exact ⟨dx, d, s _ _ (fun z => by rw [z, e] at h1; cases h1) h1, h2.chg e s, h3⟩
theorem VR.put {k : Int} {r : Rw} (h : VR rs) (hr : rowOk (k, r)) : VR (putA rs k r) := put_all h k r hr
theorem VR.lay {base : List (Int × Rw)} {r : Int × Rw} (h : VR rs) (hb : VR base) (hr : rowOk r) : VR (lay1 base rs r) := by
  refine h.put ?_
  unfold over1
  cases e : lk base r.1 with
  | none => exact hr
  | some p => exact ⟨hr.1, (hb _ (lk_mem e)).2.1, hr.2.2⟩
theorem VR.merged (h : VR rs) (g : VR qs) : VR (mergedA rs qs) := by
  unfold mergedA
  have main : ∀ (l acc : List (Int × Rw)), VR acc → (∀ p ∈ l, rowOk p) → VR (l.foldl (lay1 rs) acc) := by
    intro l
    induction l with
    | nil => exact fun acc g _ => g
    | cons p r ih => exact fun acc g h2 => ih _ (g.lay h (h2 p List.mem_cons_self)) fun q hq => h2 q (List.mem_cons_of_mem _ hq)
  exact main qs rs h g
theorem VR.laid (h : VR rs) (g : VR qs) : VR (laidA rs qs) := by
  unfold laidA
  induction qs generalizing rs with
  | nil => exact h
  | cons p r ih => exact ih (VR.lay (base := rs) h h (g p List.mem_cons_self)) fun q hq => g q (List.mem_cons_of_mem _ hq)
theorem VR.filter (h : VR rs) (c : Int × Rw → Bool) : VR (rs.filter c) := fun r hr => h r (List.mem_filter.mp hr).1
theorem VR.of_lk {ds : List (Int × Rw)} (h : VR ds) (nd : (ks rs).Nodup) (e : ∀ k, lk rs k = lk ds k) : VR rs := fun r hr => by
  have l := lk_ents nd hr
  rw [e] at l
  exact h _ (lk_mem l)
end

def formsOf (rs : List (Int × Rw)) : List (Int × Str) := rs.map fun p => (p.1, p.2.1)
theorem look_lk (es : List (Int × Str)) (k : Int) : look es k = lk es k := rfl
theorem keys_ks (es : List (Int × Str)) : keys es = ks es := rfl
theorem look_forms (rs : List (Int × Rw)) (k : Int) : look (formsOf rs) k = (lk rs k).map (·.1) := lk_map (β := Str) (fun (_ : Int) (r : Rw) => r.1) rs k
theorem keys_forms (rs : List (Int × Rw)) : keys (formsOf rs) = ks rs := ks_map (β := Str) (fun (_ : Int) (r : Rw) => r.1) rs

section
variable {X : Cx}
def rEqRw (K : PySem.W.Frag) : R2 := fun x y H Q => ∃ a b es fs rs qs, x = .ref a ∧ y = .ref b ∧ H a = some (.dK (entsV es)) ∧ H b = some (.dK (entsV fs)) ∧ Rws K H es rs ∧ Rws K H fs qs ∧ (ks rs).Nodup ∧ VR rs ∧
  rs.length = qs.length ∧ (∀ p ∈ rs, lk qs p.1 = some p.2) ∧ Q (.bl true) H
theorem row_lay {x : Str} {v : Int} (h : nameOk x = true) : SeqAt.shaped (.tuple [.str x, .int v]) = true := by
  show (PyData.canLayAll0 [.str x, .int v] && decide (PyData.depthAll [.str x, .int v] + 1 ≤ 64)) = true
  rw [PyData.canLayAll0, name_lay h]
  rfl
theorem row_eqv {x : Str} {v : Int} (h : nameOk x = true) : PyData.eqv (.tuple [.str x, .int v]) (.tuple [.str x, .int v]) = true := by
  refine PySem.SeqAt.eqv_refl _ ?_
  show PyData.canLayAll0 [.str x, .int v] = true
  rw [PyData.canLayAll0, name_lay h]
  rfl
theorem op_eqRw (hu : X.A.units + 80 < cLine) : OpR X (compareOp .Eq) (rEqRw X.K) := by
  intro pins s σ H x y v u Q I rx ry h
  obtain ⟨a, b, es, fs, rs, qs, rfl, rfl, ha, hb, r1, r2, nd, hv, hl, hp, q⟩ := h
  refine eqR_run I (A := X.A) (F := fun x y => ∃ t u z n, x = V.ref t ∧ y = V.ref u ∧ SqT X.K H t [.str z, .int n] ∧ SqT X.K H u [.str z, .int n] ∧ nameOk z = true) (by omega) ?_
    (.inr ⟨a, b, entsV es, entsV fs, rfl, rfl, ha, hb, by rw [entsV_len, entsV_len, r1.len, r2.len, hl], ?_⟩) rx ry _ _ ⟨.bl true, H, I, rfl, q⟩
  · rintro x y v u ⟨t, w, z, n, rfl, rfl, h1, h2, hz⟩ rx ry
    cases rx; cases ry
    by_cases e : t = w
    · subst e
      exact (SeqAt.EqAt.same _).eqP
    · refine SeqAt.eqP_refs e fun E Q q => ?_
      obtain ⟨as, d1⟩ := Dp.reads I (.tuple [.str z, .int n]) (.ref t) (.ref t) (.tup h1 (.cons (.str _) (.cons (.int _) .nil))) rfl
      obtain ⟨bs, d2⟩ := Dp.reads I (.tuple [.str z, .int n]) (.ref w) (.ref w) (.tup h2 (.cons (.str _) (.cons (.int _) .nil))) rfl
      refine SeqAt.compareEq_shaped d1 d2 (row_lay hz) (row_lay hz) ?_ ?_
      · show X.A.units + 1 + 64 < cLine
        omega
      · rw [row_eqv hz]
        exact q
  · intro p hp2
    obtain ⟨i, hi⟩ := List.mem_iff_getElem?.mp hp2
    obtain ⟨k, w⟩ := p
    obtain ⟨n, e1, rfl⟩ := entsV_at hi
    obtain ⟨t, z, m, rfl, e2, ht⟩ := r1.at e1
    have hm := List.mem_of_getElem? e2
    obtain ⟨t2, e3, ht2⟩ := r2.lk' (hp _ hm)
    exact ⟨.ref t2, by rw [valV_entsV, e3], t, t2, z, m, rfl, rfl, ht, ht2, (hv _ hm).2.1⟩
end
end My
set_option Elab.async false
set_option maxRecDepth 100000
set_option maxHeartbeats 4000000
set_option linter.unusedVariables false
namespace My
open PySem PySem.Spec PyProof.Rows L2 L2.DX

inductive TupV (H : Hp) : List V → List (Int × V) → Prop
  | nil : TupV H [] []
  | cons {a : Addr} {k : Int} {x : V} {vs : List V} {es : List (Int × V)} (h : H a = some (.tup [.int k, x])) (r : TupV H vs es) : TupV H (.ref a :: vs) ((k, x) :: es)
def rSortV : List V → Hp → VK → Prop := fun vs H Q => ∃ (p d : Addr) (es : List (Int × V)), vs = [.ref p] ∧ H p = some (itemsO p d) ∧ H d = some (.dK (entsV es)) ∧ (ks es).Nodup ∧ es.length ≤ 1000 ∧
  ∀ (H' : Hp) (l : Addr) (ts : List V) (es' : List (Int × V)), Same H H' → H' l = some (.lst ts) → TupV H' ts es' → es'.Perm es → es'.Pairwise (fun p q => p.1 < q.1) → Q (.ref l) H'
def valIn (h : Heap) (v : Value) : Value := match v with
  | .ref a => (match h.get? a with
    | some o => (match o.data with
      | .seq its _ => (match (its[1]? : Option Value) with
        | some x => x
        | none => .none)
      | _ => .none)
    | none => .none)
  | _ => .none
theorem TupV.at {H : Hp} : ∀ {ts : List V} {es : List (Int × V)} {i : Nat} {v : V}, TupV H ts es → ts[i]? = some v → ∃ a k x, v = .ref a ∧ es[i]? = some (k, x) ∧ H a = some (.tup [.int k, x])
  | _, _, i, v, .nil, h => by simp at h
  | _, _, 0, v, .cons h1 r, h => by
    cases Option.some.inj h
    exact ⟨_, _, _, rfl, rfl, h1⟩
  | _, _, i + 1, v, .cons h1 r, h => r.at h
theorem TupV.len {H : Hp} : ∀ {ts : List V} {es : List (Int × V)}, TupV H ts es → ts.length = es.length
  | _, _, .nil => rfl
  | _, _, .cons _ r => by rw [List.length_cons, List.length_cons, r.len]
theorem TupV.same {H H' : Hp} (s : Same H H') : ∀ {ts : List V} {es : List (Int × V)}, TupV H ts es → TupV H' ts es
  | _, _, .nil => .nil
  | _, _, .cons h r => .cons (s _ _ h) (TupV.same s r)
theorem tupV_of {H : Hp} : ∀ zs : List (Addr × Int × V), (∀ z ∈ zs, H z.1 = some (.tup [.int z.2.1, z.2.2])) → TupV H (zs.map fun z => V.ref z.1) (zs.map (·.2))
  | [], _ => .nil
  | z :: zs, h => .cons (h z List.mem_cons_self) (tupV_of zs fun y hy => h y (List.mem_cons_of_mem _ hy))
theorem entV_of {P : Program} {w : World} {es : List (Int × V)} {vs : List (Key × Value)} {ed : Array DictEntry} (kv : KV (entsV es) vs) (pr : PySem.Pairs (mixKind P w) ed.toList vs) {i : Nat} {n : Int} {x : V} (h : es[i]? = some (n, x)) :
    ∃ (e : DictEntry) (t : Tok) (u : Value), ed[i]? = some e ∧ e.key = Value.int n t ∧ e.val = u ∧ RelV x u := by
  have e1 : (entsV es)[i]? = some (.inl n, x) := by unfold entsV; rw [List.getElem?_map, h]; rfl
  have kv2 : ∀ {kvs : List (Key × V)} {vs : List (Key × Value)}, KV kvs vs → ∀ {i : Nat} {k : Key} {x : V}, kvs[i]? = some (k, x) → ∃ u, vs[i]? = some (k, u) ∧ RelV x u := by
    intro kvs vs r
    unfold KV at r
    induction r with
    | nil => intro i k x h; simp at h
    | cons h r ih =>
      intro i k x e
      cases i with
      | zero =>
        cases Option.some.inj e
        rename_i b _ _
        obtain ⟨b1, b2⟩ := b
        obtain ⟨h1, h2⟩ := h
        dsimp only at h1 h2
        subst h1
        exact ⟨b2, rfl, h2⟩
      | succ i => exact ih e
  have pr2 : ∀ {l : List DictEntry} {vs : List (Key × Value)}, PySem.Pairs (mixKind P w) l vs → ∀ {i : Nat} {k : Key} {u : Value}, vs[i]? = some (k, u) → ∃ e, l[i]? = some e ∧ (mixKind P w).is k e.key = true ∧ e.val = u := by
    intro l vs r
    induction r with
    | nil => intro i k v h; simp at h
    | cons h1 h2 r ih =>
      intro i k v e
      cases i with
      | zero =>
        cases Option.some.inj e
        exact ⟨_, rfl, h1, h2⟩
      | succ i => exact ih e
  obtain ⟨u, e2, ru⟩ := kv2 kv e1
  obtain ⟨e, e3, e4, e5⟩ := pr2 pr e2
  rw [Array.getElem?_toList] at e3
  rcases keyIs_shape (k := .inl n) (v := e.key) e4 with ⟨j, t, z, e6⟩ | ⟨_, _, z, _⟩
  · cases z
    exact ⟨e, t, u, e3, e6, e5, ru⟩
  · cases z
section
variable {X : Cx}
theorem cr_sortedV (hc : X.calm = true) : CallR X (.builtin "sorted") rSortV := by
  intro pins s σ H xs us Q I r h
  obtain ⟨p, d, es, rfl, hp, hd, nd, hlen, q⟩ := h
  obtain rfl := Vals.ref1 r
  have view : s.heap.IsItemsView p d := (show ObjOk X.prog X.w H s.heap p (itemsO p d) from I.hok p _ hp).1
  obtain ⟨_, hs, vs, kv, o, ed, ep, ho, hx, hdt, _, pr, _⟩ := dk_of I.hok hd
  have size : ed.size = es.length := by rw [← Array.length_toList, pairs_len pr, ← kv_len kv, entsV_len]
  refine DT.sortedI (es := ed) (ep := ep) (I.ok.hd hc) view ⟨o, ho, hx, hdt⟩ (by rw [size]; exact size_ok (by omega)) fun h' tk as hk hlt hl hG => ?_
  have la : as.length = es.length := hl.trans size
  have nda : as.Nodup := List.Pairwise.imp (fun h => Nat.ne_of_lt h) hG.rise
  have made : ∀ (j : Nat) (b : Addr), as[j]? = some b → ∃ n x t u, es[j]? = some (n, x) ∧ RelV x u ∧ h'.get? b = some { cls := .type "tuple", data := .seq #[Value.int n t, u] } := by
    intro j b hj
    obtain ⟨e, he, hb⟩ := hG.pairs j b hj
    have hj2 : j < es.length := by rw [← la]; exact (List.getElem?_eq_some_iff.mp hj).1
    have hj3 : es[j]? = some (es[j].1, es[j].2) := List.getElem?_eq_getElem hj2
    obtain ⟨e2, t, u, h1, h2, h3, h4⟩ := entV_of kv pr hj3
    obtain rfl := Option.some.inj (he.symm.trans h1)
    exact ⟨_, _, t, u, hj3, h4, by rw [hb, h2, h3]⟩
  have hget : ∀ (b : Addr), b ∈ as → ∃ (j : Nat) (n : Int) (x : V) (t : Tok) (u : Value), as[j]? = some b ∧ es[j]? = some (n, x) ∧ RelV x u ∧ h'.get? b = some { cls := .type "tuple", data := .seq #[Value.int n t, u] } := by
    intro b hb
    obtain ⟨j, hj⟩ := List.mem_iff_getElem?.mp hb
    obtain ⟨n, x, t, u, h1, h2, h3⟩ := made j b hj
    exact ⟨j, n, x, t, u, hj, h1, h2, h3⟩
  have kk : ∀ {b : Addr} {n : Int} {t : Tok} {u : Value}, h'.get? b = some { cls := .type "tuple", data := .seq #[Value.int n t, u] } → keyIn h' (.ref b) = n ∧ valIn h' (.ref b) = u := by
    intro b n t u e
    unfold keyIn valIn
    dsimp only
    rw [e]
    exact ⟨rfl, rfl⟩
  have old : ∀ b o, h'.get? b = some o → b ≠ h'.objs.size := fun b o e => Nat.ne_of_lt (Heap.lt_size e)
  have hob : (h'.push { cls := .type "list", data := .seq (as.map Value.ref).toArray }).get? h'.objs.size = some (seqObj "list" (as.map Value.ref).toArray 0) := Heap.get?_push_size _ rfl
  have ka : ∀ b o, h'.get? b = some o → (h'.push { cls := .type "list", data := .seq (as.map Value.ref).toArray }).get? b = some o := fun b o e => Heap.get?_push_of_some _ e
  generalize h'.push { cls := .type "list", data := .seq (as.map Value.ref).toArray } = h2 at hob ka ⊢
  have hz : (as.map Value.ref).length ≤ sizeLine := by rw [List.length_map, la]; exact size_ok (by omega)
  have ents2 : ∀ v ∈ as.map Value.ref, EntV h2 v (keyIn h' v) (valIn h' v) := by
    intro v hv
    obtain ⟨b, hb, rfl⟩ := List.mem_map.mp hv
    obtain ⟨j, n, x, t, u, _, _, _, e⟩ := hget b hb
    rw [(kk e).1, (kk e).2]
    exact ⟨b, _, t, _, rfl, ka _ _ e, rfl, rfl⟩
  have one : ∀ v ∈ as.map Value.ref, ∀ u ∈ as.map Value.ref, keyIn h' v = keyIn h' u → valIn h' v = valIn h' u := by
    intro v hv u hu e
    obtain ⟨b, hb, rfl⟩ := List.mem_map.mp hv
    obtain ⟨c, hc2, rfl⟩ := List.mem_map.mp hu
    obtain ⟨j, n, x, t1, u1, j1, e1, _, g1⟩ := hget b hb
    obtain ⟨i, m, y, t2, u2, j2, e2, _, g2⟩ := hget c hc2
    rw [(kk g1).1, (kk g2).1] at e
    subst e
    have k1 : (ks es)[j]? = some n := by unfold ks; rw [List.getElem?_map, e1]; rfl
    have k2 : (ks es)[i]? = some n := by unfold ks; rw [List.getElem?_map, e2]; rfl
    have eij : j = i := (List.getElem?_inj (List.getElem?_eq_some_iff.mp k1).1 nd).mp (k1.trans k2.symm)
    subst eij
    rw [j1] at j2
    rw [Option.some.inj j2]
  refine wpAny_call_entry PyProof.Rows.slot_list_sort ⟨_, hob, rfl⟩ PyProof.Rows.entry_list_sort
    (SrtO.list_sort_ord (s := { s with heap := h2, toks := tk }) (swoV (keyIn h')) hob hz (fun n2 => entV_sortable (by omega) ents2 one fun o e => ?_) fun out o1 o2 => ⟨.none, rfl, ?_⟩) (PyProof.Rows.args_list_sort _)
  · cases hob.symm.trans e
    intro z
    injection z with z
    revert z
    decide
  · show EP X pins σ Q (.ref h'.objs.size) { s with heap := sortedHeap h2 h'.objs.size (as.map Value.ref) out.toArray, toks := tk }
    have ez : (as.zip es).map (fun z => Value.ref z.1) = as.map Value.ref := by
      have q : (as.zip es).map (·.1) = as := List.map_fst_zip (by omega)
      rw [show (fun z : Addr × Int × V => Value.ref z.1) = Value.ref ∘ (·.1) from rfl, ← List.map_map, q]
    obtain ⟨zs, pz, eo⟩ := perm_map (fun z : Addr × Int × V => Value.ref z.1) (l := as.zip es) (out := out) (by rw [ez]; exact o2.perm)
    have at_ : ∀ z ∈ zs, ∃ j : Nat, as[j]? = some z.1 ∧ es[j]? = some z.2 := by
      intro z hz
      obtain ⟨j, hj⟩ := List.mem_iff_getElem?.mp (pz.mem_iff.mp hz)
      exact ⟨j, List.getElem?_zip_eq_some.mp hj⟩
    have pes : (zs.map (·.2)).Perm es := by
      have e := pz.map (·.2)
      rw [List.map_snd_zip (by omega)] at e
      exact e
    have key : ∀ z ∈ zs, keyIn h' (.ref z.1) = z.2.1 := by
      intro z hz
      obtain ⟨j, j1, j2⟩ := at_ z hz
      obtain ⟨n, x, t, u, e1, _, e2⟩ := made j z.1 j1
      rw [(kk e2).1]
      rw [j2] at e1
      rw [Option.some.inj e1]
    have srt : (zs.map (·.2)).Pairwise (fun p q => p.1 < q.1) := by
      have le : (zs.map (·.2)).Pairwise (fun p q => p.1 ≤ q.1) := by
        rw [← eo] at o1
        rw [List.pairwise_map]
        refine List.Pairwise.imp_of_mem (fun {a b} ha hb h => ?_) (List.pairwise_map.mp o1)
        have := of_decide_eq_false h
        rw [key a ha, key b hb] at this
        omega
      have nd2 : ((zs.map (·.2)).map (fun p : Int × V => p.1)).Nodup := ((pes.map (fun p : Int × V => p.1)).nodup_iff).mpr nd
      have ne : (zs.map (·.2)).Pairwise (fun p q => p.1 ≠ q.1) := List.pairwise_map.mp nd2
      exact (List.Pairwise.and le ne).imp fun h => by have := h.1; have := h.2; omega
    have kF : ∀ b o, b ≠ h'.objs.size → h2.get? b = some o → (sortedHeap h2 h'.objs.size (as.map Value.ref) out.toArray).get? b = some o :=
      fun b o nb e => (PyProof.Rows.sortedHeap_old nb (Heap.lt_size e)).trans e
    obtain ⟨eF, heF⟩ := PyProof.Rows.sortedHeap_at (vs := as.map Value.ref) (out := out.toArray) hob
    have I1 : Inv X pins σ H { s with heap := sortedHeap h2 h'.objs.size (as.map Value.ref) out.toArray, toks := tk } :=
      I.kept (t' := tk) fun b o e => kF b o (old _ _ (hk b o e)) (ka b o (hk b o e))
    have hn : H h'.objs.size = none := I.hok.fresh (Nat.le_of_lt hlt)
    have lz : zs.length = es.length := by
      have := pes.length_eq
      rw [List.length_map] at this
      exact this
    have rv : Vals (zs.map fun z => V.ref z.1) out := by
      rw [← eo]
      exact vals_maps (fun z : Addr × Int × V => V.ref z.1) (fun z => Value.ref z.1) zs fun _ _ => rfl
    have I2 : Inv X pins σ (upd H h'.objs.size (.lst (zs.map fun z => V.ref z.1))) { s with heap := sortedHeap h2 h'.objs.size (as.map Value.ref) out.toArray, toks := tk } :=
      I1.take (h' := sortedHeap h2 h'.objs.size (as.map Value.ref) out.toArray) (t' := tk) (fun b ob _ e => e) (I.fpOk (Nat.le_of_lt hlt) hn)
        ⟨by rw [List.length_map, lz]; exact size_ok (by omega), out, eF, rv, by simpa using heF⟩
    obtain ⟨H2, I3, g, qt⟩ := takeT (P := fun b vs => ∃ (j : Nat) (n : Int) (x : V), as[j]? = some b ∧ es[j]? = some (n, x) ∧ vs = [.int n, x]) I as _ I2 nda fun b hb => by
      obtain ⟨j, n, x, t, u, j1, j2, ru, e⟩ := hget b hb
      have lb : s.heap.objs.size ≤ b := Nat.le_of_lt (hG.above b hb)
      refine ⟨lb, ?_, [.int n, x], ⟨j, n, x, j1, j2, rfl⟩, fun H3 => ⟨size_ok (by simp), [Value.int n t, u], .cons ⟨_, rfl⟩ (.cons ru .nil), ⟨_, kF _ _ (old _ _ e) (ka _ _ e), rfl, 0, rfl⟩⟩⟩
      rw [upd_ne (old _ _ e)]
      exact I.hok.fresh lb
    have gr : Same H H2 := fun b o e => g b o ((upd_ne (ne_of_none e hn)).trans e)
    refine ⟨.ref h'.objs.size, H2, I3, rfl, q H2 h'.objs.size _ _ gr (g _ _ upd_same) (tupV_of zs fun z hz => ?_) pes srt⟩
    obtain ⟨i, i1, i2⟩ := at_ z hz
    obtain ⟨vs, ⟨j, n, x, j1, j2, rfl⟩, hH⟩ := qt z.1 (List.mem_of_getElem? i1)
    have eij : i = j := (List.getElem?_inj (List.getElem?_eq_some_iff.mp i1).1 nda).mp (i1.trans j1.symm)
    subst eij
    rw [i2] at j2
    rw [Option.some.inj j2]
    exact hH
end

section
variable {X : Cx} {k : Nat} {C : Addr} {ps : List Str} {sp : Sp} {o i : Expr} {ta tb : TE} {pos : Pos}
def tGetO (C : Addr) (sp : Sp) (ta tb : TE) : TE := fun σ H Q => ta σ H fun x H1 => tb σ H1 fun y H2 => ∃ a dx fs, x = .ref a ∧ H2 a = some (.ins C dx fs) ∧ sp [x, y] H2 Q E0
theorem pe_getO (D : Mt X.prog X.w X.K X.mg X.base C "__getitem__" k ps sp) (fi : ∃ f, PySem.W.findIn X.K (.ref C) "__getitem__" = some (some (.ref f)) ∧ PySem.W.fnIn X.K f = true) (hr : Room (k + 1) X.A) (ha : PE X o ta) (hb : PE X i tb)
    (hsl : ∀ v u, subscripted i true v u = runValue (.builtin "lifetime.subscript" ⟨[v, u], []⟩)) : PE X (.Subscript o i pos) (tGetO C sp ta tb) := by
  obtain ⟨f, fd, h1, h2, h3, F, b⟩ := D
  obtain ⟨f', e1, e2⟩ := fi
  obtain rfl : f = f' := by
    have := h1.symm.trans e1
    injection this with this
    injection this with this
    injection this
  refine ⟨fun pins s σ H Q I h => ?_⟩
  refine Subscript_ (thn (ha.run pins s σ H _ I h) fun v s1 ⟨x, H1, I1, rx, q1⟩ => thn (hb.run pins s1 σ H1 _ I1 q1) fun u s2 ⟨y, H2, I2, ry, a, dx, fs, ex, ea, q⟩ => ?_)
  subst ex
  obtain rfl : v = Value.ref a := rx
  obtain ⟨m, Fr⟩ := fr_of I2
  obtain ⟨ox, od, J⟩ := inst_of I2 ea
  exact PySem.W.sub_K Fr I2.ok.mod.kin J h1 e2 h2 (run_in1 (us := [.ref a, u]) (vs := [.ref a, y]) F hr b I2 (.cons rfl (.cons ry .nil)) q) (hsl _ _)
end

structure CStat (K : PySem.W.Frag) (C : Addr) (m : Str) (g : Addr) : Prop where
  rd : PySem.W.readsIn K C (.type "type") = true
  ga : PySem.W.specialIn K (.ref C) "__getattribute__" = some (some (.builtin "type.__getattribute__"))
  at_ : ∃ p rest, PySem.W.findCls K (.ref C) (.type "type") m = some (.get (.builtin "staticmethod.__get__") (.ref p) .none (.ref C)) ∧ PySem.W.recIn K p "staticmethod" = some (.ref g :: rest)

def Sm (P : Program) (w : World) (K : PySem.W.Frag) (mg : Str → Option Value) (base : Heap) (C : Addr) (m : Str) (k : Nat) (ps : List Str) (sp : Sp) (n : Nat) (ks : List Str) : Prop :=
  ∃ f fd, CStat K C m f ∧ PySem.W.keepIn K (.ref f) = true ∧ FnOk P w K mg base CX0 k f fd ps sp ∧ Binds K fd ps [] ∧ KBn K fd ps n ks (fun us ws => us ++ ws) (fun vs zs => vs ++ zs)
section
variable {X : Cx} {k n : Nat} {C : Addr} {ps ks : List Str} {sp : Sp} {m : Str} {p pos apos : Pos} {o e : Expr} {es : List Expr} {kws : List Keyword} {ta : TE} {t tk : TA}
theorem getst_ok {pins : List (Addr × Obj)} {σ : L2.St} {H : Hp} {s : Shared} {A : Around} {E : Value → Shared → Prop} {g : Addr} {pl : Sem Bool} {Q : Value × List Value → Shared → Prop} (I : Inv X pins σ H s) (c : CStat X.K C m g)
    (h : ∀ s', Inv X pins σ H s' → Q (.ref g, []) s') : wpAny (model X.prog X.w) A (getMethod (.ref C) m pl) Q E s := by
  obtain ⟨p, rest, h1, h2⟩ := c.at_
  refine PySem.W.method_cls I.kIn c.ga (PySem.W.cls_bind I.kIn c.rd h1 (wpAny_call (PySem.W.sm_get (s := { s with toks := s.toks + 1 }) I.kIn h2 (PySem.W.handed_on rfl ?_))))
  exact h _ (I.tok _)
def tStat (C : Addr) (sp : Sp) (ta : TE) (t : TA) : TE := fun σ H Q => ta σ H fun x H1 => x = .ref C ∧ t σ H1 fun vs H2 => sp vs H2 Q E0
theorem pe_stat {pl : Sem Bool} (D : Sm X.prog X.w X.K X.mg X.base C m k ps sp n ks) (hr : Room k X.A) (he : PE X o ta) (ha : PA X (e :: es) t)
    (hst : starEach (e :: es) X.env = (false, eval e X.env) :: starEach es X.env := by rfl) (hpl : (backTo pos (starEach es X.env)).any (·.1) = false := by rfl)
    (ht : eval (.Call (.Attribute o m apos) (e :: es) [] pos) X.env = (do
      let ov ← eval o X.env
      standAt apos.atName
      let (f, first) ← holding [ov] (getMethod ov m pl)
      callWith pos f first (backTo pos (starEach (e :: es) X.env)) (backToKw pos (keywordEach [] X.env))) := by rfl) :
    PE X (.Call (.Attribute o m apos) (e :: es) [] pos) (tStat C sp ta t) := by
  obtain ⟨f, fd, c, kp, F, b, _⟩ := D
  refine ⟨fun pins s σ H Q I h => ?_⟩
  refine PySem.W.methodCall_KW (pl := pl) (thn (he.run pins s σ H _ I h) fun u s1 ⟨x, H1, I1, rx, ex, q⟩ => ?_) ht
  subst ex
  obtain rfl : u = Value.ref C := rx
  refine getst_ok I1 c fun s2 I2 => ?_
  refine PySem.W.callWith_K (h₀ := X.base) (first := []) I2.ok.mod.kin kp (thn (ha.run pos pins s2 σ H1 _ I2 q) fun us s3 ⟨vs, H2, I3, rv, q2⟩ => ⟨I3.kIn, ?_⟩) hst hpl
  refine run_fn (ds := []) (dvs := []) F hr b .nil pass0 I3 rv ?_
  rw [List.append_nil]
  exact q2
def tStatK (C : Addr) (n m : Nat) (sp : Sp) (ta : TE) (t tk : TA) : TE := fun σ H Q => ta σ H fun x H1 => x = .ref C ∧ t σ H1 fun vs H2 => tk σ H2 fun zs H3 => vs.length = n ∧ zs.length = m ∧ sp (vs ++ zs) H3 Q E0
theorem pe_statK {pl : Sem Bool} (D : Sm X.prog X.w X.K X.mg X.base C m k ps sp n ks) (hr : Room k X.A) (he : PE X o ta) (ha : PA X (e :: es) t) (hkw : PK X kws tk)
    (hall : (backToKw pos (keywordEach kws X.env)).all (·.1.isSome) = true := by rfl) (hks : (backToKw pos (keywordEach kws X.env)).filterMap (·.1) = ks := by rfl)
    (hst : starEach (e :: es) X.env = (false, eval e X.env) :: starEach es X.env := by rfl)
    (hpl : ((backTo pos (starEach (e :: es) X.env)).any (·.1) || (backToKw pos (keywordEach kws X.env)).any (·.1.isNone)) = false := by rfl)
    (ht : eval (.Call (.Attribute o m apos) (e :: es) kws pos) X.env = (do
      let ov ← eval o X.env
      standAt apos.atName
      let (f, first) ← holding [ov] (getMethod ov m pl)
      callWith pos f first (backTo pos (starEach (e :: es) X.env)) (backToKw pos (keywordEach kws X.env))) := by rfl) :
    PE X (.Call (.Attribute o m apos) (e :: es) kws pos) (tStatK C n ks.length sp ta t tk) := by
  obtain ⟨f, fd, c, kp, F, _, hb⟩ := D
  refine ⟨fun pins s σ H Q I h => ?_⟩
  refine PySem.W.methodCall_KW (pl := pl) (thn (he.run pins s σ H _ I h) fun u s1 ⟨x, H1, I1, rx, ex, q⟩ => ?_) ht
  subst ex
  obtain rfl : u = Value.ref C := rx
  refine getst_ok I1 c fun s2 I2 => ?_
  refine PySem.W.callWith_KW (h₀ := X.base) (first := []) I2.ok.mod.kin kp hall (thn (ha.run pos pins s2 σ H1 _ I2 q) fun us s3 ⟨vs, H2, I3, rv, q2⟩ => ?_) hpl hst
  refine thn (hkw.run pos pins s3 σ H2 _ I3 q2) fun ws s4 ⟨zs, H3, I4, rz, l1, l2, q3⟩ => ⟨I4.kIn, ?_⟩
  rw [hks]
  have e1 : us.length = n := rv.length.symm.trans l1
  have e2 : ws.length = ks.length := rz.length.symm.trans l2
  have z := F.run X.A X.stack s4 H3 ⟨us, ks.zip ws⟩ (us ++ ws) (vs ++ zs) Q E0 hr I4.env0 (hb.to s4 us ws I4.kIn e1 e2) (hb.rel rv rz) q3
  refine wpAny_call (codeAny_mono z ?_)
  intro r s' hq
  match r, hq with
  | .error e, hq => exact hq.elim
  | .ok (.ret u), hq => exact I4.after hq
  | .ok .next, hq => exact hq.elim
  | .ok .brk, hq => exact hq.elim
  | .ok .cont, hq => exact hq.elim
end
end My
set_option Elab.async false
set_option maxRecDepth 100000
set_option maxHeartbeats 4000000
set_option linter.unusedVariables false
namespace My
open PySem PySem.Spec PyProof.Rows L2 L2.DX

section
open PySem.W
variable {prog : Program} {w : World} {A : Around} {E : Value → Shared → Prop} {s : Shared} {K : Frag} {x C C2 f f2 : Addr} {ox : Obj} {od : Option Obj} {b : Value}
theorem two_classes {op : Operator} {Q : Value → Shared → Prop} (X : K.In s.heap) (I : InstAt s.heap x ox C od) (tb : Looks (model prog w) s.heap (typeOf b) (.ref C2)) (c1 : selfFirst K C = true) (c2 : selfFirst K C2 = true) (ne : C ≠ C2)
    (s1 : findIn K (.ref C) (PySem.dunder op.info.2) = some (some (.ref f))) (isf : isFn K (.ref f) = true) (s2 : findIn K (.ref C2) (PySem.dunder op.info.2) = some (some (.ref f2)))
    (r1 : findIn K (.ref C) (dunderR op.info.2) = some none) (r2 : findIn K (.ref C2) (dunderR op.info.2) = some none) (sub : subIn K (.ref C2) (.ref C) = some false)
    (h : wpAny (model prog w) A (call (.ref f) [.ref x, b]) (PySem.W.CmpBack Q) E s) : wpAny (model prog w) A (binaryOp op (.ref x) b) Q E s := by
  obtain ⟨d1, t1, e1, m1⟩ := ksp_first c1
  obtain ⟨d2, t2, e2, m2⟩ := ksp_first c2
  have one := ksp_try X I s1 isf h
  rcases hi : op.info with ⟨sg, nn⟩
  rw [hi] at s1 s2 r1 r2 one
  dsimp only at s1 s2 r1 r2 one
  obtain ⟨hp, gs, dr, tk, os⟩ := s
  have A1 : Looks (model prog w) hp (typeOf (.ref x)) (.ref C) := I.type
  have A2 : Looks (model prog w) hp (typeOf b) (.ref C2) := tb
  have A3 : Looks (model prog w) hp (fillsNumberSlot (.ref C) nn) true := fills_K X e1 m1 s1
  have A4 : Looks (model prog w) hp (fillsNumberSlot (.ref C2) nn) true := fills_K X e2 m2 s2
  have A5 : Looks (model prog w) hp (isSubtype (.ref C2) (.ref C)) false := looks_subIn X sub
  have A6 : Looks (model prog w) hp (numberSlotInPython (.ref C) nn) true := ksp_inPy X s1 r1 (.inl rfl)
  have A7 : Looks (model prog w) hp (numberSlotInPython (.ref C2) nn) true := ksp_inPy X s2 r2 (.inl rfl)
  have no : (Value.ref C == Value.ref C2) = false := Bool.eq_false_iff.mpr fun q => ne (by have := beq_iff_eq.mp q; injection this)
  simp only [binaryOp, hi]
  refine wpAny_holding (wpAny_bind ?_)
  unfold binaryOp1
  refine wpAny_bind (A1.at (wpAny_bind (A2.at (wpAny_bind (A3.at ?_)))))
  simp only [no, Bool.false_eq_true, if_false]
  ksp_lk
  refine wpAny_mono one (fun r s' hr' => ?_) fun _ _ e => e
  obtain ⟨v, rfl, hq⟩ := hr'
  ksp_lk
  exact hq
end
def rBin2 (C C2 : Addr) (sp : Sp) : R2 := fun x y H Q => ∃ a b dx fs dy gs, x = .ref a ∧ y = .ref b ∧ H a = some (.ins C dx fs) ∧ H b = some (.ins C2 dy gs) ∧ sp [x, y] H Q E0

structure Two (K : PySem.W.Frag) (C C2 : Addr) (nm : String) : Prop where
  c1 : PySem.W.selfFirst K C = true
  c2 : PySem.W.selfFirst K C2 = true
  ne : C ≠ C2
  s2 : ∃ f2, PySem.W.findIn K (.ref C2) (PySem.dunder nm) = some (some (.ref f2))
  r1 : PySem.W.findIn K (.ref C) (dunderR nm) = some none
  r2 : PySem.W.findIn K (.ref C2) (dunderR nm) = some none
  sub : PySem.W.subIn K (.ref C2) (.ref C) = some false
theorem op_own2C {X : Cx} {op : Operator} {C C2 : Addr} {k : Nat} {ps : List Str} {sp : Sp} {nm : Str} (D : Mt X.prog X.w X.K X.mg X.base C nm k ps sp) (hr : Room k X.A) (T : Two X.K C C2 op.info.2) (hn : PySem.dunder op.info.2 = nm) : OpR X (binaryOp op) (rBin2 C C2 sp) := by
  subst hn
  intro pins s σ H x y v u Q I rx ry h
  obtain ⟨a, b, dx, fs, dy, gs, rfl, rfl, ha, hb, q⟩ := h
  cases rx; cases ry
  obtain ⟨f, fd, hs, hf, F, bd⟩ := D.op.ex
  obtain ⟨f2, s2⟩ := T.s2
  obtain ⟨ox, od, J⟩ := inst_of I ha
  obtain ⟨oy, oe, J2⟩ := inst_of I hb
  refine two_classes I.kIn J J2.type T.c1 T.c2 T.ne hs hf s2 T.r1 T.r2 T.sub ?_
  refine thn (run_fn (us := [.ref a, .ref b]) (vs := [.ref a, .ref b]) F hr bd .nil pass0 I (.cons rfl (.cons rfl .nil)) q) ?_
  intro u s' z
  exact cmp_back z
end My
set_option Elab.async false
set_option maxRecDepth 100000
set_option maxHeartbeats 4000000
set_option linter.unusedVariables false
namespace My
open PySem PySem.Spec PyProof.Rows L2 L2.DX

inductive EnAll (K : PySem.W.Frag) (H : Hp) : List V → List (Int × Rw) → Prop
  | nil : EnAll K H [] []
  | cons {t : Addr} {k : Int} {x : Str} {n : Int} {vs : List V} {rs : List (Int × Rw)} (h : SqT K H t [.int k, .str x, .int n]) (ok : rowOk (k, (x, n))) (r : EnAll K H vs rs) : EnAll K H (.ref t :: vs) ((k, (x, n)) :: rs)
inductive Tup3 (H : Hp) : List V → List (Int × Rw) → Prop
  | nil : Tup3 H [] []
  | cons {t : Addr} {k : Int} {x : Str} {n : Int} {vs : List V} {rs : List (Int × Rw)} (h : H t = some (.tup [.int k, .str x, .int n])) (r : Tup3 H vs rs) : Tup3 H (.ref t :: vs) ((k, (x, n)) :: rs)
section
variable {K : PySem.W.Frag} {H H' : Hp}
theorem EnAll.same (s : Same H H') : ∀ {vs : List V} {rs : List (Int × Rw)}, EnAll K H vs rs → EnAll K H' vs rs
  | _, _, .nil => .nil
  | _, _, .cons h ok r => .cons (sqT_same s h) ok (EnAll.same s r)
theorem EnAll.len : ∀ {vs : List V} {rs : List (Int × Rw)}, EnAll K H vs rs → vs.length = rs.length
  | _, _, .nil => rfl
  | _, _, .cons _ _ r => by rw [List.length_cons, List.length_cons, r.len]
theorem EnAll.at : ∀ {vs : List V} {rs : List (Int × Rw)} {i : Nat} {v : V}, EnAll K H vs rs → vs[i]? = some v → ∃ t k x n, v = .ref t ∧ rs[i]? = some (k, (x, n)) ∧ SqT K H t [.int k, .str x, .int n] ∧ rowOk (k, (x, n))
  | _, _, i, v, .nil, h => by simp at h
  | _, _, 0, v, .cons h1 ok r, h => by
    cases Option.some.inj h
    exact ⟨_, _, _, _, rfl, rfl, h1, ok⟩
  | _, _, i + 1, v, .cons h1 ok r, h => r.at h
theorem Tup3.same (s : Same H H') : ∀ {vs : List V} {rs : List (Int × Rw)}, Tup3 H vs rs → Tup3 H' vs rs
  | _, _, .nil => .nil
  | _, _, .cons h r => .cons (s _ _ h) (Tup3.same s r)
theorem Tup3.len : ∀ {vs : List V} {rs : List (Int × Rw)}, Tup3 H vs rs → vs.length = rs.length
  | _, _, .nil => rfl
  | _, _, .cons _ r => by rw [List.length_cons, List.length_cons, r.len]
theorem Tup3.at : ∀ {vs : List V} {rs : List (Int × Rw)} {i : Nat} {v : V}, Tup3 H vs rs → vs[i]? = some v → ∃ t k x n, v = .ref t ∧ rs[i]? = some (k, (x, n)) ∧ H t = some (.tup [.int k, .str x, .int n])
  | _, _, i, v, .nil, h => by simp at h
  | _, _, 0, v, .cons h1 r, h => by
    cases Option.some.inj h
    exact ⟨_, _, _, _, rfl, rfl, h1⟩
  | _, _, i + 1, v, .cons h1 r, h => r.at h
theorem Tup3.chg {a : Addr} {ls : List V} (e : H a = some (.lst ls)) (x : Ext a H H') : ∀ {vs : List V} {rs : List (Int × Rw)}, Tup3 H vs rs → Tup3 H' vs rs
  | _, _, .nil => .nil
  | _, _, .cons h r => .cons (x _ _ (fun z => by rw [z, e] at h; cases h) h) (Tup3.chg e x r)
theorem Tup3.app {t : Addr} {k : Int} {x : Str} {n : Int} (h : H t = some (.tup [.int k, .str x, .int n])) : ∀ {vs : List V} {rs : List (Int × Rw)}, Tup3 H vs rs → Tup3 H (vs ++ [.ref t]) (rs ++ [(k, (x, n))])
  | _, _, .nil => .cons h .nil
  | _, _, .cons h1 r => .cons h1 (Tup3.app h r)
theorem Tup3.en : ∀ {vs : List V} {rs : List (Int × Rw)}, Tup3 H vs rs → VR rs → EnAll K H vs rs
  | _, _, .nil, _ => .nil
  | _, _, .cons h r, v => .cons (.inl (.inl h)) (v _ List.mem_cons_self) (r.en fun q hq => v q (List.mem_cons_of_mem _ hq))
end

theorem val_weight {n : Int} (h : 1 - 10 ^ 40 ≤ n ∧ n ≤ 10 ^ 40 - 1) : (PyData.int n).weight ≤ 1000 := by
  have b : (if (n == 0) = true then 0 else n.natAbs.log2 + 1) ≤ 200 := by
    split
    · omega
    · rename_i z
      have nz : n.natAbs ≠ 0 := by
        intro q
        apply z
        rw [Int.natAbs_eq_zero.mp q]
        rfl
      have lt : n.natAbs < 2 ^ 140 := by
        have e1 : (10 ^ 40 : Nat) < 2 ^ 140 := by decide
        have e2 : n.natAbs < 10 ^ 40 := by omega
        omega
      have := (Nat.log2_lt nz (k := 140)).mpr lt
      omega
  exact Nat.le_trans b (by decide)
theorem row_dx {K : PySem.W.Frag} {H : Hp} {t : Addr} {k : Int} {x : Str} {n : Int} (h : SqT K H t [.int k, .str x, .int n]) : Dx K H (.ref t) (.tuple [.int k, .str x, .int n]) :=
  .of (.tup h (.cons (.int k) (.cons (.str x) (.cons (.int n) .nil))))
theorem row_sm {k : Int} {x : Str} {n : Int} (h : rowOk (k, (x, n))) : sm (.tuple [.int k, .str x, .int n]) := by
  obtain ⟨hk, hx, hn⟩ := h
  have s1 := int_small hk
  have s2 := name_sm hx
  have s3 : (PyData.int n).weight ≤ 1000 := val_weight hn
  have s4 := (len_le s2)
  have e4 : x.length ≤ 4 := by
    have hx2 : nameOk x = true := hx
    unfold nameOk at hx2
    rw [Bool.and_eq_true, Bool.and_eq_true] at hx2
    exact (of_decide_eq_true hx2.1.1).2
  have i1 : (PyData.int k).weight ≤ 1000 := val_weight (by have := hk.1; have := hk.2; constructor <;> omega)
  refine ⟨?_, .inl ?_⟩
  · show PyData.weightAll [.int k, .str x, .int n] ≤ 100000
    have e : PyData.weight (.str x) ≤ 1000 := by
      have : PyData.weight (.str x) = x.length := rfl
      omega
    simp only [PyData.weightAll]
    omega
  · show (PyData.canLay0 (.int k) && (PyData.canLay0 (.str x) && (PyData.canLay0 (.int n) && true))) = true
    rw [name_lay hx]
    rfl
theorem row_ok {k : Int} {x : Str} {n : Int} (h : rowOk (k, (x, n))) : mEnt (.tuple [.int k, .str x, .int n]) = true := by
  obtain ⟨hk, hx, hn⟩ := h
  show ((decide (0 ≤ k) && decide (k ≤ 999999)) && (nameOk x && (decide (1 - 10 ^ 40 ≤ n) && decide (n ≤ 10 ^ 40 - 1)))) = true
  have hx2 : nameOk x = true := hx
  rw [hx2, decide_eq_true hk.1, decide_eq_true hk.2, decide_eq_true hn.1, decide_eq_true hn.2]
  rfl
def ent3 (r : Int × Rw) : PyData := .tuple [.int r.1, .str r.2.1, .int r.2.2]
theorem tup3_dp {K : PySem.W.Frag} {H : Hp} : ∀ {ts : List V} {rs : List (Int × Rw)}, Tup3 H ts rs → DpAll K H ts (rs.map ent3)
  | _, _, .nil => .nil
  | _, _, .cons h r => .cons (.tup (.inl (.inl h)) (.cons (.int _) (.cons (.str _) (.cons (.int _) .nil)))) (tup3_dp r)
theorem lay_ent3 : ∀ {rs : List (Int × Rw)}, VR rs → PyData.canLayAll0 (rs.map ent3) = true
  | [], _ => rfl
  | p :: r, h => by
    show ((PyData.canLay0 (.int p.1) && (PyData.canLay0 (.str p.2.1) && (PyData.canLay0 (.int p.2.2) && true))) && PyData.canLayAll0 (r.map ent3)) = true
    rw [lay_ent3 fun q hq => h q (List.mem_cons_of_mem _ hq), name_lay (h p List.mem_cons_self).2.1]
    rfl
theorem deep_ent3 : ∀ rs : List (Int × Rw), PyData.depthAll (rs.map ent3) ≤ 1
  | [] => by decide
  | p :: r => by
    show max (PyData.depth (ent3 p)) (PyData.depthAll (r.map ent3)) ≤ 1
    exact Nat.max_le.mpr ⟨Nat.le_of_eq rfl, deep_ent3 r⟩
theorem shaped_ent3 {rs : List (Int × Rw)} (h : VR rs) : SeqAt.shaped (.list (rs.map ent3)) = true := by
  show (PyData.canLayAll0 (rs.map ent3) && decide (PyData.depthAll (rs.map ent3) + 1 ≤ 64)) = true
  have := deep_ent3 rs
  rw [lay_ent3 h, decide_eq_true (by omega)]
  rfl
theorem eqv_ent3 {rs : List (Int × Rw)} (h : VR rs) : PyData.eqv (.list (rs.map ent3)) (.list (rs.map ent3)) = true := PySem.SeqAt.eqv_refl _ (lay_ent3 h)

theorem sorted_rows {es ds es' ds' : List (Int × Rw)} (ne : (ks es).Nodup) (nd : (ks ds).Nodup) (hl : ∀ k, lk es k = lk ds k) (p1 : es'.Perm es) (s1 : es'.Pairwise (fun p q => p.1 < q.1))
    (p2 : ds'.Perm ds) (s2 : ds'.Pairwise (fun p q => p.1 < q.1)) : es' = ds' := by
  have hk : (ks es).Perm (ks ds) := by
    refine (List.perm_ext_iff_of_nodup ne nd).mpr fun k => ?_
    rw [← hs_iff, ← hs_iff]
    unfold hs
    rw [hl]
  have e1 : (ks es').Perm (ks ds') := ((p1.map (fun p : Int × Rw => p.1)).trans hk).trans (p2.map (fun p : Int × Rw => p.1)).symm
  have le : ∀ {l : List (Int × Rw)}, l.Pairwise (fun p q => p.1 < q.1) → (ks l).Pairwise (· ≤ ·) := fun s => List.pairwise_map.mpr (s.imp fun h => Int.le_of_lt h)
  have e2 : ks es' = ks ds' := PySem.W.os_sorted_one e1 (le s1) (le s2)
  have a1 := sorted_to (Str.empty, 0) ne nd hl p1 e2
  have a2 := sorted_to (Str.empty, 0) nd nd (fun _ => rfl) p2 rfl
  exact a1.trans a2.symm

def spRowsOf (K : PySem.W.Frag) : Sp := fun vs H Q _ => ∃ (a : Addr) (xs : List V) (l : List (Int × Rw)), vs = [.ref a] ∧ (H a = some (.lst xs) ∨ SqT K H a xs) ∧ EnAll K H xs l ∧ l.length ≤ 1000 ∧
  ∀ d H' es, Same H H' → H' d = some (.dK (entsV es)) → Rws K H' es (laidA [] l) → Q (.ref d) H'
def spInitD (K : PySem.W.Frag) (C : Addr) : Sp := fun vs H Q _ => ∃ (x dx a : Addr) (xs : List V) (l : List (Int × Rw)), vs = [.ref x, .ref a] ∧ H x = some (.ins C dx []) ∧
  (H a = some (.lst xs) ∨ SqT K H a xs) ∧ EnAll K H xs l ∧ l.length ≤ 1000 ∧
  ∀ d H' es, Same (del x H) (del x H') → H' x = some (.ins C dx [("_rows", .ref d)]) → H' d = some (.dK (entsV es)) → Rws K H' es (laidA [] l) → Q .non H'
def spDictOf (K : PySem.W.Frag) (C : Addr) : Sp := fun vs H Q _ => ∃ U d rs, vs = [.ref d] ∧ RD K U H d rs ∧ VR rs ∧ ∀ x H', Same H H' → DD K C U H' x rs → Q (.ref x) H'
def spRawM (K : PySem.W.Frag) : Sp := fun vs H Q _ => ∃ U a b rs qs, vs = [.ref a, .ref b] ∧ RD K U H a rs ∧ RD K U H b qs ∧ ∀ d H', Same H H' → RD K U H' d (mergedA rs qs) → Q (.ref d) H'
def spOrD (K : PySem.W.Frag) (C : Addr) : Sp := fun vs H Q _ => ∃ U a b rs qs, vs = [.ref a, .ref b] ∧ DD K C U H a rs ∧ DD K C U H b qs ∧ ∀ d H', Same H H' → DD K C U H' d (mergedA rs qs) → Q (.ref d) H'
def spPartD (K : PySem.W.Frag) (C S : Addr) (c : Bool) : Sp := fun vs H Q _ => ∃ U U2 a b rs es, vs = [.ref a, .ref b] ∧ DD K C U H a rs ∧ FS S U2 H b es ∧
  ∀ d H', Same H H' → DD K C U H' d (rs.filter fun r => has es r.1 == c) → Q (.ref d) H'
def mergedL (rs : List (Int × Rw)) (ls : List (List (Int × Rw))) : List (Int × Rw) := ls.foldl mergedA rs
inductive DDs (K : PySem.W.Frag) (C : Addr) (U : List Int) (H : Hp) : List V → List (List (Int × Rw)) → Prop
  | nil : DDs K C U H [] []
  | cons {x : Addr} {rs : List (Int × Rw)} {vs : List V} {ls : List (List (Int × Rw))} (h : DD K C U H x rs) (r : DDs K C U H vs ls) : DDs K C U H (.ref x :: vs) (rs :: ls)
inductive RDs (K : PySem.W.Frag) (U : List Int) (H : Hp) : List V → List (List (Int × Rw)) → Prop
  | nil : RDs K U H [] []
  | cons {x : Addr} {rs : List (Int × Rw)} {vs : List V} {ls : List (List (Int × Rw))} (h : RD K U H x rs) (r : RDs K U H vs ls) : RDs K U H (.ref x :: vs) (rs :: ls)
section
variable {K : PySem.W.Frag} {C : Addr} {U : List Int} {H H' : Hp}
theorem DDs.same (s : Same H H') : ∀ {vs : List V} {ls : List (List (Int × Rw))}, DDs K C U H vs ls → DDs K C U H' vs ls
  | _, _, .nil => .nil
  | _, _, .cons h r => .cons (h.same s) (DDs.same s r)
theorem DDs.len : ∀ {vs : List V} {ls : List (List (Int × Rw))}, DDs K C U H vs ls → vs.length = ls.length
  | _, _, .nil => rfl
  | _, _, .cons _ r => by rw [List.length_cons, List.length_cons, r.len]
theorem DDs.at : ∀ {vs : List V} {ls : List (List (Int × Rw))} {i : Nat} {v : V}, DDs K C U H vs ls → vs[i]? = some v → ∃ x rs, v = .ref x ∧ ls[i]? = some rs ∧ DD K C U H x rs
  | _, _, i, v, .nil, h => by simp at h
  | _, _, 0, v, .cons h1 r, h => by
    cases Option.some.inj h
    exact ⟨_, _, rfl, rfl, h1⟩
  | _, _, i + 1, v, .cons h1 r, h => r.at h
theorem DDs.chg {g : Addr} {ls : List V} (e : H g = some (.lst ls)) (s : Ext g H H') : ∀ {vs : List V} {es : List (List (Int × Rw))}, DDs K C U H vs es → DDs K C U H' vs es
  | _, _, .nil => .nil
  | _, _, .cons h r => .cons (h.chg e s) (DDs.chg e s r)
theorem DDs.app {x : Addr} {rs : List (Int × Rw)} (h : DD K C U H x rs) : ∀ {vs : List V} {ls : List (List (Int × Rw))}, DDs K C U H vs ls → DDs K C U H (vs ++ [.ref x]) (ls ++ [rs])
  | _, _, .nil => .cons h .nil
  | _, _, .cons h1 r => .cons h1 (DDs.app h r)
theorem DDs.take : ∀ {vs : List V} {ls : List (List (Int × Rw))} (i : Nat), DDs K C U H vs ls → DDs K C U H (vs.take i) (ls.take i)
  | _, _, 0, _ => by rw [List.take_zero, List.take_zero]; exact .nil
  | _, _, i + 1, .nil => .nil
  | _, _, i + 1, .cons h r => .cons h (DDs.take i r)
theorem RDs.same (s : Same H H') : ∀ {vs : List V} {ls : List (List (Int × Rw))}, RDs K U H vs ls → RDs K U H' vs ls
  | _, _, .nil => .nil
  | _, _, .cons h r => .cons (h.same s) (RDs.same s r)
theorem RDs.len : ∀ {vs : List V} {ls : List (List (Int × Rw))}, RDs K U H vs ls → vs.length = ls.length
  | _, _, .nil => rfl
  | _, _, .cons _ r => by rw [List.length_cons, List.length_cons, r.len]
theorem RDs.at : ∀ {vs : List V} {ls : List (List (Int × Rw))} {i : Nat} {v : V}, RDs K U H vs ls → vs[i]? = some v → ∃ x rs, v = .ref x ∧ ls[i]? = some rs ∧ RD K U H x rs
  | _, _, i, v, .nil, h => by simp at h
  | _, _, 0, v, .cons h1 r, h => by
    cases Option.some.inj h
    exact ⟨_, _, rfl, rfl, h1⟩
  | _, _, i + 1, v, .cons h1 r, h => r.at h
theorem RDs.chg {g : Addr} {ls : List V} (e : H g = some (.lst ls)) (s : Ext g H H') : ∀ {vs : List V} {es : List (List (Int × Rw))}, RDs K U H vs es → RDs K U H' vs es
  | _, _, .nil => .nil
  | _, _, .cons h r => .cons (h.chg e s) (RDs.chg e s r)
theorem RDs.app {x : Addr} {rs : List (Int × Rw)} (h : RD K U H x rs) : ∀ {vs : List V} {ls : List (List (Int × Rw))}, RDs K U H vs ls → RDs K U H (vs ++ [.ref x]) (ls ++ [rs])
  | _, _, .nil => .cons h .nil
  | _, _, .cons h1 r => .cons h1 (RDs.app h r)
theorem RDs.set {x : Addr} {rs : List (Int × Rw)} (h : RD K U H x rs) : ∀ {vs : List V} {ls : List (List (Int × Rw))} (i : Nat), RDs K U H vs ls → RDs K U H (vs.set i (.ref x)) (ls.set i rs)
  | _, _, _, .nil => .nil
  | _, _, 0, .cons h1 r => .cons h r
  | _, _, i + 1, .cons h1 r => .cons h1 (RDs.set h i r)
theorem RDs.take : ∀ {vs : List V} {ls : List (List (Int × Rw))} (i : Nat), RDs K U H vs ls → RDs K U H (vs.take i) (ls.take i)
  | _, _, 0, _ => by rw [List.take_zero, List.take_zero]; exact .nil
  | _, _, i + 1, .nil => .nil
  | _, _, i + 1, .cons h r => .cons h (RDs.take i r)
end
def spMergeAll (K : PySem.W.Frag) (C : Addr) : Sp := fun vs H Q _ => ∃ U a p rs xs ls, vs = [.ref a, .ref p] ∧ DD K C U H a rs ∧ SqT K H p xs ∧ DDs K C U H xs ls ∧ ∀ d H', Same H H' → DD K C U H' d (mergedL rs ls) → Q (.ref d) H'
def spHasD (K : PySem.W.Frag) (C : Addr) : Sp := fun vs H Q _ => ∃ U a rs n, vs = [.ref a, .int n] ∧ DD K C U H a rs ∧ (0 ≤ n ∧ n ≤ 999999) ∧ ∀ H', Same H H' → Q (.bl (hs rs n)) H'
def spGetD (K : PySem.W.Frag) (C : Addr) : Sp := fun vs H Q _ => ∃ U a rs n x v, vs = [.ref a, .int n] ∧ DD K C U H a rs ∧ lk rs n = some (x, v) ∧ ∀ H', Same H H' → Q (.int v) H'
def EntQ (rs : List (Int × Rw)) (H : Hp) (Q : VK) : Prop := ∀ (H' : Hp) (l : Addr) (ts : List V) (rs' : List (Int × Rw)), Same H H' → H' l = some (.lst ts) → Tup3 H' ts rs' → rs'.Perm rs → rs'.Pairwise (fun p q => p.1 < q.1) → Q (.ref l) H'
def spEnt (K : PySem.W.Frag) (C : Addr) : Sp := fun vs H Q _ => ∃ U a rs, vs = [.ref a] ∧ DD K C U H a rs ∧ EntQ rs H Q
def spKeySet (K : PySem.W.Frag) (C S : Addr) : Sp := fun vs H Q _ => ∃ U a rs, vs = [.ref a] ∧ DD K C U H a rs ∧ ∀ z H' es, Same H H' → FS S U H' z es → (∀ k, look es k = (lk rs k).map (·.1)) → Q (.ref z) H'
def VS (es : List (Int × Str)) : Prop := ∀ p ∈ es, (0 ≤ p.1 ∧ p.1 ≤ 999999) ∧ nameOk p.2 = true
def lookedAt (a : Option Str) (b : Option Rw) : Option Rw := match a, b with
  | some x, some r => some (x, r.2)
  | _, _ => none
def spLooked (K : PySem.W.Frag) (C S : Addr) : Sp := fun vs H Q _ => ∃ U U2 s d es rs, vs = [.ref s, .ref d] ∧ FS S U H s es ∧ VS es ∧ DD K C U2 H d rs ∧
  ∀ z H' qs, Same H H' → DD K C U H' z qs → (∀ k, lk qs k = lookedAt (look es k) (lk rs k)) → Q (.ref z) H'
def alikeA (rs qs : List (Int × Rw)) : Prop := rs.length = qs.length ∧ ∀ p ∈ rs, lk qs p.1 = some p.2
def spEqD (K : PySem.W.Frag) (C : Addr) : Sp := fun vs H Q _ => ∃ U a b rs qs, vs = [.ref a, .ref b] ∧ DD K C U H a rs ∧ DD K C U H b qs ∧ alikeA rs qs ∧ Q (.bl true) H

def spLDict (K : PySem.W.Frag) : Sp := fun vs H Q _ => ∃ (a b : Addr) (n m : Nat) (fl : List Str), vs = [.ref a, .int m, .ref b] ∧ Bag H a n ∧ n < 5000 ∧ 1 ≤ m ∧ m ≤ 20 ∧ H b = some (.lst (fl.map V.str)) ∧ fl.length = 2 ∧ (∀ x ∈ fl, nameOk x = true) ∧
  ∀ d rs H', Same (del a H) (del a H') → Bag H' a (n + 200) → RD K (below m) H' d rs → VR rs → Q (.ref d) H'
def spLSet : Sp := fun vs H Q _ => ∃ (a : Addr) (n m : Nat), vs = [.ref a, .int m] ∧ Bag H a n ∧ n < 5000 ∧ 1 ≤ m ∧ m ≤ 20 ∧
  ∀ d es H', Same (del a H) (del a H') → Bag H' a (n + 100) → FD (below m) H' d es → NE es → Q (.ref d) H'
def spLEnts (K : PySem.W.Frag) : Sp := fun vs H Q _ => ∃ U d rs, vs = [.ref d] ∧ RD K U H d rs ∧ rs.length < 64 ∧ EntQ rs H Q
def spLIs (K : PySem.W.Frag) (C : Addr) : Sp := fun vs H Q _ => ∃ U V2 x d rs ds, vs = [.ref x, .ref d] ∧ DD K C U H x rs ∧ RD K V2 H d ds ∧ ds.length < 64 ∧ (∀ k, lk rs k = lk ds k) ∧ ∀ H', Same H H' → Q (.bl true) H'
def overL (a : Option Rw) (ls : List (List (Int × Rw))) (k : Int) : Option Rw := ls.foldl (fun acc l => over acc (lk l k)) a
def spLMerged (K : PySem.W.Frag) : Sp := fun vs H Q _ => ∃ U l xs rss, vs = [.ref l] ∧ SqL K H l xs ∧ RDs K U H xs rss ∧ U.length ≤ 1000 ∧
  ∀ d H' qs, Same H H' → RD K U H' d qs → (∀ k, lk qs k = overL none rss k) → Q (.ref d) H'
def spLMR (K : PySem.W.Frag) (C : Addr) : Sp := fun vs H Q _ => ∃ (l r : Addr) (xs ys : List V) (rss qss : List (List (Int × Rw))), vs = [.ref l, .ref r] ∧ H l = some (.lst xs) ∧ RDs K (below 14) H xs rss ∧ H r = some (.lst ys) ∧ DDs K C (below 14) H ys qss ∧
  xs.length = ys.length ∧ 2 ≤ xs.length ∧ xs.length ≤ 4 ∧ (∀ (i : Nat) (e u : List (Int × Rw)), rss[i]? = some e → qss[i]? = some u → ∀ j, lk u j = lk e j) ∧ ∀ H', Same H H' → Q (.bl true) H'
def spLWS (K : PySem.W.Frag) (C S : Addr) : Sp := fun vs H Q _ => ∃ (d x f s : Addr) (ds rs : List (Int × Rw)) (fs es : List (Int × Str)), vs = [.ref d, .ref x, .ref f, .ref s] ∧ RD K (below 14) H d ds ∧ DD K C (below 14) H x rs ∧ FD (below 14) H f fs ∧ FS S (below 14) H s es ∧
  NE fs ∧ (∀ k, lk rs k = lk ds k) ∧ (∀ k, look es k = look fs k) ∧ ∀ H', Same H H' → Q (.bl true) H'
theorem lk_mergedL (ls : List (List (Int × Rw))) : ∀ (rs : List (Int × Rw)) (k : Int), (∀ l ∈ ls, (ks l).Nodup) → lk (mergedL rs ls) k = overL (lk rs k) ls k := by
  unfold mergedL overL
  induction ls with
  | nil => exact fun _ _ _ => rfl
  | cons l r ih =>
    intro rs k h
    rw [List.foldl_cons, List.foldl_cons, ih _ _ fun q hq => h q (List.mem_cons_of_mem _ hq), lk_mergedA (h l List.mem_cons_self)]
theorem overL_like : ∀ (us ws : List (List (Int × Rw))) (k : Int) (a : Option Rw), us.length = ws.length → (∀ (i : Nat) (u w : List (Int × Rw)), us[i]? = some u → ws[i]? = some w → lk u k = lk w k) → overL a us k = overL a ws k
  | [], [], _, _, _, _ => rfl
  | u :: us, w :: ws, k, a, hl, h => by
    unfold overL
    rw [List.foldl_cons, List.foldl_cons, h 0 u w rfl rfl]
    exact overL_like us ws k _ (by simpa using hl) fun i x y e1 e2 => h (i + 1) x y e1 e2
theorem alikeA_of {U W : List Int} {rs qs : List (Int × Rw)} (g : Gd U rs) (h : Gd W qs) (e : ∀ k, lk rs k = lk qs k) : alikeA rs qs :=
  ⟨len_of_hs g h fun k => by unfold hs; rw [e], fun p hp => by rw [← e]; exact lk_ents g.1 hp⟩
theorem below_len64 {α : Type} {rs : List (Int × α)} (g : Gd (below 14) rs) : rs.length < 64 := by
  have := nd_sub g.1 g.2.1
  rw [ks_len, below_len] at this
  omega
theorem Gd.wide {m : Nat} {α : Type} {es : List (Int × α)} (g : Gd (below m) es) (h : m ≤ 14) : Gd (below 14) es := by
  refine ⟨g.1, fun k hk => ?_, by rw [below_len]; omega⟩
  have := g.2.1 k hk
  unfold below at this ⊢
  obtain ⟨i, hi, rfl⟩ := List.mem_map.mp this
  exact List.mem_map.mpr ⟨i, List.mem_range.mpr (by have := List.mem_range.mp hi; omega), rfl⟩
theorem RD.wide {K : PySem.W.Frag} {m : Nat} {H : Hp} {d : Addr} {rs : List (Int × Rw)} (g : RD K (below m) H d rs) (h : m ≤ 14) : RD K (below 14) H d rs := by
  obtain ⟨es, h1, h2, h3⟩ := g
  exact ⟨es, h1, h2, h3.wide h⟩
end My
set_option Elab.async false
set_option maxRecDepth 100000
set_option maxHeartbeats 4000000
set_option linter.unusedVariables false
namespace My
open PySem PySem.Spec PyProof.Rows L2 L2.DX
theorem laid_len (fs : List (Int × Rw)) : ∀ es : List (Int × Rw), (laidA es fs).length ≤ es.length + fs.length := by
  unfold laidA
  induction fs with
  | nil => exact fun _ => Nat.le_refl _
  | cons p r ih =>
    intro es
    have h1 := ih (laid1 es p)
    have h2 : (laid1 es p).length ≤ es.length + 1 := put_len _ _ _
    rw [List.foldl_cons, List.length_cons]
    omega
theorem laid_take {l : List (Int × Rw)} {i : Nat} {n : Int} {r : Rw} (h : l[i]? = some (n, r)) (es : List (Int × Rw)) : laidA es (l.take (i + 1)) = putA (laidA es (l.take i)) n (over1 (lk (laidA es (l.take i)) n) r) := by
  unfold laidA
  rw [lk_take_snoc h, List.foldl_append]
  rfl
theorem merged_len (base fs : List (Int × Rw)) : ∀ es : List (Int × Rw), (fs.foldl (lay1 base) es).length ≤ es.length + fs.length := by
  induction fs with
  | nil => exact fun _ => Nat.le_refl _
  | cons p r ih =>
    intro es
    have h1 := ih (lay1 base es p)
    have h2 : (lay1 base es p).length ≤ es.length + 1 := put_len _ _ _
    rw [List.foldl_cons, List.length_cons]
    omega
theorem merged_take {l base : List (Int × Rw)} {i : Nat} {n : Int} {r : Rw} (h : l[i]? = some (n, r)) (es : List (Int × Rw)) : (l.take (i + 1)).foldl (lay1 base) es = putA ((l.take i).foldl (lay1 base) es) n (over1 (lk base n) r) := by
  rw [lk_take_snoc h, List.foldl_append]
  rfl
section
variable {K : PySem.W.Frag} {H : Hp} {p t : Addr} {es : List (Int × V)} {rs : List (Int × Rw)} {n : Int} {f : Str} {m : Int}

theorem rows_put (hd : H p = some (.dK (entsV es))) (hr : Rws K H es rs) (ht : H t = none) :
    Rws K (upd (upd H t (.tup [.str f, .int m])) p (.dK (putK (entsV es) (.inl n) (.ref t)))) (putA es n (.ref t)) (putA rs n (f, m)) := by
  have np : p ≠ t := ne_of_none hd ht
  have h1 : Rws K (upd H t (.tup [.str f, .int m])) es rs := hr.same (same_new ht)
  have h2 := h1.put n (t := t) (x := f) (n := m) (.inl (.inl upd_same))
  exact h2.chgD ((upd_ne np).trans hd) fun b o nb e => (upd_ne nb).trans e
theorem ext_put (hd : H p = some (.dK (entsV es))) (ht : H t = none) {o : HO} {u : HO} : Ext p H (upd (upd H t o) p u) := fun b _ nb e => (upd_ne nb).trans ((upd_ne (ne_of_none e ht)).trans e)
end

theorem key_ok {n : Int} (hn : 0 ≤ n ∧ n ≤ 999999) : mKey (.int n) = true := by
  show (decide (0 ≤ n) && decide (n ≤ 999999)) = true
  rw [decide_eq_true hn.1, decide_eq_true hn.2]; rfl
theorem key_sm {n : Int} (hn : 0 ≤ n ∧ n ≤ 999999) : sm (.int n) := ⟨int_small hn, .inl rfl⟩
theorem isSome_hs {es : List (Int × V)} {n : Int} : (valV (entsV es) (.inl n)).isSome = hs es n := by
  rw [valV_entsV]; rfl

theorem rows_perm {K : PySem.W.Frag} {H : Hp} {es es' : List (Int × V)} {rs : List (Int × Rw)} (hr : Rws K H es rs) (nd : (ks es).Nodup) (p : es'.Perm es) : ∃ rs', Rws K H es' rs' ∧ rs'.Perm rs ∧ ks rs' = ks es' := by
  have main : ∀ {es es' : List (Int × V)}, es'.Perm es → ∀ {rs : List (Int × Rw)}, Rws K H es rs → ∃ rs', Rws K H es' rs' ∧ rs'.Perm rs := by
    intro es es' p
    induction p with
    | nil => intro rs h; exact ⟨rs, h, List.Perm.refl _⟩
    | cons x _ ih =>
      intro rs h
      cases h with
      | cons h1 r =>
        obtain ⟨rs', h2, p2⟩ := ih r
        exact ⟨_, .cons h1 h2, p2.cons _⟩
    | swap x y l =>
      intro rs h
      cases h with
      | cons h1 r =>
        cases r with
        | cons h2 r2 => exact ⟨_, .cons h2 (.cons h1 r2), List.Perm.swap _ _ _⟩
    | trans _ _ ih1 ih2 =>
      intro rs h
      obtain ⟨r2, h2, p2⟩ := ih2 h
      obtain ⟨r1, h1, p1⟩ := ih1 h2
      exact ⟨r1, h1, p1.trans p2⟩
  obtain ⟨rs', h1, h2⟩ := main p hr
  exact ⟨rs', h1, h2, h1.ks.symm⟩
theorem sorted_ks {α β : Type} {es : List (Int × α)} {fs : List (Int × β)} (e : ks fs = ks es) (s : es.Pairwise (fun p q => p.1 < q.1)) : fs.Pairwise (fun p q => p.1 < q.1) := by
  have h1 : (ks es).Pairwise (· < ·) := List.pairwise_map.mpr s
  rw [← e] at h1
  exact List.pairwise_map.mp h1
end My
set_option Elab.async false
set_option maxRecDepth 100000
set_option maxHeartbeats 4000000
set_option linter.unusedVariables false
namespace My
open PySem PySem.Spec PyProof.Rows L2 L2.DX
theorem tupS_el {K : PySem.W.Frag} {H : Hp} : ∀ {ts : List V} {es : List (Int × Str)}, TupS H ts es → VS es → ElAll K H ts es
  | _, _, .nil, _ => .nil
  | _, _, .cons h r, v => .cons (.inl (.inl h)) (v _ List.mem_cons_self).1 (v _ List.mem_cons_self).2 (tupS_el r fun q hq => v q (List.mem_cons_of_mem _ hq))
theorem tupS_len {H : Hp} : ∀ {ts : List V} {es : List (Int × Str)}, TupS H ts es → ts.length = es.length
  | _, _, .nil => rfl
  | _, _, .cons _ r => by rw [List.length_cons, List.length_cons, tupS_len r]
theorem tupS_get {H : Hp} : ∀ {ts : List V} {es : List (Int × Str)} {i : Nat} {v : V}, TupS H ts es → ts[i]? = some v → ∃ t k x, v = .ref t ∧ es[i]? = some (k, x) ∧ H t = some (.tup [.int k, .str x])
  | _, _, i, v, .nil, h => by simp at h
  | _, _, 0, v, .cons h1 r, h => by
    cases Option.some.inj h
    exact ⟨_, _, _, rfl, rfl, h1⟩
  | _, _, i + 1, v, .cons h1 r, h => by
    have q := fun hh => tupS_get (i := i) (v := v) r hh
    exact q (by simpa using h)
theorem lk_perm {α : Type} {rs rs' : List (Int × α)} (p : rs'.Perm rs) (nd : (ks rs).Nodup) (k : Int) : lk rs' k = lk rs k := by
  have nd' : (ks rs').Nodup := ((p.map (fun q : Int × α => q.1)).nodup_iff).mpr nd
  cases h : lk rs k with
  | none =>
    refine lk_none.mpr fun z => lk_none.mp h ?_
    exact (p.map (fun q : Int × α => q.1)).mem_iff.mp z
  | some x =>
    have := lk_ents nd' (p.mem_iff.mpr (lk_mem h))
    exact this
theorem forms_take (rs : List (Int × Rw)) (i : Nat) : formsOf (rs.take i) = (formsOf rs).take i := List.map_take
theorem forms_vs {rs : List (Int × Rw)} (h : VR rs) : VS (formsOf rs) := fun p hp => by
  obtain ⟨q, hq, rfl⟩ := List.mem_map.mp hp
  exact ⟨(h q hq).1, (h q hq).2.1⟩
theorem forms_good {U : List Int} {rs : List (Int × Rw)} (g : Gd U rs) : Good U (formsOf rs) := ⟨by rw [keys_forms]; exact g.1, by rw [keys_forms]; exact g.2.1, g.2.2⟩
theorem small3000 {n : Nat} (h : n ≤ 3000) : n < sizeLine := Nat.lt_of_le_of_lt h (by decide)
theorem room80 {k : Nat} {A : Around} (r : Room k A) : A.units + 80 < cLine := by have := r.un; omega

def lookedL (rs : List (Int × Rw)) (es : List (Int × Str)) : List (Int × Rw) := es.filterMap fun p => (lk rs p.1).map fun r => (p.1, (p.2, r.2))
theorem ks_lookedL (rs : List (Int × Rw)) : ∀ es : List (Int × Str), (ks (lookedL rs es)).Sublist (keys es)
  | [] => List.Sublist.slnil
  | p :: r => by
    unfold lookedL
    rw [List.filterMap_cons]
    cases h : lk rs p.1 with
    | none => exact (ks_lookedL rs r).cons _
    | some q => exact (ks_lookedL rs r).cons_cons _
theorem lk_lookedL (rs : List (Int × Rw)) (k : Int) : ∀ es : List (Int × Str), (keys es).Nodup → lk (lookedL rs es) k = lookedAt (look es k) (lk rs k)
  | [], _ => rfl
  | p :: r, nd => by
    have nd2 : p.1 ∉ keys r ∧ (keys r).Nodup := List.nodup_cons.mp nd
    have ih := lk_lookedL rs k r nd2.2
    rw [look_cons]
    unfold lookedL
    rw [List.filterMap_cons]
    by_cases e : p.1 = k
    · rw [if_pos e]
      cases h : lk rs p.1 with
      | none =>
        show lk (lookedL rs r) k = _
        rw [ih, ← e, h]
        unfold lookedAt
        cases look r p.1 <;> rfl
      | some q =>
        show lk ((p.1, (p.2, q.2)) :: lookedL rs r) k = _
        rw [lk_cons, if_pos e, ← e, h]
        rfl
    · rw [if_neg e]
      cases h : lk rs p.1 with
      | none => exact ih
      | some q =>
        show lk ((p.1, (p.2, q.2)) :: lookedL rs r) k = _
        rw [lk_cons, if_neg e, ih]
theorem lookedL_take {rs : List (Int × Rw)} {es : List (Int × Str)} {i : Nat} {p : Int × Str} (h : es[i]? = some p) :
    lookedL rs (es.take (i + 1)) = lookedL rs (es.take i) ++ (match lk rs p.1 with | some r => [(p.1, (p.2, r.2))] | none => []) := by
  unfold lookedL
  rw [take_one h, List.filterMap_append, List.filterMap_cons, List.filterMap_nil]
  cases lk rs p.1 <;> rfl
theorem lookedL_vr {rs : List (Int × Rw)} {es : List (Int × Str)} (h : VR rs) (g : VS es) : VR (lookedL rs es) := fun q hq => by
  obtain ⟨p, hp, e⟩ := List.mem_filterMap.mp hq
  cases l : lk rs p.1 with
  | none => rw [l] at e; cases e
  | some r =>
    rw [l] at e
    cases e
    exact ⟨(g p hp).1, (g p hp).2, (h _ (lk_mem l)).2.2⟩
theorem lookedL_len (rs : List (Int × Rw)) (es : List (Int × Str)) : (lookedL rs es).length ≤ es.length := List.length_filterMap_le _ _
theorem filter_take_put {α : Type} {fs : List (Int × α)} {i : Nat} {n : Int} {v : α} (nd : (ks fs).Nodup) (h : fs[i]? = some (n, v)) (c : Int → Bool) :
    (fs.take (i + 1)).filter (fun p => c p.1) = if c n = true then putA ((fs.take i).filter fun p => c p.1) n v else (fs.take i).filter fun p => c p.1 := by
  rw [lk_take_snoc h, List.filter_append, List.filter_cons]
  by_cases q : c n = true
  · rw [if_pos q, if_pos q]
    have hk : hs ((fs.take i).filter fun p => c p.1) n = false := by
      unfold hs
      rw [lk_filter, lk_part nd h, ite_self]
      rfl
    unfold putA
    rw [hk, if_neg (by simp)]
    rfl
  · rw [if_neg q, if_neg q]
    simp
theorem ents_ne {es : List (Int × Str)} {fs : List (Int × V)} {i : Nat} {k : Int} {t : Addr} (h : fs[i]? = some (k, .ref t)) : ents es ≠ entsV fs := by
  intro e
  have h1 : (entsV fs)[i]? = some (.inl k, .ref t) := by unfold entsV; rw [List.getElem?_map, h]; rfl
  rw [← e] at h1
  obtain ⟨_, _, _, _, h2⟩ := ents_at h1
  cases h2
end My
set_option Elab.async false
set_option maxRecDepth 100000
set_option maxHeartbeats 4000000
set_option linter.unusedVariables false
namespace My
open PySem PySem.Spec PyProof.Rows L2 L2.DX
theorem rows_of_keys {α : Type} {rs : List (Int × α)} {ys : List Int} (x0 : α) (nd : (ks rs).Nodup) (p : ys.Perm (ks rs)) (s : ys.Pairwise (· ≤ ·)) :
    (ys.map fun k => (k, (lk rs k).getD x0)).Perm rs ∧ (ys.map fun k => (k, (lk rs k).getD x0)).Pairwise (fun a b => a.1 < b.1) := by
  constructor
  · have h1 := p.map fun k => (k, (lk rs k).getD x0)
    have h2 : (ks rs).map (fun k => (k, (lk rs k).getD x0)) = rs := by
      unfold ks
      rw [List.map_map]
      have main : ∀ p ∈ rs, ((fun k => (k, (lk rs k).getD x0)) ∘ fun q : Int × α => q.1) p = p := by
        intro p hp
        show (p.1, (lk rs p.1).getD x0) = p
        rw [lk_ents nd hp]
        rfl
      exact (List.map_congr_left main).trans (List.map_id _)
    rw [h2] at h1
    exact h1
  · have ndy : ys.Nodup := p.nodup_iff.mpr nd
    refine List.pairwise_map.mpr ?_
    exact (List.Pairwise.and s ndy).imp fun h => by
      have a := h.1
      have b := h.2
      show (_ : Int) < _
      omega
theorem over_step {qs2 qs rs : List (Int × Rw)} {j : Nat} {n : Int} {r : Rw} (nd : (ks rs).Nodup) (h : ∀ k, lk qs2 k = over (lk qs k) (lk (rs.take j) k)) (e : rs[j]? = some (n, r)) (k : Int) :
    lk (putA qs2 n (over1 (lk qs2 n) r)) k = over (lk qs k) (lk (rs.take (j + 1)) k) := by
  have e0 := lk_part nd e
  rw [lk_put, lk_take_snoc e, lk_app, lk_cons, lk_nil]
  by_cases z : k = n
  · rw [if_pos z, if_pos z.symm, z, e0, h, e0]; rfl
  · rw [if_neg z, if_neg (fun q => z q.symm), Option.or_none, h]

theorem tupV_app {H : Hp} {t : Addr} {k : Int} {x : V} (h : H t = some (.tup [.int k, x])) : ∀ {ts : List V} {es : List (Int × V)}, TupV H ts es → TupV H (ts ++ [.ref t]) (es ++ [(k, x)])
  | _, _, .nil => .cons h .nil
  | _, _, .cons h1 r => .cons h1 (tupV_app h r)
theorem tupV_chg {H H' : Hp} {a : Addr} {ls : List V} (e : H a = some (.lst ls)) (x : Ext a H H') : ∀ {ts : List V} {es : List (Int × V)}, TupV H ts es → TupV H' ts es
  | _, _, .nil => .nil
  | _, _, .cons h r => .cons (x _ _ (fun z => by rw [z, e] at h; cases h) h) (tupV_chg e x r)
theorem tupV_frz {H : Hp} {a : Addr} {od : Obj} {u o : HO} (e : H a = some (.frz od u)) : ∀ {ts : List V} {es : List (Int × V)}, TupV H ts es → TupV (upd H a o) ts es
  | _, _, .nil => .nil
  | _, _, .cons h r => .cons ((upd_ne fun z => by rw [z, e] at h; cases h).trans h) (tupV_frz e r)
theorem tupV_refs {K : PySem.W.Frag} {H : Hp} : ∀ {ts : List V} {es : List (Int × V)}, TupV H ts es → ∃ ps : List Addr, ts = ps.map V.ref ∧ Paired (fun p (kv : Key × V) => SqT K H p [kV kv.1, kv.2]) ps (entsV es)
  | _, _, .nil => ⟨[], rfl, .nil⟩
  | _, _, .cons (a := a) h r => by
    obtain ⟨ps, rfl, h2⟩ := tupV_refs (K := K) r
    exact ⟨a :: ps, rfl, .cons (.inl (.inl h)) h2⟩

def lkL (fs : List (Int × Str)) (rs : List (Int × Rw)) : List (Int × Rw) := rs.filterMap fun r => (look fs r.1).map fun x => (r.1, (x, r.2.2))
theorem lk_lkL (fs : List (Int × Str)) (k : Int) : ∀ rs : List (Int × Rw), (ks rs).Nodup → lk (lkL fs rs) k = lookedAt (look fs k) (lk rs k)
  | [], _ => by
    show none = lookedAt (look fs k) none
    unfold lookedAt
    cases look fs k <;> rfl
  | p :: r, nd => by
    have nd2 : p.1 ∉ ks r ∧ (ks r).Nodup := List.nodup_cons.mp nd
    have ih := lk_lkL fs k r nd2.2
    rw [lk_cons]
    unfold lkL
    rw [List.filterMap_cons]
    by_cases e : p.1 = k
    · rw [if_pos e]
      cases h : look fs p.1 with
      | none =>
        show lk (lkL fs r) k = _
        have e0 : lk r p.1 = none := lk_none.mpr nd2.1
        rw [ih, ← e, e0, h]
        rfl
      | some q =>
        show lk ((p.1, (q, p.2.2)) :: lkL fs r) k = _
        rw [lk_cons, if_pos e, ← e, h]
        rfl
    · rw [if_neg e]
      cases h : look fs p.1 with
      | none => exact ih
      | some q =>
        show lk ((p.1, (q, p.2.2)) :: lkL fs r) k = _
        rw [lk_cons, if_neg e, ih]
theorem ks_lkL (fs : List (Int × Str)) : ∀ rs : List (Int × Rw), (ks (lkL fs rs)).Sublist (ks rs)
  | [] => List.Sublist.slnil
  | p :: r => by
    unfold lkL
    rw [List.filterMap_cons]
    cases h : look fs p.1 with
    | none => exact (ks_lkL fs r).cons _
    | some q => exact (ks_lkL fs r).cons_cons _
theorem lkL_take {fs : List (Int × Str)} {rs : List (Int × Rw)} {i : Nat} {n : Int} {r : Rw} {x : Str} (h : rs[i]? = some (n, r)) (e : look fs n = some x) : lkL fs (rs.take (i + 1)) = lkL fs (rs.take i) ++ [(n, (x, r.2))] := by
  unfold lkL
  rw [lk_take_snoc h, List.filterMap_append, List.filterMap_cons, List.filterMap_nil]
  have e' : look fs (n, r).fst = some x := e
  rw [e']
  rfl
theorem Gd.sub {α β : Type} {U : List Int} {es : List (Int × α)} {fs : List (Int × β)} (g : Gd U es) (h : (ks fs).Sublist (ks es)) : Gd U fs := ⟨g.1.sublist h, fun k hk => g.2.1 k (h.subset hk), g.2.2⟩
theorem ks_get {α : Type} {es : List (Int × α)} {i : Nat} {n : Int} (h : (ks es)[i]? = some n) : ∃ x, es[i]? = some (n, x) := by
  unfold ks at h
  rw [List.getElem?_map] at h
  cases e : es[i]? with
  | none => rw [e] at h; cases h
  | some p => rw [e] at h; cases h; exact ⟨p.2, rfl⟩
theorem vs_of {es fs : List (Int × Str)} (g : Good (below 14) es) (ne : NE fs) (e : ∀ k, look es k = look fs k) : VS es := fun p hp => by
  have l := look_ents g.1 hp
  rw [e] at l
  have hk := g.2.1 p.1 (List.mem_map_of_mem hp)
  unfold below at hk
  obtain ⟨i, hi, h⟩ := List.mem_map.mp hk
  have := List.mem_range.mp hi
  exact ⟨⟨by omega, by omega⟩, ne _ (look_mem l)⟩
theorem ix_tupK {X : Cx} {K : PySem.W.Frag} (h : X.K = K) : IxR X (rIxT K) := by
  subst h
  exact ix_tup
theorem row_draw {m : Nat} {key : Int} {x : Str} {v : Int} (hm : m ≤ 20) (k0 : 0 ≤ key) (k1 : key < m) (hx : nameOk x = true) (v0 : 0 ≤ v) (v1 : v < 100) : rowOk (key, (x, v - 50)) := by
  refine ⟨⟨k0, by show key ≤ 999999; omega⟩, hx, ?_⟩
  show 1 - 10 ^ 40 ≤ v - 50 ∧ v - 50 ≤ 10 ^ 40 - 1
  constructor <;> omega
end My
set_option Elab.async false
set_option maxRecDepth 100000
set_option maxHeartbeats 4000000
set_option linter.unusedVariables false
namespace My
open PySem PySem.Spec PyProof.Rows L2 L2.DX
section
variable {rs ds : List (Int × Rw)} {es fs : List (Int × Str)}
theorem filt_eq (c c2 : Int → Bool) (lr : ∀ k, lk rs k = lk ds k) (h : ∀ k, c k = c2 k) (k : Int) : lk (rs.filter fun r => c r.1) k = lk (ds.filter fun r => c2 r.1) k := by
  rw [lk_filter c, lk_filter c2, lr, h]
theorem has_eq (le : ∀ k, look es k = look fs k) (k : Int) : has es k = has fs k := by unfold has; rw [le]
theorem kept_eq (lr : ∀ k, lk rs k = lk ds k) (le : ∀ k, look es k = look fs k) (k : Int) : lk (rs.filter fun r => has es r.1 == true) k = lk (ds.filter fun r => has fs r.1) k :=
  filt_eq (fun q => has es q == true) (fun q => has fs q) lr (fun q => by rw [has_eq le]; cases has fs q <;> rfl) k
theorem less_eq (lr : ∀ k, lk rs k = lk ds k) (le : ∀ k, look es k = look fs k) (k : Int) : lk (rs.filter fun r => has es r.1 == false) k = lk (ds.filter fun r => !has fs r.1) k :=
  filt_eq (fun q => has es q == false) (fun q => !has fs q) lr (fun q => by rw [has_eq le]; cases has fs q <;> rfl) k
theorem looked_eq (nd : (ks ds).Nodup) (lr : ∀ k, lk rs k = lk ds k) (le : ∀ k, look es k = look fs k) (k : Int) : lookedAt (look es k) (lk rs k) = lk (lkL fs (ds.filter fun r => has fs r.1)) k := by
  rw [lk_lkL fs k _ (nd.sublist (ks_filter_sub _ _)), lk_filter fun q => has fs q, le, lr]
  unfold has
  cases h : look fs k with
  | none =>
    unfold lookedAt
    rfl
  | some x => rfl
end
theorem over_none (b : Option Rw) : over none b = b := by
  cases b with
  | none => rfl
  | some r => rfl
theorem DD.nd {K : PySem.W.Frag} {C : Addr} {U : List Int} {H : Hp} {x : Addr} {rs : List (Int × Rw)} (h : DD K C U H x rs) : (ks rs).Nodup := by
  obtain ⟨_, _, _, ⟨_, _, _, g⟩, _⟩ := h
  exact g.1
theorem RD.len64 {K : PySem.W.Frag} {H : Hp} {d : Addr} {rs : List (Int × Rw)} (h : RD K (below 14) H d rs) : rs.length < 64 := by
  obtain ⟨_, _, _, g⟩ := h
  exact below_len64 g
theorem RD.gd {K : PySem.W.Frag} {U : List Int} {H : Hp} {d : Addr} {rs : List (Int × Rw)} (h : RD K U H d rs) : Gd U rs := by
  obtain ⟨_, _, _, g⟩ := h
  exact g
theorem isSome_has {fs : List (Int × Str)} {n : Int} : (valV (ents fs) (.inl n)).isSome = has fs n := by
  rw [valV_ents]
  unfold has
  cases look fs n <;> rfl
theorem at_one (v w : V) (r : List V) : atI (v :: w :: r) 1 = some w := by
  unfold atI
  rw [List.length_cons, List.length_cons, ix_one (by omega)]
  rfl

theorem unlock {H H' : Hp} {d D : Addr} {od : Obj} {u : HO} (hd : H d = some u) (hD : upd H d (.frz od u) D = none) (x : Ext D (upd H d (.frz od u)) H') : Same H (upd H' d u) := by
  intro w o e
  by_cases hw : w = d
  · subst hw
    rw [hd] at e
    cases e
    exact upd_same
  · refine (upd_ne hw).trans (x w o ?_ ((upd_ne hw).trans e))
    intro z
    subst z
    rw [upd_ne hw, e] at hD
    cases hD
end My
set_option Elab.async false
set_option maxRecDepth 100000
set_option maxHeartbeats 4000000
set_option linter.unusedVariables false
namespace My
open PySem PySem.Spec PyProof.Rows L2 L2.DX

theorem ifS_join {c : Bool} {te : TE} {g : TG} {D : Ends} {σ : L2.St} {H : Hp} (Pv : L2.St → Hp → Prop) (hP : ∀ σ G, Pv σ G → D.nx σ G)
    (ha : c = true → ∀ D' : Ends, (∀ σ G, Pv σ G → D'.nx σ G) → tAsg te g D' σ H) (hb : c = false → Pv σ H) : if c = true then tAsg te g D σ H else tNext D σ H := by
  cases c with
  | true => rw [if_pos rfl]; exact ha rfl D hP
  | false => rw [if_neg (by simp)]; exact hP _ _ (hb rfl)
def sameRow : Rw := ("same", 7)
theorem vr_same {ds : List (Int × Rw)} (h : VR ds) : VR (ds.map fun p => (p.1, sameRow)) := fun q hq => by
  obtain ⟨p, hp, rfl⟩ := List.mem_map.mp hq
  refine ⟨(h p hp).1, by show nameOk "same" = true; decide +kernel, ?_⟩
  show 1 - 10 ^ 40 ≤ (7 : Int) ∧ (7 : Int) ≤ 10 ^ 40 - 1
  constructor <;> decide
theorem ks_same (ds : List (Int × Rw)) : ks (ds.map fun p => (p.1, sameRow)) = ks ds := ks_map (fun _ _ => sameRow) ds

theorem mk_of_items {K : PySem.W.Frag} {C : Addr} {σ : L2.St} {H : Hp} {Q : VK} {te : TE} {f : Addr} {fs : List (Int × Str)} (he : ∀ R : VK, R (.ref f) H → te σ H R) (hf : FD (below 14) H f fs) (ne : NE fs)
    (k : ∀ z H', Same H H' → FS C (below 14) H' z fs → Q (.ref z) H') : tMake C (spInit K C) [] E0 (tCons (LiI.tListItems te) tNil) σ H Q := by
  refine he _ ⟨f, ents fs, rfl, hf.1, fun H4 p ts s4 hp hts hpn hp4 hpair => ?_⟩
  intro z dz hz hdz hzn
  have sm := made_same (C := C) (fs := []) hz hdz hzn
  have el : ElAll K H4 (ts.map V.ref) fs := elAll_of hpair hf.2 ne
  refine ⟨z, dz, p, ts.map V.ref, fs, rfl, upd_same, .inl (sm _ _ hp4), el.same sm, hf.2.len, fun d2 H6 s6 hz6 hd6 => ⟨rfl, ?_⟩⟩
  have s46 : Same H4 H6 := by
    intro b o e2
    have q := s6 b o ((del_at (ne_of_none e2 hz)).trans (sm _ _ e2))
    rw [del_at (ne_of_none e2 hz)] at q
    exact q
  rw [firsts_self hf.2.1] at hd6
  exact k z H6 (Same.trans s4 s46) ⟨dz, d2, hz6, hd6, hf.2⟩
theorem Good.wide {m : Nat} {es : List (Int × Str)} (g : Good (below m) es) (h : m ≤ 14) : Good (below 14) es := g.widen h
end My
set_option Elab.async false
set_option maxRecDepth 100000
set_option maxHeartbeats 4000000
set_option linter.unusedVariables false
namespace My
open PySem
open Sem (wp)

theorem cut_cons {F : Frame} {r : List Frame} (h : splitAtGen (F :: r) = none) : splitAtGen r = none ∧ ∀ g k l c p, F ≠ .gen g k l c p := by
  cases F with
  | gen g k l c p => cases h
  | ret k h1 g l c p kp =>
    refine ⟨?_, fun _ _ _ _ _ z => by cases z⟩
    cases q : splitAtGen r with
    | none => rfl
    | some x => simp only [splitAtGen, q, Option.map_some] at h; cases h
theorem cut_ret {k h1 g l c p kp} {r : List Frame} (h : splitAtGen r = none) : splitAtGen (.ret k h1 g l c p kp :: r) = none := by
  simp only [splitAtGen, h, Option.map_none]
theorem cut_app : ∀ {a b : List Frame}, splitAtGen a = none → splitAtGen b = none → splitAtGen (a ++ b) = none
  | [], b, _, h => h
  | .gen .. :: a, b, h, _ => by cases h
  | .ret k h1 g l c p kp :: a, b, h, h2 => by
    show splitAtGen (.ret k h1 g l c p kp :: (a ++ b)) = none
    exact cut_ret (cut_app (cut_cons h).1 h2)


def noWake : Resume → Sem Fin := fun _ => .unsupported "asleep"
theorem noWake_no {M : Model} {Γ : Ctx} {p : Pos} {r : Resume} {fs : List Frame} {s s' : Shared} {e : End} (h : Runs M Γ p (noWake r) fs s e s') : False := by
  have key : ∀ {t : Sem Fin} {fs : List Frame} {Γ : Ctx} {p : Pos} {s s' : Shared} {e : End}, Runs M Γ p t fs s e s' → t = .unsupported "asleep" → False := by
    intro t fs Γ p s s' e h
    induction h <;> intro q <;> first | (cases q; done) | (rename_i ih _; exact ih q) | (rename_i ih; exact ih q) | (rename_i ih _ _ ; exact ih q)
  exact key h rfl

abbrev Sleepers := Nat → Option GenState
structure Hid (D : Sleepers) (G : Array GenState) : Prop where
  hid : ∀ i S, D i = some S → ∃ k l c p fs cl, S = .suspended k l c p fs cl ∧ G[i]? = some (.suspended noWake l c p fs cl)
  own : ∀ i k l c p fs cl, D i = none → G[i]? = some (.suspended k l c p fs cl) → splitAtGen fs = none
def wakeAll (D : Sleepers) (G : Array GenState) : Array GenState := G.mapIdx fun i x => (D i).getD x
def unhid (D : Sleepers) (s : Shared) : Shared := { s with gens := wakeAll D s.gens }
theorem wakeAll_get (D : Sleepers) (G : Array GenState) (i : Nat) : (wakeAll D G)[i]? = G[i]?.map fun x => (D i).getD x := by
  simp [wakeAll]
theorem wakeAll_size (D : Sleepers) (G : Array GenState) : (wakeAll D G).size = G.size := by simp [wakeAll]
theorem Hid.none_at {D : Sleepers} {G : Array GenState} {g : Nat} {x : GenState} (h : Hid D G) (e : G[g]? = some x) (hx : ∀ l c p fs cl, x ≠ .suspended noWake l c p fs cl) : D g = none := by
  cases q : D g with
  | none => rfl
  | some S =>
    obtain ⟨k, l, c, p, fs, cl, _, e2⟩ := h.hid g S q
    rw [e] at e2
    exact absurd (Option.some.inj e2) (hx _ _ _ _ _)
theorem wake_at {D : Sleepers} {G : Array GenState} {g : Nat} {x : GenState} (e : G[g]? = some x) (n : D g = none) : (wakeAll D G)[g]? = some x := by
  rw [wakeAll_get, e, n]; rfl
theorem unhid_setGen {D : Sleepers} {s : Shared} {g : Nat} {x : GenState} (n : D g = none) : unhid D (s.setGen g x) = (unhid D s).setGen g x := by
  unfold unhid Shared.setGen
  congr 1
  apply Array.ext_getElem?
  intro i
  rw [wakeAll_get]
  by_cases h : g = i
  · subst h
    simp only [Array.getElem?_setIfInBounds_self, wakeAll_size]
    by_cases hl : g < s.gens.size
    · simp [hl, n]
    · simp [hl]
  · rw [Array.getElem?_setIfInBounds_ne h, Array.getElem?_setIfInBounds_ne h, wakeAll_get]
theorem Hid.setGen {D : Sleepers} {s : Shared} {g : Nat} {x : GenState} (h : Hid D s.gens) (n : D g = none) (hx : ∀ k l c p fs cl, x = .suspended k l c p fs cl → splitAtGen fs = none) : Hid D (s.setGen g x).gens := by
  have other : ∀ i, g ≠ i → (s.setGen g x).gens[i]? = s.gens[i]? := fun i hi => Array.getElem?_setIfInBounds_ne hi
  refine ⟨fun i S e => ?_, fun i k l c p fs cl e q => ?_⟩
  · have hi : g ≠ i := fun z => by rw [z, e] at n; cases n
    rw [other i hi]; exact h.hid i S e
  · by_cases hi : g = i
    · subst hi
      have q2 : (s.gens.setIfInBounds g x)[g]? = some (.suspended k l c p fs cl) := q
      rw [Array.getElem?_setIfInBounds] at q2
      simp only [if_true] at q2
      split at q2
      · exact hx _ _ _ _ _ _ (Option.some.inj q2)
      · cases q2
    · rw [other i hi] at q; exact h.own i k l c p fs cl e q
theorem Hid.small {D : Sleepers} {G : Array GenState} (h : Hid D G) : D G.size = none := by
  cases q : D G.size with
  | none => rfl
  | some S =>
    obtain ⟨k, l, c, p, fs, cl, _, e⟩ := h.hid _ S q
    simp at e
theorem unhid_push {D : Sleepers} {s : Shared} {x : GenState} (h : Hid D s.gens) : unhid D { s with gens := s.gens.push x } = { unhid D s with gens := (unhid D s).gens.push x } := by
  unfold unhid
  congr 1
  show wakeAll D (s.gens.push x) = (wakeAll D s.gens).push x
  unfold wakeAll
  rw [Array.mapIdx_push, h.small]; rfl
theorem Hid.push {D : Sleepers} {G : Array GenState} {c : Code} (h : Hid D G) : Hid D (G.push (.fresh c)) := by
  refine ⟨fun i S e => ?_, fun i k l c' p fs cl e q => ?_⟩
  · obtain ⟨k, l, c', p, fs, cl, e1, e2⟩ := h.hid i S e
    refine ⟨k, l, c', p, fs, cl, e1, ?_⟩
    have hl := (Array.getElem?_eq_some_iff.mp e2).1
    rw [Array.getElem?_push_lt hl, ← Array.getElem?_eq_getElem hl]; exact e2
  · rw [Array.getElem?_push] at q
    split at q
    · cases q
    · exact h.own i k l c' p fs cl e q
def EndFree : End → Prop
  | .susp _ _ _ _ _ _ fs => splitAtGen fs = none
  | .ret _ => True
theorem endFree_gen {e : End} (h : EndFree e) : ∀ k l c p fs cl, e.genState = .suspended k l c p fs cl → splitAtGen fs = none := by
  intro k l c p fs cl q
  cases e with
  | ret r => cases q
  | susp v g l0 k0 c0 p0 fs0 =>
    cases q
    exact h
section
variable {M : Model} {D : Sleepers}
theorem runs_unhid {Γ : Ctx} {p : Pos} {t : Sem Fin} {fs : List Frame} {s s' : Shared} {e : End} (h : Runs M Γ p t fs s e s') : Hid D s.gens → splitAtGen fs = none → Hid D s'.gens ∧ EndFree e ∧ Runs M Γ p t fs (unhid D s) e (unhid D s') := by
  induction h with
  | done => intro o _; exact ⟨o, trivial, .done⟩
  | raise => intro o _; exact ⟨o, trivial, .raise⟩
  | again q _ ih => intro o c; obtain ⟨a, b, r⟩ := ih o c; exact ⟨a, b, .again q r⟩
  | rule _ ih => intro o c; obtain ⟨a, b, r⟩ := ih o c; exact ⟨a, b, .rule r⟩
  | «at» _ ih => intro o c; obtain ⟨a, b, r⟩ := ih o c; exact ⟨a, b, .at r⟩
  | load q _ ih => intro o c; obtain ⟨a, b, r⟩ := ih o c; exact ⟨a, b, .load q r⟩
  | update q _ ih => intro o c; obtain ⟨a, b, r⟩ := ih o c; exact ⟨a, b, .update q r⟩
  | loadIfAlive _ ih => intro o c; obtain ⟨a, b, r⟩ := ih o c; exact ⟨a, b, .loadIfAlive r⟩
  | point _ ih => intro o c; obtain ⟨a, b, r⟩ := ih o c; exact ⟨a, b, .point r⟩
  | alloc _ ih => intro o c; obtain ⟨a, b, r⟩ := ih o c; exact ⟨a, b, .alloc r⟩
  | fresh _ ih => intro o c; obtain ⟨a, b, r⟩ := ih o c; exact ⟨a, b, .fresh r⟩
  | ask _ ih => intro o c; obtain ⟨a, b, r⟩ := ih o c; exact ⟨a, b, .ask r⟩
  | choose q _ ih => intro o c; obtain ⟨a, b, r⟩ := ih o c; exact ⟨a, b, .choose q r⟩
  | os _ ih => intro o c; obtain ⟨a, b, r⟩ := ih o c; exact ⟨a, b, .os r⟩
  | handled _ ih => intro o c; obtain ⟨a, b, r⟩ := ih o c; exact ⟨a, b, .handled r⟩
  | stack _ ih => intro o c; obtain ⟨a, b, r⟩ := ih o c; exact ⟨a, b, .stack r⟩
  | thread _ ih => intro o c; obtain ⟨a, b, r⟩ := ih o c; exact ⟨a, b, .thread r⟩
  | yield => intro o _; exact ⟨o, rfl, .yield⟩
  | @genState g st Γ p k s e s' q _ ih =>
    intro o c; obtain ⟨a, b, r⟩ := ih o c
    refine ⟨a, b, ?_⟩
    cases n : D g with
    | none => exact .genState (wake_at q n) r
    | some S =>
      obtain ⟨k', l', c', p', fs', cl', e1, e2⟩ := o.hid g S n
      have es : st.seen = S.seen := by
        rw [q] at e2
        rw [Option.some.inj e2, e1]; rfl
      rw [es] at r
      refine .genState ?_ r
      show (wakeAll D s.gens)[g]? = some S
      rw [wakeAll_get, q, n]; rfl
  | newGen _ ih =>
    intro o c; obtain ⟨a, b, r⟩ := ih o.push c
    refine ⟨a, b, .newGen ?_⟩
    rw [unhid_push o] at r
    show Runs M _ _ _ _ { unhid D _ with gens := (unhid D _).gens.push _ } _ _
    rw [show (unhid D _).gens.size = _ from wakeAll_size D _]
    exact r
  | call _ _ ih1 ih2 =>
    intro o c
    obtain ⟨a1, _, r1⟩ := ih1 o rfl
    obtain ⟨a2, b2, r2⟩ := ih2 a1 c
    exact ⟨a2, b2, .call r1 r2⟩
  | callSusp _ ih =>
    intro o c
    obtain ⟨a1, b1, r1⟩ := ih o rfl
    exact ⟨a1, cut_app b1 (cut_ret rfl), .callSusp r1⟩
  | resumeFresh q _ z _ ih1 ih2 =>
    intro o c
    have n := o.none_at q (fun _ _ _ _ _ y => by cases y)
    obtain ⟨a1, b1, r1⟩ := ih1 (o.setGen n fun _ _ _ _ _ _ y => by cases y) rfl
    obtain ⟨a2, b2, r2⟩ := ih2 (a1.setGen n (endFree_gen b1)) c
    rw [unhid_setGen n] at r1 r2
    exact ⟨a2, b2, .resumeFresh (wake_at q n) r1 z r2⟩
  | @resumeSuspended Γ p g r l k s k₀ l₀ c₀ p₀ fs cl e₁ s₁ e s' q x z _ ih1 ih2 =>
    intro o c
    have n : D g = none := by
      cases n : D g with
      | none => rfl
      | some S =>
        obtain ⟨k', l', c', p', fs', cl', e1, e2⟩ := o.hid g S n
        rw [q] at e2
        cases e2
        exact (noWake_no x).elim
    obtain ⟨a1, b1, r1⟩ := ih1 (o.setGen n fun _ _ _ _ _ _ y => by cases y) (o.own g _ _ _ _ _ _ n q)
    obtain ⟨a2, b2, r2⟩ := ih2 (a1.setGen n (endFree_gen b1)) c
    rw [unhid_setGen n] at r1 r2
    exact ⟨a2, b2, .resumeSuspended (wake_at q n) r1 z r2⟩
  | resumeJustStarted q v _ ih =>
    intro o c
    have n := o.none_at q (fun _ _ _ _ _ y => by cases y)
    obtain ⟨a, b, r⟩ := ih o c
    exact ⟨a, b, .resumeJustStarted (wake_at q n) v r⟩
  | resumeThrowFresh q _ ih =>
    intro o c
    have n := o.none_at q (fun _ _ _ _ _ y => by cases y)
    obtain ⟨a, b, r⟩ := ih (o.setGen n fun _ _ _ _ _ _ y => by cases y) c
    rw [unhid_setGen n] at r
    exact ⟨a, b, .resumeThrowFresh (wake_at q n) r⟩
  | resumeRunning q _ ih =>
    intro o c
    have n := o.none_at q (fun _ _ _ _ _ y => by cases y)
    obtain ⟨a, b, r⟩ := ih o c
    exact ⟨a, b, .resumeRunning (wake_at q n) r⟩
  | resumeFinished q _ ih =>
    intro o c
    have n := o.none_at q (fun _ _ _ _ _ y => by cases y)
    obtain ⟨a, b, r⟩ := ih o c
    exact ⟨a, b, .resumeFinished (wake_at q n) r⟩
  | segRet _ _ ih1 ih2 =>
    intro o c
    obtain ⟨a1, _, r1⟩ := ih1 o rfl
    obtain ⟨a2, b2, r2⟩ := ih2 a1 (cut_cons c).1
    exact ⟨a2, b2, .segRet r1 r2⟩
  | segGen _ _ _ _ => intro o c; exact absurd rfl ((cut_cons c).2 _ _ _ _ _)
  | segSuspOut q _ ih =>
    intro o c
    obtain ⟨a1, b1, r1⟩ := ih o rfl
    exact ⟨a1, cut_app b1 c, .segSuspOut q r1⟩
  | segSuspGen q _ _ _ _ _ => intro o c; rw [c] at q; cases q

theorem wakes_unhid {Γ : Ctx} {p : Pos} {g : Nat} {r : Resume} {s s' : Shared} {res : GenResult} (h : Wakes M Γ p g r s res s') (o : Hid D s.gens) : Hid D s'.gens ∧ Wakes M Γ p g r (unhid D s) res (unhid D s') := by
  cases q : s.gens[g]? with
  | none => unfold Wakes at h; rw [q] at h; exact h.elim
  | some x =>
    have n : D g = none := by
      cases n : D g with
      | none => rfl
      | some S =>
        obtain ⟨k', l', c', p', fs', cl', e1, e2⟩ := o.hid g S n
        unfold Wakes at h
        rw [e2] at h
        obtain ⟨e₁, s₁, hr, _⟩ := h
        exact (noWake_no hr).elim
    have w := wake_at q n
    unfold Wakes at h ⊢
    rw [q] at h
    rw [show (unhid D s).gens[g]? = some x from w]
    cases x with
    | fresh c =>
      cases r with
      | send v =>
        cases v with
        | none =>
          obtain ⟨e₁, s₁, hr, z, e1, e2⟩ := h
          obtain ⟨a, b, y⟩ := runs_unhid hr (o.setGen n fun _ _ _ _ _ _ y => by cases y) rfl
          rw [unhid_setGen n] at y
          subst e2
          exact ⟨a.setGen n (endFree_gen b), e₁, unhid D s₁, y, z, e1, unhid_setGen n⟩
        | _ => obtain ⟨e1, e2⟩ := h; subst e2; exact ⟨o, e1, rfl⟩
      | throw v =>
        obtain ⟨e1, e2⟩ := h
        subst e2
        exact ⟨o.setGen n (fun _ _ _ _ _ _ y => by cases y), e1, unhid_setGen n⟩
    | suspended k l c p' fs cl =>
      obtain ⟨e₁, s₁, hr, z, e1, e2⟩ := h
      obtain ⟨a, b, y⟩ := runs_unhid hr (o.setGen n fun _ _ _ _ _ _ y => by cases y) (o.own g _ _ _ _ _ _ n q)
      rw [unhid_setGen n] at y
      subst e2
      exact ⟨a.setGen n (endFree_gen b), e₁, unhid D s₁, y, z, e1, unhid_setGen n⟩
    | running => obtain ⟨e1, e2⟩ := h; subst e2; exact ⟨o, e1, rfl⟩
    | finished => obtain ⟨e1, e2⟩ := h; subst e2; exact ⟨o, e1, rfl⟩
theorem wp_unhid {α : Type} {Γ : Ctx} (t : Sem α) : ∀ {Q : α → Pos → Shared → Prop} {E : Value → Pos → Shared → Prop} {p : Pos} {s : Shared}, Hid D s.gens → wp M Γ t Q E p s →
    wp M Γ t (fun a p' s' => ∃ s1, s' = unhid D s1 ∧ Hid D s1.gens ∧ Q a p' s1) (fun e p' s' => ∃ s1, s' = unhid D s1 ∧ Hid D s1.gens ∧ E e p' s1) p (unhid D s) := by
  induction t with
  | pure a => intro Q E p s o h; exact ⟨s, rfl, o, h⟩
  | raise e => intro Q E p s o h; exact ⟨s, rfl, o, h⟩
  | unsupported _ => intro Q E p s _ h; exact h
  | finish _ => intro Q E p s _ h; exact h
  | rule _ k ih => intro Q E p s o h; exact ih () o h
  | «at» p' k ih => intro Q E p s o h; exact ih () o h
  | load a _ k ih => intro Q E p s o h; obtain ⟨x, hx, h⟩ := h; exact ⟨x, hx, ih x o h⟩
  | update a _ f k ih => intro Q E p s o h; exact ⟨h.1, ih () (s := { s with heap := s.heap.update a f }) o h.2⟩
  | loadIfAlive a k ih => intro Q E p s o h; exact ih _ o h
  | point _ k ih => intro Q E p s o h; exact ih () o h
  | register _ _ => intro Q E p s _ h; exact h
  | alloc x k ih => intro Q E p s o h; exact ih _ (s := { s with heap := s.heap.push x }) o h
  | fresh k ih => intro Q E p s o h; exact ih _ (s := { s with toks := s.toks + 1 }) o h
  | ask k ih => intro Q E p s o h; exact ih _ o h
  | choose src m k ih => intro Q E p s o h; exact ⟨h.1, ih _ (s := { s with drawn := s.drawn.bump src }) o h.2⟩
  | os q _ k ih => intro Q E p s o h; exact ih _ (s := { s with os := (Os.step s.os q).1 }) o h
  | call c hd _ _ k ih =>
    intro Q E p s o h
    obtain ⟨r, s', hr, h⟩ := h
    obtain ⟨a, _, b⟩ := runs_unhid hr o rfl
    exact ⟨r, unhid D s', b, ih r a h⟩
  | handled own k ih => intro Q E p s o h; exact ih _ o h
  | genState g k ih =>
    intro Q E p s o h
    obtain ⟨st, hs, h⟩ := h
    have q := ih _ o h
    cases n : D g with
    | none => exact ⟨st, wake_at hs n, q⟩
    | some S =>
      obtain ⟨k', l', c', p', fs', cl', e1, e2⟩ := o.hid g S n
      have es : st.seen = S.seen := by
        rw [hs] at e2
        rw [Option.some.inj e2, e1]; rfl
      rw [es] at q
      refine ⟨S, ?_, q⟩
      show (wakeAll D s.gens)[g]? = some S
      rw [wakeAll_get, hs, n]; rfl
  | newGen c k ih =>
    intro Q E p s o h
    have q := ih _ (s := { s with gens := s.gens.push (.fresh c) }) o.push h
    rw [unhid_push o] at q
    show wp M Γ (k (unhid D s).gens.size) _ _ p { unhid D s with gens := (unhid D s).gens.push (.fresh c) }
    rw [show (unhid D s).gens.size = s.gens.size from wakeAll_size D _]
    exact q
  | resume g r _ k ih =>
    intro Q E p s o h
    obtain ⟨res, s', hw, h⟩ := h
    obtain ⟨a, b⟩ := wakes_unhid hw o
    exact ⟨res, unhid D s', b, ih res a h⟩
  | yield _ _ _ _ => intro Q E p s _ h; exact h
  | stack k ih => intro Q E p s o h; exact ih _ o h
  | fork _ _ => intro Q E p s _ h; exact h
  | thread k ih => intro Q E p s o h; exact ih _ o h
  | await _ _ _ _ _ => intro Q E p s _ h; exact h
end


def sleepsOf (G : Array GenState) : Sleepers := fun i => match G[i]? with
  | some (.suspended k l c p fs cl) => some (.suspended k l c p fs cl)
  | _ => none
def hush : GenState → GenState
  | .suspended _ l c p fs cl => .suspended noWake l c p fs cl
  | x => x

def hid (s : Shared) : Shared := { s with gens := s.gens.map hush }
theorem sleeps_some {G : Array GenState} {i : Nat} {S : GenState} (h : sleepsOf G i = some S) : ∃ k l c p fs cl, S = .suspended k l c p fs cl ∧ G[i]? = some (.suspended k l c p fs cl) := by
  unfold sleepsOf at h
  split at h
  · rename_i k l c p fs cl e
    cases h
    exact ⟨k, l, c, p, fs, cl, rfl, e⟩
  · cases h
theorem hid_ok (s : Shared) : Hid (sleepsOf s.gens) (hid s).gens := by
  refine ⟨fun i S e => ?_, fun i k l c p fs cl e q => ?_⟩
  · obtain ⟨k, l, c, p, fs, cl, e1, e2⟩ := sleeps_some e
    refine ⟨k, l, c, p, fs, cl, e1, ?_⟩
    show (s.gens.map hush)[i]? = _
    rw [Array.getElem?_map, e2]; rfl
  · have q2 : (s.gens.map hush)[i]? = some (.suspended k l c p fs cl) := q
    rw [Array.getElem?_map] at q2
    cases z : s.gens[i]? with
    | none => rw [z] at q2; cases q2
    | some x =>
      rw [z] at q2
      cases x with
      | suspended k1 l1 c1 p1 f1 cl1 =>
        unfold sleepsOf at e
        rw [z] at e
        cases e
      | _ => cases q2
theorem unhid_hid (s : Shared) : unhid (sleepsOf s.gens) (hid s) = s := by
  unfold unhid hid
  have e : wakeAll (sleepsOf s.gens) (s.gens.map hush) = s.gens := by
    apply Array.ext_getElem?
    intro i
    rw [wakeAll_get, Array.getElem?_map]
    cases z : s.gens[i]? with
    | none => rfl
    | some x => cases x <;> simp [sleepsOf, z, hush]
  show ({ s with gens := wakeAll (sleepsOf s.gens) (s.gens.map hush) } : Shared) = s
  rw [e]

theorem wpAny_hid {α : Type} {M : Model} {A : Around} {t : Sem α} {Q : α → Shared → Prop} {E : Value → Shared → Prop} {s : Shared} (h : wpAny M A t Q E (hid s)) :
    wpAny M A t (fun a s' => ∃ s1, s' = unhid (sleepsOf s.gens) s1 ∧ Hid (sleepsOf s.gens) s1.gens ∧ Q a s1) (fun e s' => ∃ s1, s' = unhid (sleepsOf s.gens) s1 ∧ Hid (sleepsOf s.gens) s1.gens ∧ E e s1) s := by
  intro Γ p hΓ
  have q := wp_unhid (D := sleepsOf s.gens) t (hid_ok s) (h Γ p hΓ)
  rw [unhid_hid] at q
  exact q
theorem unhid_kept {s s1 : Shared} {g : Nat} {k : Resume → Sem Fin} {l : List Value} {c : Code} {p : Pos} {fs : List Frame} {cl : Bool} (o : Hid (sleepsOf s.gens) s1.gens) (e : s.gens[g]? = some (.suspended k l c p fs cl)) :
    (unhid (sleepsOf s.gens) s1).gens[g]? = some (.suspended k l c p fs cl) := by
  have d : sleepsOf s.gens g = some (.suspended k l c p fs cl) := by unfold sleepsOf; rw [e]
  obtain ⟨_, _, _, _, _, _, _, e2⟩ := o.hid g _ d
  show (wakeAll (sleepsOf s.gens) s1.gens)[g]? = _
  rw [wakeAll_get, e2, d]; rfl
open PyProof.Rows in
theorem bare_hid {s : Shared} (h : AllBare s.gens) : AllBare (hid s).gens := by
  intro y hy
  obtain ⟨x, hx, rfl⟩ := Array.mem_map.mp hy
  have := h x hx
  cases x <;> exact this
open PyProof.Rows in
theorem bare_unhid {s s1 : Shared} (h : AllBare s.gens) (h1 : AllBare s1.gens) : AllBare (unhid (sleepsOf s.gens) s1).gens := by
  intro y hy
  obtain ⟨i, e⟩ := Array.mem_iff_getElem?.mp hy
  have e : (wakeAll (sleepsOf s.gens) s1.gens)[i]? = some y := e
  rw [wakeAll_get] at e
  cases z : s1.gens[i]? with
  | none => rw [z] at e; cases e
  | some x =>
    rw [z] at e
    have e' := Option.some.inj e
    cases d : sleepsOf s.gens i with
    | none =>
      have e' : (sleepsOf s.gens i).getD x = y := e'
      rw [d] at e'
      have e' : x = y := e'
      subst e'
      exact h1 x (Array.mem_of_getElem? z)
    | some S =>
      have e' : (sleepsOf s.gens i).getD x = y := e'
      rw [d] at e'
      have e' : S = y := e'
      subst e'
      obtain ⟨k, l, c, p, fs, cl, e1, e2⟩ := sleeps_some d
      rw [e1]
      exact h _ (Array.mem_of_getElem? e2)
end My
set_option Elab.async false
set_option maxRecDepth 100000
set_option maxHeartbeats 4000000
set_option linter.unusedVariables false
namespace My
open PySem PySem.Spec PyProof.Rows L2 GenW
open Sem (wp)



abbrev Stop := End → Shared → Prop
def Piece (M : Model) (A : Around) (Φ : Stop) (c : Code) (t : Sem PySem.Fin) (fs : List Frame) (s : Shared) : Prop :=
  ∀ Γ p, Γ.code = c → Γ.Woken A → ∃ e s', Runs M Γ p t fs s e s' ∧ Φ e s'
section
variable {M : Model} {A : Around} {Φ : Stop} {c : Code} {fs : List Frame} {s : Shared}
theorem pc_wrap {α : Type} {m : Sem α} {K : α → Sem PySem.Fin} {J : Value → Sem PySem.Fin} {gd lv}
    (h : wpAny M (A.over c fs) m (fun a s' => Piece M A Φ c (K a) fs s') (fun x s' => Piece M A Φ c (J x) fs s') s) : Piece M A Φ c (m.wrap K J gd lv) fs s := by
  intro Γ p hc hw
  subst hc
  exact runs_wrap_of_wp K J gd lv m (h (Γ.over fs) p (hw.over fs)) (fun _ p' _ y => y Γ p' rfl hw) fun _ p' _ y => y Γ p' rfl hw
theorem pc_bind {α : Type} {m : Sem α} {K : α → Sem PySem.Fin}
    (h : wpAny M (A.over c fs) m (fun a s' => Piece M A Φ c (K a) fs s') (fun x s' => Piece M A Φ c (.raise x) fs s') s) : Piece M A Φ c (m >>= K) fs s := by
  rw [Sem.bind_eq_wrap']
  exact pc_wrap h
theorem pc_bindW {α β : Type} {m : Sem α} {f : α → Sem β} {K : β → Sem PySem.Fin} {J : Value → Sem PySem.Fin} {gd lv}
    (h : wpAny M (A.over c fs) m (fun a s' => Piece M A Φ c ((f a).wrap K J gd lv) fs s') (fun x s' => Piece M A Φ c (J x) fs s') s) : Piece M A Φ c ((m >>= f).wrap K J gd lv) fs s := by
  rw [Sem.bind_eq_wrap', Sem.wrap_wrap]
  exact pc_wrap h
theorem pc_at {q : Pos} {k : Unit → Sem PySem.Fin} (h : Piece M A Φ c (k ()) fs s) : Piece M A Φ c (.at q k) fs s :=
  pc_wrap (m := standAt q) (K := k) (J := .raise) (gd := id) (lv := id) (wpAny_standAt h)
theorem pc_call {c' : Code} {h g l} {k : Result → Sem PySem.Fin} (hc : ∀ p, Piece M A Φ c' (M.den c') (.ret k h g l c p [] :: fs) s) : Piece M A Φ c (.call c' h g l k) fs s := by
  intro Γ p e hw
  subst e
  obtain ⟨e, s', r, z⟩ := hc p (Γ.goto c') p rfl (hw.goto c')
  exact ⟨e, s', runs_call_seg r, z⟩
theorem pc_leaf {k h g l c₁ p₁ kp} (r : Result) (hk : Piece M A Φ c₁ (k r) fs s) : Piece M A Φ c (leafOf r) (.ret k h g l c₁ p₁ kp :: fs) s := by
  intro Γ p e hw
  subst e
  obtain ⟨e, s', q, z⟩ := hk (Γ.goto c₁) p₁ rfl (hw.goto c₁)
  exact ⟨e, s', Runs.pop r q, z⟩
theorem pc_again {c' : Code} (hq : c'.quiet = true) (hc : Piece M A Φ c' (M.den c') fs s) : Piece M A Φ c (.pure (.again c')) fs s := by
  intro Γ p e hw
  subst e
  obtain ⟨e, s', q, z⟩ := hc (Γ.goto c') p rfl (hw.goto c')
  exact ⟨e, s', Runs.head (c₁ := c') (fun _ _ x => .again hq x) q, z⟩
theorem pc_end (r : Result) (h : Φ (.ret r) s) : Piece M A Φ c (leafOf r) [] s := by
  intro Γ p e _
  exact ⟨.ret r, s, Runs.leaf r, h⟩
theorem pc_yield {v g l} {k : Resume → Sem PySem.Fin} (hf : splitAtGen fs = none) (h : ∀ p, Φ (.susp v g l k c p fs) s) : Piece M A Φ c (.yield v g l k) fs s := by
  intro Γ p e _
  subst e
  exact ⟨_, s, Runs.yield' fs hf, h p⟩
theorem pc_mono {Ψ : Stop} {t : Sem PySem.Fin} (h : Piece M A Φ c t fs s) (hq : ∀ e s', Φ e s' → Ψ e s') : Piece M A Ψ c t fs s := by
  intro Γ p e hw
  obtain ⟨e, s', q, z⟩ := h Γ p e hw
  exact ⟨e, s', q, hq _ _ z⟩
end

def GoesTo (M : Model) (A : Around) (Φ : Stop) (gs : GenState) (s : Shared) : Prop := match gs with
  | .fresh c => Piece M A Φ c (M.den c) [] s
  | .suspended k _ c _ fs _ => Piece M A Φ c (k (.send .none)) fs s
  | _ => False
theorem wpAny_resumeE {M : Model} {A : Around} {Φ : Stop} {E : Value → Shared → Prop} {s : Shared} {g : Nat} {gs : GenState} {l : List Value} {α : Type} {k : GenResult → Sem α} {Q : α → Shared → Prop} (hg : s.gens[g]? = some gs)
    (hgo : GoesTo M A Φ gs (s.setGen g .running)) (hq : ∀ e s₁, Φ e s₁ → e.quiet = true)
    (hk : ∀ e s₁, Φ e s₁ → wpAny M A (k e.result) Q E (s₁.setGen g e.genState)) : wpAny M A (.resume g (.send .none) l k) Q E s := by
  intro Γ p hΓ
  rw [Sem.wp_resume]
  cases gs with
  | fresh c =>
    obtain ⟨e, s₁, r, z⟩ := hgo (Γ.wake c p) p rfl (hΓ.wake c p)
    exact ⟨_, _, by unfold Wakes; rw [hg]; exact ⟨e, s₁, r, hq _ _ z, rfl, rfl⟩, hk e s₁ z Γ p hΓ⟩
  | suspended k₀ l₀ c₀ p₀ fs₀ cl =>
    obtain ⟨e, s₁, r, z⟩ := hgo (Γ.wake c₀ p) p₀ rfl (hΓ.wake c₀ p)
    exact ⟨_, _, by unfold Wakes; rw [hg]; exact ⟨e, s₁, r, hq _ _ z, rfl, rfl⟩, hk e s₁ z Γ p hΓ⟩
  | running => exact hgo.elim
  | finished => exact hgo.elim

theorem next_piece {P : Program} {w : World} {A : Around} {E : Value → Shared → Prop} {s : Shared} {a : Addr} {g : Nat} {gs : GenState} {Φ : Stop} {Q : Option Value → Shared → Prop} (hh : A.handled = none) (hl : s.heap.NoLimit) (hroom : A.depth < recursionLimit)
    (hg : s.heap.IsGen a g) (hgs : s.gens[g]? = some gs) (hgo : GoesTo (model P w) A.in1 Φ gs (s.setGen g .running))
    (hq : ∀ e s₁, Φ e s₁ → e.quiet = true) (hr : ∀ r s₁, Φ (.ret r) s₁ → r = .ok (.ret .none))
    (hP : ∀ s₁, Φ (.ret (.ok (.ret .none))) s₁ → ∀ h', (∀ b o, s₁.heap.get? b = some o → h'.get? b = some o) → Q none { s₁.setGen g .finished with heap := h' })
    (hY : ∀ v gd l k c p fs s₁, Φ (.susp v gd l k c p fs) s₁ → Q (some v) (s₁.setGen g (End.susp v gd l k c p fs).genState)) : wpAny (model P w) A (pyNext (.ref a)) Q E s := by
  unfold pyNext
  refine wpAny_bind (wpAny_attempt (wpAny_callSpecial?_slot (name := Str.ofString "__next__") hg.typeIs slot_gen_next
    (wpAny_call_entry slot_gen_next hg.typeIs entry_gen_next ?_ (args_gen_next _))))
  show wpAny _ A.in1 (Builtin.Generator.genWake (.ref a) (.send .none)) _ _ s
  unfold Builtin.Generator.genWake
  refine wpAny_bind (wpAny_holding (wpAny_genNumber hg (wpAny_bind (wpAny_genState hgs ?_))))
  cases gs with
  | running => exact hgo.elim
  | finished => exact hgo.elim
  | _ =>
    refine wpAny_bind (wpAny_roomToWake hl hroom ?_)
    show wpAny _ A.in1 (.resume g (.send .none) [] _) _ _ s
    refine wpAny_resumeE hgs hgo hq fun e s₁ z => ?_
    cases e with
    | ret r =>
      obtain rfl := hr r s₁ z
      show wpAny _ A.in1 (newExc (.type "StopIteration") [] >>= _) _ _ _
      refine wpAny_bind ?_
      simp only [newExc, newTuple]
      refine wpAny_bind (wpAny_newObj_type ?_ (by size_fits))
      refine wpAny_bind (m := firstArgMember _ _) (wpAny_of_eq (a := Value.none) (by first | rfl | (simp only [firstArgMember]; rfl)) ?_)
      refine wpAny_newObj_type ?_ (by size_fits)
      simp only [raiseNew]
      refine wpAny_bind (wpAny_bind (wpAny_handled ?_))
      first | rw [show A.in1.handled = none from hh] | rw [hh]
      refine wpAny_throw ?_
      refine wpAny_bind (wpAny_isInstance (T := "StopIteration") (b := true) ⟨_, Heap.get?_push_size _ rfl, rfl⟩ isSubtype_stop ?_)
      exact wpAny_pure (hP s₁ z _ fun b o hb => Heap.get?_push_of_some _ (Heap.get?_push_of_some _ hb))
    | susp v gd l k c p fs => exact wpAny_pure ⟨v, rfl, wpAny_pure (hY _ _ _ _ _ _ _ s₁ z)⟩


section
variable {prog : Program} {w : World} {A : Around} {E : Value → Shared → Prop} {s : Shared}
theorem ask_list {it l : Addr} {i : Nat} {items : Array Value} {x : Value} {Q : Option Value → Shared → Prop} (hit : s.heap.IsListIter it l i) (hl : s.heap.IsList l items) (hx : items[i]? = some x)
    (hQ : ∀ h', h'.IsListIter it l (i + 1) → Heap.SameBut it s.heap h' → Q (some x) { s with heap := h' }) : wpAny (model prog w) A (callSpecial? (.ref it) "__next__") Q E s := by
  obtain ⟨o, ho, hc, hd⟩ := id hit
  obtain ⟨ol, hol, _, nl, hdl⟩ := hl
  refine wpAny_callSpecial?_slot (name := Str.ofString "__next__") hit.typeIs slot_listiter_next
    (wpAny_call_entry slot_listiter_next hit.typeIs entry_listiter_next ?_ (args_listiter_next _))
  show wpAny _ _ (field (.ref it) 0 >>= _) _ _ s
  refine wpAny_bind (wpAny_field ho hd (x := .ref l) rfl ?_)
  show wpAny _ _ (if (Value.ref l == Value.none) = true then _ else _) _ _ s
  rw [if_neg (show ¬ ((Value.ref l == Value.none) = true) from Bool.false_ne_true)]
  show wpAny _ _ (field (.ref it) 1 >>= _) _ _ s
  refine wpAny_bind (wpAny_field ho hd (x := .int i 0) rfl ?_)
  show wpAny _ _ (seqItems? (.ref l) >>= _) _ _ s
  refine wpAny_bind (wpAny_seqItems hol hdl ?_)
  simp only [Int.toNat_natCast, hx]
  refine wpAny_bind (wpAny_setField ho hd (by simp) (wpAny_pure ⟨x, rfl, hQ _ ?_ (Heap.SameBut.update ..)⟩))
  exact ⟨_, Heap.get?_update_self _ ho (Obj.isFreed_of_fields (Obj.data_mapFields hd _)), (Obj.cls_mapFields ..).trans hc, by
    rw [Obj.data_mapFields hd]; simp [rawInt]⟩
theorem ask_list_end {it l : Addr} {i : Nat} {items : Array Value} {Q : Option Value → Shared → Prop} (hh : A.handled = none) (hit : s.heap.IsListIter it l i) (hl : s.heap.IsList l items) (hx : items[i]? = none)
    (hE : ∀ e h', StopX e h' → Heap.ExtBut it s.heap h' → E e { s with heap := h' }) : wpAny (model prog w) A (callSpecial? (.ref it) "__next__") Q E s := by
  obtain ⟨o, ho, hc, hd⟩ := id hit
  obtain ⟨ol, hol, _, nl, hdl⟩ := hl
  refine wpAny_callSpecial?_slot (name := Str.ofString "__next__") hit.typeIs slot_listiter_next
    (wpAny_call_entry slot_listiter_next hit.typeIs entry_listiter_next ?_ (args_listiter_next _))
  show wpAny _ _ (field (.ref it) 0 >>= _) _ _ s
  refine wpAny_bind (wpAny_field ho hd (x := .ref l) rfl ?_)
  show wpAny _ _ (if (Value.ref l == Value.none) = true then _ else _) _ _ s
  rw [if_neg (show ¬ ((Value.ref l == Value.none) = true) from Bool.false_ne_true)]
  show wpAny _ _ (field (.ref it) 1 >>= _) _ _ s
  refine wpAny_bind (wpAny_field ho hd (x := .int i 0) rfl ?_)
  show wpAny _ _ (seqItems? (.ref l) >>= _) _ _ s
  refine wpAny_bind (wpAny_seqItems hol hdl ?_)
  simp only [Int.toNat_natCast, hx]
  refine wpAny_bind (wpAny_rule (wpAny_bind (wpAny_setField ho hd (by simp) ?_)))
  show wpAny _ _ (newExc (.type "StopIteration") [] >>= _) _ _ _
  refine wpAny_bind ?_
  simp only [newExc, newTuple]
  refine wpAny_bind (wpAny_newObj_type ?_ (by size_fits))
  refine wpAny_bind (m := firstArgMember _ _) (wpAny_of_eq (a := Value.none) (by first | rfl | (simp only [firstArgMember]; rfl)) ?_)
  refine wpAny_newObj_type ?_ (by size_fits)
  simp only [raiseNew]
  refine wpAny_bind (wpAny_handled ?_)
  first | rw [show A.in1.handled = none from hh] | rw [hh]
  refine wpAny_bind (wpAny_pure (wpAny_throw ?_))
  refine hE _ _ ⟨_, _, _, rfl, Heap.get?_push_size _ rfl, rfl, rfl, ?_⟩ (((Heap.SameBut.update ..).extBut.push _).push _)
  first
    | rfl
    | (rw [Array.getElem?_append_left (by decide)]; rfl)
    | kernel_rfl
end
theorem close_list : typeLookup (.type "list_iterator") "close" = pure none := by rw [typeLookup_type, builtinLookup_eq_fast]; kernel_rfl



def Stands (it l : Addr) (us : Array Value) (j : Nat) (h : Heap) : Prop := h.IsListIter it l j ∧ h.IsList l us

structure Turned (it : Addr) (s s' : Shared) : Prop where
  gens : s'.gens = s.gens
  os : s'.os = s.os
  keep : ∀ b o, b ≠ it → s.heap.get? b = some o → s'.heap.get? b = some o

def Rest (M : Model) (A : Around) (it l : Addr) (us : Array Value) : Nat → Nat → Shared → Stop
  | r, _, s₀, .ret x, s => r = 0 ∧ x = .ok (.ret .none) ∧ Turned it s₀ s
  | 0, _, _, .susp .., _ => False
  | r + 1, j, s₀, .susp v gd lv k c p fs, s => (End.susp v gd lv k c p fs).quiet = true ∧ us[j]? = some v ∧ Turned it s₀ s ∧ Stands it l us (j + 1) s.heap ∧
      ∀ s'', Stands it l us (j + 1) s''.heap → Piece M A (Rest M A it l us r (j + 1) s'') c (k (.send .none)) fs s''
theorem Stands.keep {it l : Addr} {us : Array Value} {j : Nat} {h h' : Heap} (x : Stands it l us j h) (k : ∀ b o, h.get? b = some o → h'.get? b = some o) : Stands it l us j h' := by
  obtain ⟨⟨o, e, q⟩, o2, e2, q2⟩ := x
  exact ⟨⟨o, k _ _ e, q⟩, o2, k _ _ e2, q2⟩
abbrev yfCode (it : Addr) : Code := .builtin "proto.yield_from" ⟨[.ref it, .bool false, .none], []⟩
section
variable {P : Program} {w : World} {A : Around} {fs : List Frame} {it l : Addr} {us : Array Value}
theorem den_from : (model P w).den (yfCode it) = Builtin.«proto.yield_from» ⟨[.ref it, .bool false, .none], []⟩ := by
  show (match entryFor table "proto.yield_from" with | some b => b ⟨[.ref it, .bool false, .none], []⟩ | none => unsupported ((withoutEnding? "proto.yield_from" "#data").getD "proto.yield_from")) = _
  rw [entry_yf]
theorem turns (hl : it ≠ l) (ho : (A.over (yfCode it) fs).handled = none) (hsp : splitAtGen fs = none) (hgd : fs.any Frame.guarded = false)
    (hend : ∀ (s₀ s : Shared) (j : Nat), Turned it s₀ s → Piece (model P w) A (Rest (model P w) A it l us 0 j s₀) (yfCode it) (.pure (.done (.ret .none))) fs s) :
    ∀ (r j : Nat) (s : Shared), j + r = us.size → Stands it l us j s.heap → Piece (model P w) A (Rest (model P w) A it l us r j s) (yfCode it) ((model P w).den (yfCode it)) fs s := by
  intro r
  induction r with
  | zero =>
    intro j s hj st
    have hx : us[j]? = none := by rw [Array.getElem?_eq_none_iff]; omega
    rw [den_from]
    unfold Builtin.«proto.yield_from»
    try dsimp only
    refine pc_bind (wpAny_pure ?_)
    try dsimp only
    refine pc_bind (wpAny_attempt (wpAny_holding ?_))
    rw [if_neg Bool.false_ne_true, if_pos (show (Value.none == Value.none) = true from rfl)]
    refine wpAny_bind (wpAny_rule (wpAny_bind ?_))
    refine ask_list_end ho st.1 st.2 hx fun e h' hS hk => ?_
    obtain ⟨a, o, vs, rfl, hoa, hcls, hdat, h5⟩ := hS
    try dsimp only
    refine pc_bind (wpAny_endsTurn (s := { s with heap := h' }) hoa hcls ?_)
    try dsimp only
    rw [if_pos rfl]
    first
      | refine pc_bind (wpAny_rule ?_)
      | (rw [if_neg Bool.false_ne_true]; refine pc_bind (wpAny_rule ?_))
      | (rw [if_neg Bool.false_ne_true]; refine pc_bind (wpAny_pure ?_); refine pc_bind (wpAny_rule ?_))
    refine pc_bind (wpAny_field (s := { s with heap := h' }) hoa hdat h5 ?_)
    exact hend s { s with heap := h' } j ⟨rfl, rfl, fun b o hb e => hk b o hb e⟩
  | succ r ih =>
    intro j s hj st
    have hlt : j < us.size := by omega
    have hx : us[j]? = some us[j] := Array.getElem?_eq_getElem hlt
    rw [den_from]
    unfold Builtin.«proto.yield_from»
    try dsimp only
    refine pc_bind (wpAny_pure ?_)
    try dsimp only
    refine pc_bind (wpAny_attempt (wpAny_holding ?_))
    rw [if_neg Bool.false_ne_true, if_pos (show (Value.none == Value.none) = true from rfl)]
    refine wpAny_bind (wpAny_rule (wpAny_bind ?_))
    refine ask_list st.1 st.2 hx fun h' hit' hs => ?_
    have st' : Stands it l us (j + 1) h' := ⟨hit', let ⟨o, e, q⟩ := st.2; ⟨o, (hs.2 l (Ne.symm hl)).trans e, q⟩⟩
    obtain ⟨oi, hoi, hoc, _⟩ := id hit'
    refine wpAny_pure ?_
    try dsimp only
    refine pc_bind (wpAny_typeOf (s := { s with heap := h' }) (T := "list_iterator") ⟨oi, hoi, hoc⟩ ?_)
    try dsimp only
    first
      | (refine pc_bind (wpAny_of_eq close_list ?_); refine pc_bind (wpAny_pure ?_))
      | refine pc_bind (wpAny_bind (wpAny_of_eq close_list (wpAny_pure ?_)))
      | refine pc_bind (wpAny_of_eq close_list ?_)
    try dsimp only
    refine pc_bind (wpAny_sleptOver (s := { s with heap := h' }) hoi hoc (by decide) ?_)
    refine pc_yield hsp fun p => ⟨by simp [End.quiet, hgd], hx, ⟨rfl, rfl, fun b o hb e => (hs.2 b hb).trans e⟩, st', fun s'' st'' => ?_⟩
    obtain ⟨oj, hoj, hjc, _⟩ := id st''.1
    show Piece _ _ _ _ (Builtin.Generator.sleptOver (.ref it) false >>= fun _ => _) fs s''
    refine pc_bind (wpAny_sleptOver hoj hjc (by decide) ?_)
    try dsimp only
    refine pc_bind (wpAny_pure ?_)
    exact pc_again (plainId_quiet plain_yf _) (ih (j + 1) s'' (by omega) st'')
end
end My
set_option Elab.async false
set_option maxRecDepth 100000
set_option maxHeartbeats 4000000
set_option linter.unusedVariables false
namespace My
open PySem PySem.Spec PyProof.Rows L2 GenW
open Sem (wp)

section
variable {X : Cx} {pins : List (Addr × Obj)} {σ : L2.St} {H H' : Hp} {s s' : Shared}
theorem Inv.gensTo (I : Inv X pins σ H s) {G : Array GenState} (h : AllBare G) : Inv X pins σ H { s with gens := G } :=
  ⟨I.ok, I.os, h, I.base, I.loc, I.cell, I.free, I.freeC, I.pin, I.hok, I.len⟩

theorem Inv.spun {it : Addr} (I : Inv X pins σ H s) (f : FpOk X pins H it) (os : s'.os = s.os) (hb : AllBare s'.gens) (k : ∀ b o, b ≠ it → s.heap.get? b = some o → s'.heap.get? b = some o) : Inv X pins σ H s' := by
  obtain ⟨hh, g, d, t, o⟩ := s'
  have e : o = s.os := os
  subst e
  obtain ⟨f0, f1, f2, f3, f4, f5⟩ := f
  have nc : ∀ b, b ∉ [it] → b ≠ it := fun b hb e => hb (by rw [e]; exact List.mem_singleton.mpr rfl)
  refine I.step (g' := g) (t' := t) (d' := d) (ch := [it]) (fun b hb => ?_) (fun b ob _ _ hc q _ => k b ob (nc b hc) q) (fun b ob _ _ hc q _ => ⟨ob.slots, k b ob (nc b hc) q⟩) (fun _ _ _ _ n => n) (fun b ob hc q => ⟨ob, k b ob (nc b hc) q⟩)
    (fun _ _ q => q) (fun _ _ _ q => q) (fun b ps q => ⟨#[], by rw [q]; simp⟩) (fun m hm => ?_) (fun b u q => ?_) hb
  · rw [List.mem_singleton.mp hb]
    exact ⟨f3, f1, f4, f5⟩
  · obtain ⟨ob, es, ep, ho, r⟩ := hm
    exact ⟨ob, es, ep, k _ ob (Ne.symm f1) ho, r⟩
  · refine (I.hok b u q).stay (fun c v hc y => k c v ?_ y) (fun _ y => y) fun _ _ y => y
    have nt : ∀ b u, H b = some u → b ≠ it := fun b u q hb => by rw [hb, f0] at q; cases q
    rcases hc with y | y
    · rw [y]; exact nt b u q
    · exact nt c _ y
end

def gone (H : Hp) (a : Addr) : Hp := fun b => if b = a then none else H b
theorem gone_ne {H : Hp} {a b : Addr} (h : b ≠ a) : gone H a b = H b := if_neg h
theorem gone_same {H : Hp} {a : Addr} : gone H a a = none := if_pos rfl

theorem un_del {fs ex : List Addr} {H H1 : Hp} {h h1 : Heap} {l : Addr} (u : Un fs ex H H1 h h1) (hl : H l = none) : Un fs ex H (gone H1 l) h h1 := by
  have ne : ∀ {b : Addr} {o : HO}, H b = some o → b ≠ l := fun {b o} q z => by rw [z, hl] at q; cases q
  refine ⟨u.keep, u.slot, fun b o e n hx => ?_, u.there, fun b xs q => ?_, fun b o v q => ?_, fun b ps q => ?_⟩
  · by_cases hb : b = l
    · rw [hb]; exact gone_same
    · rw [gone_ne hb]; exact u.free b o e n hx
  · rw [gone_ne (ne q)]; exact u.tups b xs q
  · rw [gone_ne (ne q)]; exact u.frzs b o v q
  · rw [gone_ne (ne q)]; exact u.tbls b ps q
theorem hok_del {P : Program} {w : World} {H : Hp} {h : Heap} {l : Addr} {xs : List V} (k : HOk P w H h) (hl : H l = some (.lst xs)) : HOk P w (gone H l) h := by
  intro b o q
  have hb : b ≠ l := fun z => by rw [z, gone_same] at q; cases q
  rw [gone_ne hb] at q
  refine (k b o q).stay (fun c v _ y => y) (fun c hc => ?_) fun c ys hc => ?_
  · rw [gone_ne (fun z => by rw [z, hl] at hc; cases hc)]; exact hc
  · rw [gone_ne (fun z => by rw [z, hl] at hc; cases hc)]; exact hc


abbrev SpY := List V → Hp → (List V → Hp → Prop) → Prop

def Starts (M : Model) (A : Around) (it l : Addr) (us : Array Value) : Stop := fun e s => match e with
  | .ret x => us.size = 0 ∧ x = .ok (.ret .none)
  | .susp v gd lv k c p fs => us[0]? = some v ∧ Stands it l us 1 s.heap ∧ ∀ s'', Stands it l us 1 s''.heap → Piece M A (Rest M A it l us (us.size - 1) 1 s'') c (k (.send .none)) fs s''
theorem starts_of {M : Model} {A : Around} {it l : Addr} {us : Array Value} {s₀ s : Shared} {e : End} (h : Rest M A it l us us.size 0 s₀ e s) : Starts M A it l us e s ∧ Turned it s₀ s ∧ e.quiet = true := by
  cases hn : us.size with
  | zero =>
    rw [hn] at h
    cases e with
    | ret x => exact ⟨⟨hn, h.2.1⟩, h.2.2, rfl⟩
    | susp v gd lv k c p fs => exact h.elim
  | succ r =>
    rw [hn] at h
    cases e with
    | ret x => obtain ⟨z, _⟩ := h; exact absurd z (Nat.succ_ne_zero r)
    | susp v gd lv k c p fs =>
      obtain ⟨h1, h2, h3, h4, h5⟩ := h
      refine ⟨⟨h2, h4, fun s'' z => ?_⟩, h3, h1⟩
      rw [hn]
      exact h5 s'' z

def First (P : Program) (w : World) (A : Around) (outer : List Env) (H : Hp) (s : Shared) (a : Addr) (g : Nat) (ps : List (Addr × Obj)) (Q : List V → Hp → Prop) : Stop := fun e s1 =>
  ∃ xs H' us it l, (∀ p ∈ ps, s1.heap.get? p.1 = some p.2 ∧ H' p.1 = none ∧ p.1 ≠ l ∧ p.1 ≠ it) ∧ s1.os = s.os ∧ AllBare s1.gens ∧ Un (frs outer) [] H H' s.heap s1.heap ∧ HOk P w H' s1.heap ∧ s1.heap.IsGen a g ∧ H' it = none ∧ H' l = none ∧ H' a = none ∧ s.heap.objs.size ≤ it ∧ s.heap.get? l = none ∧ it ≠ l ∧ it ≠ a ∧
    Vals xs us.toList ∧ us.size ≤ sizeLine ∧ Q xs H' ∧ Starts (model P w) A it l us e s1 ∧ e.quiet = true

def Made (P : Program) (w : World) (k : Nat) (outer : List Env) (H : Hp) (s : Shared) (Q : List V → Hp → Prop) (u : Value) (s' : Shared) : Prop :=
  ∃ (a : Addr) (g : Nat) (c : Code), u = .ref a ∧ s.heap.objs.size ≤ a ∧ a < s'.heap.objs.size ∧ s'.heap.IsGen a g ∧ s'.gens[g]? = some (.fresh c) ∧ s'.os = s.os ∧ AllBare s'.gens ∧ s'.heap.NoLimit ∧ (∀ b o, s.heap.get? b = some o → s'.heap.get? b = some o) ∧
    ∀ (A : Around) (s2 : Shared) (ps : List (Addr × Obj)), Room k A → A.frames = some outer → (∀ b o, s'.heap.get? b = some o → s2.heap.get? b = some o) → s2.os = s.os → AllBare s2.gens →
      (∀ p ∈ ps, s2.heap.get? p.1 = some p.2 ∧ s'.heap.objs.size ≤ p.1 ∧ ∀ v, p.2.data ≠ .cell v) → Piece (model P w) A (First P w A outer H s a g ps Q) c ((model P w).den c) [] s2
structure GenL (P : Program) (w : World) (K : PySem.W.Frag) (mg : Str → Option Value) (base : Heap) (k : Nat) (f : Addr) (fd : FuncData) (ps : List Str) (sp : SpY) : Prop where
  len : ∀ vs H Q, sp vs H Q → vs.length = ps.length
  run : ∀ (A : Around) (outer : List Env) (s : Shared) (H : Hp) (args : Args) (us : List Value) (vs : List V) (Q : List V → Hp → Prop), Room k A → Env0 P w K mg base A outer s H → BindsTo s fd args (ps.zip us) → Vals vs us → sp vs H Q →
    codeAny (model P w) A (.call (.ref f) args) (fun r s' => match r with | .ok (.ret u) => Made P w k outer H s Q u s' | _ => False) s
section
variable {M : Model} {A : Around} {Φ : Stop} {s : Shared}
theorem pc_func {prog : Program} {w : World} {body : List Stmt} {env : Env} {fs : List Frame}
    (h : Piece (model prog w) A Φ (.func body env) ((execs body env).wrap (fun f => .pure (.done (.ret (match f with | .ret v => v | _ => .none))))
      (fun e => (leaving env e).wrap (fun _ => .raise e) .raise id id) id id) fs s) : Piece (model prog w) A Φ (.func body env) ((model prog w).den (.func body env)) fs s := by
  show Piece _ A Φ _ (.point [] fun _ => ((execs body env).onRaise (leaving env)) >>= _) fs s
  refine pc_wrap (m := point) (K := fun _ => ((execs body env).onRaise (leaving env)) >>= _) (J := .raise) (gd := id) (lv := fun _ => []) (wpAny_point ?_)
  rw [Sem.onRaise_eq_wrap, Sem.bind_eq_wrap', Sem.wrap_wrap]
  rw [Sem.wrap_congr (execs body env) _ _ (K' := fun f => .pure (.done (.ret (match f with | .ret v => v | _ => .none))))
    (H' := fun e => (leaving env e).wrap (fun _ => .raise e) .raise id id) (fun f => by cases f <;> rfl)
    (fun e => by rw [Sem.bind_eq_wrap, Sem.wrap_wrap]; rfl)]
  exact h
end

theorem pc_from {X : Cx} {A : Around} {c : Code} {fs : List Frame} {K : Flow → Sem PySem.Fin} {J : Value → Sem PySem.Fin} {gd : Bool → Bool} {lv : List Value → List Value} {e : Expr} {yp pos : Pos} {te : TE} {pins : List (Addr × Obj)} {σ : L2.St} {H : Hp} {s : Shared} {R : Addr → List V → Hp → Prop}
    (he : PE X.nox e te) (hi : interactive X.env = false) (hov : A.over c fs = X.A) (hsp : splitAtGen fs = none) (hgu : fs.any Frame.guarded = false) (hgd : gd false = false) (hh : X.A.handled = none)
    (hK : ∀ (Ψ : Stop) (s : Shared), Ψ (.ret (.ok (.ret .none))) s → Piece (model X.prog X.w) A Ψ c (K .next) fs s) (I : Inv X pins σ H s) (ht : te σ H fun v H1 => ∃ l xs, v = .ref l ∧ H1 l = some (.lst xs) ∧ R l xs H1) :
    Piece (model X.prog X.w) A (fun e' s' => ∃ l xs us it H1 sA, Inv X pins σ H1 sA ∧ FpOk X pins H1 it ∧ H1 l = some (.lst xs) ∧ R l xs H1 ∧ Vals xs us.toList ∧ us.size ≤ sizeLine ∧ it ≠ l ∧ Rest (model X.prog X.w) A it l us us.size 0 sA e' s')
      c ((exec (.Expr (.YieldFrom e yp) pos) X.env).wrap K J gd lv) fs s := by
  rw [exec_Expr X.env _ pos hi rfl]
  show Piece _ _ _ c (.at pos fun _ => ((eval e X.env >>= fun v => (standAt yp >>= fun _ => yieldFrom X.env v)) >>= fun x => dropValue (.YieldFrom e yp) pos x).wrap K J gd lv) fs s
  refine pc_at ?_
  rw [Sem.bind_eq_wrap' (eval e X.env >>= fun v => (standAt yp >>= fun _ => yieldFrom X.env v)), Sem.wrap_wrap]
  refine pc_bindW ?_
  rw [hov]
  refine wpAny_mono (he.run pins s σ H _ (I.wish _) ht) (fun v s1 hv => ?_) fun _ _ z => z.elim
  obtain ⟨x, H1, I1, rx, l, xs, ex, hl, hR⟩ := hv
  subst ex
  obtain rfl : v = Value.ref l := rx
  have I1 := I1.unwish
  obtain ⟨its, rv, pl, hz⟩ := I1.list (.inl (.inl hl))
  refine pc_at ?_
  show Piece _ _ _ c ((yieldFrom X.env (.ref l)).wrap (fun b => (dropValue (.YieldFrom e yp) pos b).wrap K J gd lv) J gd lv) fs s1
  unfold yieldFrom
  refine pc_bindW (wpAny_typeOf (T := "list") pl.isList.typeIs ?_)
  rw [if_neg (by decide)]
  refine pc_bindW (wpAny_holding (wpAny_pyIter_list pl.isList ?_))
  have kp : ∀ b o, s1.heap.get? b = some o → (s1.heap.push { cls := .type "list_iterator", data := .fields #[.ref l, .int 0 0] }).get? b = some o := fun b o q => Heap.get?_push_of_some _ q
  have hn : H1 s1.heap.objs.size = none := I1.hok.fresh (Nat.le_refl _)
  have hlt : l < s1.heap.objs.size := pl.lt
  have hne : s1.heap.objs.size ≠ l := Nat.ne_of_gt hlt
  have I2 : Inv X pins σ H1 { s1 with heap := s1.heap.push { cls := .type "list_iterator", data := .fields #[.ref l, .int 0 0] } } := I1.kept (t' := s1.toks) kp
  have st : Stands s1.heap.objs.size l its.toArray 0 (s1.heap.push { cls := .type "list_iterator", data := .fields #[.ref l, .int 0 0] }) := ⟨⟨_, Heap.get?_push_size _ rfl, rfl, rfl⟩, pl.isList.push _⟩
  have hlen : its.toArray.size ≤ sizeLine := by
    have e1 := rv.length
    have e2 : its.toArray.size = its.length := by simp
    omega
  refine pc_call fun p => ?_
  refine pc_mono (turns (P := X.prog) (w := X.w) (A := A) (it := s1.heap.objs.size) (l := l) (us := its.toArray) hne ?_ ?_ ?_ ?_ its.toArray.size 0 { s1 with heap := s1.heap.push { cls := .type "list_iterator", data := .fields #[.ref l, .int 0 0] } } (Nat.zero_add _) st) fun e' s' z => ?_
  · show (A.over c fs).handled = none
    rw [hov]; exact hh
  · show (splitAtGen fs).map _ = none
    rw [hsp]; rfl
  · show (gd false || fs.any Frame.guarded) = false
    rw [hgd, hgu]; rfl
  · intro s₀ s2 j tu
    exact pc_leaf (.ok (.ret .none)) (hK _ s2 ⟨rfl, rfl, tu⟩)
  · exact ⟨l, xs, its.toArray, s1.heap.objs.size, H1, _, I2, I1.fpOk (Nat.le_refl _) hn, hl, hR, by simpa using rv, hlen, hne, z⟩

theorem genL_of {P : Program} {w : World} {K : PySem.W.Frag} {mg : Str → Option Value} {base : Heap} {k : Nat} {f : Addr} {fd : FuncData} {x qual : Str} {st : Stmt} {e : Expr} {yp pos : Pos} {N ps : List Str} {sp : SpY}
    (F : Fun K x qual st f fd) (hbd : defBody st = [.Expr (.YieldFrom e yp) pos]) (S : GScope N ps (defScope st)) (len : ∀ vs H Q, sp vs H Q → vs.length = ps.length)
    (hi : ∀ n cdv, interactive (envOfC qual (defScope st) n f cdv) = false)
    (he : ∀ (cdv : Value) (A : Around) (outer : List Env) (s : Shared) (H : Hp) (vs : List V) (Q : List V → Hp → Prop) (pn : List (Addr × Obj)), Room k (A.deeper (envOfC qual (defScope st) s.heap.objs.size f cdv)) → sp vs H Q →
      ∃ te, PE (gcxOf P w K mg base N qual (defScope st) f cdv A outer s H E0 pn).nox e te ∧ te (start N vs) H fun v H1 => ∃ l xs, v = .ref l ∧ H1 l = some (.lst xs) ∧ (H l = none ∧ Q xs (gone H1 l))) :
    GenL P w K mg base (k + 1) f fd ps sp := by
  obtain ⟨oc, od, kV, doc, pm, an, cdv, ct, osl, rfl, lk, hcd⟩ := F.ex
  refine ⟨len, fun A outer s H args us vs Q hr e0 hb r hsp => ?_⟩
  have hl := len _ _ _ hsp
  have KX : K.In s.heap := e0.mod.kin.keeps fun b o e => (e0.bs b o e).1
  have lim : s.heap.NoLimit := e0.mod.nolimit.keeps fun b o e => (e0.bs b o e).1
  have hkind : ∀ y ∈ ps.zip us, (defScope st).names.lookup y.1 = some .local ∨ ((defScope st).names.lookup y.1 = some .cell ∧ ((cellsFrom (s.heap.objs.size + 1) (defScope st).names []).lookup y.1).isSome = true) := by
    rintro ⟨n, v⟩ hy
    rcases S.par n (List.of_mem_zip hy).1 with q | q
    · exact .inl q
    · exact .inr ⟨q, PySem.W.cellsFrom_some _ _ _ (.inl q)⟩
  refine codeAny_call_generator hr.depth (KX _ _ lk) rfl S.co S.gen rfl (PySem.W.codeRec_of KX hcd) (hb _ _ _ _ ?_)
  refine wpAny_newFunctionEnv_cells S.kind hkind fun env he' s1 x => ?_
  subst he'
  have lim1 : s1.heap.NoLimit := lim.keeps x.toInCall.keep
  refine ⟨lim1, ?_⟩
  obtain ⟨h1, tk, es1, hk1⟩ := x.done
  have os1 : s1.os = s.os := by rw [es1]
  have gen1 : s1.gens = s.gens := by rw [es1]
  have lt1 : s.heap.objs.size < s1.heap.objs.size := x.toInCall.ns.lt
  have sz1 := Nat.le_of_lt lt1
  have kp1 : ∀ b o, s.heap.get? b = some o → s1.heap.get? b = some o := x.toInCall.keep
  generalize hgo : ({ cls := .type "generator", data := .fields #[.int s1.gens.size 0, _, _] } : Obj) = go
  have hgc : go.cls = .type "generator" := by rw [← hgo]
  have hgd : ∃ nm qn, go.data = .fields #[.int s1.gens.size 0, nm, qn] := ⟨_, _, by rw [← hgo]⟩
  have hgs : go.slots = #[] := by rw [← hgo]
  have hgp : ∀ h : Heap, (h.push go).get? h.objs.size = some go := fun h => Heap.get?_push_size _ (by rw [← hgo]; rfl)
  obtain ⟨nm, qn, hgd⟩ := hgd
  have isG : ∀ h : Heap, h.get? s1.heap.objs.size = some go → h.IsGen s1.heap.objs.size s1.gens.size := fun h e => ⟨go, nm, qn, e, hgc, hgd, hgs⟩
  have ncell : ∀ v, go.data ≠ .cell v := fun v q => by rw [hgd] at q; cases q
  refine ⟨s1.heap.objs.size, s1.gens.size, _, rfl, sz1, ?_, isG _ (hgp _), Array.getElem?_push_size .., os1, ?_, lim1.keeps fun b o e => Heap.get?_push_of_some _ e, fun b o e => Heap.get?_push_of_some _ (kp1 b o e), ?_⟩
  · show _ < (s1.heap.push _).objs.size
    rw [Heap.size_push]; exact Nat.lt_succ_self _
  · exact AllBare.push (by rw [gen1]; exact e0.bare) rfl
  intro Aw s2 ps2 hrw hfr hk2 hos hba hps
  have e0w : Env0 P w K mg base Aw outer s H := ⟨hfr, e0.mod, e0.bs, e0.bsz, e0.funs, e0.frf, e0.hok, e0.bare⟩
  obtain ⟨te, hte, hq⟩ := he cdv Aw outer s H vs Q ((s1.heap.objs.size, go) :: ps2) (hrw.deeper _) hsp
  have I1 : Inv (gcxOf P w K mg base N qual (defScope st) f cdv Aw outer s H E0 []) [] (start N vs) H s1 := inv_startG S hrw.hd e0w hl r x
  have kp2 : ∀ b o, s1.heap.get? b = some o → s2.heap.get? b = some o := fun b o e => hk2 b o (Heap.get?_push_of_some _ e)
  have I2 : Inv (gcxOf P w K mg base N qual (defScope st) f cdv Aw outer s H E0 []) [] (start N vs) H s2 :=
    I1.call' (ch := []) (hos.trans os1.symm) (Un.kept kp2) (I1.hok.kept kp2) hba fun b z => by simp at z
  have hea : s2.heap.get? s1.heap.objs.size = some go := hk2 _ go (hgp _)
  have I3 : Inv (gcxOf P w K mg base N qual (defScope st) f cdv Aw outer s H E0 ((s1.heap.objs.size, go) :: ps2)) [] (start N vs) H s2 := by
    refine Inv.pinnedG I2 fun p hp => ?_
    rw [List.append_nil] at hp
    rcases List.mem_cons.mp hp with hp | hp
    case inr =>
      obtain ⟨y1, y2, y3⟩ := hps p hp
      have y2 : (s1.heap.push go).objs.size ≤ p.1 := y2
      rw [Heap.size_push] at y2
      have y4 : s1.heap.objs.size ≤ p.1 := Nat.le_of_succ_le y2
      exact ⟨y1, I1.hok.fresh y4, Nat.ne_of_gt (Nat.lt_of_lt_of_le lt1 y4), I1.nofs y4, y3⟩
    rw [hp]
    exact ⟨hea, I1.hok.fresh (Nat.le_refl _), Nat.ne_of_gt lt1, I1.nofs (Nat.le_refl _), ncell⟩
  refine pc_func ?_
  show Piece _ _ _ _ ((execs (defBody st) _).wrap _ _ _ _) _ _
  rw [hbd, execs_cons_wrap]
  refine pc_mono (pc_from (X := gcxOf P w K mg base N qual (defScope st) f cdv Aw outer s H E0 ((s1.heap.objs.size, go) :: ps2)) (R := fun l xs H1 => H l = none ∧ Q xs (gone H1 l)) hte (hi _ _) ?_ rfl rfl rfl (hrw.deeper (envOfC qual (defScope st) s.heap.objs.size f cdv)).hd (fun Ψ s' z => pc_end (.ok (.ret .none)) z) I3 hq) fun e' s' z => ?_
  · exact over_func
  obtain ⟨l, xs, us', it, H1, sA, J, fo, hl1, ⟨hl0, hQ⟩, rv, hz, hne, hrest⟩ := z
  obtain ⟨hst, tu, hqt⟩ := starts_of hrest
  have J2 := Inv.spun J fo tu.os (by rw [tu.gens]; exact J.bare) tu.keep
  obtain ⟨p1, p2, _⟩ := J2.pin (s1.heap.objs.size, go) (List.mem_append_left _ List.mem_cons_self)
  have hal : s1.heap.objs.size ≠ l := fun q => by
    rw [← q] at hl1
    have p2 : H1 s1.heap.objs.size = none := p2
    rw [p2] at hl1; cases hl1
  have hps2 : ∀ p ∈ ps2, s'.heap.get? p.1 = some p.2 ∧ gone H1 l p.1 = none ∧ p.1 ≠ l ∧ p.1 ≠ it := fun p hp => by
    obtain ⟨z1, z2, _⟩ := J2.pin p (List.mem_append_left _ (List.mem_cons_of_mem _ hp))
    refine ⟨z1, ?_, fun q => ?_, fo.2.2.2.2.2 p (List.mem_append_left _ (List.mem_cons_of_mem _ hp))⟩
    case refine_2 => rw [q, hl1] at z2; cases z2
    by_cases q : p.1 = l
    · rw [q]; exact gone_same
    · rw [gone_ne q]; exact z2
  refine ⟨xs, gone H1 l, us', it, l, hps2, J2.os, J2.bare, un_del J2.base hl0, hok_del J2.hok hl1, isG _ p1, by rw [gone_ne hne]; exact fo.1, gone_same, by rw [gone_ne hal]; exact p2, ?_, ?_, hne, ?_, rv, hz, hQ, hst, hqt⟩
  · rcases fo.2.2.2.1 with q | q
    · exact absurd (show it ∈ ([] : List Addr) from q) (by simp)
    · exact q
  · cases q : s.heap.get? l with
    | none => rfl
    | some o =>
      have := J2.base.free l o q hl0 (by show l ∉ ([] : List Addr); simp)
      rw [hl1] at this; cases this
  · exact fun q => fo.2.2.2.2.2 (s1.heap.objs.size, go) (List.mem_append_left _ List.mem_cons_self) q.symm
end My
set_option Elab.async false
set_option maxRecDepth 100000
set_option maxHeartbeats 4000000
set_option linter.unusedVariables false
namespace My
open PySem PySem.Spec PyProof.Rows L2 GenW
open Sem (wp)

theorem wpAny_unhid {α : Type} {M : Model} {A : Around} {D : Sleepers} {t : Sem α} {Q : α → Shared → Prop} {E : Value → Shared → Prop} {s : Shared} (o : Hid D s.gens) (h : wpAny M A t Q E s) :
    wpAny M A t (fun a s' => ∃ s1, s' = unhid D s1 ∧ Hid D s1.gens ∧ Q a s1) (fun e s' => ∃ s1, s' = unhid D s1 ∧ Hid D s1.gens ∧ E e s1) (unhid D s) := by
  intro Γ p hΓ
  exact wp_unhid t o (h Γ p hΓ)
theorem unhid_at {D : Sleepers} {s1 : Shared} {g : Nat} {S : GenState} (o : Hid D s1.gens) (d : D g = some S) : (unhid D s1).gens[g]? = some S := by
  obtain ⟨_, _, _, _, _, _, _, e2⟩ := o.hid g _ d
  show (wakeAll D s1.gens)[g]? = _
  rw [wakeAll_get, e2, d]; rfl


abbrev TYI := L2.St → Hp → (List V → Hp → Prop) → Prop
structure PY (X : Cx) (k : Nat) (e : Expr) (t : TYI) : Prop where
  run : ∀ (pins : List (Addr × Obj)) (s : Shared) (σ : L2.St) (H : Hp) (R : List V → Hp → Prop), Inv X pins σ H s → t σ H R →
    wpAny (model X.prog X.w) X.A (eval e X.env) (fun u s' => ∃ H1 sc, Inv X pins σ H1 sc ∧ Made X.prog X.w k X.stack H1 sc R u s') X.xe s

def Mg (P : Program) (w : World) (K : PySem.W.Frag) (mg : Str → Option Value) (base : Heap) (C : Addr) (m : Str) (k : Nat) (ps : List Str) (sp : SpY) : Prop :=
  ∃ f fd, PySem.W.findIn K (.ref C) m = some (some (.ref f)) ∧ PySem.W.isFn K (.ref f) = true ∧ PySem.W.keepIn K (.ref f) = true ∧
    GenL P w K mg base k f fd ps sp ∧ Binds K fd ps []
def tMethY (C : Addr) (m : Str) (sp : SpY) (ta : TE) : TYI := fun σ H R => ta σ H fun x H1 => ∃ a dx fs, x = .ref a ∧ H1 a = some (.ins C dx fs) ∧ fs.lookup m = none ∧ sp [.ref a] H1 R
section
variable {X : Cx} {k : Nat} {C : Addr} {ps : List Str} {sp : SpY} {m : Str} {pos apos : Pos} {o : Expr} {ta : TE}
theorem py_meth0 {pl : Sem Bool} (D : Mg X.prog X.w X.K X.mg X.base C m k ps sp) (hr : Room k X.A) (c : Cls X.K C) (he : PE X o ta)
    (ht : eval (.Call (.Attribute o m apos) [] [] pos) X.env = (do
      let ov ← eval o X.env
      standAt apos.atName
      let (f, first) ← holding [ov] (getMethod ov m pl)
      callWith pos f first (backTo pos (starEach [] X.env)) (backToKw pos (keywordEach [] X.env))) := by rfl) :
    PY X k (.Call (.Attribute o m apos) [] [] pos) (tMethY C m sp ta) := by
  obtain ⟨f, fd, h1, h2, h3, F, hb⟩ := D
  refine ⟨fun pins s σ H R I h => ?_⟩
  refine PySem.W.methodCall_KW (pl := pl) (thn (he.run pins s σ H _ I h) fun u s1 hh => ?_) ht
  obtain ⟨x, H1, I1, rx, a, dx, fs, ex, ea, l, q⟩ := hh
  subst ex
  obtain rfl : u = Value.ref a := rx
  refine getmeth_ok I1 ea c ⟨h1, h2, h3⟩ l ?_
  have hl : ([Value.ref a] : List Value).length = ps.length := F.len _ _ _ q
  refine PySem.W.callWith_K0 (first := [.ref a]) I1.kIn h3 ?_
  refine wpAny_call (codeAny_mono (F.run X.A X.stack s1 H1 ⟨[.ref a], []⟩ [.ref a] [.ref a] R hr I1.env0 (hb s1 [.ref a] I1.kIn (by simpa using hl)) (.cons rfl .nil) q) fun r s' hq => ?_)
  cases r with
  | error e => exact False.elim hq
  | ok fl =>
    cases fl with
    | ret u => exact ⟨H1, s1, I1, hq⟩
    | next => exact False.elim hq
    | brk => exact False.elim hq
    | cont => exact False.elim hq
end


structure Mid (X : Cx) (pins : List (Addr × Obj)) (a : Addr) (g : Nat) (it l : Addr) (us : Array Value) (xs : List V) (i : Nat) (σ : L2.St) (H : Hp) (s : Shared) : Prop where
  inv : Inv X pins σ H s
  gen : s.heap.IsGen a g
  st : Stands it l us i s.heap
  sl : ∃ k lv c p fs cl, s.gens[g]? = some (.suspended k lv c p fs cl) ∧ ∀ s'', Stands it l us i s''.heap → Piece (model X.prog X.w) X.A.in1 (Rest (model X.prog X.w) X.A.in1 it l us (us.size - i) i s'') c (k (.send .none)) fs s''
  vals : Vals xs us.toList
  fi : FpOk X pins H it
  fl : H l = none ∧ l ≠ X.env.locals ∧ l ∉ X.fs
  fa : H a = none ∧ a ≠ X.env.locals ∧ a ∉ X.fs
  ne : it ≠ l ∧ it ≠ a
  le : i ≤ us.size
theorem Mid.len {X : Cx} {pins : List (Addr × Obj)} {a : Addr} {g : Nat} {it l : Addr} {us : Array Value} {xs : List V} {i : Nat} {σ : L2.St} {H : Hp} {s : Shared} (m : Mid X pins a g it l us xs i σ H s) : xs.length = us.size := by
  have e := m.vals.length
  simpa using e
theorem stands_gens {it l : Addr} {us : Array Value} {j : Nat} {s : Shared} {G : Array GenState} (h : Stands it l us j s.heap) : Stands it l us j ({ s with gens := G } : Shared).heap := h
section
variable {X : Cx} {pins : List (Addr × Obj)} {a : Addr} {g : Nat} {it l : Addr} {us : Array Value} {xs : List V} {i : Nat} {σ : L2.St} {H : Hp} {s : Shared} {E : Value → Shared → Prop}

theorem Mid.next (m : Mid X pins a g it l us xs i σ H s) (hh : X.A.handled = none) (hd : X.A.depth < recursionLimit) : wpAny (model X.prog X.w) X.A (pyNext (.ref a)) (fun r s1 =>
    (r = none ∧ i = xs.length ∧ Inv X pins σ H s1) ∨ ∃ u x, r = some u ∧ xs[i]? = some x ∧ RelV x u ∧ Mid X pins a g it l us xs (i + 1) σ H s1) E s := by
  obtain ⟨k, lv, c, p, fs, cl, hgs, go⟩ := m.sl
  have hlen := m.len
  refine wpAny_gsz (n := g + 1) (Array.getElem?_eq_some_iff.mp hgs).1 ?_
  have spun : ∀ {s1 : Shared} {G : Array GenState}, Turned it (s.setGen g .running) s1 → AllBare G → ∀ h', (∀ b o, b ≠ it → s1.heap.get? b = some o → h'.get? b = some o) → Inv X pins σ H { s1 with gens := G, heap := h' } := fun {s1 G} tu hG h' hk =>
    Inv.spun m.inv m.fi (s' := { s1 with gens := G, heap := h' }) tu.os hG fun b o hb e => hk b o hb (tu.keep b o hb e)
  have bare1 : ∀ {s1 : Shared} {y : GenState}, Turned it (s.setGen g .running) s1 → y.bare = true → AllBare (s1.setGen g y).gens := fun {s1 y} tu hy =>
    allBare_setGen (by rw [tu.gens]; exact allBare_setGen m.inv.bare rfl) hy
  refine next_piece (Φ := Rest (model X.prog X.w) X.A.in1 it l us (us.size - i) i (s.setGen g .running)) hh m.inv.nolimit hd m.gen hgs (go (s.setGen g .running) m.st) (fun e s1 z => ?_) (fun r s1 z => ?_) (fun s1 z h' hk hsz => ?_) fun v gd lv' k' c' p' fs' s1 z hsz => ?_
  · cases hr : us.size - i with
    | zero =>
      rw [hr] at z
      cases e with
      | ret x => rfl
      | susp => exact z.elim
    | succ r =>
      rw [hr] at z
      cases e with
      | ret x => rfl
      | susp => exact z.1
  · cases hr : us.size - i with
    | zero => rw [hr] at z; exact z.2.1
    | succ r => rw [hr] at z; exact z.2.1
  · have hz : us.size - i = 0 := by
      cases hr : us.size - i with
      | zero => rfl
      | succ r => rw [hr] at z; exact z.1
    have tu : Turned it (s.setGen g .running) s1 := by
      rw [hz] at z; exact z.2.2
    have := m.le
    exact .inl ⟨rfl, by omega, spun (G := (s1.setGen g .finished).gens) tu (bare1 tu rfl) h' fun b o _ e => hk b o e⟩
  · cases hr : us.size - i with
    | zero => rw [hr] at z; exact z.elim
    | succ r =>
      rw [hr] at z
      obtain ⟨z1, z2, tu, st, nx⟩ := z
      have hlt : i < us.size := by omega
      have hix : i < xs.length := by omega
      have hx : xs[i]? = some xs[i] := List.getElem?_eq_getElem hix
      obtain ⟨u, hu, ru⟩ := m.vals.get hx
      have euv : u = v := by
        have q : us[i]? = some u := by rw [← Array.getElem?_toList]; exact hu
        rw [z2] at q
        exact (Option.some.inj q).symm
      subst euv
      have hl1 : g < s1.gens.size := by
        have e := setGen_size s1 g (End.susp u gd lv' k' c' p' fs').genState
        have hsz' : g + 1 ≤ (s1.setGen g (End.susp u gd lv' k' c' p' fs').genState).gens.size := hsz
        omega
      have hb := End.bare_of_quiet z1
      refine .inr ⟨u, xs[i], rfl, hx, ru, ⟨spun (s1 := s1) tu (bare1 tu hb) s1.heap fun _ _ _ e => e, ?_, st, ⟨k', lv', c', p', fs', _, setGen_at hl1, fun s'' q => ?_⟩, m.vals, m.fi, m.fl, m.fa, m.ne, hlt⟩⟩
      · obtain ⟨o, nm, qn, e1, r1⟩ := m.gen
        exact ⟨o, nm, qn, tu.keep a o (Ne.symm m.ne.2) e1, r1⟩
      · have e : us.size - (i + 1) = r := by omega
        rw [e]; exact nx s'' q
end
theorem Room.in1 {k : Nat} {A : Around} (r : Room (k + 1) A) : Room k A.in1 := ⟨r.hd, by have := r.dp; show A.depth + 3 * k + 5 < _; omega, by have := r.un; show A.units + 1 + 16 * k + 200 < _; omega⟩
theorem made_gen {P : Program} {w : World} {k : Nat} {outer : List Env} {H : Hp} {s s' : Shared} {R : List V → Hp → Prop} {u : Value} (h : Made P w k outer H s R u s') : ∃ a g, u = .ref a ∧ s'.heap.IsGen a g := by
  obtain ⟨a, g, c, e, _, _, q, _⟩ := h
  exact ⟨a, g, e, q⟩
section
variable {X : Cx} {pins : List (Addr × Obj)} {σ : L2.St} {H : Hp} {s : Shared} {E : Value → Shared → Prop} {k : Nat}

theorem made_next {R : List V → Hp → Prop} {u : Value} {s' : Shared} (I : Inv X pins σ H s) (M : Made X.prog X.w k X.stack H s R u s') (hr : Room (k + 1) X.A) : wpAny (model X.prog X.w) X.A (pyNext u) (fun r s1 =>
    ∃ xs H1, R xs H1 ∧ xs.length ≤ sizeLine ∧ ((r = none ∧ xs = [] ∧ Inv X pins σ H1 s1) ∨ ∃ v x a g it l us, u = .ref a ∧ r = some v ∧ xs[0]? = some x ∧ RelV x v ∧ Mid X pins a g it l us xs 1 σ H1 s1)) E s' := by
  obtain ⟨a, g, c, rfl, ha1, ha2, hg, hgs, hos, hb, hl, hkp, wake⟩ := M
  have hd : X.A.depth < recursionLimit := by have := hr.dp; omega
  refine wpAny_gsz (n := g + 1) (Array.getElem?_eq_some_iff.mp hgs).1 ?_
  have W := wake X.A.in1 (s'.setGen g .running) [] (Room.in1 hr) I.ok.frames (fun _ _ e => e) hos (allBare_setGen hb rfl) (fun p hp => by simp at hp)
  have inv : ∀ {s1 : Shared} {H' : Hp} {G : Array GenState}, s1.os = s.os → Un (frs X.stack) [] H H' s.heap s1.heap → HOk X.prog X.w H' s1.heap → AllBare G → ∀ h', (∀ b o, s1.heap.get? b = some o → h'.get? b = some o) → Inv X pins σ H' { s1 with gens := G, heap := h' } := fun {s1 H' G} q1 q2 q3 hG h' hk =>
    I.call' (ch := []) q1 (q2.trans (Un.kept hk)) (q3.kept hk) hG fun b z => by simp at z
  refine next_piece (Φ := First X.prog X.w X.A.in1 X.stack H s a g [] R) hr.hd hl hd hg hgs W (fun e s1 z => ?_) (fun r s1 z => ?_) (fun s1 z h' hk hsz => ?_) fun v gd lv' k' c' p' fs' s1 z hsz => ?_
  · obtain ⟨xs, H', us, it, l, _, _, _, _, _, _, _, _, _, _, _, _, _, _, _, _, _, q⟩ := z; exact q
  · obtain ⟨xs, H', us, it, l, _, _, _, _, _, _, _, _, _, _, _, _, _, _, _, _, q, _⟩ := z; exact q.2
  · obtain ⟨xs, H', us, it, l, _, q1, q2, q3, q4, q5, q6, q7, q8, q9, q10, q11, q12, rv, hz, hR, hst, _⟩ := z
    have hlen := rv.length
    have h0 : us.size = 0 := hst.1
    have hx : xs = [] := List.eq_nil_of_length_eq_zero (by rw [hlen]; simpa using h0)
    exact ⟨xs, H', hR, by rw [hx]; exact Nat.zero_le _, .inl ⟨rfl, hx, inv (G := (s1.setGen g .finished).gens) q1 q3 q4 (allBare_setGen q2 rfl) h' hk⟩⟩
  · obtain ⟨xs, H', us, it, l, _, q1, q2, q3, q4, q5, q6, q7, q8, q9, q10, q11, q12, rv, hz, hR, hst, hq⟩ := z
    obtain ⟨z2, st, nx⟩ := hst
    have hlen := rv.length
    have hlen : xs.length = us.size := by simpa using hlen
    have hpos : 0 < us.size := (Array.getElem?_eq_some_iff.mp z2).1
    have hx : xs[0]? = some xs[0] := List.getElem?_eq_getElem (by omega)
    obtain ⟨u, hu, ru⟩ := rv.get hx
    have euv : u = v := by
      have q : us[0]? = some u := by rw [← Array.getElem?_toList]; exact hu
      rw [z2] at q
      exact (Option.some.inj q).symm
    subst euv
    have hl1 : g < s1.gens.size := by
      have e := setGen_size s1 g (End.susp u gd lv' k' c' p' fs').genState
      have hsz' : g + 1 ≤ (s1.setGen g (End.susp u gd lv' k' c' p' fs').genState).gens.size := hsz
      omega
    have hbb := End.bare_of_quiet hq
    have hlocs : ∃ o, s.heap.get? X.env.locals = some o := by
      obtain ⟨m, ⟨o, _, _, e, _⟩, _⟩ := I.loc
      exact ⟨o, e⟩
    refine ⟨xs, H', hR, by omega, .inr ⟨u, xs[0], a, g, it, l, us, rfl, rfl, hx, ru, ⟨inv (s1 := s1) q1 q3 q4 (allBare_setGen q2 hbb) s1.heap fun _ _ e => e, q5, st, ⟨k', lv', c', p', fs', _, setGen_at hl1, fun s'' q => nx s'' q⟩, rv, I.fpOk q9 q6, ⟨q7, fun e => ?_, fun hm => ?_⟩, ?_, ⟨q11, q12⟩, hpos⟩⟩⟩
    · obtain ⟨o, eo⟩ := hlocs
      rw [← e, q10] at eo; cases eo
    · obtain ⟨_, o, ho, _⟩ := I.ok.funs.mem hm
      obtain ⟨o', ho'⟩ := I.base.there l o ho fun hx => I.ok.exfs l hx hm
      rw [q10] at ho'; cases ho'
    · exact ⟨q8, (I.fpOk ha1 q8).2.1, (I.fpOk ha1 q8).2.2.1⟩
end



def tForY (t : TYI) (g : TG) (tb : TS) : TS := fun D σ H => t σ H fun xs H1 => ∃ W : Nat → L2.St → Hp → Prop, W 0 σ H1 ∧
  (∀ i x σ H, xs[i]? = some x → W i σ H → g x σ H fun σ2 H2 => tb { D with nx := W (i + 1), ct := W (i + 1), bk := D.nx } σ2 H2) ∧ ∀ σ H, W xs.length σ H → D.nx σ H
section
variable {X : Cx} {k : Nat} {tg iter : Expr} {body : List Stmt} {t : TYI} {g : TG} {tb : TS} {pos : Pos}
def beside (a it l : Addr) (s : Shared) : List (Addr × Obj) := pinsAt [a, it, l] s.heap

theorem Mid.turn {pins : List (Addr × Obj)} {a : Addr} {gn : Nat} {it l : Addr} {us : Array Value} {xs : List V} {i : Nat} {σ : L2.St} {H : Hp} {s : Shared} {D : Ends} {x : V} {u : Value} {E : Value → Shared → Prop} (hno : ∀ e s, ¬ X.xe e s)
    (m : Mid X pins a gn it l us xs i σ H s) (hg : PG X tg g) (hb : PSs X body tb) (r : RelV x u) (h : g x σ H fun σ2 H2 => tb D σ2 H2) :
    wpAny (model X.prog X.w) X.A (assign tg X.env u) (fun _ s2 => wpAny (model X.prog X.w) X.A (execs body X.env) (fun f s3 => match f with
      | .next => ∃ σ' H', Mid X pins a gn it l us xs i σ' H' s3 ∧ D.nx σ' H'
      | .cont => ∃ σ' H', Mid X pins a gn it l us xs i σ' H' s3 ∧ D.ct σ' H'
      | .brk => ∃ σ' H', Inv X pins σ' H' s3 ∧ D.bk σ' H'
      | .ret v => ∃ y σ' H', Inv X pins σ' H' s3 ∧ RelV y v ∧ D.rt y H') E s2) E s := by
  obtain ⟨oi, ei, ci, di⟩ := m.st.1
  obtain ⟨ol, el, cl, nl, dl⟩ := m.st.2
  obtain ⟨oa, nm, qn, ea, ca, da, sa⟩ := m.gen
  obtain ⟨k0, lv0, c0, p0, fs0, cl0, hgs, go⟩ := m.sl
  have I0 : Inv X (pins ++ [(it, oi), (l, ol), (a, oa)]) σ H s := m.inv.pins_of fun p hp => by
    rcases List.mem_append.mp hp with hp | hp
    · exact m.inv.pin p (List.mem_append_right _ hp)
    · simp only [List.mem_cons, List.not_mem_nil, or_false] at hp
      rcases hp with hp | hp | hp
      · rw [hp]; exact ⟨ei, m.fi.1, m.fi.2.1, m.fi.2.2.1, fun v z => by have z : oi.data = .cell v := z; rw [di] at z; cases z⟩
      · rw [hp]; exact ⟨el, m.fl.1, m.fl.2.1, m.fl.2.2, fun v z => by have z : ol.data = .cell v := z; rw [dl] at z; cases z⟩
      · rw [hp]; exact ⟨ea, m.fa.1, m.fa.2.1, m.fa.2.2, fun v z => by have z : oa.data = .cell v := z; rw [da] at z; cases z⟩
  have hd : sleepsOf s.gens gn = some (.suspended k0 lv0 c0 p0 fs0 cl0) := by unfold sleepsOf; rw [hgs]
  have I1 : Inv X (pins ++ [(it, oi), (l, ol), (a, oa)]) σ H (hid s) := Inv.gensTo I0 (bare_hid m.inv.bare)
  have back : ∀ {s3 : Shared} {σ' : L2.St} {H' : Hp}, Inv X (pins ++ [(it, oi), (l, ol), (a, oa)]) σ' H' s3 → Inv X (pins ++ [(it, oi), (l, ol), (a, oa)]) σ' H' (unhid (sleepsOf s.gens) s3) := fun {s3 σ' H'} J => Inv.gensTo J (bare_unhid m.inv.bare J.bare)
  have again : ∀ {s3 : Shared} {σ' : L2.St} {H' : Hp}, Hid (sleepsOf s.gens) s3.gens → Inv X (pins ++ [(it, oi), (l, ol), (a, oa)]) σ' H' s3 → Mid X pins a gn it l us xs i σ' H' (unhid (sleepsOf s.gens) s3) := fun {s3 σ' H'} o J => by
    have J2 := back J
    have pi := J2.pin (it, oi) (List.mem_append_right _ (List.mem_append_right _ (by simp)))
    have pl := J2.pin (l, ol) (List.mem_append_right _ (List.mem_append_right _ (by simp)))
    have pa := J2.pin (a, oa) (List.mem_append_right _ (List.mem_append_right _ (by simp)))
    exact ⟨J2.unpinned, ⟨oa, nm, qn, pa.1, ca, da, sa⟩, ⟨⟨oi, pi.1, ci, di⟩, ol, pl.1, cl, nl, dl⟩, ⟨k0, lv0, c0, p0, fs0, cl0, unhid_at o hd, go⟩, m.vals, ⟨pi.2.1, m.fi.2⟩, ⟨pl.2.1, m.fl.2⟩, ⟨pa.2.1, m.fa.2⟩, m.ne, m.le⟩
  have run1 := wpAny_hid (s := s) (hg.run _ (hid s) σ H x u _ I1 r h)
  refine wpAny_mono run1 (fun _ s2 hh => ?_) fun e s2 hh => ?_
  · obtain ⟨s2h, e2, o2, σ2, H2, I2, q2⟩ := hh
    subst e2
    refine wpAny_mono (wpAny_unhid o2 (hb.run _ s2h σ2 H2 D I2 q2)) (fun f s3 hh => ?_) fun e s3 hh => ?_
    · obtain ⟨s3h, e3, o3, hs⟩ := hh
      subst e3
      cases f with
      | next => obtain ⟨σ', H', J, q⟩ := hs; exact ⟨σ', H', again o3 J, q⟩
      | cont => obtain ⟨σ', H', J, q⟩ := hs; exact ⟨σ', H', again o3 J, q⟩
      | brk => obtain ⟨σ', H', J, q⟩ := hs; exact ⟨σ', H', (back J).unpinned, q⟩
      | ret v => obtain ⟨y, σ', H', J, ry, q⟩ := hs; exact ⟨y, σ', H', (back J).unpinned, ry, q⟩
    · obtain ⟨s3h, _, _, z⟩ := hh
      exact (hno _ _ z).elim
  · obtain ⟨s2h, _, _, z⟩ := hh
    exact (hno _ _ z).elim

def Going (X : Cx) (pins : List (Addr × Obj)) (D : Ends) (g : TG) (tb : TS) (s' : Shared) (a : Addr) (n : Nat) (s2 : Shared) : Prop := (n = sizeLine + 2 ∧ s2 = s') ∨
  ∃ (xs : List V) (gn : Nat) (it l : Addr) (us : Array Value) (i : Nat) (σ' : L2.St) (H' : Hp) (W : Nat → L2.St → Hp → Prop), n = xs.length + 1 - i ∧ xs.length ≤ sizeLine ∧ Mid X pins a gn it l us xs i σ' H' s2 ∧ W i σ' H' ∧
    (∀ i x σ H, xs[i]? = some x → W i σ H → g x σ H fun σ2 H2 => tb { D with nx := W (i + 1), ct := W (i + 1), bk := D.nx } σ2 H2) ∧ ∀ σ H, W xs.length σ H → D.nx σ H
theorem ps_forY (hno : ∀ e s, ¬ X.xe e s) (hr : Room (k + 1) X.A) (hi : PY X k iter t) (hg : PG X tg g) (hb : PSs X body tb) (hs : ∀ x, foldedSetIterable iter X.env x = pure x := by intro _; rfl) : PS X (.For tg iter body [] pos) (tForY t g tb) := by
  refine ⟨fun pins s σ H D I h => ?_⟩
  refine wpAny_For (wpAny_mono (hi.run pins s σ H _ I h) (fun u s' hh => ?_) fun _ _ z => z) hs
  obtain ⟨H1, sc, I1, M⟩ := hh
  obtain ⟨a0, g0, eu, isg⟩ := made_gen M
  subst eu
  refine wpAny_pyIter_gen isg ?_
  have hd : X.A.depth < recursionLimit := by have := hr.dp; omega
  refine codeAny_forLoop_any (Going X pins D g tb s' a0) ?_ (sizeLine + 2) (.inl ⟨rfl, rfl⟩)
  have step : ∀ {n : Nat} {s3 : Shared} {xs : List V} {gn : Nat} {it l : Addr} {us : Array Value} {i : Nat} {σ' : L2.St} {H' : Hp} {W : Nat → L2.St → Hp → Prop} {v : Value} {x : V} {E1 : Value → Shared → Prop}, xs.length - i < n → xs.length ≤ sizeLine → xs[i]? = some x → RelV x v → Mid X pins a0 gn it l us xs (i + 1) σ' H' s3 → W i σ' H' →
      (∀ i x σ H, xs[i]? = some x → W i σ H → g x σ H fun σ2 H2 => tb { D with nx := W (i + 1), ct := W (i + 1), bk := D.nx } σ2 H2) → (∀ σ H, W xs.length σ H → D.nx σ H) →
      wpAny (model X.prog X.w) X.A (letOwnedTupleGo tg (.ref a0) v) (fun _ s₁' => wpAny (model X.prog X.w) X.A (assign tg X.env v) (fun _ s₂ => wpAny (model X.prog X.w) X.A (execs body X.env) (fun f s₃ => match f with
        | .next | .cont => ∃ m, m < n ∧ Going X pins D g tb s' a0 m s₃
        | .brk => SP X pins D .next s₃
        | .ret v => SP X pins D (.ret v) s₃) E1 s₂) E1 s₁') E1 s3 := by
    intro n s3 xs gn it l us i σ' H' W v x E1 hn hz hx rx m w hst hdn
    obtain ⟨oa, nm, qn, ea, ca, da, sa⟩ := m.gen
    refine go_of (n := "generator") ea ca da (by decide) ?_
    refine wpAny_mono (Mid.turn hno m hg hb rx (hst i x σ' H' hx w)) (fun _ s4 h4 => ?_) fun _ _ z => z
    refine wpAny_mono h4 (fun f s5 h5 => ?_) fun _ _ z => z
    have more : ∀ {σ7 : L2.St} {H7 : Hp}, Mid X pins a0 gn it l us xs (i + 1) σ7 H7 s5 → W (i + 1) σ7 H7 → ∃ m, m < n ∧ Going X pins D g tb s' a0 m s5 := fun {σ7 H7} m7 w7 =>
      ⟨xs.length + 1 - (i + 1), by omega, .inr ⟨xs, gn, it, l, us, i + 1, σ7, H7, W, rfl, hz, m7, w7, hst, hdn⟩⟩
    cases f with
    | next => obtain ⟨σ7, H7, m7, w7⟩ := h5; exact more m7 w7
    | cont => obtain ⟨σ7, H7, m7, w7⟩ := h5; exact more m7 w7
    | brk => obtain ⟨σ7, H7, J, q⟩ := h5; exact ⟨σ7, H7, J, q⟩
    | ret v => obtain ⟨y, σ7, H7, J, ry, q⟩ := h5; exact ⟨y, σ7, H7, J, ry, q⟩
  rintro n s3 (⟨rfl, rfl⟩ | ⟨xs, gn, it, l, us, i, σ3, H3, W, rfl, hz, m, w, hst, hdn⟩)
  · refine wpAny_mono (made_next (E := notedBy (model X.prog X.w) X.A X.env fun e s' => _) I1 M hr) (fun r s4 h4 => ?_) fun _ _ z => z
    obtain ⟨xs, H2, ⟨W, w0, hst, hdn⟩, hz, h4⟩ := h4
    rcases h4 with ⟨rfl, rfl, J⟩ | ⟨v, x, a, gn, it, l, us, ea, rfl, hx, rx, m⟩
    · exact wpAny_execs_nil ⟨σ, H2, J, hdn σ H2 w0⟩
    · cases ea
      exact step (by have := (List.getElem?_eq_some_iff.mp hx).1; omega) hz hx rx m w0 hst hdn
  · refine wpAny_mono (m.next (E := notedBy (model X.prog X.w) X.A X.env fun e s' => _) hr.hd hd) (fun r s4 h4 => ?_) fun _ _ z => z
    rcases h4 with ⟨rfl, ei, J⟩ | ⟨v, x, rfl, hx, rx, m'⟩
    · subst ei
      exact wpAny_execs_nil ⟨σ3, H3, J, hdn σ3 H3 w⟩
    · exact step (by have := (List.getElem?_eq_some_iff.mp hx).1; omega) hz hx rx m' w hst hdn
end
end My
set_option Elab.async false
set_option maxRecDepth 100000
set_option maxHeartbeats 4000000
set_option linter.unusedVariables false
namespace My
open PySem PySem.Spec PyProof.Rows L2 GenW
open Sem (wp)

section
variable {X : Cx} {pins : List (Addr × Obj)} {a : Addr} {gn : Nat} {it l : Addr} {us : Array Value} {xs : List V} {i : Nat} {σ : L2.St} {H : Hp} {s : Shared}

theorem Mid.aside (m : Mid X pins a gn it l us xs i σ H s) : ∃ pl, Inv X (pins ++ pl) σ H (hid s) ∧
    ∀ {s3 : Shared} {σ' : L2.St} {H' : Hp}, Hid (sleepsOf s.gens) s3.gens → Inv X (pins ++ pl) σ' H' s3 → Mid X pins a gn it l us xs i σ' H' (unhid (sleepsOf s.gens) s3) := by
  obtain ⟨oi, ei, ci, di⟩ := m.st.1
  obtain ⟨ol, el, cl, nl, dl⟩ := m.st.2
  obtain ⟨oa, nm, qn, ea, ca, da, sa⟩ := m.gen
  obtain ⟨k0, lv0, c0, p0, fs0, cl0, hgs, go⟩ := m.sl
  have I0 : Inv X (pins ++ [(it, oi), (l, ol), (a, oa)]) σ H s := m.inv.pins_of fun p hp => by
    rcases List.mem_append.mp hp with hp | hp
    · exact m.inv.pin p (List.mem_append_right _ hp)
    · simp only [List.mem_cons, List.not_mem_nil, or_false] at hp
      rcases hp with hp | hp | hp
      · rw [hp]; exact ⟨ei, m.fi.1, m.fi.2.1, m.fi.2.2.1, fun v z => by have z : oi.data = .cell v := z; rw [di] at z; cases z⟩
      · rw [hp]; exact ⟨el, m.fl.1, m.fl.2.1, m.fl.2.2, fun v z => by have z : ol.data = .cell v := z; rw [dl] at z; cases z⟩
      · rw [hp]; exact ⟨ea, m.fa.1, m.fa.2.1, m.fa.2.2, fun v z => by have z : oa.data = .cell v := z; rw [da] at z; cases z⟩
  have hd : sleepsOf s.gens gn = some (.suspended k0 lv0 c0 p0 fs0 cl0) := by unfold sleepsOf; rw [hgs]
  refine ⟨[(it, oi), (l, ol), (a, oa)], Inv.gensTo I0 (bare_hid m.inv.bare), fun {s3 σ' H'} o J => ?_⟩
  have J2 : Inv X (pins ++ [(it, oi), (l, ol), (a, oa)]) σ' H' (unhid (sleepsOf s.gens) s3) := Inv.gensTo J (bare_unhid m.inv.bare J.bare)
  have pi := J2.pin (it, oi) (List.mem_append_right _ (List.mem_append_right _ (by simp)))
  have pl := J2.pin (l, ol) (List.mem_append_right _ (List.mem_append_right _ (by simp)))
  have pa := J2.pin (a, oa) (List.mem_append_right _ (List.mem_append_right _ (by simp)))
  exact ⟨J2.unpinned, ⟨oa, nm, qn, pa.1, ca, da, sa⟩, ⟨⟨oi, pi.1, ci, di⟩, ol, pl.1, cl, nl, dl⟩, ⟨k0, lv0, c0, p0, fs0, cl0, unhid_at o hd, go⟩, m.vals, ⟨pi.2.1, m.fi.2⟩, ⟨pl.2.1, m.fl.2⟩, ⟨pa.2.1, m.fa.2⟩, m.ne, m.le⟩
theorem Mid.with (m : Mid X pins a gn it l us xs i σ H s) {σ' : L2.St} (h : Inv X pins σ' H s) : Mid X pins a gn it l us xs i σ' H s :=
  ⟨h, m.gen, m.st, m.sl, m.vals, m.fi, m.fl, m.fa, m.ne, m.le⟩
end
abbrev lobj : Obj := { cls := .type "list", data := .seq ([] : List Value).toArray }
abbrev dobj : Obj := { cls := .type "dict", data := .dict #[] }
section
variable {X : Cx} {pins : List (Addr × Obj)} {σ : L2.St} {H : Hp} {s s' : Shared} {k : Nat} {R : List V → Hp → Prop} {u : Value} {scope : Scope} {own : List (Str × Nat)}

theorem blk_first (hN : X.N.Nodup) (ok : BlkOk X.N X.env.scope scope own) (hpc : ∀ h, pushCells h scope.names = h) (I : Inv X pins σ H s) (M : Made X.prog X.w k X.stack H s R u s') (hr : Room (k + 1) X.A) :
    ∃ (a : Addr) (sG : Shared) (H3 : Hp) (fp : List Addr), u = .ref a ∧ Inv X pins σ H3 sG ∧ (∀ b ∈ fp, FpOk X pins H3 b) ∧ sG.heap.objs.size = (s'.heap.push lobj).objs.size ∧
      ∀ (ce : Env) (E : Value → Shared → Prop), ce = compEnvC scope (cellsFrom ((s'.heap.push lobj).objs.size + 1) scope.names (cloFrom X.env.cells scope.names [])) (s'.heap.push lobj).objs.size X.env →
        wpAny (model X.prog X.w) X.A (pyNext u) (fun r s1 => ∃ xs H1, R xs H1 ∧ H1 s'.heap.objs.size = none ∧ xs.length ≤ sizeLine ∧
        ((r = none ∧ xs = [] ∧ Inv (X.blk sG H3 scope ce fp) [] (wipe σ (own.map (·.2))) (upd H1 s'.heap.objs.size (.lst [])) s1) ∨
          ∃ v x g it l us, r = some v ∧ xs[0]? = some x ∧ RelV x v ∧ Mid (X.blk sG H3 scope ce fp) [] a g it l us xs 1 (wipe σ (own.map (·.2))) (upd H1 s'.heap.objs.size (.lst [])) s1)) E
        { s' with heap := (s'.heap.push lobj).push dobj } := by
  obtain ⟨a, g, c, rfl, ha1, ha2, hg, hgs, hos, hb, hl, hkp, wake⟩ := M
  generalize hD : s'.heap.objs.size = D at *
  have hsz : s.heap.objs.size ≤ D := Nat.le_trans ha1 (Nat.le_of_lt ha2)
  generalize hlst : (List.range (s'.heap.push lobj).objs.size).filter (fun b => decide (b ≠ D) && (s.heap.get? b).isNone) = hidden
  have mhid : ∀ b, b ∈ hidden → b ≠ D ∧ s.heap.get? b = none := fun b hm => by
    rw [← hlst] at hm
    have z := (List.mem_filter.mp hm).2
    simp only [Bool.and_eq_true, decide_eq_true_eq, Option.isNone_iff_eq_none] at z
    exact z
  generalize hG : PySem.W.hideAll (s'.heap.push lobj) hidden = G
  have gsz : G.objs.size = (s'.heap.push lobj).objs.size := by rw [← hG]; exact PySem.W.hideAll_size _ _
  have gD : G.get? D = some lobj := by
    rw [← hG]
    refine PySem.W.hideAll_get _ ?_ fun hm => (mhid D hm).1 rfl
    rw [← hD]; exact Heap.get?_push_size _ rfl
  have gk : ∀ b o, s.heap.get? b = some o → G.get? b = some o := fun b o e => by
    rw [← hG]
    exact PySem.W.hideAll_get _ (Heap.get?_push_of_some _ (hkp b o e)) fun hm => by rw [(mhid b hm).2] at e; cases e
  have gold : ∀ b o, b ≠ D → G.get? b = some o → s.heap.get? b = some o := fun b o hb e => by
    rw [← hG] at e
    have e1 := PySem.W.of_hideAll _ e
    cases q : s.heap.get? b with
    | none =>
      have hm : b ∈ hidden := by
        rw [← hlst]
        exact List.mem_filter.mpr ⟨List.mem_range.mpr (Heap.lt_size e1), by simp [hb, q]⟩
      rw [PySem.W.hideAll_none _ hm] at e; cases e
    | some o' =>
      have e2 := Heap.get?_push_of_some lobj (hkp b o' q)
      rw [e1] at e2
      exact e2.symm
  have hn0 : H D = none := I.hok.fresh hsz
  generalize hsG : ({ s with heap := G, gens := s'.gens, toks := s'.toks } : Shared) = sG
  have sGh : sG.heap = G := by rw [← hsG]
  have IG : Inv X pins σ (upd H D (.lst [])) sG := by
    have J := I.laid (a := D) (o := .lst []) (h' := G) (t' := s'.toks) gk hsz ⟨Nat.zero_le _, [], 0, .nil, gD⟩
    rw [← hsG]
    exact Inv.gensTo J hb
  generalize hfp : List.range' s.heap.objs.size (D - s.heap.objs.size) = fp
  have mfp : ∀ b, b ∈ fp ↔ s.heap.objs.size ≤ b ∧ b < D := fun b => by
    rw [← hfp, List.mem_range'_1]; omega
  have f3 : ∀ b ∈ fp, FpOk X pins (upd H D (.lst [])) b := fun b hm => by
    obtain ⟨h1, h2⟩ := (mfp b).mp hm
    exact I.fpOk h1 (by rw [upd_ne (Nat.ne_of_lt h2)]; exact I.hok.fresh h1)
  have Dlt : D < G.objs.size := Heap.lt_size gD
  refine ⟨a, sG, upd H D (.lst []), fp, rfl, IG, f3, by rw [sGh, gsz], fun ce E hce => ?_⟩
  have I4 := block_start (fp := fp) IG ok hN fun b hm => ⟨f3 b hm, by rw [sGh]; exact Nat.lt_trans ((mfp b).mp hm).2 Dlt⟩
  rw [hpc, sGh, gsz, ← hce] at I4
  have cL : ce.locals = (s'.heap.push lobj).objs.size := by rw [hce]; rfl
  have szp : (s'.heap.push lobj).objs.size = D + 1 := by rw [Heap.size_push, hD]
  rw [szp] at cL
  have szG : G.objs.size = D + 1 := gsz.trans szp
  have frin : ∀ b ∈ frs X.stack, ∃ o, s.heap.get? b = some o := fun b hb => by
    obtain ⟨_, o, ho, _⟩ := I.stack.mem hb
    exact ⟨o, ho⟩
  have hdepth : X.A.depth < recursionLimit := by have := hr.dp; omega
  have gC : (G.push dobj).get? (D + 1) = some dobj := by rw [← szG]; exact Heap.get?_push_size _ rfl
  have gpold : ∀ b o, b ≠ D → b ≠ D + 1 → (G.push dobj).get? b = some o → s.heap.get? b = some o := fun b o h1 h2 e => by
    refine gold b o h1 ?_
    rcases Heap.get?_push_cases e with ⟨q, _⟩ | q
    · exact absurd (q.trans szG) h2
    · exact q
  have at4D : ((s'.heap.push lobj).push dobj).get? D = some lobj := Heap.get?_push_of_some _ (by rw [← hD]; exact Heap.get?_push_size _ rfl)
  have at4C : ((s'.heap.push lobj).push dobj).get? (D + 1) = some dobj := by rw [← szp]; exact Heap.get?_push_size _ rfl
  have keep4 : ∀ b o, s'.heap.get? b = some o → ((s'.heap.push lobj).push dobj).get? b = some o := fun b o e => Heap.get?_push_of_some _ (Heap.get?_push_of_some _ e)
  have blkInv : ∀ {s1 : Shared} {H' : Hp} {G' : Array GenState}, s1.heap.get? D = some lobj → s1.heap.get? (D + 1) = some dobj → H' D = none → H' (D + 1) = none → s1.os = s.os → Un (frs X.stack) [] H H' s.heap s1.heap → HOk X.prog X.w H' s1.heap → AllBare G' →
      ∀ h', (∀ b o, s1.heap.get? b = some o → h'.get? b = some o) → Inv (X.blk sG (upd H D (.lst [])) scope ce fp) [] (wipe σ (own.map (·.2))) (upd H' D (.lst [])) { s1 with gens := G', heap := h' } := by
    intro s1 H' G' eD eC nD nC qos un hok hG' h' hk
    have un2 : Un (frs X.stack) [] H H' s.heap h' := un.trans (Un.kept hk)
    have hok2 := hok.kept hk
    have noC : ∀ {b : Addr} {o : HO}, H b = some o → b ≠ D + 1 := fun {b o} e z => by
      have q : H (D + 1) = none := I.hok.fresh (Nat.le_succ_of_le hsz)
      rw [z, q] at e; cases e
    have noD : ∀ {b : Addr} {o : HO}, H b = some o → b ≠ D := fun {b o} e z => by rw [z, hn0] at e; cases e
    refine I4.call' (ch := fp) ?_ ⟨fun b o e n hf hx => ?_, fun b o e n hf hx => ?_, fun b o e n hx => ?_, fun b o e hx => ?_, fun b xs e => ?_, fun b o v e => ?_, fun b ps e => ?_⟩ (fun b o q => ?_) hG' fun b hb => ?_
    · show s1.os = sG.os
      rw [← hsG]; exact qos
    · have hbD : b ≠ D := fun z => by rw [z, upd_same] at n; cases n
      by_cases hbC : b = D + 1
      · rw [hbC, gC] at e
        rw [hbC]; cases e; exact hk _ _ eC
      · rw [upd_ne hbD] at n
        exact un2.keep b o (gpold b o hbD hbC e) n hf (by simp)
    · have hbD : b ≠ D := fun z => by rw [z, upd_same] at n; cases n
      by_cases hbC : b = D + 1
      · rw [hbC, gC] at e
        rw [hbC]; cases e; exact ⟨_, hk _ _ eC⟩
      · rw [upd_ne hbD] at n
        exact un2.slot b o (gpold b o hbD hbC e) n hf (by simp)
    · have hbD : b ≠ D := fun z => by rw [z, upd_same] at n; cases n
      rw [upd_ne hbD] at n ⊢
      by_cases hbC : b = D + 1
      · rw [hbC]; exact nC
      · exact un2.free b o (gpold b o hbD hbC e) n (by simp)
    · by_cases hbD : b = D
      · rw [hbD]; exact ⟨_, hk _ _ eD⟩
      · by_cases hbC : b = D + 1
        · rw [hbC]; exact ⟨_, hk _ _ eC⟩
        · exact un2.there b o (gpold b o hbD hbC e) (by simp)
    · have hbD : b ≠ D := fun z => by rw [z, upd_same] at e; cases e
      rw [upd_ne hbD] at e ⊢
      exact un2.tups b xs e
    · have hbD : b ≠ D := fun z => by rw [z, upd_same] at e; cases e
      rw [upd_ne hbD] at e ⊢
      exact un2.frzs b o v e
    · have hbD : b ≠ D := fun z => by rw [z, upd_same] at e; cases e
      rw [upd_ne hbD] at e ⊢
      exact un2.tbls b ps e
    · by_cases hbD : b = D
      · rw [hbD] at q ⊢
        rw [upd_same] at q
        cases q
        exact ⟨Nat.zero_le _, [], 0, .nil, hk _ _ eD⟩
      · rw [upd_ne hbD] at q
        refine (hok2 b o q).stay (fun c v _ y => y) (fun c hc => ?_) fun c ys hc => ?_
        · rw [upd_ne (ne_of_none hc nD)]; exact hc
        · rw [upd_ne (ne_of_none hc nD)]; exact hc
    · obtain ⟨h1, h2⟩ := (mfp b).mp hb
      exact ⟨.inl hb, (I4.ok.exf b hb).1, fun x c e => (I4.ok.exf b hb).2 x c e, fun p hp => absurd (show p ∈ ([] : List (Addr × Obj)) ++ [] from hp) (by simp)⟩
  refine wpAny_gsz (n := g + 1) (Array.getElem?_eq_some_iff.mp hgs).1 ?_
  have W := wake X.A.in1 ({ s' with heap := (s'.heap.push lobj).push dobj }.setGen g .running) [(D, lobj), (D + 1, dobj)] (Room.in1 hr) I.ok.frames keep4 hos (allBare_setGen (s := { s' with heap := (s'.heap.push lobj).push dobj }) hb rfl) (fun p hp => by
    simp only [List.mem_cons, List.not_mem_nil, or_false] at hp
    rcases hp with rfl | rfl
    · exact ⟨at4D, Nat.le_refl _, fun v z => by cases z⟩
    · exact ⟨at4C, Nat.le_succ _, fun v z => by cases z⟩)
  refine next_piece (Φ := First X.prog X.w X.A.in1 X.stack H s a g [(D, lobj), (D + 1, dobj)] R) hr.hd (hl.keeps keep4) hdepth (hg.keeps keep4) (s := { s' with heap := (s'.heap.push lobj).push dobj }) hgs W (fun e s1 z => ?_) (fun r s1 z => ?_) (fun s1 z h' hk hsz => ?_) fun v gd lv' k' c' p' fs' s1 z hsz => ?_
  · obtain ⟨xs, H', us, it, l, _, _, _, _, _, _, _, _, _, _, _, _, _, _, _, _, _, q⟩ := z; exact q
  · obtain ⟨xs, H', us, it, l, _, _, _, _, _, _, _, _, _, _, _, _, _, _, _, _, q, _⟩ := z; exact q.2
  · obtain ⟨xs, H', us, it, l, q0, q1, q2, q3, q4, q5, q6, q7, q8, q9, q10, q11, q12, rv, hz, hR, hst, _⟩ := z
    have hlen := rv.length
    have h0 : us.size = 0 := hst.1
    have hx : xs = [] := List.eq_nil_of_length_eq_zero (by rw [hlen]; simpa using h0)
    obtain ⟨d1, d2, _⟩ := q0 (D, lobj) (by simp)
    obtain ⟨e1, e2, _⟩ := q0 (D + 1, dobj) (by simp)
    exact ⟨xs, H', hR, d2, by rw [hx]; exact Nat.zero_le _, .inl ⟨rfl, hx, blkInv (G' := (s1.setGen g .finished).gens) d1 e1 d2 e2 q1 q3 q4 (allBare_setGen q2 rfl) h' hk⟩⟩
  · obtain ⟨xs, H', us, it, l, q0, q1, q2, q3, q4, q5, q6, q7, q8, q9, q10, q11, q12, rv, hz, hR, hst, hq⟩ := z
    obtain ⟨z2, st, nx⟩ := hst
    have hlen := rv.length
    have hlen : xs.length = us.size := by simpa using hlen
    have hpos : 0 < us.size := (Array.getElem?_eq_some_iff.mp z2).1
    have hx : xs[0]? = some xs[0] := List.getElem?_eq_getElem (by omega)
    obtain ⟨u, hu, ru⟩ := rv.get hx
    have euv : u = v := by
      have q : us[0]? = some u := by rw [← Array.getElem?_toList]; exact hu
      rw [z2] at q
      exact (Option.some.inj q).symm
    subst euv
    have hl1 : g < s1.gens.size := by
      have e := setGen_size s1 g (End.susp u gd lv' k' c' p' fs').genState
      have hsz' : g + 1 ≤ (s1.setGen g (End.susp u gd lv' k' c' p' fs').genState).gens.size := hsz
      omega
    have hbb := End.bare_of_quiet hq
    obtain ⟨d1, d2, d3, d4⟩ := q0 (D, lobj) (by simp)
    obtain ⟨e1, e2, e3, e4⟩ := q0 (D + 1, dobj) (by simp)
    have IB := blkInv (G' := (s1.setGen g (End.susp u gd lv' k' c' p' fs').genState).gens) d1 e1 d2 e2 q1 q3 q4 (allBare_setGen q2 hbb) s1.heap fun _ _ e => e
    have yfr : ∀ b, s.heap.objs.size ≤ b → b ∉ frs X.stack := fun b h1 hm => by
      obtain ⟨o, ho⟩ := frin b hm
      exact absurd (Nat.lt_of_lt_of_le (Heap.lt_size ho) h1) (Nat.lt_irrefl _)
    refine ⟨xs, H', hR, d2, by omega, .inr ⟨u, xs[0], g, it, l, us, rfl, hx, ru, ⟨IB, q5, st, ⟨k', lv', c', p', fs', _, setGen_at hl1, fun s'' q => nx s'' q⟩, rv, ⟨by rw [upd_ne (Ne.symm d4)]; exact q6, ?_, yfr it q9, ?_, fun x c e z => ?_, fun p hp => absurd (show p ∈ ([] : List (Addr × Obj)) ++ [] from hp) (by simp)⟩, ⟨by rw [upd_ne (Ne.symm d3)]; exact q7, ?_, fun hm => ?_⟩, ⟨by rw [upd_ne (Nat.ne_of_lt ha2)]; exact q8, ?_, yfr a ha1⟩, ⟨q11, q12⟩, hpos⟩⟩⟩
    · show it ≠ ce.locals
      rw [cL]; exact Ne.symm e4
    · by_cases hlt : it < D
      · exact .inl ((mfp it).mpr ⟨q9, hlt⟩)
      · refine .inr ?_
        show sG.heap.objs.size ≤ it
        rw [sGh, szG]
        have h1 : D ≠ it := d4
        exact Nat.lt_of_le_of_ne (Nat.le_of_not_lt hlt) h1
    · obtain ⟨vc, oc, ec, dc⟩ := I4.cell x c e
      have ec : (G.push dobj).get? c = some oc := ec
      have hcD : c ≠ D := fun q => by
        rw [q, Heap.get?_push_of_some _ gD] at ec
        cases ec; cases dc
      have hcC : c ≠ D + 1 := fun q => by
        rw [q, gC] at ec
        cases ec; cases dc
      have h1 := Heap.lt_size (gpold c oc hcD hcC ec)
      rw [z] at h1
      exact absurd (Nat.lt_of_lt_of_le h1 q9) (Nat.lt_irrefl _)
    · show l ≠ ce.locals
      rw [cL]; exact Ne.symm e3
    · obtain ⟨o, ho⟩ := frin l hm
      rw [q10] at ho; cases ho
    · show a ≠ ce.locals
      rw [cL]
      exact Nat.ne_of_lt (Nat.lt_succ_of_lt ha2)
end

def tLcY (t : TYI) (g : TG) (tt : TT) (te : TE) (vs : List Nat) : TE := fun σ H Q => t σ H fun xs H1 => ∀ D, H1 D = none → ∃ W : Nat → Hp → Prop, W 0 (upd H1 D (.lst [])) ∧
  (∀ i x H, xs[i]? = some x → W i H → g x (wipe σ vs) H fun σ2 H2 => wipe σ2 vs = wipe σ vs ∧ tt σ2 H2 fun b H3 =>
    if b = true then te σ2 H3 fun y H4 => ∃ acc, H4 D = some (.lst acc) ∧ acc.length < sizeLine ∧ W (i + 1) (upd H4 D (.lst (acc ++ [y]))) else W (i + 1) H3) ∧ ∀ H, W xs.length H → Q (.ref D) H
section
variable {X : Cx}
theorem lcY_core {pins : List (Addr × Obj)} {s : Shared} {σ : L2.St} {H : Hp} {Q : VK} {elt tg iter : Expr} {ifs : List Expr} {scope : Scope} {own : List (Str × Nat)} {pos pos' : Pos} {k : Nat} {t : TYI} {g : TG} {tt : TT} {te : TE} {use : Option (Value → Sem Unit)} {Qf : Value → Shared → Prop}
    (hN : X.N.Nodup) (I : Inv X pins σ H s) (hr : Room (k + 1) X.A) (hi : PY X k iter t) (ok : BlkOk X.N X.env.scope scope own) (hpc : ∀ h, pushCells h scope.names = h)
    (hg : ∀ (s : Shared) (H : Hp) (C : Addr) (cl : List (Str × Addr)) (fp : List Addr), PG (X.blk s H scope (compEnvC scope cl C X.env) fp) tg g) (ht : ∀ (s : Shared) (H : Hp) (C : Addr) (cl : List (Str × Addr)) (fp : List Addr), PTs (X.blk s H scope (compEnvC scope cl C X.env) fp) ifs tt)
    (he : ∀ (s : Shared) (H : Hp) (C : Addr) (cl : List (Str × Addr)) (fp : List Addr), PE (X.blk s H scope (compEnvC scope cl C X.env) fp) elt te) (hs : ∀ x, foldedSetIterable iter X.env x = pure x)
    (h : tLcY t g tt te (own.map (·.2)) σ H Q)
    (hRR : ∀ D C s' m H', Inv X pins σ H' s' → Q (.ref D) H' → s'.heap.Ns C m → FpOk X pins H' C → compPost (model X.prog X.w) X.A X.xe use Qf (.ref D) C (.ok .next) s') :
    wpAny (model X.prog X.w) X.A (comprehension (.ListComp elt [⟨tg, iter, ifs, 0⟩] scope pos) scope X.env pos' (newList []) false (eval iter X.env) use) Qf X.xe s := by
  have hfree : ∀ y ∈ scope.names, y.2 = .free → ∃ c, X.env.cells.lookup y.1 = some c := fun y hy e => by
    rcases ok.free y hy e with q | q
    · exact I.ok.has _ (.inl q)
    · exact I.ok.has _ (.inr q)
  refine wpAny_comprehension_free (use := use) rfl hs (closure_ok hfree) ok.kind (fun y hy e => by rw [ok.uniq y hy, e])
    (wpAny_mono (hi.run pins s σ H _ I h) (fun u s' hh => ?_) fun _ _ z => z)
  obtain ⟨H1, sc, I1, M⟩ := hh
  obtain ⟨a0, g0, eu, isg⟩ := made_gen M
  have hd : X.A.depth < recursionLimit := by have := hr.dp; omega
  obtain ⟨a, sG, H3, fp, eu2, IG, fG, gsz, first⟩ := blk_first (own := own) hN ok hpc I1 M hr
  subst eu
  cases eu2
  refine wpAny_pyIter_gen isg ?_
  refine wpAny_newObj_type (newEnv_comp ?_) (by show 0 ≤ sizeLine; decide)
  rw [hpc]
  generalize hce : compEnvC scope (cellsFrom ((s'.heap.push lobj).objs.size + 1) scope.names (cloFrom X.env.cells scope.names [])) (s'.heap.push lobj).objs.size X.env = ce at first
  have pg := hg sG H3 (s'.heap.push lobj).objs.size (cellsFrom ((s'.heap.push lobj).objs.size + 1) scope.names (cloFrom X.env.cells scope.names [])) fp
  have pt := ht sG H3 (s'.heap.push lobj).objs.size (cellsFrom ((s'.heap.push lobj).objs.size + 1) scope.names (cloFrom X.env.cells scope.names [])) fp
  have pe := he sG H3 (s'.heap.push lobj).objs.size (cellsFrom ((s'.heap.push lobj).objs.size + 1) scope.names (cloFrom X.env.cells scope.names [])) fp
  rw [hce] at pg pt pe
  have cL : ce.locals = (s'.heap.push lobj).objs.size := by rw [← hce]; rfl
  show codeAny _ _ (.compStart (.ListComp elt [⟨tg, iter, ifs, 0⟩] scope pos) 0 (.ref a0) (.ref s'.heap.objs.size) (compEnvC scope (cellsFrom ((s'.heap.push lobj).objs.size + 1) scope.names (cloFrom X.env.cells scope.names [])) (s'.heap.push lobj).objs.size X.env)) (compPost (model X.prog X.w) X.A X.xe use Qf (.ref s'.heap.objs.size) (s'.heap.push lobj).objs.size) { s' with heap := (s'.heap.push lobj).push dobj }
  rw [hce, ← gsz]
  generalize hD : s'.heap.objs.size = D at first ⊢
  have fin : ∀ {s6 : Shared} {H5 : Hp}, Inv (X.blk sG H3 scope ce fp) [] (wipe σ (own.map (·.2))) H5 s6 → Q (.ref D) H5 → compPost (model X.prog X.w) X.A X.xe use Qf (.ref D) sG.heap.objs.size (.ok .next) s6 := fun {s6 H5} I6 qq => by
    have I7 : Inv X pins σ H5 s6 := IG.call' (ch := fp) I6.os I6.base I6.hok I6.bare fun b hb => ⟨(fG b hb).2.2.2.1, (fG b hb).2.1, (fG b hb).2.2.2.2.1, (fG b hb).2.2.2.2.2⟩
    have nC : H5 sG.heap.objs.size = none := by
      have z : H5 ce.locals = none := I6.free
      rw [cL, ← gsz] at z
      exact z
    obtain ⟨m, hn, _⟩ := I6.loc
    have hn : s6.heap.Ns ce.locals m := hn
    rw [cL, ← gsz] at hn
    exact hRR D sG.heap.objs.size s6 m H5 I7 qq hn (IG.fpOk (Nat.le_refl _) nC)
  have loop : codeAny (model X.prog X.w) X.A (.compLoop (.ListComp elt [⟨tg, iter, ifs, 0⟩] scope pos) 0 (.ref a0) (.ref D) ce) (compPost (model X.prog X.w) X.A X.xe use Qf (.ref D) sG.heap.objs.size) { s' with heap := (s'.heap.push lobj).push dobj } := by
    generalize hCom : (fun n s2 => (n = sizeLine + 2 ∧ s2 = { s' with heap := (s'.heap.push lobj).push dobj }) ∨
      ∃ (xs : List V) (gn : Nat) (it l : Addr) (us : Array Value) (i : Nat) (H' : Hp) (W : Nat → Hp → Prop), n = xs.length + 1 - i ∧ xs.length ≤ sizeLine ∧ Mid (X.blk sG H3 scope ce fp) [] a0 gn it l us xs i (wipe σ (own.map (·.2))) H' s2 ∧ W i H' ∧
        (∀ i x H, xs[i]? = some x → W i H → g x (wipe σ (own.map (·.2))) H fun σ2 H2 => wipe σ2 (own.map (·.2)) = wipe σ (own.map (·.2)) ∧ tt σ2 H2 fun b H3 =>
          if b = true then te σ2 H3 fun y H4 => ∃ acc, H4 D = some (.lst acc) ∧ acc.length < sizeLine ∧ W (i + 1) (upd H4 D (.lst (acc ++ [y]))) else W (i + 1) H3) ∧ ∀ H, W xs.length H → Q (.ref D) H) = Coming
    refine compLoop_any Coming ?_ (sizeLine + 2) (hCom ▸ .inl ⟨rfl, rfl⟩)
    have step : ∀ {n : Nat} {s3 : Shared} {xs : List V} {gn : Nat} {it l : Addr} {us : Array Value} {i : Nat} {H' : Hp} {W : Nat → Hp → Prop} {v : Value} {x : V} {E1 : Value → Shared → Prop}, xs.length - i < n → xs.length ≤ sizeLine → xs[i]? = some x → RelV x v → Mid (X.blk sG H3 scope ce fp) [] a0 gn it l us xs (i + 1) (wipe σ (own.map (·.2))) H' s3 → W i H' →
        (∀ i x H, xs[i]? = some x → W i H → g x (wipe σ (own.map (·.2))) H fun σ2 H2 => wipe σ2 (own.map (·.2)) = wipe σ (own.map (·.2)) ∧ tt σ2 H2 fun b H3 =>
          if b = true then te σ2 H3 fun y H4 => ∃ acc, H4 D = some (.lst acc) ∧ acc.length < sizeLine ∧ W (i + 1) (upd H4 D (.lst (acc ++ [y]))) else W (i + 1) H3) → (∀ H, W xs.length H → Q (.ref D) H) →
        wpAny (model X.prog X.w) X.A (letOwnedTupleGo tg (.ref a0) v) (fun _ s₁' => wpAny (model X.prog X.w) X.A (assign tg ce v) (fun _ s₂ =>
          wpAny (model X.prog X.w) X.A (forIn ifs true fun c r => if r = true then do let ok ← isTrue c ce (eval c ce); pure (ForInStep.yield ok) else pure (ForInStep.yield r)) (fun ok s₃ =>
            if ok = true then wpAny (model X.prog X.w) X.A (eval elt ce) (fun x s₄ => wpAny (model X.prog X.w) X.A (call (.builtin "list.append") [.ref D, x]) (fun _ s₅ => ∃ m, m < n ∧ Coming m s₅) E1 s₄) E1 s₃
            else ∃ m, m < n ∧ Coming m s₃) E1 s₂) E1 s₁') E1 s3 := by
      intro n s3 xs gn it l us i H' W v x E1 hn hz hx rx m w hst hdn
      obtain ⟨oa, nm, qn, ea, ca, da, sa⟩ := m.gen
      refine go_of (n := "generator") ea ca da (by decide) ?_
      obtain ⟨pl, I0, again⟩ := m.aside
      have more : ∀ {s' : Shared} {σ8 : L2.St} {H8 : Hp}, Hid (sleepsOf s3.gens) s'.gens → Inv (X.blk sG H3 scope ce fp) ([] ++ pl) σ8 H8 s' → wipe σ8 (own.map (·.2)) = wipe σ (own.map (·.2)) → W (i + 1) H8 → ∃ m, m < n ∧ Coming m (unhid (sleepsOf s3.gens) s') := fun {s' σ8 H8} o J hw w8 => by
        have mm := again o J
        have hl : (wipe σ (own.map (·.2))).length = σ8.length := by rw [← hw, wipe_length]
        refine ⟨xs.length + 1 - (i + 1), by omega, hCom ▸ .inr ⟨xs, gn, it, l, us, i + 1, H8, W, rfl, hz, mm.with (mm.inv.weak hl fun j v e => ?_), w8, hst, hdn⟩⟩
        rw [← hw] at e
        exact (wipe_some e).1
      refine wpAny_mono (wpAny_hid (s := s3) (pg.run _ (hid s3) _ H' x v _ I0 rx (hst i x H' hx w))) (fun _ s4 hh => ?_) fun e s4 hh => (by obtain ⟨_, _, _, z⟩ := hh; exact z.elim)
      obtain ⟨s4h, e4, o4, σ8, H8, I8, hw8, q8⟩ := hh
      subst e4
      refine wpAny_mono (wpAny_unhid o4 (pt.run _ s4h σ8 H8 _ I8 q8)) (fun b s5 hh => ?_) fun e s5 hh => (by obtain ⟨_, _, _, z⟩ := hh; exact z.elim)
      obtain ⟨s5h, e5, o5, H9, I9, q9⟩ := hh
      subst e5
      cases b with
      | false =>
        simp only [Bool.false_eq_true, if_false] at q9 ⊢
        exact more o5 I9 hw8 q9
      | true =>
        simp only [if_true] at q9 ⊢
        refine wpAny_mono (wpAny_unhid o5 (pe.run _ s5h σ8 H9 _ I9 q9)) (fun z s6 hh => ?_) fun e s6 hh => (by obtain ⟨_, _, _, z⟩ := hh; exact z.elim)
        obtain ⟨s6h, e6, o6, yv, H10, I10, r10, acc, hD10, hz10, nx⟩ := hh
        subst e6
        have run : wpAny (model X.prog X.w) X.A (call (.builtin "list.append") [.ref D, z]) (fun _ s' => Inv (X.blk sG H3 scope ce fp) ([] ++ pl) σ8 (upd H10 D (.lst (acc ++ [yv]))) s') (fun _ _ => False) s6h :=
          app_ok (X := X.blk sG H3 scope ce fp) I10 hD10 hz10 r10 fun s11 I11 => I11
        refine wpAny_mono (wpAny_unhid o6 run) (fun _ s7 hh => ?_) fun e s7 hh => (by obtain ⟨_, _, _, z⟩ := hh; exact z.elim)
        obtain ⟨s7h, e7, o7, I11⟩ := hh
        subst e7
        exact more o7 I11 hw8 nx
    rintro n s3 hI
    rw [← hCom] at hI
    rcases hI with ⟨rfl, rfl⟩ | ⟨xs, gn, it, l, us, i, H', W, rfl, hz, m, w, hst, hdn⟩
    · refine wpAny_mono (first ce (notedBy (model X.prog X.w) X.A ce fun e s' => _) rfl) (fun r s4 h4 => ?_) fun _ _ z => z
      obtain ⟨xs, H2, hW, nD, hz, h4⟩ := h4
      obtain ⟨W, w0, hst, hdn⟩ := hW D nD
      rcases h4 with ⟨rfl, rfl, J⟩ | ⟨v, x, gn, it, l, us, rfl, hx, rx, m⟩
      · exact fin J (hdn _ w0)
      · exact step (by have := (List.getElem?_eq_some_iff.mp hx).1; omega) hz hx rx m w0 hst hdn
    · refine wpAny_mono (m.next (E := notedBy (model X.prog X.w) X.A ce fun e s' => _) hr.hd hd) (fun r s4 h4 => ?_) fun _ _ z => z
      rcases h4 with ⟨rfl, ei, J⟩ | ⟨v, x, rfl, hx, rx, m'⟩
      · subst ei
        exact fin J (hdn _ w)
      · exact step (by have := (List.getElem?_eq_some_iff.mp hx).1; omega) hz hx rx m' w hst hdn
  exact codeAny_compStart_list loop (wpAny_pyIter_gen (s := { s' with heap := (s'.heap.push lobj).push dobj }) (isg.keeps fun b o e => Heap.get?_push_of_some _ (Heap.get?_push_of_some _ e)) loop)

theorem pe_lcY {elt tg iter : Expr} {ifs : List Expr} {scope : Scope} {own : List (Str × Nat)} {pos : Pos} {k : Nat} {t : TYI} {g : TG} {tt : TT} {te : TE} (hN : X.N.Nodup) (hr : Room (k + 1) X.A) (hi : PY X k iter t) (ok : BlkOk X.N X.env.scope scope own) (hpc : ∀ h, pushCells h scope.names = h)
    (hg : ∀ (s : Shared) (H : Hp) (C : Addr) (cl : List (Str × Addr)) (fp : List Addr), PG (X.blk s H scope (compEnvC scope cl C X.env) fp) tg g) (ht : ∀ (s : Shared) (H : Hp) (C : Addr) (cl : List (Str × Addr)) (fp : List Addr), PTs (X.blk s H scope (compEnvC scope cl C X.env) fp) ifs tt)
    (he : ∀ (s : Shared) (H : Hp) (C : Addr) (cl : List (Str × Addr)) (fp : List Addr), PE (X.blk s H scope (compEnvC scope cl C X.env) fp) elt te) (hs : ∀ x, foldedSetIterable iter X.env x = pure x := by intro _; rfl) :
    PE X (.ListComp elt [⟨tg, iter, ifs, 0⟩] scope pos) (tLcY t g tt te (own.map (·.2))) := by
  refine ⟨fun pins s σ H Q I h => ?_⟩
  rw [eval_ListComp]
  refine lcY_core hN I hr hi ok hpc hg ht he hs h fun D C s' m H' I' q hn f => ⟨m, hn, fun h'' sb => ?_⟩
  obtain ⟨f0, f1, f2, f3, f4, f5⟩ := f
  exact ⟨.ref D, H', I'.turned (t' := s'.toks) (fun b o hb e => (sb.2 b hb).trans e) f0 f1 f3 f4 f5, rfl, q⟩

theorem ps_setLcY {i : Nat} {y : Str} {py : Pos} {elt tg iter : Expr} {ifs : List Expr} {scope : Scope} {own : List (Str × Nat)} {pos spos : Pos} {k : Nat} {t : TYI} {g : TG} {tt : TT} {te : TE} (hN : X.N.Nodup) (hy : X.N[i]? = some y) (hyl : X.env.scope.names.lookup y = some .local)
    (hsw : swapsWith (.ListComp elt [⟨tg, iter, ifs, 0⟩] scope pos) (some (.Name y py)) spos.line X.env = pure true) (hr : Room (k + 1) X.A) (hi : PY X k iter t) (ok : BlkOk X.N X.env.scope scope own) (hpc : ∀ h, pushCells h scope.names = h)
    (hg : ∀ (s : Shared) (H : Hp) (C : Addr) (cl : List (Str × Addr)) (fp : List Addr), PG (X.blk s H scope (compEnvC scope cl C X.env) fp) tg g) (ht : ∀ (s : Shared) (H : Hp) (C : Addr) (cl : List (Str × Addr)) (fp : List Addr), PTs (X.blk s H scope (compEnvC scope cl C X.env) fp) ifs tt)
    (he : ∀ (s : Shared) (H : Hp) (C : Addr) (cl : List (Str × Addr)) (fp : List Addr), PE (X.blk s H scope (compEnvC scope cl C X.env) fp) elt te) (hs : ∀ x, foldedSetIterable iter X.env x = pure x := by intro _; rfl) :
    PS X (.Assign [.Name y py] (.ListComp elt [⟨tg, iter, ifs, 0⟩] scope pos) spos) (tAsg (tLcY t g tt te (own.map (·.2))) (gName i)) := by
  refine ⟨fun pins s σ H D I h => ?_⟩
  rw [exec_Assign_Name_used _ _ _ _ hsw]
  refine wpAny_bind (wpAny_standAt (wpAny_bind ?_))
  show wpAny _ X.A (do let _ ← comprehension (.ListComp elt [⟨tg, iter, ifs, 0⟩] scope pos) scope X.env (firstIterPos [⟨tg, iter, ifs, 0⟩] pos) (newList []) false (eval iter X.env) (some (assign (.Name y py) X.env))) _ _ s
  have h : tLcY t g tt te (own.map (·.2)) σ H (fun x H1 => gName i x σ H1 D.nx) := h
  refine wpAny_bind (wpAny_mono (lcY_core (Qf := fun _ s' => SP X pins D .next s') hN I hr hi ok hpc hg ht he hs h fun L C s' m H' I' q hn f => ?_) (fun _ s' hq => wpAny_pure (wpAny_pure hq)) fun _ _ z => z)
  show wpAny _ _ (assign (.Name y py) X.env (.ref L)) _ _ _
  refine wpAny_assign_Name (store_ok2 (v := V.ref L) I' hN hy (.inl hyl) rfl (fun s2 I2 ⟨a, sb, ha⟩ => ?_) (.inr hyl))
  obtain ⟨f0, f1, f2, f3, f4, f5⟩ := f
  have haC : C ≠ a := by
    rcases ha with z | z
    · rw [z]; exact f1
    · exact fun e => f4 y a z e.symm
  refine ⟨m, hn.sameBut sb haC, fun h3 sb3 => ?_⟩
  exact ⟨_, H', I2.turned (t' := s2.toks) (fun b o hb e => (sb3.2 b hb).trans e) f0 f1 f3 f4 f5, q⟩
end
end My
set_option Elab.async false
set_option maxRecDepth 100000
set_option maxHeartbeats 4000000
set_option linter.unusedVariables false
namespace My
open PySem PySem.Spec PyProof.Rows L2 L2.DX

def rSortF : List V → Hp → VK → Prop := fun vs H Q => ∃ (p d : Addr) (es : List (Int × Str)), vs = [.ref p] ∧ H p = some (itemsO p d) ∧ H d = some (.dK (ents es)) ∧ (keys es).Nodup ∧ es.length ≤ 1000 ∧
  ∀ (H' : Hp) (l : Addr) (ts : List V) (es' : List (Int × Str)), Same H H' → H l = none → H' l = some (.lst ts) → TupS H' ts es' → es'.Perm es → es'.Pairwise (fun p q => p.1 < q.1) → Q (.ref l) H'
section
variable {X : Cx}
theorem cr_sortedF (hc : X.calm = true) : CallR X (.builtin "sorted") rSortF := by
  intro pins s σ H xs us Q I r h
  obtain ⟨p, d, es, rfl, hp, hd, nd, hlen, q⟩ := h
  obtain rfl := Vals.ref1 r
  have view : s.heap.IsItemsView p d := (show ObjOk X.prog X.w H s.heap p (itemsO p d) from I.hok p _ hp).1
  obtain ⟨_, hs, vs, kv, o, ed, ep, ho, hx, hdt, ks, pr, _⟩ := dk_of I.hok hd
  have size : ed.size = es.length := by rw [← Array.length_toList, pairs_len pr, ← kv_len kv, ents_len]
  refine DT.sortedI (es := ed) (ep := ep) (I.ok.hd hc) view ⟨o, ho, hx, hdt⟩ (by rw [size]; exact size_ok (by omega)) fun h' tk as hk hlt hl hG => ?_
  have la : as.length = es.length := hl.trans size
  have nda : as.Nodup := List.Pairwise.imp (fun h => Nat.ne_of_lt h) hG.rise
  have made : ∀ (j : Nat) (b : Addr), as[j]? = some b → ∃ n x t u, es[j]? = some (n, x) ∧ h'.get? b = some { cls := .type "tuple", data := .seq #[Value.int n t, Value.str x u] } := by
    intro j b hj
    obtain ⟨e, he, hb⟩ := hG.pairs j b hj
    have hj2 : j < es.length := by rw [← la]; exact (List.getElem?_eq_some_iff.mp hj).1
    have hj3 : es[j]? = some (es[j].1, es[j].2) := List.getElem?_eq_getElem hj2
    obtain ⟨e2, t, u, h1, h2, h3⟩ := ent_of kv pr hj3
    obtain rfl := Option.some.inj (he.symm.trans h1)
    exact ⟨_, _, t, u, hj3, by rw [hb, h2, h3]⟩
  have hget : ∀ (b : Addr), b ∈ as → ∃ (j : Nat) (n : Int) (x : Str) (t u : Tok), as[j]? = some b ∧ es[j]? = some (n, x) ∧ h'.get? b = some { cls := .type "tuple", data := .seq #[Value.int n t, Value.str x u] } := by
    intro b hb
    obtain ⟨j, hj⟩ := List.mem_iff_getElem?.mp hb
    obtain ⟨n, x, t, u, h1, h2⟩ := made j b hj
    exact ⟨j, n, x, t, u, hj, h1, h2⟩
  have kk : ∀ {b : Addr} {n : Int} {x : Str} {t u : Tok}, h'.get? b = some { cls := .type "tuple", data := .seq #[Value.int n t, Value.str x u] } → keyIn h' (.ref b) = n ∧ txtIn h' (.ref b) = x := by
    intro b n x t u e
    unfold keyIn txtIn
    dsimp only
    rw [e]
    exact ⟨rfl, rfl⟩
  have old : ∀ b o, h'.get? b = some o → b ≠ h'.objs.size := fun b o e => Nat.ne_of_lt (Heap.lt_size e)
  have hob : (h'.push { cls := .type "list", data := .seq (as.map Value.ref).toArray }).get? h'.objs.size = some (seqObj "list" (as.map Value.ref).toArray 0) := Heap.get?_push_size _ rfl
  have ka : ∀ b o, h'.get? b = some o → (h'.push { cls := .type "list", data := .seq (as.map Value.ref).toArray }).get? b = some o := fun b o e => Heap.get?_push_of_some _ e
  generalize h'.push { cls := .type "list", data := .seq (as.map Value.ref).toArray } = h2 at hob ka ⊢
  have hz : (as.map Value.ref).length ≤ sizeLine := by rw [List.length_map, la]; exact size_ok (by omega)
  have ents2 : ∀ v ∈ as.map Value.ref, Ent h2 v (keyIn h' v) (txtIn h' v) := by
    intro v hv
    obtain ⟨b, hb, rfl⟩ := List.mem_map.mp hv
    obtain ⟨j, n, x, t, u, _, _, e⟩ := hget b hb
    rw [(kk e).1, (kk e).2]
    exact ⟨b, _, t, u, _, rfl, ka _ _ e, rfl, rfl⟩
  have one : ∀ v ∈ as.map Value.ref, ∀ u ∈ as.map Value.ref, keyIn h' v = keyIn h' u → txtIn h' v = txtIn h' u := by
    intro v hv u hu e
    obtain ⟨b, hb, rfl⟩ := List.mem_map.mp hv
    obtain ⟨c, hc2, rfl⟩ := List.mem_map.mp hu
    obtain ⟨j, n, x, t1, u1, _, e1, g1⟩ := hget b hb
    obtain ⟨i, m, y, t2, u2, _, e2, g2⟩ := hget c hc2
    rw [(kk g1).1, (kk g2).1] at e
    subst e
    rw [(kk g1).2, (kk g2).2]
    have l1 := look_ents nd (List.mem_of_getElem? e1)
    have l2 := look_ents nd (List.mem_of_getElem? e2)
    dsimp only at l1 l2
    rw [l1] at l2
    exact Option.some.inj l2
  refine wpAny_call_entry PyProof.Rows.slot_list_sort ⟨_, hob, rfl⟩ PyProof.Rows.entry_list_sort
    (SrtO.list_sort_ord (s := { s with heap := h2, toks := tk }) (swo_key (keyIn h')) hob hz (fun n2 => ent_sortable (by omega) ents2 one fun o e => ?_) fun out o1 o2 => ⟨.none, rfl, ?_⟩) (PyProof.Rows.args_list_sort _)
  · cases hob.symm.trans e
    intro z
    injection z with z
    revert z
    decide
  · show EP X pins σ Q (.ref h'.objs.size) { s with heap := sortedHeap h2 h'.objs.size (as.map Value.ref) out.toArray, toks := tk }
    have ez : (as.zip es).map (fun z => Value.ref z.1) = as.map Value.ref := by
      have q : (as.zip es).map (·.1) = as := List.map_fst_zip (by omega)
      rw [show (fun z : Addr × Int × Str => Value.ref z.1) = Value.ref ∘ (·.1) from rfl, ← List.map_map, q]
    obtain ⟨zs, pz, eo⟩ := perm_map (fun z : Addr × Int × Str => Value.ref z.1) (l := as.zip es) (out := out) (by rw [ez]; exact o2.perm)
    have at_ : ∀ z ∈ zs, ∃ j : Nat, as[j]? = some z.1 ∧ es[j]? = some z.2 := by
      intro z hz
      obtain ⟨j, hj⟩ := List.mem_iff_getElem?.mp (pz.mem_iff.mp hz)
      exact ⟨j, List.getElem?_zip_eq_some.mp hj⟩
    have pes : (zs.map (·.2)).Perm es := by
      have e := pz.map (·.2)
      rw [List.map_snd_zip (by omega)] at e
      exact e
    have key : ∀ z ∈ zs, keyIn h' (.ref z.1) = z.2.1 := by
      intro z hz
      obtain ⟨j, j1, j2⟩ := at_ z hz
      obtain ⟨n, x, t, u, e1, e2⟩ := made j z.1 j1
      rw [(kk e2).1]
      rw [j2] at e1
      rw [Option.some.inj e1]
    have srt : (zs.map (·.2)).Pairwise (fun p q => p.1 < q.1) := by
      have le : (zs.map (·.2)).Pairwise (fun p q => p.1 ≤ q.1) := by
        rw [← eo] at o1
        rw [List.pairwise_map]
        refine List.Pairwise.imp_of_mem (fun {a b} ha hb h => ?_) (List.pairwise_map.mp o1)
        have := of_decide_eq_false h
        rw [key a ha, key b hb] at this
        omega
      have nd2 : ((zs.map (·.2)).map (fun p : Int × Str => p.1)).Nodup := ((pes.map (fun p : Int × Str => p.1)).nodup_iff).mpr nd
      have ne : (zs.map (·.2)).Pairwise (fun p q => p.1 ≠ q.1) := List.pairwise_map.mp nd2
      exact (List.Pairwise.and le ne).imp fun h => by have := h.1; have := h.2; omega
    have kF : ∀ b o, b ≠ h'.objs.size → h2.get? b = some o → (sortedHeap h2 h'.objs.size (as.map Value.ref) out.toArray).get? b = some o :=
      fun b o nb e => (PyProof.Rows.sortedHeap_old nb (Heap.lt_size e)).trans e
    obtain ⟨eF, heF⟩ := PyProof.Rows.sortedHeap_at (vs := as.map Value.ref) (out := out.toArray) hob
    have I1 : Inv X pins σ H { s with heap := sortedHeap h2 h'.objs.size (as.map Value.ref) out.toArray, toks := tk } :=
      I.kept (t' := tk) fun b o e => kF b o (old _ _ (hk b o e)) (ka b o (hk b o e))
    have hn : H h'.objs.size = none := I.hok.fresh (Nat.le_of_lt hlt)
    have lz : zs.length = es.length := by
      have := pes.length_eq
      rw [List.length_map] at this
      exact this
    have rv : Vals (zs.map fun z => V.ref z.1) out := by
      rw [← eo]
      exact vals_maps (fun z : Addr × Int × Str => V.ref z.1) (fun z => Value.ref z.1) zs fun _ _ => rfl
    have I2 : Inv X pins σ (upd H h'.objs.size (.lst (zs.map fun z => V.ref z.1))) { s with heap := sortedHeap h2 h'.objs.size (as.map Value.ref) out.toArray, toks := tk } :=
      I1.take (h' := sortedHeap h2 h'.objs.size (as.map Value.ref) out.toArray) (t' := tk) (fun b ob _ e => e) (I.fpOk (Nat.le_of_lt hlt) hn)
        ⟨by rw [List.length_map, lz]; exact size_ok (by omega), out, eF, rv, by simpa using heF⟩
    obtain ⟨H2, I3, g, qt⟩ := takeT (P := fun b vs => ∃ (j : Nat) (n : Int) (x : Str), as[j]? = some b ∧ es[j]? = some (n, x) ∧ vs = [.int n, .str x]) I as _ I2 nda fun b hb => by
      obtain ⟨j, n, x, t, u, j1, j2, e⟩ := hget b hb
      have lb : s.heap.objs.size ≤ b := Nat.le_of_lt (hG.above b hb)
      refine ⟨lb, ?_, [.int n, .str x], ⟨j, n, x, j1, j2, rfl⟩, fun H3 => ⟨size_ok (by simp), [Value.int n t, Value.str x u], .cons ⟨_, rfl⟩ (.cons ⟨_, rfl⟩ .nil), ⟨_, kF _ _ (old _ _ e) (ka _ _ e), rfl, 0, rfl⟩⟩⟩
      rw [upd_ne (old _ _ e)]
      exact I.hok.fresh lb
    have gr : Same H H2 := fun b o e => g b o ((upd_ne (ne_of_none e hn)).trans e)
    refine ⟨.ref h'.objs.size, H2, I3, rfl, q H2 h'.objs.size _ _ gr hn (g _ _ upd_same) (tupS_of zs fun z hz => ?_) pes srt⟩
    obtain ⟨i, i1, i2⟩ := at_ z hz
    obtain ⟨vs, ⟨j, n, x, j1, j2, rfl⟩, hH⟩ := qt z.1 (List.mem_of_getElem? i1)
    have eij : i = j := (List.getElem?_inj (List.getElem?_eq_some_iff.mp i1).1 nda).mp (i1.trans j1.symm)
    subst eij
    rw [i2] at j2
    rw [Option.some.inj j2]
    exact hH
end

theorem op_either {X : Cx} {f : Value → Value → Sem Value} {r1 r2 : V → V → Hp → VK → Prop} (h1 : OpR X f r1) (h2 : OpR X f r2) : OpR X f (fun x y H Q => r1 x y H Q ∨ r2 x y H Q) := by
  intro pins s σ H x y u v Q I rx ry h
  rcases h with h | h
  · exact h1 pins s σ H x y u v Q I rx ry h
  · exact h2 pins s σ H x y u v Q I rx ry h

def spFormD (K : PySem.W.Frag) (C : Addr) : Sp := fun vs H Q _ => ∃ U a rs n x v, vs = [.ref a, .int n] ∧ DD K C U H a rs ∧ lk rs n = some (x, v) ∧ ∀ H', Same H H' → Q (.str x) H'

def spMemF (C : Addr) : Sp := fun vs H Q _ => ∃ U a es, vs = [.ref a] ∧ FS C U H a es ∧
  ∀ (H' : Hp) (l : Addr) (ts : List V) (es' : List (Int × Str)), Same H H' → H l = none → H' l = some (.lst ts) → TupS H' ts es' → es'.Perm es → es'.Pairwise (fun p q => p.1 < q.1) → Q (.ref l) H'
def spEntF (K : PySem.W.Frag) (C : Addr) : Sp := fun vs H Q _ => ∃ U a rs, vs = [.ref a] ∧ DD K C U H a rs ∧
  ∀ (H' : Hp) (l : Addr) (ts : List V) (rs' : List (Int × Rw)), Same H H' → H l = none → H' l = some (.lst ts) → Tup3 H' ts rs' → rs'.Perm rs → rs'.Pairwise (fun p q => p.1 < q.1) → Q (.ref l) H'

def spEach (C : Addr) : SpY := fun vs H Q => ∃ U a es, vs = [.ref a] ∧ FS C U H a es ∧
  ∀ (H' : Hp) (ts : List V) (es' : List (Int × Str)), Same H H' → TupS H' ts es' → es'.Perm es → es'.Pairwise (fun p q => p.1 < q.1) → Q ts H'
def spEachD (K : PySem.W.Frag) (C : Addr) : SpY := fun vs H Q => ∃ U a rs, vs = [.ref a] ∧ DD K C U H a rs ∧
  ∀ (H' : Hp) (ts : List V) (rs' : List (Int × Rw)), Same H H' → Tup3 H' ts rs' → rs'.Perm rs → rs'.Pairwise (fun p q => p.1 < q.1) → Q ts H'
theorem gone_keep {H : Hp} {l b : Addr} {xs : List V} {o : HO} (hl : H l = some (.lst xs)) (e : H b = some o) (h : ∀ ys, o ≠ .lst ys) : gone H l b = some o := by
  rw [gone_ne (fun z => by rw [z, hl] at e; exact h _ (Option.some.inj e).symm)]; exact e
theorem same_gone {H H' : Hp} {l : Addr} (s : Same H H') (h : H l = none) : Same H (gone H' l) := fun b o e => by
  rw [gone_ne (fun z => by rw [z, h] at e; cases e)]; exact s b o e
theorem tupS_gone {H : Hp} {l : Addr} {xs : List V} (hl : H l = some (.lst xs)) : ∀ {ts : List V} {es : List (Int × Str)}, TupS H ts es → TupS (gone H l) ts es
  | _, _, .nil => .nil
  | _, _, .cons h r => .cons (gone_keep hl h (fun _ z => by cases z)) (tupS_gone hl r)
theorem tup3_gone {H : Hp} {l : Addr} {xs : List V} (hl : H l = some (.lst xs)) : ∀ {ts : List V} {rs : List (Int × Rw)}, Tup3 H ts rs → Tup3 (gone H l) ts rs
  | _, _, .nil => .nil
  | _, _, .cons h r => .cons (gone_keep hl h (fun _ z => by cases z)) (tup3_gone hl r)
end My
set_option Elab.async false
set_option maxRecDepth 100000
set_option maxHeartbeats 4000000
set_option linter.unusedVariables false
namespace My
open PySem PySem.Spec PyProof.Rows L2 L2.DX

def intsV (l : List (Int × Int)) : List (Key × V) := entsV (l.map fun p => (p.1, V.int p.2))
theorem ints_len (l : List (Int × Int)) : (intsV l).length = l.length := by unfold intsV; rw [entsV_len, List.length_map]
theorem valV_intsV (k : Int) : ∀ l : List (Int × Int), valV (intsV l) (.inl k) = (lk l k).map V.int := by
  intro l
  unfold intsV
  rw [valV_entsV]
  induction l with
  | nil => rfl
  | cons p l ih =>
    rw [List.map_cons, lk_cons, lk_cons]
    by_cases e : p.1 = k
    · rw [if_pos e, if_pos e]; rfl
    · rw [if_neg e, if_neg e]; exact ih
def sameInts (l m : List (Int × Int)) : Bool := l.length == m.length && l.all fun p => lk m p.1 == some p.2
def rEqI : R2 := fun x y H Q => ∃ a b l m, x = .ref a ∧ y = .ref b ∧ H a = some (.dK (intsV l)) ∧ H b = some (.dK (intsV m)) ∧ Q (.bl (sameInts l m)) H
theorem hits_ints {P : Program} {w : World} {A : Around} {s : Shared} {m : List (Int × Int)} {vb : List (Key × Value)} (rb : KV (intsV m) vb) : ∀ {l : List (Int × Int)} {va : List (Key × Value)}, KV (intsV l) va →
    PySem.W.KeqHitsP P w A s vb va (l.all fun p => lk m p.1 == some p.2) := by
  intro l
  induction l with
  | nil =>
    intro va ra
    cases ra
    exact .nil
  | cons p l ih =>
    intro va ra
    unfold KV intsV at ra
    rw [List.map_cons] at ra
    cases ra with
    | @cons _ q _ qs h t =>
      obtain ⟨h1, h2⟩ := h
      obtain ⟨key, v⟩ := q
      have h1' : (Sum.inl p.1 : Key) = key := h1
      subst h1'
      obtain ⟨tk, e2⟩ := (show RelV (.int p.2) v from h2)
      subst e2
      have ih' := ih (va := qs) (by unfold KV intsV; exact t)
      have rr : RelO (valV (intsV m) (.inl p.1)) (valueAt vb (.inl p.1)) := rb.val (.inl p.1)
      rw [valV_intsV] at rr
      rw [List.all_cons]
      cases e : lk m p.1 with
      | none =>
        rw [e] at rr
        have hn : valueAt vb (.inl p.1) = none := RelO.none_of rr
        show PySem.W.KeqHitsP P w A s vb _ ((none == some p.2) && _)
        exact .miss hn
      | some n =>
        rw [e] at rr
        obtain ⟨y, hy, tk2, ry⟩ := rr.some_of
        subst ry
        obtain ⟨b, hb, hi⟩ := HT.eqAt_int A s p.2 tk n tk2
        have eb : (some n == some p.2) = b := by
          cases b with
          | true => rw [hi.mp rfl]; exact beq_self_eq_true _
          | false =>
            have : ¬ n = p.2 := fun z => by have := hi.mpr z.symm; cases this
            simpa using this
        rw [eb]
        exact .hit hy hb.eqP ih'
section
variable {X : Cx}
theorem op_eqI (hu : X.A.units + 80 < cLine) : OpR X (compareOp .Eq) rEqI := by
  intro pins s σ H x y v u Q I rx ry h
  obtain ⟨a, b, l, m, rfl, rfl, ha, hb, q⟩ := h
  cases (show v = Value.ref a from rx)
  cases (show u = Value.ref b from ry)
  obtain ⟨_, ya, va, ra, da⟩ := (show ObjOk X.prog X.w H s.heap a (.dK (intsV l)) from I.hok a _ ha)
  obtain ⟨_, yb, vb, rb, db⟩ := (show ObjOk X.prog X.w H s.heap b (.dK (intsV m)) from I.hok b _ hb)
  refine PySem.W.rcP_dicts (knd := mixKind X.prog X.w) (r := l.all fun p => lk m p.1 == some p.2) ya yb da db (by omega) (fun _ => hits_ints rb ra) _ _ ?_
  have e1 : va.length = l.length := by rw [← ra.length, ints_len]
  have e2 : vb.length = m.length := by rw [← rb.length, ints_len]
  rw [e1, e2]
  exact ⟨.bl _, H, I, rfl, q⟩
end
def valsOf (rs : List (Int × Rw)) : List (Int × Int) := rs.map fun r => (r.1, r.2.2)
def spValsOf (K : PySem.W.Frag) : Sp := fun vs H Q _ => ∃ U d rs, vs = [.ref d] ∧ RD K U H d rs ∧ ∀ p H', H p = none → Same H H' → H' p = some (.dK (intsV (valsOf rs))) → Q (.ref p) H'
def spEqualsD (K : PySem.W.Frag) (C : Addr) : Sp := fun vs H Q _ => ∃ U a b rs qs, vs = [.ref a, .ref b] ∧ DD K C U H a rs ∧ DD K C U H b qs ∧ ∀ H', Same H H' → Q (.bl (sameInts (valsOf rs) (valsOf qs))) H'
theorem vals_take_put {rs : List (Int × Rw)} {i : Nat} {n m : Int} {y : Str} (nd : (ks rs).Nodup) (h : rs[i]? = some (n, (y, m))) : putK (intsV (valsOf (rs.take i))) (.inl n) (.int m) = intsV (valsOf (rs.take (i + 1))) := by
  have e : ∀ j, intsV (valsOf (rs.take j)) = entsV (((rs.map fun r => (r.1, V.int r.2.2)).take j).filter fun p => (fun _ => true) p.1) := fun j => by
    unfold intsV valsOf
    rw [List.map_map, ← List.map_take, List.filter_eq_self.mpr (fun _ _ => rfl)]
    rfl
  have nd2 : (ks (rs.map fun r => (r.1, V.int r.2.2))).Nodup := by
    have q : ks (rs.map fun r => (r.1, V.int r.2.2)) = ks rs := by unfold ks; rw [List.map_map]; rfl
    rw [q]; exact nd
  have z := filter_take_put nd2 (v := V.int m) (i := i) (n := n) (by rw [List.getElem?_map, h]; rfl) (fun _ => true)
  rw [e, e, put_entsV, z, if_pos rfl]
end My
set_option Elab.async false
set_option maxRecDepth 100000
set_option maxHeartbeats 4000000
set_option linter.unusedVariables false
namespace My
open PySem PySem.Spec PyProof.Rows L2 L2.DX

def DenS (S : Addr) (U : List Int) (σ : L2.St) (F : Hp → Prop) (t : TE) (f : Int → Option Str) : Prop :=
  ∀ (H : Hp) (Q : VK), F H → (∀ y H' es, Same H H' → FS S U H' y es → (∀ k, look es k = f k) → Q (.ref y) H') → t σ H Q
def DenD (K : PySem.W.Frag) (C : Addr) (U : List Int) (σ : L2.St) (F : Hp → Prop) (t : TE) (f : Int → Option Rw) : Prop :=
  ∀ (H : Hp) (Q : VK), F H → (∀ y H' rs, Same H H' → DD K C U H' y rs → (∀ k, lk rs k = f k) → Q (.ref y) H') → t σ H Q
def VSf (f : Int → Option Str) : Prop := ∀ k x, f k = some x → (0 ≤ k ∧ k ≤ 999999) ∧ nameOk x = true
theorem vs_f {U : List Int} {es : List (Int × Str)} {f : Int → Option Str} (g : Good U es) (e : ∀ k, look es k = f k) (h : VSf f) : VS es := fun p hp => by
  have l := look_ents g.1 hp
  rw [e] at l
  exact h _ _ l

def cutF (f : Int → Option Rw) (s : Int → Option Str) : Int → Option Rw := fun k => if (s k).isSome = true then none else f k
def inF (f : Int → Option Rw) (s : Int → Option Str) : Int → Option Rw := fun k => if (s k).isSome = true then f k else none
def formsF (f : Int → Option Rw) : Int → Option Str := fun k => (f k).map (·.1)
def sOr (a b : Int → Option Str) : Int → Option Str := fun k => (a k).or (b k)
def sSub (a b : Int → Option Str) : Int → Option Str := fun k => if (b k).isSome = true then none else a k
def sKept (a b : Int → Option Str) : Int → Option Str := fun k => if (b k).isSome = true then a k else none
def dOr (f g : Int → Option Rw) : Int → Option Rw := fun k => over (f k) (g k)
def dLook (s : Int → Option Str) (f : Int → Option Rw) : Int → Option Rw := fun k => lookedAt (s k) (f k)
section
variable {K : PySem.W.Frag} {C S : Addr} {U : List Int} {σ : L2.St} {F : Hp → Prop} {ta tb : TE} {f g : Int → Option Rw} {s t : Int → Option Str}
theorem denS_var {i : Nat} {a : Addr} (e : σ[i]? = some (some (.ref a))) (h : ∀ H, F H → ∃ es, FS S U H a es ∧ ∀ k, look es k = s k) : DenS S U σ F (tVar i) s := fun H Q hf k => by
  obtain ⟨es, h1, h2⟩ := h H hf
  exact ⟨_, e, k a H es (Same.refl H) h1 h2⟩
theorem denD_var {i : Nat} {a : Addr} (e : σ[i]? = some (some (.ref a))) (h : ∀ H, F H → ∃ rs, DD K C U H a rs ∧ ∀ k, lk rs k = f k) : DenD K C U σ F (tVar i) f := fun H Q hf k => by
  obtain ⟨rs, h1, h2⟩ := h H hf
  exact ⟨_, e, k a H rs (Same.refl H) h1 h2⟩
theorem denS_op {op : List (Int × Str) → List (Int × Str) → List (Int × Str)} {w : (Int → Option Str) → (Int → Option Str) → Int → Option Str} (hw : ∀ es fs k, look (op es fs) k = w (look es) (look fs) k) (hF : Stable F) (ha : DenS S U σ F ta s) (hb : DenS S U σ F tb t) :
    DenS S U σ F (tOp (rBin S (spOp S op)) ta tb) (w s t) := by
  intro H Q hf k
  refine ha H _ hf fun x H1 es s1 hx ex => hb H1 _ (hF _ _ s1 hf) fun y H2 fs s2 hy ey => ?_
  have hx2 := hx.same s2
  have hy2 := hy
  obtain ⟨dx, d, e1, _⟩ := hx2
  obtain ⟨dy, d', e2, _⟩ := hy2
  refine ⟨x, y, _, _, _, _, rfl, rfl, e1, e2, U, x, y, es, fs, rfl, hx.same s2, hy, fun d H3 s3 hd => k d H3 _ ((s1.trans s2).trans s3) hd fun j => ?_⟩
  rw [hw, funext ex, funext ey]
theorem denS_meth {op : List (Int × Str) → List (Int × Str) → List (Int × Str)} {w : (Int → Option Str) → (Int → Option Str) → Int → Option Str} {m : Str} (hm : ∀ v : V, List.lookup m [(("_forms" : Str), v)] = none) (hw : ∀ es fs k, look (op es fs) k = w (look es) (look fs) k) (hF : Stable F)
    (ha : DenS S U σ F ta s) (hb : DenS S U σ F tb t) : DenS S U σ F (tMeth S m (spOp S op) [] E0 ta (tCons tb tNil)) (w s t) := by
  intro H Q hf k
  refine ha H _ hf fun x H1 es s1 hx ex => ?_
  have hx1 := hx
  obtain ⟨dx, d, e1, _⟩ := hx1
  refine ⟨x, _, _, rfl, e1, hm _, hb H1 _ (hF _ _ s1 hf) fun y H2 fs s2 hy ey => ?_⟩
  refine ⟨U, x, y, es, fs, rfl, hx.same s2, hy, fun d H3 s3 hd => k d H3 _ ((s1.trans s2).trans s3) hd fun j => ?_⟩
  rw [hw, funext ex, funext ey]
theorem wOr (es fs : List (Int × Str)) (k : Int) : look (united es fs) k = sOr (look es) (look fs) k := look_united es fs k
theorem wSub (es fs : List (Int × Str)) (k : Int) : look (rest es fs) k = sSub (look es) (look fs) k := look_rest es fs k
theorem wKept (es fs : List (Int × Str)) (k : Int) : look (common es fs) k = sKept (look es) (look fs) k := look_common es fs k
theorem denD_or (hF : Stable F) (ha : DenD K C U σ F ta f) (hb : DenD K C U σ F tb g) : DenD K C U σ F (tOp (rBin C (spOrD K C)) ta tb) (dOr f g) := by
  intro H Q hf k
  refine ha H _ hf fun x H1 rs s1 hx ex => hb H1 _ (hF _ _ s1 hf) fun y H2 qs s2 hy ey => ?_
  have hx2 := hx.same s2
  have hy2 := hy
  obtain ⟨dx, d, e1, _⟩ := hx2
  obtain ⟨dy, d', e2, ⟨es, _, _, gd⟩, _⟩ := hy2
  refine ⟨x, y, _, _, _, _, rfl, rfl, e1, e2, U, x, y, rs, qs, rfl, hx.same s2, hy, fun d H3 s3 hd => k d H3 _ ((s1.trans s2).trans s3) hd fun j => ?_⟩
  rw [lk_mergedA gd.1, ex, ey]; rfl
theorem lk_cut (rs : List (Int × Rw)) (es : List (Int × Str)) (c : Bool) (k : Int) : lk (rs.filter fun r => has es r.1 == c) k = if (has es k == c) = true then lk rs k else none :=
  lk_filter (fun j => has es j == c) rs k
theorem denD_sub (hF : Stable F) (ha : DenD K C U σ F ta f) (hb : DenS S U σ F tb s) : DenD K C U σ F (tOp (rBin2 C S (spPartD K C S false)) ta tb) (cutF f s) := by
  intro H Q hf k
  refine ha H _ hf fun x H1 rs s1 hx ex => hb H1 _ (hF _ _ s1 hf) fun y H2 es s2 hy ey => ?_
  have hx2 := hx.same s2
  have hy2 := hy
  obtain ⟨dx, d, e1, _⟩ := hx2
  obtain ⟨dy, d', e2, _⟩ := hy2
  refine ⟨x, y, _, _, _, _, rfl, rfl, e1, e2, U, U, x, y, rs, es, rfl, hx.same s2, hy, fun d H3 s3 hd => k d H3 _ ((s1.trans s2).trans s3) hd fun j => ?_⟩
  rw [lk_cut, ex]
  unfold cutF has
  rw [ey]
  cases (s j).isSome <;> rfl
theorem denD_kept (hF : Stable F) (ha : DenD K C U σ F ta f) (hb : DenS S U σ F tb s) : DenD K C U σ F (tMeth C "kept" (spPartD K C S true) [] E0 ta (tCons tb tNil)) (inF f s) := by
  intro H Q hf k
  refine ha H _ hf fun x H1 rs s1 hx ex => ?_
  have hx1 := hx
  obtain ⟨dx, d, e1, _⟩ := hx1
  refine ⟨x, _, _, rfl, e1, rfl, hb H1 _ (hF _ _ s1 hf) fun y H2 es s2 hy ey => ?_⟩
  refine ⟨U, U, x, y, rs, es, rfl, hx.same s2, hy, fun d H3 s3 hd => k d H3 _ ((s1.trans s2).trans s3) hd fun j => ?_⟩
  rw [lk_cut, ex]
  unfold inF has
  rw [ey]
  cases (s j).isSome <;> rfl
theorem denS_keys (ha : DenD K C U σ F ta f) : DenS S U σ F (tMeth C "key_set" (spKeySet K C S) [] E0 ta tNil) (formsF f) := by
  intro H Q hf k
  refine ha H _ hf fun x H1 rs s1 hx ex => ?_
  have hx1 := hx
  obtain ⟨dx, d, e1, _⟩ := hx1
  refine ⟨x, _, _, rfl, e1, rfl, U, x, rs, rfl, hx, fun z H2 es s2 hz ez => k z H2 es (s1.trans s2) hz fun j => ?_⟩
  rw [ez, ex]; rfl
theorem denD_look {tc : TE} (hc : ∀ (H : Hp) (Q : VK), Q (.ref C) H → tc σ H Q) (hF : Stable F) (hs : VSf s) (ha : DenS S U σ F ta s) (hb : DenD K C U σ F tb f) : DenD K C U σ F (tStat C (spLooked K C S) tc (tCons ta (tCons tb tNil))) (dLook s f) := by
  intro H Q hf k
  refine hc H _ ⟨rfl, ?_⟩
  refine ha H _ hf fun x H1 es s1 hx ex => hb H1 _ (hF _ _ s1 hf) fun y H2 rs s2 hy ey => ?_
  have g : Good U es := by obtain ⟨_, _, _, _, g⟩ := hx; exact g
  refine ⟨U, U, x, y, es, rs, rfl, hx.same s2, vs_f g ex hs, hy, fun z H3 qs s3 hz ez => k z H3 qs ((s1.trans s2).trans s3) hz fun j => ?_⟩
  rw [ez, ex, ey]; rfl
theorem denD_mk0 (hU : U.length ≤ 1000) : DenD K C U σ F (tMk0 K C (spInitD K C)) (fun _ => none) := by
  intro H Q hf k t ht x dx hx hdx hne
  refine ⟨x, dx, t, [], [], rfl, upd_same, .inr (ht _), .nil, by decide, fun d H' es s hx' hd hr => ⟨rfl, k x H' [] ?_ ⟨dx, d, hx', ⟨es, hd, hr, List.nodup_nil, fun _ h => (nomatch h), hU⟩, fun _ h => nomatch h⟩ fun _ => rfl⟩⟩
  intro b o e
  have n1 := ne_of_none e hx
  have n2 := ne_of_none e hdx
  have q := s b o ((del_at n1).trans ((upd_ne n1).trans ((upd_ne n2).trans e)))
  rw [del_at n1] at q
  exact q
end

def Px (K : PySem.W.Frag) (C S : Addr) (U : List Int) (H : Hp) (x y : Addr) : Prop :=
  (∃ es fs, FS S U H x es ∧ FS S U H y fs ∧ ∀ k, look es k = look fs k) ∨ ∃ rs qs, DD K C U H x rs ∧ DD K C U H y qs ∧ ∀ k, lk rs k = lk qs k
def PairsX (K : PySem.W.Frag) (C S : Addr) (U : List Int) (H : Hp) (ps : List V) : Prop := ∀ v ∈ ps, ∃ t x y, v = V.ref t ∧ H t = some (.tup [.ref x, .ref y]) ∧ Px K C S U H x y
section
variable {K : PySem.W.Frag} {C S : Addr} {U : List Int} {H H' : Hp}
theorem Px.same {x y : Addr} (h : Px K C S U H x y) (s : Same H H') : Px K C S U H' x y := by
  rcases h with ⟨es, fs, h1, h2, h3⟩ | ⟨rs, qs, h1, h2, h3⟩
  · exact .inl ⟨es, fs, h1.same s, h2.same s, h3⟩
  · exact .inr ⟨rs, qs, h1.same s, h2.same s, h3⟩
theorem Px.chg {x y g : Addr} {ls : List V} (e : H g = some (.lst ls)) (s : Ext g H H') (h : Px K C S U H x y) : Px K C S U H' x y := by
  rcases h with ⟨es, fs, h1, h2, h3⟩ | ⟨rs, qs, h1, h2, h3⟩
  · exact .inl ⟨es, fs, h1.chg e s, h2.chg e s, h3⟩
  · exact .inr ⟨rs, qs, h1.chg e s, h2.chg e s, h3⟩
theorem PairsX.same {ps : List V} (h : PairsX K C S U H ps) (s : Same H H') : PairsX K C S U H' ps := fun v hv => by
  obtain ⟨t, x, y, h1, h2, h3⟩ := h v hv
  exact ⟨t, x, y, h1, s _ _ h2, h3.same s⟩
theorem PairsX.chg {g : Addr} {ls ps : List V} (e : H g = some (.lst ls)) (s : Ext g H H') (h : PairsX K C S U H ps) : PairsX K C S U H' ps := fun v hv => by
  obtain ⟨t, x, y, h1, h2, h3⟩ := h v hv
  exact ⟨t, x, y, h1, s _ _ (fun z => by rw [z, e] at h2; cases h2) h2, h3.chg e s⟩
theorem PairsX.app {ps qs : List V} (h : PairsX K C S U H ps) (g : PairsX K C S U H qs) : PairsX K C S U H (ps ++ qs) := fun v hv => by
  rcases List.mem_append.mp hv with hv | hv
  · exact h v hv
  · exact g v hv
end
def DenLX (K : PySem.W.Frag) (C S : Addr) (U : List Int) (σ : L2.St) (F : Hp → Prop) (t : TA) (n : Nat) : Prop :=
  ∀ (H : Hp) (Q : List V → Hp → Prop), F H → (∀ qs H', Same H H' → qs.length = n → PairsX K C S U H' qs → Q qs H') → t σ H Q
section
variable {K : PySem.W.Frag} {C S : Addr} {U : List Int} {σ : L2.St} {F : Hp → Prop} {t1 t2 : TE} {t : TA} {n : Nat}
theorem denlx_nil : DenLX K C S U σ F tNil 0 := fun H Q _ k => k [] H (Same.refl H) rfl fun _ h => (nomatch h)
theorem denlx_S {f g : Int → Option Str} (hF : Stable F) (h1 : DenS S U σ F t1 f) (h2 : DenS S U σ F t2 g) (r : ∀ k, f k = g k) (ht : DenLX K C S U σ F t n) : DenLX K C S U σ F (tCons (tTup (tCons t1 (tCons t2 tNil))) t) (n + 1) := by
  intro H Q hf k
  refine h1 H _ hf fun x H1 es s1 hx ex => h2 H1 _ (hF _ _ s1 hf) fun y H2 fs s2 hy ey => ⟨size_ok (by simp), fun p hp => ?_⟩
  have s3 := same_new hp (o := .tup [.ref x, .ref y])
  refine ht _ _ (hF _ _ s3 (hF _ _ s2 (hF _ _ s1 hf))) fun qs H4 s4 hl hp4 => ?_
  refine k _ H4 (((s1.trans s2).trans s3).trans s4) (by rw [List.length_cons, hl]) fun v hv => ?_
  rcases List.mem_cons.mp hv with rfl | hv
  · exact ⟨p, x, y, rfl, s4 _ _ upd_same, .inl ⟨es, fs, ((hx.same s2).same s3).same s4, (hy.same s3).same s4, fun j => by rw [ex, ey, r]⟩⟩
  · exact hp4 v hv
theorem denlx_D {f g : Int → Option Rw} (hF : Stable F) (h1 : DenD K C U σ F t1 f) (h2 : DenD K C U σ F t2 g) (r : ∀ k, f k = g k) (ht : DenLX K C S U σ F t n) : DenLX K C S U σ F (tCons (tTup (tCons t1 (tCons t2 tNil))) t) (n + 1) := by
  intro H Q hf k
  refine h1 H _ hf fun x H1 es s1 hx ex => h2 H1 _ (hF _ _ s1 hf) fun y H2 fs s2 hy ey => ⟨size_ok (by simp), fun p hp => ?_⟩
  have s3 := same_new hp (o := .tup [.ref x, .ref y])
  refine ht _ _ (hF _ _ s3 (hF _ _ s2 (hF _ _ s1 hf))) fun qs H4 s4 hl hp4 => ?_
  refine k _ H4 (((s1.trans s2).trans s3).trans s4) (by rw [List.length_cons, hl]) fun v hv => ?_
  rcases List.mem_cons.mp hv with rfl | hv
  · exact ⟨p, x, y, rfl, s4 _ _ upd_same, .inr ⟨es, fs, ((hx.same s2).same s3).same s4, (hy.same s3).same s4, fun j => by rw [ex, ey, r]⟩⟩
  · exact hp4 v hv
end

structure DuX (K : PySem.W.Frag) (C S : Addr) (U : List Int) (F0 : Hp → Prop) (H0 : Hp) (D : Addr) (ps : List V) (H : Hp) : Prop where
  vs : F0 H
  here : H D = some (.lst ps)
  pr : PairsX K C S U H ps
  fresh : H0 D = none
  ext : Ext D H0 H
def Chgs (F0 : Hp → Prop) : Prop := ∀ (g : Addr) (ls : List V) (H H' : Hp), H g = some (.lst ls) → Ext g H H' → F0 H → F0 H'
section
variable {K : PySem.W.Frag} {C S : Addr} {U : List Int} {σ : L2.St} {F0 : Hp → Prop} {t : TA} {n : Nat}
theorem DuX.stable (hF : Stable F0) {H0 : Hp} {D : Addr} {ps : List V} : Stable (DuX K C S U F0 H0 D ps) := fun H H' s h =>
  ⟨hF _ _ s h.vs, s _ _ h.here, h.pr.same s, h.fresh, h.ext.trans (Ext.of s)⟩
theorem dux_start (hF : Stable F0) {i : Nat} {D' : Ends} {H : Hp} (ht : DenLX K C S U σ F0 t n) (hn : n ≤ 1000) (h : F0 H)
    (k : ∀ D ps H', ps.length = n → DuX K C S U F0 H D ps H' → D'.nx (σ.set i (some (.ref D))) H') : tAsg (tLst t) (gName i) D' σ H := by
  refine ht H _ h fun qs H1 s1 hl hq => ⟨size_ok (by omega), fun D hD => ?_⟩
  exact k D qs _ hl ⟨hF _ _ (same_new hD) (hF _ _ s1 h), upd_same, hq.same (same_new hD), s1.free hD, fun b o n e => (upd_ne n).trans (s1 _ _ e)⟩
theorem dux_append (hF : Stable F0) (hC : Chgs F0) {H0 : Hp} {D : Addr} {ps : List V} {i : Nat} {D' : Ends} {H : Hp} (hσ : σ[i]? = some (some (.ref D)))
    (ht : DenLX K C S U σ (DuX K C S U F0 H0 D ps) t 1) (hl : ps.length ≤ 1000) (h : DuX K C S U F0 H0 D ps H)
    (k : ∀ qs H', qs.length = ps.length + 1 → DuX K C S U F0 H0 D qs H' → D'.nx σ H') : tDrop (tBM K "list" rAppend (tVar i) t) D' σ H := by
  refine ⟨_, hσ, .inl ⟨rfl, ps, SqL.of h.here⟩, ?_⟩
  refine ht H _ h fun qs H1 s1 hq hp => ?_
  match qs, hq with
  | [y], _ =>
    have h1 := DuX.stable hF H H1 s1 h
    have ex : ∀ o, Ext D H1 (upd H1 D o) := fun o b u nb e => (upd_ne nb).trans e
    refine ⟨D, ps, y, rfl, rfl, h1.here, Nat.lt_of_le_of_lt hl (by decide), ?_⟩
    exact k _ _ (by rw [List.length_append]; rfl) ⟨hC _ _ _ _ h1.here (ex _) h1.vs, upd_same, (h1.pr.app hp).chg h1.here (ex _), h1.fresh, h1.ext.trans (ex _)⟩
theorem dux_cat (hF : Stable F0) {H0 : Hp} {D : Addr} {ps : List V} {i : Nat} {D' : Ends} {H : Hp} (hσ : σ[i]? = some (some (.ref D)))
    (ht : DenLX K C S U σ (DuX K C S U F0 H0 D ps) t n) (hl : ps.length + n ≤ 1000) (h : DuX K C S U F0 H0 D ps H)
    (k : ∀ D2 qs H', qs.length = ps.length + n → DuX K C S U F0 H0 D2 qs H' → D'.nx (σ.set i (some (.ref D2))) H') : tAsg (tOp rCat (tVar i) (tLst t)) (gName i) D' σ H := by
  refine ⟨_, hσ, ?_⟩
  refine ht H _ h fun qs H1 s1 hq hp => ⟨size_ok (by omega), fun p hp2 => ?_⟩
  have h1 := DuX.stable hF H H1 s1 h
  have s2 := same_new hp2 (o := .lst qs)
  have h2 := DuX.stable hF _ _ s2 h1
  refine ⟨D, p, ps, qs, rfl, rfl, h2.here, upd_same, size_ok (by omega), fun D2 hD2 => ?_⟩
  have s3 := same_new hD2 (o := .lst (ps ++ qs))
  have h3 := DuX.stable hF _ _ s3 h2
  have sH : Same H0 (upd (upd H1 p (.lst qs)) D2 (.lst (ps ++ qs))) := fun b o e => h3.ext b o (ne_of_none e h3.fresh) e
  have n2 : H0 D2 = none := by
    cases q : H0 D2 with
    | none => rfl
    | some o =>
      have z := h2.ext D2 o (ne_of_none q h2.fresh) q
      rw [hD2] at z; cases z
  exact k D2 _ _ (by rw [List.length_append, hq]) ⟨h3.vs, upd_same, h3.pr.app ((hp.same s2).same s3), n2, Ext.of sH⟩
end
end My
set_option Elab.async false
set_option maxRecDepth 100000
set_option maxHeartbeats 4000000
set_option linter.unusedVariables false
namespace My
open PySem PySem.Spec PyProof.Rows L2 L2.DX

def VsX (K : PySem.W.Frag) (C S : Addr) (U : List Int) (sv : List (Addr × (Int → Option Str))) (dv : List (Addr × (Int → Option Rw))) (H : Hp) : Prop :=
  (∀ p ∈ sv, ∃ es, FS S U H p.1 es ∧ ∀ k, look es k = p.2 k) ∧ ∀ p ∈ dv, ∃ rs, DD K C U H p.1 rs ∧ ∀ k, lk rs k = p.2 k
section
variable {K : PySem.W.Frag} {C S : Addr} {U : List Int} {sv : List (Addr × (Int → Option Str))} {dv : List (Addr × (Int → Option Rw))}
theorem VsX.stable : Stable (VsX K C S U sv dv) := fun H H' s h =>
  ⟨fun p hp => (by obtain ⟨es, a, b⟩ := h.1 p hp; exact ⟨es, a.same s, b⟩), fun p hp => by obtain ⟨rs, a, b⟩ := h.2 p hp; exact ⟨rs, a.same s, b⟩⟩
theorem VsX.chgs : Chgs (VsX K C S U sv dv) := fun g ls H H' e s h =>
  ⟨fun p hp => (by obtain ⟨es, a, b⟩ := h.1 p hp; exact ⟨es, a.chg e s, b⟩), fun p hp => by obtain ⟨rs, a, b⟩ := h.2 p hp; exact ⟨rs, a.chg e s, b⟩⟩
theorem VsX.s {H : Hp} (h : VsX K C S U sv dv H) {a : Addr} {f : Int → Option Str} (m : (a, f) ∈ sv) : ∃ es, FS S U H a es ∧ ∀ k, look es k = f k := h.1 _ m
theorem VsX.d {H : Hp} (h : VsX K C S U sv dv H) {a : Addr} {f : Int → Option Rw} (m : (a, f) ∈ dv) : ∃ rs, DD K C U H a rs ∧ ∀ k, lk rs k = f k := h.2 _ m
end
theorem vsf_look {es : List (Int × Str)} (h : VS es) : VSf (look es) := fun k x e => h _ (look_mem e)
theorem vsf_forms {rs : List (Int × Rw)} (h : VR rs) : VSf (formsF (lk rs)) := fun k x e => by
  unfold formsF at e
  cases q : lk rs k with
  | none => rw [q] at e; cases e
  | some r =>
    rw [q] at e
    have z := h _ (lk_mem q)
    cases e
    exact ⟨z.1, z.2.1⟩
theorem vsf_or {s t : Int → Option Str} (h : VSf s) (g : VSf t) : VSf (sOr s t) := fun k x e => by
  unfold sOr at e
  cases q : s k with
  | none => rw [q] at e; exact g _ _ e
  | some y => rw [q] at e; cases e; exact h _ _ q
theorem vs_firsts {l : List (Int × Str)} (h : VS l) : VS (firsts l) := by
  unfold firsts
  have main : ∀ (r acc : List (Int × Str)), VS acc → VS r → VS (r.foldl (fun acc p => if has acc p.1 = true then acc else acc ++ [p]) acc) := by
    intro r
    induction r with
    | nil => exact fun acc h _ => h
    | cons p r ih =>
      intro acc ha hr
      refine ih _ ?_ fun q hq => hr q (List.mem_cons_of_mem _ hq)
      show VS (if has acc p.1 = true then acc else acc ++ [p])
      by_cases c : has acc p.1 = true
      · rw [if_pos c]; exact ha
      · rw [if_neg c]
        intro q hq
        rcases List.mem_append.mp hq with hq | hq
        · exact ha q hq
        · rw [List.mem_singleton.mp hq]; exact hr p List.mem_cons_self
  exact main l [] (fun _ h => nomatch h) h
theorem vs_el {K : PySem.W.Frag} {H : Hp} : ∀ {vs : List V} {es : List (Int × Str)}, ElAll K H vs es → VS es
  | _, _, .nil => fun _ h => nomatch h
  | _, _, .cons _ hk hx r => fun p hp => by
    rcases List.mem_cons.mp hp with rfl | hp
    · exact ⟨hk, hx⟩
    · exact vs_el r p hp
section
variable {K : PySem.W.Frag} {H H' : Hp}
theorem EnAll.chg {a : Addr} {ls : List V} (e : H a = some (.lst ls)) (x : Ext a H H') : ∀ {vs : List V} {rs : List (Int × Rw)}, EnAll K H vs rs → EnAll K H' vs rs
  | _, _, .nil => .nil
  | _, _, .cons h ok r => .cons (sqT_chg e x h) ok (EnAll.chg e x r)
theorem EnAll.app {t : Addr} {k n : Int} {x : Str} (h : SqT K H t [.int k, .str x, .int n]) (ok : rowOk (k, (x, n))) : ∀ {vs : List V} {rs : List (Int × Rw)}, EnAll K H vs rs → EnAll K H (vs ++ [.ref t]) (rs ++ [(k, (x, n))])
  | _, _, .nil => .cons h ok .nil
  | _, _, .cons h1 ok1 r => .cons h1 ok1 (EnAll.app h ok r)
theorem vr_en : ∀ {vs : List V} {rs : List (Int × Rw)}, EnAll K H vs rs → VR rs
  | _, _, .nil => fun _ h => nomatch h
  | _, _, .cons _ ok r => fun p hp => by
    rcases List.mem_cons.mp hp with rfl | hp
    · exact ok
    · exact vr_en r p hp
end

theorem pairsX_all {K : PySem.W.Frag} {C S : Addr} {U : List Int} {σ : L2.St} {H : Hp} {D' : Ends} {i j l : Nat} {D : Addr} {qs : List V} {te : TE} (hσ : σ[i]? = some (some (.ref D))) (hD : H D = some (.lst qs)) (hp : PairsX K C S U H qs) (hl : qs.length ≤ 1000)
    (hw : ∀ x y, wipe (((wipe σ [j, l]).set j x).set l y) [j, l] = wipe σ [j, l])
    (hte : ∀ x y H1 (Q : VK), Px K C S U H1 x y → (∀ H2, Same H1 H2 → Q (.bl true) H2) → te (((wipe σ [j, l]).set j (some (.ref x))).set l (some (.ref y))) H1 Q)
    (k : ∀ H', Same H H' → D'.rt (.bl true) H') :
    tRet (tCB (rAll K) (tCons (tLc (iList K (tVar i)) (gTup K 2 (gCons (gName j) (gCons (gName l) gNil))) tYes te [j, l]) tNil)) D' σ H := by
  refine ⟨_, hσ, D, rfl, ⟨qs, SqL.of hD⟩, fun E hE => ?_⟩
  refine lc_list (xs := qs) (fun i H' => Ext E H H' ∧ H' E = some (.lst ((List.replicate i true).map V.bl))) ?_ ?_ ?_ ?_
  · exact ⟨fun b o n e => (upd_ne n).trans e, upd_same⟩
  · rintro i H' hi ⟨x, _⟩
    exact SqL.of (x _ _ (ne_of_none hD hE) hD)
  · rintro i v H' hv ⟨x, hd⟩
    obtain ⟨t, y, z, rfl, h2, h3⟩ := hp v (List.mem_of_getElem? hv)
    refine ⟨t, _, rfl, .inl (.inl (x _ _ (ne_of_none h2 hE) h2)), rfl, _, _, rfl, _, _, rfl, rfl, hw _ _, ?_⟩
    have h4 : Px K C S U H' y z := by
      have fs : ∀ {y es}, FS S U H y es → FS S U H' y es := by
        rintro y es ⟨dx, d, q1, q2, q3⟩
        exact ⟨dx, d, x _ _ (ne_of_none q1 hE) q1, x _ _ (ne_of_none q2 hE) q2, q3⟩
      have dd : ∀ {y rs}, DD K C U H y rs → DD K C U H' y rs := fun {y rs} h => by
        have sH : Same H H' := fun b o e => x b o (ne_of_none e hE) e
        exact h.same sH
      rcases h3 with ⟨es, gs, a1, a2, a3⟩ | ⟨rs, gs, a1, a2, a3⟩
      · exact .inl ⟨es, gs, fs a1, fs a2, a3⟩
      · exact .inr ⟨rs, gs, dd a1, dd a2, a3⟩
    refine hte y z H' _ h4 fun H2 s2 => ?_
    refine ⟨_, s2 _ _ hd, ?_, ?_, upd_same.trans ?_⟩
    · rw [List.length_map, List.length_replicate]
      have := (List.getElem?_eq_some_iff.mp hv).1
      exact small1000 (by omega)
    · exact fun b o n e => (upd_ne n).trans (s2 _ _ (x b o n e))
    · rw [List.replicate_succ', List.map_append]
      rfl
  · rintro H' ⟨x, hd⟩
    refine ⟨E, _, rfl, SqL.of hd, ?_⟩
    rw [allB]
    exact k _ fun b o e => x b o (ne_of_none e hE) e
theorem opt_cases {α : Type} (x : Option α) : x = none ∨ ∃ a, x = some a := by cases x <;> simp

def spDictN (K : PySem.W.Frag) (C : Addr) : Sp := fun vs H Q _ => ∃ (a : Addr) (n m : Nat) (x : Str), vs = [.ref a, .int m, .str x] ∧ Bag H a n ∧ n < 5000 ∧ 1 ≤ m ∧ m ≤ 20 ∧ (x = "p" ∨ x = "q" ∨ x = "r") ∧
  ∀ z rs H', Same (del a H) (del a H') → Bag H' a (n + 100) → DD K C (below m) H' z rs → Q (.ref z) H'
def spSetN (S : Addr) : Sp := fun vs H Q _ => ∃ (a : Addr) (n m : Nat), vs = [.ref a, .int m] ∧ Bag H a n ∧ n < 5000 ∧ 1 ≤ m ∧ m ≤ 20 ∧
  ∀ z es H', Same (del a H) (del a H') → Bag H' a (n + 100) → FS S (below m) H' z es → VS es → Q (.ref z) H'
def spEqs (K : PySem.W.Frag) (C S : Addr) : Sp := fun vs H Q _ => ∃ U d e s ds es ss, vs = [.ref d, .ref e, .ref s] ∧ DD K C U H d ds ∧ DD K C U H e es ∧ FS S U H s ss ∧ VS ss ∧ ∀ H', Same H H' → Q (.bl true) H'
def spMerges (K : PySem.W.Frag) (C : Addr) : Sp := fun vs H Q _ => ∃ U d e f ds es fs, vs = [.ref d, .ref e, .ref f] ∧ DD K C U H d ds ∧ DD K C U H e es ∧ DD K C U H f fs ∧ ∀ H', Same H H' → Q (.bl true) H'
end My
set_option Elab.async false
set_option maxRecDepth 100000
set_option maxHeartbeats 4000000
set_option linter.unusedVariables false
namespace My
open PySem PySem.Spec PyProof.Rows L2 L2.DX

theorem lk_vals (rs : List (Int × Rw)) (k : Int) : lk (valsOf rs) k = (lk rs k).map (·.2) := by
  unfold valsOf
  induction rs with
  | nil => rfl
  | cons p r ih =>
    rw [List.map_cons, lk_cons, lk_cons]
    by_cases e : p.1 = k
    · rw [if_pos e, if_pos e]; rfl
    · rw [if_neg e, if_neg e]; exact ih
theorem valsOf_len (rs : List (Int × Rw)) : (valsOf rs).length = rs.length := List.length_map _
theorem vals_alike {U : List Int} {ds es rb rt : List (Int × Rw)} {ys : List Int} (gb : Gd U rb) (gt : Gd U rt) (hb : ∀ k, lk rb k = over (lk ds k) (lk es k)) (ht : ∀ k, lk rt k = over (lk es k) (lk ds k))
    (hc : ∀ k, k ∈ ys ↔ ((lk ds k).isSome = true ∧ (lk es k).isSome = true)) (F : Int → Bool) (hF : ∀ k r1 r2, lk ds k = some r1 → lk es k = some r2 → (F k = true ↔ r1.2 = r2.2)) :
    sameInts (valsOf rb) (valsOf rt) = ys.all F := by
  have hl : (valsOf rb).length = (valsOf rt).length := by
    rw [valsOf_len, valsOf_len]
    refine len_of_hs gb gt fun k => ?_
    unfold hs
    rw [hb, ht]
    rcases opt_cases (lk ds k) with q1 | ⟨a1, q1⟩ <;> rcases opt_cases (lk es k) with q2 | ⟨a2, q2⟩ <;> simp [q1, q2, over]
  rw [Bool.eq_iff_iff]
  unfold sameInts
  rw [Bool.and_eq_true, List.all_eq_true, List.all_eq_true]
  constructor
  · rintro ⟨_, h⟩ k hk
    obtain ⟨i1, i2⟩ := (hc k).mp hk
    obtain ⟨r1, q1⟩ := Option.isSome_iff_exists.mp i1
    obtain ⟨r2, q2⟩ := Option.isSome_iff_exists.mp i2
    have e1 : lk rb k = some (r1.1, r2.2) := by rw [hb, q1, q2]; rfl
    have e2 : lk rt k = some (r2.1, r1.2) := by rw [ht, q1, q2]; rfl
    have m : (k, r2.2) ∈ valsOf rb := List.mem_map.mpr ⟨_, lk_mem e1, rfl⟩
    have z := h _ m
    have z2 : lk (valsOf rt) k = some r2.2 := by simpa using z
    rw [lk_vals, e2] at z2
    exact (hF k r1 r2 q1 q2).mpr (Option.some.inj z2)
  · intro h
    refine ⟨by rw [hl]; exact beq_self_eq_true _, fun p hp => ?_⟩
    obtain ⟨⟨k, r⟩, hm, rfl⟩ := List.mem_map.mp hp
    have e1 := lk_ents gb.1 hm
    dsimp only at e1
    show (lk (valsOf rt) k == some r.2) = true
    rw [lk_vals, ht]
    rw [hb] at e1
    rcases opt_cases (lk ds k) with q1 | ⟨a1, q1⟩ <;> rcases opt_cases (lk es k) with q2 | ⟨a2, q2⟩
    · rw [q1, q2] at e1; cases e1
    · rw [q1, q2] at e1 ⊢
      cases e1
      exact beq_self_eq_true _
    · rw [q1, q2] at e1 ⊢
      cases e1
      exact beq_self_eq_true _
    · have f := (hF k a1 a2 q1 q2).mp (h k ((hc k).mpr ⟨by rw [q1]; rfl, by rw [q2]; rfl⟩))
      rw [q1, q2] at e1 ⊢
      cases e1
      show (some a1.2 == some a2.2) = true
      rw [f]
      exact beq_self_eq_true _
theorem over_assoc (a b c : Option Rw) : over (over a b) c = over a (over b c) := by
  rcases opt_cases a with rfl | ⟨x, rfl⟩ <;> rcases opt_cases b with rfl | ⟨y, rfl⟩ <;> rcases opt_cases c with rfl | ⟨z, rfl⟩ <;> simp [over, over1]
theorem denD_merge2 {K : PySem.W.Frag} {C : Addr} {U : List Int} {σ : L2.St} {F : Hp → Prop} {ta tb tc : TE} {f g h : Int → Option Rw} (hF : Stable F) (ha : DenD K C U σ F ta f) (hb : DenD K C U σ F tb g) (hc : DenD K C U σ F tc h) :
    DenD K C U σ F (tMethR C "merged" (spStar ["self"] (spMergeAll K C)) E0 ta (tCons tb (tCons tc tNil))) (dOr (dOr f g) h) := by
  intro H Q hf k
  refine ha H _ hf fun x H1 rs s1 hx ex => ?_
  have hx1 := hx
  obtain ⟨dx, d, e1, _⟩ := hx1
  refine ⟨x, _, _, rfl, e1, rfl, hb H1 _ (hF _ _ s1 hf) fun y H2 qs s2 hy ey => hc H2 _ (hF _ _ s2 (hF _ _ s1 hf)) fun z H3 ts s3 hz ez => ?_⟩
  refine ⟨[.ref x], [.ref y, .ref z], rfl, rfl, size_ok (by simp), fun p hp => ?_⟩
  have s4 := same_new hp (o := .tup [.ref y, .ref z])
  refine ⟨U, x, p, rs, [.ref y, .ref z], [qs, ts], rfl, ((hx.same s2).same s3).same s4, .inl (.inl upd_same), .cons ((hy.same s3).same s4) (.cons (hz.same s4) .nil), fun d H5 s5 hd => ?_⟩
  refine k d H5 _ ((((s1.trans s2).trans s3).trans s4).trans s5) hd fun j => ?_
  have n1 : (ks qs).Nodup := by obtain ⟨_, _, _, ⟨_, _, _, g⟩, _⟩ := hy; exact g.1
  have n2 : (ks ts).Nodup := by obtain ⟨_, _, _, ⟨_, _, _, g⟩, _⟩ := hz; exact g.1
  rw [lk_mergedL [qs, ts] rs j fun l hl => (by
    simp only [List.mem_cons, List.not_mem_nil, or_false] at hl
    rcases hl with rfl | rfl
    · exact n1
    · exact n2)]
  show over (over (lk rs j) (lk qs j)) (lk ts j) = _
  rw [ex, ey, ez]; rfl
theorem TupS.at {H : Hp} : ∀ {vs : List V} {es : List (Int × Str)} {i : Nat} {v : V}, TupS H vs es → vs[i]? = some v → ∃ t k x, v = .ref t ∧ es[i]? = some (k, x) ∧ H t = some (.tup [.int k, .str x])
  | _, _, i, v, .nil, h => by simp at h
  | _, _, 0, v, .cons h1 r, h => by
    cases Option.some.inj h
    exact ⟨_, _, _, rfl, rfl, h1⟩
  | _, _, i + 1, v, .cons h1 r, h => r.at (i := i) (v := v) (by simpa using h)
theorem TupS.len {H : Hp} : ∀ {vs : List V} {es : List (Int × Str)}, TupS H vs es → vs.length = es.length
  | _, _, .nil => rfl
  | _, _, .cons _ r => by rw [List.length_cons, List.length_cons, r.len]

def sameVal (f g : Int → Option Rw) (k : Int) : Bool := decide ((f k).map (·.2) = (g k).map (·.2))
theorem sameVal_iff {f g : Int → Option Rw} {k : Int} {a b : Rw} (h1 : f k = some a) (h2 : g k = some b) : sameVal f g k = true ↔ a.2 = b.2 := by
  unfold sameVal
  rw [h1, h2, decide_eq_true_iff]
  exact ⟨fun h => Option.some.inj h, fun h => by show some a.2 = some b.2; rw [h]⟩
theorem sameVal_dec {f g : Int → Option Rw} {k : Int} {a b : Rw} (h1 : f k = some a) (h2 : g k = some b) : decide (V.int a.2 = V.int b.2) = sameVal f g k := by
  rw [Bool.eq_iff_iff, sameVal_iff h1 h2, decide_eq_true_iff]
  exact ⟨fun h => by injection h, fun h => by rw [h]⟩
theorem DDs.three {K : PySem.W.Frag} {C : Addr} {U : List Int} {H : Hp} {vs : List V} {ls : List (List (Int × Rw))} (h : DDs K C U H vs ls) (hl : vs.length = 3) :
    ∃ a b c es fs gs, vs = [.ref a, .ref b, .ref c] ∧ DD K C U H a es ∧ DD K C U H b fs ∧ DD K C U H c gs := by
  cases h with
  | nil => cases hl
  | cons h1 r =>
    cases r with
    | nil => cases hl
    | cons h2 r =>
      cases r with
      | nil => cases hl
      | cons h3 r =>
        cases r with
        | nil => exact ⟨_, _, _, _, _, _, rfl, h1, h2, h3⟩
        | cons h4 r =>
          rw [List.length_cons, List.length_cons, List.length_cons, List.length_cons] at hl
          omega
end My
set_option Elab.async false
set_option maxRecDepth 100000
set_option maxHeartbeats 4000000
set_option linter.unusedVariables false

namespace My
open PySem PySem.F
theorem keyStore : StoreFacts "KeyError" [.type "KeyError", .type "LookupError", .type "Exception", .type "BaseException", .type "object"] "object.__setattr__" "object" where
  mro := by kernel_rfl
  slot := .of (owner := "object") (n := "__setattr__") (by rw [typeLookup_type, builtinLookup_eq_fast]; kernel_rfl) (by decide +kernel) (by decide +kernel) (by decide +kernel)
    (by first | exact .inl (by decide +kernel) | exact .inr (by decide +kernel)) (by rw [isSubtype_type]; kernel_rfl)
  entry := entry_object_sa
  kind := by decide +kernel
  split := by decide +kernel
  hasOwner := by decide +kernel
  args := fun a b c => by unfold argsOk; kernel_rfl
  passes := fun self => by kernel_rfl
end My
namespace My
open PySem PySem.HandSPX
open Builtin Builtin.ObjectAttr

section
variable {M : Model} {A : Around} {E : Value → Shared → Prop} {h : Heap} {g : Array GenState} {d : Drawn} {t : Nat} {os : OsState}
variable {nm q : Str} {C N : Addr} {bs bm bmB : List Value} {hdct : Bool} {sn : List Str} {sub : List Value} {ab : Bool} {col : Option Bool} {dd : Option Addr} {k0 k1 k2 k3 k5 : Option Value} {B newId initId : String}
theorem checkNewX (F : ExcBaseFacts B newId initId bmB) (hB : bm.contains (.type B) = true) {rest : List Value} {Q : Unit → Shared → Prop}
    (hC : h.get? C = some (excClassObj nm q C N bs bm hdct sn sub ab col dd k0 k1 k2 k3 k5 newId)) (hq : Q () ⟨h, g, d, t, os⟩) : wpAny M A (checkBuiltinCall newId ⟨.ref C :: rest, []⟩) Q E ⟨h, g, d, t, os⟩ := by
  have hcont : (Value.ref C :: bm).contains (.type B) = true := by rw [List.contains_cons, hB, Bool.or_true]
  have hstar := F.noStar
  simp only [checkBuiltinCall, F.newKind, F.newSplit, F.newRow]
  repeat (first | refine wpAny_loadPart_at hC ?_ | (refine wpAny_isSubtype_exc hC ?_; rw [hcont]) | refine wpAny_staticBase_exc hC ?_ | refine wpAny_madeBy_exc hC ?_ | simp only [bne_self_eq_false, Bool.false_eq_true, if_false] | wp_step)
  exact hq
end
section
variable {prog : Program} {w : World} {A : Around} {E : Value → Shared → Prop} {R : Result → Shared → Prop} {h : Heap} {g : Array GenState} {d : Drawn} {t : Nat} {os : OsState}
variable {nm q : Str} {C N : Addr} {bs bm bmB : List Value} {hdct : Bool} {sn : List Str} {sub : List Value} {ab : Bool} {col : Option Bool} {dd : Option Addr} {k0 k1 k2 k3 k5 : Option Value} {B newId initId : String}
theorem newX (F : ExcBaseFacts B newId initId bmB) (hB : bm.contains (.type B) = true) (hA : bm.contains (.type "AttributeError") = false) (hN : bm.contains (.type "NameError") = false) {rest : List Value}
    (hC : h.get? C = some (excClassObj nm q C N bs bm hdct sn sub ab col dd k0 k1 k2 k3 k5 newId))
    (hq : R (.ok (.ret (.ref (h.objs.size + 1)))) ⟨(h.push { cls := .type "tuple", data := .seq rest.toArray }).push
      { cls := .ref C, data := .fields #[.ref h.objs.size, .none, .none, .none, .bool false, .none] }, g, d, t, os⟩) (hrest : rest.length ≤ sizeLine) :
    codeAny (model prog w) A (.builtin newId ⟨.ref C :: rest, []⟩) R ⟨h, g, d, t, os⟩ := by
  have hends := F.ends
  have hcB : (Value.ref C :: bm).contains (.type B) = true := by rw [List.contains_cons, hB, Bool.or_true]
  have hcA : (Value.ref C :: bm).contains (.type "AttributeError") = false := by rw [List.contains_cons, hA]; rfl
  have hcN : (Value.ref C :: bm).contains (.type "NameError") = false := by rw [List.contains_cons, hN]; rfl
  refine codeAny_builtinAt F.entry ?_
  unfold Builtin.«BaseException.__new__»
  refine wpAt_bind ?_
  show wpAt _ _ _ (stack >>= _) _ _ _
  refine wpAt_bind (wpAt_stack fun p below => wpAt_of_wpAny ?_)
  wp_walk
  refine wpAt_of_wpAny ?_
  rw [F.owner]
  repeat (first | with_reducible refine wpAny_madeHere_exc F.canon hC ?_ | with_reducible refine wpAny_loadPart_at hC ?_ | (with_reducible refine wpAny_isSubtype_exc hC ?_; first | rw [hcB] | rw [hcA] | rw [hcN]) | wp_step)
  show R _ _
  rw [Heap.size_push]
  exact hq
theorem typeCallX (F : ExcBaseFacts B newId initId bmB) (hB : bm.contains (.type B) = true) (hA : bm.contains (.type "AttributeError") = false) (hN : bm.contains (.type "NameError") = false) {rest : List Value} {fI : Addr} {Q : Fin → Shared → Prop}
    (hC : h.get? C = some (excClassObj nm q C N bs bm hdct sn sub ab col dd k0 k1 k2 k3 k5 newId))
    (hi : W.Looks (model prog w) h (typeLookup (.ref C) "__init__") (some (.ref fI))) (hb : ∀ self, W.Looks (model prog w) h (bindSpecial (.ref fI) self) (.ref fI, [self])) (hrest : rest.length ≤ sizeLine)
    (hq : codeAny (model prog w) A (.call (.ref fI) ⟨.ref (h.objs.size + 1) :: rest, []⟩)
      (fun r s' => match r with | .ok (.ret v) => v = .none ∧ Q (.done (.ret (.ref (h.objs.size + 1)))) s' | .ok _ => False | .error e => E e s')
      ⟨(h.push (W.kdv_tup rest)).push (excO C h.objs.size), g, d, t, os⟩) :
    wpAny (model prog w) A (Builtin.«type.__call__» ⟨.ref C :: rest, []⟩) Q E ⟨h, g, d, t, os⟩ := by
  repeat (first | with_reducible refine wpAny_loadPart_at hC ?_ | with_reducible refine wpAny_madeBy_exc hC ?_ | wp_step)
  refine codeAny_call_builtin_code (Code.quiet_builtin _ F.quiet) (checkNewX F hB hC ?_)
  refine newX F hB hA hN hC ?_ hrest
  show wpAny _ _ _ _ _ _
  have k : ∀ b o, h.get? b = some o → ((h.push (W.kdv_tup rest)).push (excO C h.objs.size)).get? b = some o := fun b o e => Heap.get?_push_of_some _ (Heap.get?_push_of_some _ e)
  have hC₁ := k _ _ hC
  have hget : ((h.push (W.kdv_tup rest)).push (excO C h.objs.size)).get? (h.objs.size + 1) = some (excO C h.objs.size) := by heap_get
  have hcC : (Value.ref C :: bm).contains (.ref C) = true := by simp
  have i1 := hi.keeps k
  have b1 := (hb (.ref (h.objs.size + 1))).keeps k
  unfold isInstance
  repeat (first | with_reducible refine wpAny_loadPart_at hget ?_ | (with_reducible refine wpAny_isSubtype_exc hC₁ ?_; rw [hcC]) | wp_step)
  show wpAny _ _ (typeLookup (.ref C) _) _ _ _
  refine i1.at ?_
  refine wpAny_holding (wpAny_bind (b1.at ?_))
  refine wpAny_bind (wpAny_call (codeAny_mono hq fun r s' z => ?_))
  rcases r with e | (v | _ | _ | _) <;> first | exact z | exact z.elim | skip
  obtain ⟨rfl, z⟩ := z
  first
    | exact wpAny_pure (wpAny_pure z)
    | (wp_walk; exact z)
theorem callX (F : ExcBaseFacts B newId initId bmB) (hB : bm.contains (.type B) = true) (hA : bm.contains (.type "AttributeError") = false) (hN : bm.contains (.type "NameError") = false) {rest : List Value} {fI : Addr}
    (hC : h.get? C = some (excClassObj nm q C N bs bm hdct sn sub ab col dd k0 k1 k2 k3 k5 newId))
    (hi : W.Looks (model prog w) h (typeLookup (.ref C) "__init__") (some (.ref fI))) (hb : ∀ self, W.Looks (model prog w) h (bindSpecial (.ref fI) self) (.ref fI, [self])) (hrest : rest.length ≤ sizeLine)
    (hq : codeAny (model prog w) (A.under (.builtin "type.__call__" ⟨.ref C :: rest, []⟩)) (.call (.ref fI) ⟨.ref (h.objs.size + 1) :: rest, []⟩) (W.InitBack (h.objs.size + 1) R)
      ⟨(h.push (W.kdv_tup rest)).push (excO C h.objs.size), g, d, t, os⟩) :
    codeAny (model prog w) A (.call (.ref C) ⟨rest, []⟩) R ⟨h, g, d, t, os⟩ := by
  have f1 := tc_lookup
  have f2 := tc_bind (.ref C)
  have hTy : (⟨h, g, d, t, os⟩ : Shared).TypeIs (.ref C) "type" := ⟨_, hC, rfl⟩
  refine codeAny_of_tree ?_
  show wpAny _ _ (callAny (.ref C) _) _ _ _
  repeat (any_goals (first | assumption | with_reducible refine wpAny_loadPart_at hC ?_ | wp_step))
  refine ⟨rfl, ?_⟩
  refine codeAny_call_builtin_at (Code.quiet_builtin _ (by decide +kernel)) entry_typeCall (wpAny_check_type_call_sub hC (typeCallX F hB hA hN hC hi hb hrest ?_))
  refine codeAny_mono hq fun r s' z => ?_
  rcases r with e | (v | _ | _ | _) <;> exact z
end
end My
namespace My
open PySem PySem.W PySem.Calls PyProof.Rows PySem.HandSPX

section
open Builtin Builtin.ObjectAttr
variable {prog : Program} {w : World} {A : Around} {E : Value → Shared → Prop} {R : Result → Shared → Prop} {hp : Heap} {g : Array GenState} {d : Drawn} {t : Nat} {os : OsState}

structure Stores (mro : List Value) : Prop where
  ne : mro.isEmpty = false
  obj : mro.contains (.type "object") = true
  pass : ∀ self, refuseLoop self "__setattr__" mro = pure ()
theorem storeX_first {K : W.Frag} {name : Str} {tk : Tok} {v : Value} {x C : Addr} {fv : Array Value} {cd : ClassData}
    (X : K.In hp) (hx : hp.get? x = some { cls := .ref C, data := .fields fv }) (hcd : W.clsIn K C = some cd) (hm : Stores cd.mro) (hh : cd.hasDict = true) (ha : W.findIn K (.ref C) name = some none)
    (hq : ∀ h' tk' dx, (∀ b o, b ≠ x → hp.get? b = some o → h'.get? b = some o) → hp.objs.size ≤ dx → dx ≠ x → h'.get? x = some { cls := .ref C, dict := some dx, data := .fields fv } →
      h'.Ns1 dx (fun y => if y = name then some v else none) → R (.ok (.ret .none)) ⟨h', g, d, tk', os⟩) :
    codeAny (model prog w) A (.call (.builtin "object.__setattr__") ⟨[.ref x, .str name tk, v], []⟩) R ⟨hp, g, d, t, os⟩ := by
  have I : W.InstAt hp x { cls := .ref C, data := .fields fv } C none := ⟨hx, rfl, rfl, trivial⟩
  have SF := F.store_object
  have hxs : x ≠ hp.objs.size := Nat.ne_of_lt (Heap.lt_size hx)
  have sub : W.Looks (model prog w) hp (isInstance (.ref x) (.type "object")) true := I.type.andThen (W.looks_mroIn X (by unfold W.mroIn; rw [hcd, Option.bind_some, if_neg (by rw [hm.ne]; decide), hm.obj]))
  refine codeAny_call_builtin SF.slot.plain SF.entry (@W.check_slot (model prog w) _ _ ⟨hp, g, d, t, os⟩ "object.__setattr__" "object" "__setattr__" (.ref x) [.str name tk, v] [] _ SF.kind SF.split sub (SF.args (.ref x) (.str name tk) v) ?_)
  have hmr : W.Looks (model prog w) hp (mroOf (.ref C)) cd.mro := (W.looks_clsIn X hcd).andThen .now
  have L3 : W.Looks (model prog w) hp (storeTaker? none) none := .now
  have hcls : W.Looks (model prog w) hp (classData C) cd := W.looks_clsIn X hcd
  rw [W.osa_eq, refuse_eq]
  refine wpAny_bind (wpAny_bind (I.type.at (wpAny_bind (hmr.at ?_))))
  rw [hm.pass]
  refine wpAny_pure (wpAny_bind (I.type.at (wpAny_bind ((W.looks_findIn X ha).at (wpAny_bind (L3.at ?_))))))
  show wpAny _ _ (storeInOwnDict (.ref x) (.ref C) (.str name tk) name v false) _ _ _
  obtain ⟨nm, bs, mro, ns, qn, hd, sn, sb, ab, col, del⟩ := cd
  dsimp only at hh
  subst hh
  unfold storeInOwnDict ownDictForStores
  repeat (first | with_reducible refine store_in_new ?_ ?_ | with_reducible refine wpAny_loadPart_at hx ?_ | with_reducible refine hcls.at ?_ | wp_step)
  · exact ⟨_, #[], _, (Heap.get?_update_ne _ _ _ _ hxs.symm).trans (Heap.get?_push_at rfl rfl), rfl, fun e he => absurd he (by simp), fun _ => rfl⟩
  · intro h' tk' hn' hs
    have hx₁ : (hp.push { cls := .type "dict", data := .dict #[] }).get? x = some { cls := .ref C, data := .fields fv } := Heap.get?_push_of_some _ hx
    refine hq h' tk' hp.objs.size (fun b o hb ho => ?_) (Nat.le_refl _) hxs.symm ?_ hn'
    · exact (hs.2 b (Nat.ne_of_lt (Heap.lt_size ho))).trans ((Heap.get?_update_ne _ _ _ _ hb).trans (Heap.get?_push_of_some _ ho))
    · exact (hs.2 x hxs).trans (Heap.get?_update_self _ hx₁ rfl)
theorem storeX_more {K : W.Frag} {name : Str} {tk : Tok} {v : Value} {x C dx : Addr} {fv : Array Value} {cd : ClassData} {m0 : Str → Option Value} {nl : List Str}
    (X : K.In hp) (hx : hp.get? x = some { cls := .ref C, dict := some dx, data := .fields fv }) (hns : hp.Ns1 dx m0) (hw : Within m0 nl) (hz : nl.length ≤ 1000) (hcd : W.clsIn K C = some cd) (hm : Stores cd.mro) (hh : cd.hasDict = true)
    (ha : W.findIn K (.ref C) name = some none)
    (hq : ∀ h' tk', (∀ b o, b ≠ dx → hp.get? b = some o → h'.get? b = some o) → h'.Ns1 dx (fun y => if y = name then some v else m0 y) → R (.ok (.ret .none)) ⟨h', g, d, tk', os⟩) :
    codeAny (model prog w) A (.call (.builtin "object.__setattr__") ⟨[.ref x, .str name tk, v], []⟩) R ⟨hp, g, d, t, os⟩ := by
  obtain ⟨oD, esD, epD, hoD, hdD, _⟩ := hns.count hw
  have I : W.InstAt hp x { cls := .ref C, dict := some dx, data := .fields fv } C (some oD) := ⟨hx, rfl, rfl, hoD⟩
  have SF := F.store_object
  have sub : W.Looks (model prog w) hp (isInstance (.ref x) (.type "object")) true := I.type.andThen (W.looks_mroIn X (by unfold W.mroIn; rw [hcd, Option.bind_some, if_neg (by rw [hm.ne]; decide), hm.obj]))
  refine codeAny_call_builtin SF.slot.plain SF.entry (@W.check_slot (model prog w) _ _ ⟨hp, g, d, t, os⟩ "object.__setattr__" "object" "__setattr__" (.ref x) [.str name tk, v] [] _ SF.kind SF.split sub (SF.args (.ref x) (.str name tk) v) ?_)
  have hmr : W.Looks (model prog w) hp (mroOf (.ref C)) cd.mro := (W.looks_clsIn X hcd).andThen .now
  have L3 : W.Looks (model prog w) hp (storeTaker? none) none := .now
  have hcls : W.Looks (model prog w) hp (classData C) cd := W.looks_clsIn X hcd
  rw [W.osa_eq, refuse_eq]
  refine wpAny_bind (wpAny_bind (I.type.at (wpAny_bind (hmr.at ?_))))
  rw [hm.pass]
  refine wpAny_pure (wpAny_bind (I.type.at (wpAny_bind ((W.looks_findIn X ha).at (wpAny_bind (L3.at ?_))))))
  show wpAny _ _ (storeInOwnDict (.ref x) (.ref C) (.str name tk) name v false) _ _ _
  obtain ⟨nm, bs, mro, ns, qn, hd, sn, sb, ab, col, del⟩ := cd
  dsimp only at hh
  subst hh
  unfold storeInOwnDict ownDictForStores
  repeat (first | with_reducible refine PySem.OEX.store_in_old hns hw hz ?_ | with_reducible refine wpAny_loadPart_at hx ?_ | with_reducible refine hcls.at ?_ | wp_step)
  intro h' tk' hn' hs
  exact hq h' tk' (fun b o hb ho => (hs.2 b hb).trans ho) hn'
end
end My
set_option Elab.async false
set_option maxRecDepth 100000
set_option maxHeartbeats 4000000
set_option linter.unusedVariables false
namespace My
open PySem PySem.Spec PyProof.Rows L2

structure OwnX (K : PySem.W.Frag) (C : Addr) : Prop where
  cls : ∃ nm q N bs bm sn sub ab col dd k0 k1 k2 k3 k5 B newId initId bmB, K.lookup C = some (excClassObj nm q C N bs bm true sn sub ab col dd k0 k1 k2 k3 k5 newId) ∧ ExcBaseFacts B newId initId bmB ∧
    bm.contains (.type B) = true ∧ bm.contains (.type "AttributeError") = false ∧ bm.contains (.type "NameError") = false ∧ Stores (.ref C :: bm)
  sa : PySem.W.findIn K (.ref C) "__setattr__" = some (some (.builtin "object.__setattr__"))
  exC : PySem.W.subIn K (.ref C) (.type "BaseException") = some true
  tyC : PySem.W.typeIn K (.ref C) = some (.type "type")
  kC : PySem.W.keepIn K (.ref C) = true
section
variable {X : Cx} {pins : List (Addr × Obj)} {σ : L2.St} {H : Hp} {s : Shared} {a C dx : Addr} {f : Str} {y : V} {u : Value} {fs : List (Str × V)} {Q : Unit → Shared → Prop} {E : Value → Shared → Prop} {A : Around}

theorem putX_first (T : OwnX X.K C) (I : Inv X pins σ H s) (e : H a = some (exo a C none)) (hno : PySem.W.findIn X.K (.ref C) f = some none) (ry : RelV y u)
    (h : ∀ dx s', H dx = none → dx ≠ a → Inv X pins σ (upd (upd H dx (exd dx [(f, y)])) a (exo a C (some dx))) s' → Q () s') : wpAny (model X.prog X.w) A (setAttr (.ref a) f u) Q E s := by
  obtain ⟨nm, q, N, bs, bm, sn, sub, ab, col, dd, k0, k1, k2, k3, k5, B, newId, initId, bmB, hC, _, _, _, _, hst⟩ := T.cls
  have hcl : PySem.W.clsIn X.K C = some { name := nm, bases := bs, mro := .ref C :: bm, ns := N, qualname := q, hasDict := true, slotNames := sn, subclasses := sub, abstract := ab, collection := col, hasDel := false } := by unfold PySem.W.clsIn; rw [hC] <;> rfl
  obtain ⟨t1, ho⟩ := exo_at I.hok e
  obtain ⟨hp, g, d, t, os⟩ := s
  refine PySem.W.set_plain I.kIn (ox := { cls := .ref C, dict := none, data := .fields #[.ref t1, .none, .none, .none, .bool false, .none] }) (od := none) ⟨ho, rfl, rfl, trivial⟩ T.sa ?_
  refine storeX_first I.kIn ho hcl hst rfl hno (fun h' tk' dx k dn dne hx hn => ?_)
  have hnd : H dx = none := I.hok.fresh dn
  have nd : ∀ {b : Addr} {o : Obj}, hp.get? b = some o → b ≠ dx := fun {b o} q => Nat.ne_of_lt (Nat.lt_of_lt_of_le (Heap.lt_size q) dn)
  have na : ∀ {b : Addr}, H b = none → b ≠ a := fun {b} n z => by
    rw [z, e] at n
    cases n
  have Un1 : Un X.fs [] H (upd (upd H dx (exd dx [(f, y)])) a (exo a C (some dx))) hp h' := {
    keep := fun b o q n _ _ => k b o (na n) q
    slot := fun b o q n _ _ => ⟨o.slots, k b o (na n) q⟩
    free := fun b o q n _ => by rw [upd_ne (na n), upd_ne (nd q)]; exact n
    there := fun b o q _ => by
      by_cases hb : b = a
      · exact ⟨_, by rw [hb]; exact hx⟩
      · exact ⟨o, k b o hb q⟩
    tups := fun b xs q => by rw [upd_ne (at_ne e q exo_tup), upd_ne (ne_of_none q hnd)]; exact q
    frzs := fun b o v q => by rw [upd_ne (at_ne e q exo_frz), upd_ne (ne_of_none q hnd)]; exact q
    tbls := fun b ps q => ⟨#[], by rw [upd_ne (at_ne e q exo_tbl), upd_ne (ne_of_none q hnd), q]; simp⟩ }
  refine h dx _ hnd dne (I.un (t' := tk') Un1 fun b o q => ?_)
  by_cases hb : b = a
  · subst hb
    rw [upd_same] at q
    cases q
    exact exo_ok hx
  · rw [upd_ne hb] at q
    by_cases hd : b = dx
    · subst hd
      rw [upd_same] at q
      cases q
      exact exd_ok hn (relO_put (fs := []) ry fun g => True.intro)
    · rw [upd_ne hd] at q
      exact (I.hok b o q).stay (fun c v hc z => k c v (by
          rcases hc with hc | hc
          · rw [hc]
            exact hb
          · exact at_ne e hc exo_own) z)
        (fun c hc => by rw [upd_ne (at_ne e hc exo_own), upd_ne (ne_of_none hc hnd)]; exact hc) (fun c xs hc => by rw [upd_ne (at_ne e hc exo_tup), upd_ne (ne_of_none hc hnd)]; exact hc)

theorem putX_more (T : OwnX X.K C) (I : Inv X pins σ H s) (e : H a = some (exo a C (some dx))) (ed : H dx = some (exd dx fs)) (hl : fs.length ≤ 900) (hno : PySem.W.findIn X.K (.ref C) f = some none) (ry : RelV y u)
    (h : ∀ s', Inv X pins σ (upd H dx (exd dx ((f, y) :: fs))) s' → Q () s') : wpAny (model X.prog X.w) A (setAttr (.ref a) f u) Q E s := by
  obtain ⟨nm, q, N, bs, bm, sn, sub, ab, col, dd, k0, k1, k2, k3, k5, B, newId, initId, bmB, hC, _, _, _, _, hst⟩ := T.cls
  have hcl : PySem.W.clsIn X.K C = some { name := nm, bases := bs, mro := .ref C :: bm, ns := N, qualname := q, hasDict := true, slotNames := sn, subclasses := sub, abstract := ab, collection := col, hasDel := false } := by unfold PySem.W.clsIn; rw [hC] <;> rfl
  obtain ⟨t1, ho⟩ := exo_at I.hok e
  obtain ⟨mA, hns, rel⟩ := exd_at I.hok ed
  have hw := within_of rel
  obtain ⟨hp, g, d, t, os⟩ := s
  obtain ⟨oD, _, _, hoD, _, _⟩ := hns.count hw
  refine PySem.W.set_plain I.kIn (ox := { cls := .ref C, dict := some dx, data := .fields #[.ref t1, .none, .none, .none, .bool false, .none] }) (od := some oD) ⟨ho, rfl, rfl, hoD⟩ T.sa ?_
  refine storeX_more I.kIn ho hns hw (by rw [List.length_map]; omega) hcl hst rfl hno (fun h' tk' k hn => ?_)
  have hd : ∃ o, h'.get? dx = some o := by
    obtain ⟨o, _, _, e', _⟩ := hn
    exact ⟨o, e'⟩
  exact h _ (I.write (t' := tk') (x := dx) (e := dx) (o := exd dx ((f, y) :: fs)) (by rw [ed]; exact True.intro) (.inl rfl) k hd (exd_ok hn (relO_put ry rel)))
end

def tPutX (K : PySem.W.Frag) (f : Str) (to te : TE) : TS := fun D σ H => te σ H fun y H1 => to σ H1 fun x H2 => ∃ a C : Addr, x = .ref a ∧ OwnX K C ∧ PySem.W.findIn K (.ref C) f = some none ∧
  ((H2 a = some (exo a C none) ∧ ∀ dx, H2 dx = none → dx ≠ a → D.nx σ (upd (upd H2 dx (exd dx [(f, y)])) a (exo a C (some dx)))) ∨
    ∃ (dx : Addr) (fs : List (Str × V)), H2 a = some (exo a C (some dx)) ∧ H2 dx = some (exd dx fs) ∧ fs.length ≤ 900 ∧ D.nx σ (upd H2 dx (exd dx ((f, y) :: fs))))
section
variable {X : Cx} {C fI : Addr} {k : Nat} {fd : FuncData} {ps : List Str} {sp : Sp} {ds : List Value} {dvs : List V} {o e : Expr} {es : List Expr} {to te : TE} {ta : TA} {f x : Str} {p p' p1 p2 pos : Pos}
theorem ps_putX (ho : PE X o to) (he : PE X e te) (hs : swapsWith e (some (.Attribute o f p')) pos.line X.env = pure false := by rfl) : PS X (.Assign [.Attribute o f p'] e pos) (tPutX X.K f to te) := by
  refine ⟨fun pins s σ H D I h => ?_⟩
  refine plainObj_wpAny_Assign_Attribute (thn (he.run pins s σ H _ I h) fun v s1 ⟨y, H1, I1, r1, q1⟩ => thn (ho.run pins s1 σ H1 _ I1 q1) fun u s2 ⟨x, H2, I2, r2, a, C, ex, T, hno, q⟩ => ?_) hs
  subst ex
  obtain rfl : u = Value.ref a := r2
  rcases q with ⟨ea, q⟩ | ⟨dx, fs, ea, ed, hl, q⟩
  · exact putX_first T I2 ea hno r1 fun dx s' n ne J => ⟨σ, _, J, q dx n ne⟩
  · exact putX_more T I2 ea ed hl hno r1 fun s' J => ⟨σ, _, J, q⟩

theorem pmkX {CX : CXT} (T : OwnX X.K C) (iC : PySem.W.findIn X.K (.ref C) "__init__" = some (some (.ref fI))) (tI : PySem.W.typeIn X.K (.ref fI) = some (.type "function"))
    (F1 : FnOk X.prog X.w X.K X.mg X.base CX k fI fd ps sp) (hr : Room (k + 1) X.A) (hb : Binds X.K fd ps ds) (hd : Vals dvs ds) (hx : Passes CX X (fun _ _ _ => False)) (hg : Gl X x) (hm : X.mg x = some (.ref C)) (ha : PA X (e :: es) ta)
    (hdb : (x == ("__debug__" : Str)) = false := by decide) (he : starEach (e :: es) X.env = (false, eval e X.env) :: starEach es X.env := by rfl) (hpl : (backTo pos (starEach es X.env)).any (·.1) = false := by rfl) :
    PMk X (.Call (.Name x p) (e :: es) [] pos) (tMkO C sp dvs ta) := by
  intro pins s σ H Q I h
  obtain ⟨nm, q, N, bs, bm, sn, sub, ab, col, dd, k0, k1, k2, k3, k5, B, newId, initId, bmB, hC, FB, hB, hA, hN, hst⟩ := T.cls
  refine wpAny_Call_Name_kw (ld_glob I hg hm ?_ hdb)
  refine PySem.W.callWith_K (h₀ := X.base) I.ok.mod.kin T.kC (thn (ha.run pos pins s σ H _ I h) fun us s1 ⟨vs, H1, I1, r1, hz, q1⟩ => ⟨I1.kIn, ?_⟩) he hpl
  show wpAny _ _ (call (.ref C) us) _ _ _
  obtain ⟨hp, g, dr, tk, os⟩ := s1
  have hsz : hp.objs.size ≤ hp.objs.size + 1 := Nat.le_succ _
  have hn : H1 (hp.objs.size + 1) = none := I1.hok.fresh hsz
  have hq := q1 (hp.objs.size + 1) hn
  have kk : ∀ b o, hp.get? b = some o → ((hp.push (PySem.W.kdv_tup us)).push (PySem.HandSPX.excO C hp.objs.size)).get? b = some o := fun b o e => Heap.get?_push_of_some _ (Heap.get?_push_of_some _ e)
  have hget : ((hp.push (PySem.W.kdv_tup us)).push (PySem.HandSPX.excO C hp.objs.size)).get? (hp.objs.size + 1) = some (PySem.HandSPX.excO C hp.objs.size) := by heap_get
  have I2 : Inv X pins σ (upd H1 (hp.objs.size + 1) (exo (hp.objs.size + 1) C none)) ⟨(hp.push (PySem.W.kdv_tup us)).push (PySem.HandSPX.excO C hp.objs.size), g, dr, tk, os⟩ :=
    I1.laid (t' := tk) (a := hp.objs.size + 1) (o := exo (hp.objs.size + 1) C none) (h' := (hp.push (PySem.W.kdv_tup us)).push (PySem.HandSPX.excO C hp.objs.size)) kk hsz (exo_ok hget)
  have r2 : Vals (V.ref (hp.objs.size + 1) :: (vs ++ dvs)) (Value.ref (hp.objs.size + 1) :: (us ++ ds)) := .cons rfl (r1.append hd)
  have hl : (Value.ref (hp.objs.size + 1) :: us ++ ds).length = ps.length := by
    have e := r2.length
    rw [F1.len _ _ _ _ hq] at e
    exact e.symm
  have hus : us.length ≤ sizeLine := by
    rw [← Paired.length r1, sizeLine_eq]
    omega
  refine wpAny_call (callX FB hB hA hN (I1.kIn _ _ hC) (PySem.W.looks_findIn I1.kIn iC) (fun self => PySem.W.bind_fn I1.kIn self tI) hus
    (codeAny_mono (F1.run _ X.stack _ _ ⟨Value.ref (hp.objs.size + 1) :: us, []⟩ (Value.ref (hp.objs.size + 1) :: (us ++ ds)) _ _ (fun _ _ _ => False) (hr.make C us []) (I2.env0.make C us []) (hb _ (Value.ref (hp.objs.size + 1) :: us) I2.kIn hl) r2 hq) fun r s' hq' => ?_))
  cases r with
  | error er => exact hx pins σ _ _ er s' I2 hq'
  | ok fl =>
    cases fl with
    | ret u =>
      obtain ⟨v, H2, os2, bare2, un2, hok2, rv, ev, d, fs, ea, ed, hd1, q2⟩ := hq'
      subst ev
      obtain ⟨h2, g2, d2, t2, os'⟩ := s'
      exact ⟨rv, mk_end (raises_own T.exC T.tyC) I1 hsz kk un2 hok2 os2 bare2 ea ed hd1 q2⟩
    | next => exact False.elim hq'
    | brk => exact False.elim hq'
    | cont => exact False.elim hq'
end
end My
set_option Elab.async false
set_option maxRecDepth 100000
set_option maxHeartbeats 4000000
set_option linter.unusedVariables false
namespace My
open PySem PySem.Spec PyProof.Rows L2
open Builtin Builtin.ObjectAttr in
theorem stores_of {B : String} {bmB : List Value} (S : StoreFacts B bmB "object.__setattr__" "object") (C : Addr) (ne : bmB.isEmpty = false) (ob : bmB.contains (.type "object") = true) : Stores (.ref C :: bmB) where
  ne := rfl
  obj := by rw [List.contains_cons, ob, Bool.or_true]
  pass := fun self => by rw [refuseLoop_ref]; exact S.passes self

structure SeenX (K : PySem.W.Frag) (C : Addr) (bmB : List Value) (newId : String) : Prop where
  cls : ∃ nm q N bs sn sub ab col dd k0 k1 k2 k3 k5, K.lookup C = some (excClassObj nm q C N bs bmB true sn sub ab col dd k0 k1 k2 k3 k5 newId)
  sa : PySem.W.findIn K (.ref C) "__setattr__" = some (some (.builtin "object.__setattr__"))
  exC : PySem.W.subIn K (.ref C) (.type "BaseException") = some true
  tyC : PySem.W.typeIn K (.ref C) = some (.type "type")
  kC : PySem.W.keepIn K (.ref C) = true
theorem ownX_of {K : PySem.W.Frag} {C : Addr} {bmB bmN : List Value} {B B2 newId initId : String} (T : SeenX K C bmB newId) (F : ExcBaseFacts B newId initId bmN) (S : StoreFacts B2 bmB "object.__setattr__" "object")
    (hB : bmB.contains (.type B) = true) (hA : bmB.contains (.type "AttributeError") = false) (hN : bmB.contains (.type "NameError") = false) (ne : bmB.isEmpty = false) (ob : bmB.contains (.type "object") = true) : OwnX K C := by
  obtain ⟨nm, q, N, bs, sn, sub, ab, col, dd, k0, k1, k2, k3, k5, hC⟩ := T.cls
  exact ⟨⟨nm, q, N, bs, bmB, sn, sub, ab, col, dd, k0, k1, k2, k3, k5, B, newId, initId, bmN, hC, F, hB, hA, hN, stores_of S C ne ob⟩, T.sa, T.exC, T.tyC, T.kC⟩
section
variable {K : PySem.W.Frag} {C : Addr}
abbrev mroKey : List Value := [.type "KeyError", .type "LookupError", .type "Exception", .type "BaseException", .type "object"]
abbrev mroVal : List Value := [.type "ValueError", .type "Exception", .type "BaseException", .type "object"]
abbrev mroTyp : List Value := [.type "TypeError", .type "Exception", .type "BaseException", .type "object"]
abbrev mroLook : List Value := [.type "LookupError", .type "Exception", .type "BaseException", .type "object"]
abbrev mroIdx : List Value := [.type "IndexError", .type "LookupError", .type "Exception", .type "BaseException", .type "object"]
abbrev mroOver : List Value := [.type "OverflowError", .type "ArithmeticError", .type "Exception", .type "BaseException", .type "object"]
theorem ownX_key (T : SeenX K C mroKey "LookupError.__new__") : OwnX K C := ownX_of T F.excBase_LookupError keyStore (by decide +kernel) (by decide +kernel) (by decide +kernel) rfl (by decide +kernel)
theorem ownX_val (T : SeenX K C mroVal "ValueError.__new__") : OwnX K C := ownX_of T F.excBase_ValueError F.store_ValueError (by decide +kernel) (by decide +kernel) (by decide +kernel) rfl (by decide +kernel)
theorem ownX_typ (T : SeenX K C mroTyp "TypeError.__new__") : OwnX K C := ownX_of T F.excBase_TypeError F.store_TypeError (by decide +kernel) (by decide +kernel) (by decide +kernel) rfl (by decide +kernel)
theorem ownX_look (T : SeenX K C mroLook "LookupError.__new__") : OwnX K C := ownX_of T F.excBase_LookupError F.store_LookupError (by decide +kernel) (by decide +kernel) (by decide +kernel) rfl (by decide +kernel)
theorem ownX_idx (T : SeenX K C mroIdx "IndexError.__new__") : OwnX K C := ownX_of T F.excBase_IndexError F.store_IndexError (by decide +kernel) (by decide +kernel) (by decide +kernel) rfl (by decide +kernel)
theorem ownX_over (T : SeenX K C mroOver "OverflowError.__new__") : OwnX K C := ownX_of T F.excBase_OverflowError F.store_OverflowError (by decide +kernel) (by decide +kernel) (by decide +kernel) rfl (by decide +kernel)
example : Bind.madeBy (.type "KeyError") = pure (some "LookupError.__new__") := by kernel_rfl
end

def spInit1 (K : PySem.W.Frag) (f : Str) : Sp := fun vs H Q _ => ∃ (a C : Addr) (y : V), vs = [.ref a, y] ∧ OwnX K C ∧ PySem.W.findIn K (.ref C) f = some none ∧ H a = some (exo a C none) ∧
  ∀ dx, H dx = none → dx ≠ a → Q .non (upd (upd H dx (exd dx [(f, y)])) a (exo a C (some dx)))

def spInit2 (K : PySem.W.Frag) (f g : Str) : Sp := fun vs H Q _ => ∃ (a C : Addr) (y z : V), vs = [.ref a, y, z] ∧ OwnX K C ∧ PySem.W.findIn K (.ref C) f = some none ∧ PySem.W.findIn K (.ref C) g = some none ∧ H a = some (exo a C none) ∧
  ∀ dx H', H dx = none → dx ≠ a → H' dx = some (exd dx [(g, z), (f, y)]) → H' a = some (exo a C (some dx)) → (∀ b, b ≠ dx → b ≠ a → H' b = H b) → Q .non H'
end My
set_option Elab.async false
set_option maxRecDepth 100000
set_option maxHeartbeats 4000000
set_option linter.unusedVariables false
namespace My
open PySem PySem.Spec PyProof.Rows L2


def Xc (P : Program) (w : World) (K : PySem.W.Frag) (mg : Str → Option Value) (base : Heap) (C : Addr) (k : Nat) (ps : List Str) (sp : Sp) : Prop :=
  ∃ f fd, OwnX K C ∧ PySem.W.findIn K (.ref C) "__init__" = some (some (.ref f)) ∧ PySem.W.typeIn K (.ref f) = some (.type "function") ∧ FnOk P w K mg base CX0 k f fd ps sp ∧ Binds K fd ps []

def MtX (P : Program) (w : World) (K : PySem.W.Frag) (mg : Str → Option Value) (base : Heap) (C : Addr) (m : Str) (k : Nat) (ps : List Str) (sp : Sp) : Prop :=
  ∃ f fd, PySem.W.findIn K (.ref C) m = some (some (.ref f)) ∧ PySem.W.isFn K (.ref f) = true ∧ PySem.W.keepIn K (.ref f) = true ∧ FnOk P w K mg base (L2.CX P w) k f fd ps sp ∧ Binds K fd ps []
theorem passNone {X : Cx} : Passes (L2.CX X.prog X.w) X E0 := fun pins σ H s e s' I c => by
  obtain ⟨_, _, _, _, _, _, _, _, _, _, _, _, z⟩ := c
  exact z.elim
section
variable {X : Cx} {C : Addr} {k : Nat} {ps : List Str} {sp : Sp} {x m : Str} {p pos apos : Pos} {e o : Expr} {es : List Expr} {t ta : TA} {to : TE} {E : XK}
theorem mk_xc (D : Xc X.prog X.w X.K X.mg X.base C k ps sp) (hr : Room (k + 1) X.A) (hg : Gl X x) (hm : X.mg x = some (.ref C)) (ha : PA X (e :: es) ta)
    (hdb : (x == ("__debug__" : Str)) = false := by decide) (he : starEach (e :: es) X.env = (false, eval e X.env) :: starEach es X.env := by rfl) (hpl : (backTo pos (starEach es X.env)).any (·.1) = false := by rfl) :
    PMk X (.Call (.Name x p) (e :: es) [] pos) (tMkO C sp [] ta) := by
  obtain ⟨f, fd, T, h1, h2, F, b⟩ := D
  exact pmkX (CX := CX0) T h1 h2 F hr b .nil (fun _ _ _ _ _ _ _ h => h.elim) hg hm ha hdb he hpl

theorem pe_mtX {pl : Sem Bool} (D : MtX X.prog X.w X.K X.mg X.base C m k ps sp) (hr : Room k X.A) (c : Cls X.K C) (hx : Passes (L2.CX X.prog X.w) X E) (he : PE X o to) (ha : PA X (e :: es) t)
    (hst : starEach (e :: es) X.env = (false, eval e X.env) :: starEach es X.env := by rfl) (hpl : (backTo pos (starEach es X.env)).any (·.1) = false := by rfl)
    (ht : eval (.Call (.Attribute o m apos) (e :: es) [] pos) X.env = (do
      let ov ← eval o X.env
      standAt apos.atName
      let (f, first) ← holding [ov] (getMethod ov m pl)
      callWith pos f first (backTo pos (starEach (e :: es) X.env)) (backToKw pos (keywordEach [] X.env))) := by rfl) :
    PE X (.Call (.Attribute o m apos) (e :: es) [] pos) (tMeth C m sp [] E to t) := by
  obtain ⟨f, fd, h1, h2, h3, F, b⟩ := D
  exact pe_meth (ds := []) he c ⟨h1, h2, h3⟩ F hr b .nil hx ha hst hpl ht

def tMethS (C : Addr) (m : Str) (sp : Sp) (W : WX) (ta : TE) (t : TA) : TE := fun σ H Q => ta σ H fun x H1 => ∃ a dx fs, x = .ref a ∧ H1 a = some (.ins C dx fs) ∧ fs.lookup m = none ∧
  t σ H1 fun vs H2 => sp (x :: vs) H2 Q (WE W σ)
theorem pe_mtS {pl : Sem Bool} {W : WX} (D : MtX X.prog X.w X.K X.mg X.base C m k ps sp) (hr : Room k X.A) (c : Cls X.K C) (tk : Takes X W) (he : PE X o to) (ha : PA X (e :: es) t)
    (hst : starEach (e :: es) X.env = (false, eval e X.env) :: starEach es X.env := by rfl) (hpl : (backTo pos (starEach es X.env)).any (·.1) = false := by rfl)
    (ht : eval (.Call (.Attribute o m apos) (e :: es) [] pos) X.env = (do
      let ov ← eval o X.env
      standAt apos.atName
      let (f, first) ← holding [ov] (getMethod ov m pl)
      callWith pos f first (backTo pos (starEach (e :: es) X.env)) (backToKw pos (keywordEach [] X.env))) := by rfl) :
    PE X (.Call (.Attribute o m apos) (e :: es) [] pos) (tMethS C m sp W to t) := by
  obtain ⟨f, fd, h1, h2, h3, F, b⟩ := D
  refine ⟨fun pins s σ H Q I h => ?_⟩
  refine PySem.W.methodCall_KW (pl := pl) (thn (he.run pins s σ H _ I h) fun u s1 hh => ?_) ht
  obtain ⟨x, H1, I1, rx, a, dx, fs, ex, ea, l, q⟩ := hh
  subst ex
  obtain rfl : u = Value.ref a := rx
  refine getmeth_ok I1 ea c ⟨h1, h2, h3⟩ l ?_
  refine PySem.W.callWith_K (first := [.ref a]) (h₀ := X.base) I1.ok.mod.kin h3 (thn (ha.run pos pins s1 σ H1 _ I1 q) fun us s2 ⟨vs, H2, I2, r, q2⟩ => ⟨I2.kIn, ?_⟩) hst hpl
  exact run_fnS (E := WE W) (us := .ref a :: us) (vs := .ref a :: vs) F hr b (passAt tk σ) I2 (.cons rfl r) q2
end
end My
set_option Elab.async false
set_option maxRecDepth 100000
set_option maxHeartbeats 4000000
set_option linter.unusedVariables false
namespace My
open PySem PySem.Spec PyProof.Rows L2


def spFormOf (C CB : Addr) : Sp := fun vs H Q E => ∃ U a es n, vs = [.ref a, .int n] ∧ FS C U H a es ∧ (0 ≤ n ∧ n ≤ 999999) ∧
  (∀ x H', look es n = some x → Same H H' → Q (.str x) H') ∧ ∀ d H', look es n = none → Same H H' → H d = none → H' d = some (.xd [("value", .int n)]) → E (.ref CB) (some d) H'

theorem mkO_one {K : PySem.W.Frag} {C : Addr} {f : Str} {y : V} {H1 : Hp} {Q : XK} (T : OwnX K C) (hno : PySem.W.findIn K (.ref C) f = some none)
    (k : ∀ d G, Same H1 G → H1 d = none → G d = some (.xd [(f, y)]) → Q (.ref C) (some d) G) :
    ([y] : List V).length ≤ 1000 ∧ ∀ a, H1 a = none → spInit1 K f (.ref a :: ([y] ++ [])) (L2.upd H1 a (exo a C none))
      (fun v H2 => v = .non ∧ ∃ (d : Addr) (fs : List (Str × V)), H2 a = some (exo a C (some d)) ∧ H2 d = some (exd d fs) ∧ H1 d = none ∧ Q (.ref C) (some d) (L2.upd (L2.del H2 a) d (.xd fs))) (fun _ _ _ => False) := by
  refine ⟨by simp, fun a ha => ⟨a, C, y, rfl, T, hno, upd_same, fun dx hdx hne => ⟨rfl, dx, _, upd_same, (upd_ne hne).trans upd_same, ?_, k dx _ ?_ ?_ upd_same⟩⟩⟩
  · exact (upd_ne hne).symm.trans hdx
  · intro b o e
    have n1 := ne_of_none e ha
    have n2 : b ≠ dx := ne_of_none e ((upd_ne hne).symm.trans hdx)
    exact (upd_ne n2).trans ((L2.del_ne n1).trans ((upd_ne n1).trans ((upd_ne n2).trans ((upd_ne n1).trans e))))
  · exact (upd_ne hne).symm.trans hdx

def hasD (es : List (Int × Str)) (d : PyData) : Bool := match d with
  | .int n => mKey d && has es n
  | _ => false
theorem key_int {d : PyData} (h : mKey d = true) : ∃ n, d = .int n ∧ 0 ≤ n ∧ n ≤ 999999 := by
  cases d with
  | int n =>
    have h : (decide (0 ≤ n) && decide (n ≤ 999999)) = true := h
    rw [Bool.and_eq_true, decide_eq_true_iff, decide_eq_true_iff] at h
    exact ⟨n, rfl, h.1, h.2⟩
  | _ => exact absurd h (by show ¬ (false = true); simp)
theorem hasD_no {es : List (Int × Str)} {d : PyData} (h : mKey d = false) : hasD es d = false := by
  cases d with
  | int n => show (mKey (.int n) && has es n) = false; rw [h]; rfl
  | _ => rfl
theorem hasD_int {es : List (Int × Str)} {n : Int} (h : mKey (.int n) = true) : hasD es (.int n) = has es n := by
  show (mKey (.int n) && has es n) = has es n
  rw [h]; rfl
def spHasX (K : PySem.W.Frag) (C : Addr) : Sp := fun vs H Q _ => ∃ U a es v d, vs = [.ref a, v] ∧ FS C U H a es ∧ Dx K H v d ∧ sm d ∧ ∀ H', Same H H' → Q (.bl (hasD es d)) H'

def spFormX (K : PySem.W.Frag) (C CB : Addr) : Sp := fun vs H Q E => ∃ U a es v d, vs = [.ref a, v] ∧ FS C U H a es ∧ Dx K H v d ∧ sm d ∧
  (∀ n x H', v = .int n → hasD es d = true → look es n = some x → Same H H' → Q (.str x) H') ∧ ∀ e H', hasD es d = false → Same H H' → H e = none → H' e = some (.xd [("value", v)]) → E (.ref CB) (some e) H'
theorem dx_num {K : PySem.W.Frag} {H : Hp} {v : V} {n : Int} (h : Dx K H v (.int n)) : v = .int n := by
  cases h with
  | of h => cases h; rfl
end My
set_option Elab.async false
set_option maxRecDepth 100000
set_option maxHeartbeats 4000000
set_option linter.unusedVariables false

namespace My
open PySem PySem.W PySem.Spec PySem.Calls PyProof.Rows
section
variable {prog : Program} {w : World} {A : Around} {E : Value → Shared → Prop} {s : Shared} {K : Frag} {x D : Addr} {ox : Obj} {od : Option Obj}
theorem findObj_any {C : Addr} {name : Str} {a g : Value} (hc : (clsIn K C).isSome = true) (ha : findIn K (.ref C) name = some (some a)) (hg : specialIn K a "__get__" = some (some g)) (ht : takesIn K a = some true) : findObj K C od name = some (.bind g a) := by
  obtain ⟨cd, hc⟩ := Option.isSome_iff_exists.mp hc
  unfold findObj
  rw [hc, Option.bind_some, ha, Option.bind_some]
  simp [hg, ht]
theorem class_excX {Q : Option Value → Shared → Prop} (T : L2.ExcC K D)
    (X : K.In s.heap) (I : InstAt s.heap x ox D od) (h : Q (some (.ref D)) { s with toks := s.toks + 1 }) : wpAny (model prog w) A (getAttr? (.ref x) "__class__") Q E s := by
  obtain ⟨hga, hgt, hsub, hdct, ha, hn, htk, hm⟩ := T
  have hf : findObj K D od "__class__" = some (.bind (.builtin "getset_descriptor.__get__") (.builtin "object.__class__")) := findObj_any (by obtain ⟨cd, hc, _⟩ := any_some hdct; rw [hc]; rfl) ha hn htk
  obtain ⟨hp, g, d, t, os⟩ := s
  have L0 := I.type (M := model prog w)
  have L1 := looks_findIn (M := model prog w) X hga
  have L2 := looks_findIn (M := model prog w) X hgt
  have L3 := looks_find (M := model prog w) X I hf
  have sub : Looks (model prog w) hp (isInstance (.ref x) (.type "BaseException")) true := L0.andThen (looks_subIn X hsub)
  have hx0 : (false && onTheHeap (Value.builtin "BaseException.__getattribute__")) = false := rfl
  have hx2 : (Value.builtin "BaseException.__getattribute__" == Value.builtin "object.__getattribute__") = false := by decide +kernel
  have hx1 : (onTheHeap (Value.ref D) && Value.builtin "BaseException.__getattribute__" == Value.builtin "object.__getattribute__") = false := by rw [hx2]; rfl
  unfold getAttr? getAttrBy? getAttrBy
  refine wpAny_bind (wpAny_mkText (wpAny_bind (wpAny_attempt (wpAny_holding (wpAny_bind (L0.at (wpAny_bind (L1.at ?_))))))))
  show wpAny _ _ (if (onTheHeap (Value.ref D) && Value.builtin "BaseException.__getattribute__" == Value.builtin "object.__getattribute__") = true then _ else _) _ _ _
  rw [hx1, if_neg Bool.false_ne_true]
  unfold getAttrByItsOwn hookBefore
  refine wpAny_bind ?_
  rw [if_pos (show onTheHeap (Value.ref D) = true from rfl)]
  refine L2.at ?_
  refine wpAny_bind (wpAny_attempt (wpAny_holding ?_))
  unfold callGetattribute
  rw [hx0, if_neg Bool.false_ne_true]
  unfold boundAndCalled
  rw [PySem.F.excAttr_ValueError.ga.bind (.ref x)]
  refine wpAny_bind (wpAny_pure ?_)
  show wpAny _ _ (call (.builtin "BaseException.__getattribute__") [.ref x, .str "__class__" t]) _ _ _
  refine wpAny_call (codeAny_call_builtin PySem.F.excAttr_ValueError.ga.plain PySem.F.entry_bexc_ga ?_)
  refine @check_slot (model prog w) _ _ ⟨hp, g, d, t + 1, os⟩ "BaseException.__getattribute__" "BaseException" "__getattribute__" (.ref x) [.str "__class__" t] [] _ (by decide +kernel) (by decide +kernel) sub (PySem.F.args_bexc_ga (.ref x) (.str "__class__" t)) ?_
  unfold Builtin.«object.__getattribute__»
  refine wpAny_bind (wpAny_of_eq (a := ((Value.ref x : Value), [Value.str "__class__" t])) (by first | rfl | (simp only [slotArgs]; rfl)) ?_)
  refine wpAny_bind (wpAny_pure (wpAny_bind (L0.at (wpAny_bind (L3.at ?_)))))
  show wpAny _ _ (holding [Value.builtin "object.__class__"] (call (.builtin "getset_descriptor.__get__") [.builtin "object.__class__", .ref x, .ref D]) >>= ret) _ _ _
  refine wpAny_bind (wpAny_holding (wpAny_call (class_get (s := ⟨hp, g, d, t + 1, os⟩) (ox := ox) (od := od) X I hm ?_)))
  refine wpAny_pure ?_
  show wpAny _ _ (handedOut (.ref D)) _ _ _
  rw [handedOut_of (v := .ref D) rfl]
  first
    | exact wpAny_pure (wpAny_pure h)
    | exact wpAny_pure h
    | exact wpAny_pure (wpAny_bind (wpAny_pure (wpAny_pure h)))
theorem kitX_exc (T : L2.ExcC K D) : KitX K (.ref x) (.ref D) (fun h => InstAt h x ox D od) where
  ty := fun _ _ _ I => I.type
  it := fun _ _ X _ => by
    obtain ⟨cdD, hcD, _⟩ := any_some T.hd
    unfold clsIn at hcD
    split at hcD
    · rename_i c' d' cd' sl' ho
      intro A' Q' E' s' k q
      unfold isType loadHead
      exact wpAny_bind (wpAny_loadPart (k _ _ (X _ _ ho)) (wpAny_pure q))
    · cases hcD
  ne := fun h tp dd its n sl X htp => by
    obtain ⟨cdD, hcD, _⟩ := any_some T.hd
    refine Bool.eq_false_iff.mpr fun q => ?_
    have e : D = tp := Value.ref.inj (beq_iff_eq.mp q)
    subst e
    unfold clsIn at hcD
    split at hcD
    · rename_i c' d' cd' sl' ho
      have z := (X _ _ ho).symm.trans htp
      cases z
    · cases hcD
  ca := fun X I k => class_excX T X I k
end
end My
namespace My
open PySem PySem.Spec PyProof.Rows L2

def rIsX (K : PySem.W.Frag) (D a d : Addr) : List V → Hp → VK → Prop := fun xs H Q => ∃ (c : V) (cv : Value) (b : Bool) (fs : List (Str × V)), xs = [.ref a, c] ∧ H d = some (.xd fs) ∧ (∀ u, RelV c u → u = cv) ∧ PySem.W.kitOne K (.ref D) cv = some b ∧ Q (.bl b) H
theorem call_isX {X : Cx} {a D d : Addr} {oe : Obj} {pn : List (Addr × Obj)} (C : ExcC X.K D) (hz : Zc (.ref D) (some d) oe) (hf : ∃ vs, oe.data = .fields vs) : CallR (X.suite a ((a, oe) :: pn)) (.builtin "isinstance") (rIsX X.K D a d) := by
  intro pins s σ H xs us Q I r h
  obtain ⟨c, cv, b, fs, rfl, hd, hcv, e, q⟩ := h
  cases r with
  | cons rx rr =>
    cases rr with
    | cons rt rr =>
      cases rr
      cases rx
      have ec := hcv _ rt
      subst ec
      obtain ⟨hget, _⟩ := I.pin (a, oe) (List.mem_append.mpr (.inl List.mem_cons_self))
      obtain ⟨vs, hv⟩ := hf
      obtain ⟨o, eo⟩ := objOk_get (I.hok d _ hd)
      have J : PySem.W.InstAt s.heap a oe D (some o) := by
        obtain ⟨oc, od, oda, osl⟩ := oe
        obtain ⟨h1, h2⟩ := hz
        dsimp only at h1 h2 hv
        subst h1 h2 hv
        exact ⟨hget, rfl, rfl, eo⟩
      exact PySem.W.kia_one (kitX_exc C) I.kIn J e (fun z => nomatch z) fun tk => ⟨.bl b, H, I.kept (t' := tk) fun _ _ z => z, rfl, q⟩

def rIsXc (K : PySem.W.Frag) (D a : Addr) (cls : Value) (d : Option Addr) : List V → Hp → VK → Prop := fun xs H Q => ∃ dd, cls = .ref D ∧ d = some dd ∧ rIsX K D a dd xs H Q
theorem call_isXc {X : Cx} {a D : Addr} {cls : Value} {d : Option Addr} {oe : Obj} {pn : List (Addr × Obj)} (C : ExcC X.K D) (hz : Zc cls d oe) (hf : ∃ vs, oe.data = .fields vs) : CallR (X.suite a ((a, oe) :: pn)) (.builtin "isinstance") (rIsXc X.K D a cls d) := by
  intro pins s σ H xs us Q I r h
  obtain ⟨dd, rfl, rfl, h⟩ := h
  exact call_isX C hz hf pins s σ H xs us Q I r h

theorem call_reprS {X : Cx} {a : Addr} {pn : List (Addr × Obj)} (g : X.A.guards = some []) (hu : X.A.units + 64 < cLine) : CallR (X.suite a pn) (.builtin "repr") (rRepr X.K) :=
  call_repr (X := X.suite a pn) g hu
end My
set_option Elab.async false
set_option maxRecDepth 100000
set_option maxHeartbeats 4000000
set_option linter.unusedVariables false
namespace My
open PySem PySem.Spec PyProof.Rows L2

section
variable {P : Program} {w : World} {A : Around} {E : Value → Shared → Prop} {s : Shared}
theorem subset_any {a b : Addr} {S T : Int → Bool} {n : Nat} {nm : String} {A' : Around} {Q : Bool → Shared → Prop} (ha : s.heap.SetOf (intKind P w) a S n) (hb : s.heap.SetOf (intKind P w) b T n) (h1 : (∀ k, S k = true → T k = true) → Q true s) (h0 : (∃ k, S k = true ∧ T k = false) → Q false s) :
    wpAny (model P w) A' (Builtin.Frozenset.subsetOf nm a b) Q E s := by
  obtain ⟨oa, ea, epa, ta, hoa, hxa, hda, hela, hma, hba, hfa, hna⟩ := id ha
  obtain ⟨ob, eb, epb, tb, hob, hxb, hdb, helb, hmb, hbb, hfb, hnb⟩ := id hb
  have sz : ∀ {c : Addr} {o : Obj} {es : Array (Int × Value)} {ep : Nat} {t : SetTable} {Q' : Nat → Shared → Prop} {A' : Around}, s.heap.get? c = some o → o.data = .set es ep t → t.fits es.size = true → Q' es.size s →
      wpAny (model P w) A' (Builtin.Frozenset.sizeOf c) Q' E s := by
    intro c o es ep t Q' A' ho hd hf h
    unfold Builtin.Frozenset.sizeOf setEntries
    exact wpAny_bind (wpAny_bind (wpAny_setState_of ho hd hf (wpAny_pure (wpAny_pure h))))
  unfold Builtin.Frozenset.subsetOf
  refine wpAny_bind (sz hoa hda hfa ?_)
  refine wpAny_bind (sz hob hdb hfb ?_)
  rw [hna, hnb, if_neg (by omega)]
  refine wpAny_bind (wpAny_setEpoch_of hoa hda hfa ?_)
  refine wpAny_bind (walk_quiet hoa hda hfa hob hdb hfb hela helb ?_)
  refine wpAny_bind (wpAny_mono (wpAny_forIn_list _ (fun rest (r : Option Bool × Unit) s' => r.1 = none ∧ s' = s ∧ (∀ e ∈ rest, e ∈ ea.toList) ∧ ∀ k, S k = true → (∃ e ∈ rest, (intKind P w).is k e.2 = true) ∨ T k = true)
    (fun (r : Option Bool × Unit) s' => (r.1 = none ∧ s' = s ∧ ∀ k, S k = true → T k = true) ∨ (r.1 = some false ∧ s' = s ∧ ∃ k, S k = true ∧ T k = false)) ?_ ?_ _ _ ?_) ?_ fun _ _ z => z)
  · rintro ⟨hh, x⟩ rest r s' ⟨hr, rfl, hi, hk2⟩
    have hm := hi _ List.mem_cons_self
    obtain ⟨⟨k, hk, hq⟩, hsc⟩ := hela _ hm
    dsimp only at hk hq hsc
    subst hq
    have hS : S k = true := (hma k).2 ⟨_, hm, hk⟩
    refine wpAny_bind (wpAny_holding (wpAny_setFind_of (knd := intKind P w) hk hsc hb fun r hr => ?_))
    cases r with
    | none =>
      simp only [Option.isNone_none, if_true]
      exact wpAny_pure (.inr ⟨rfl, rfl, k, hS, by cases q : T k with | false => rfl | true => rw [q] at hr; cases hr⟩)
    | some j =>
      simp only [Option.isNone_some, Bool.false_eq_true, if_false]
      unfold Builtin.Frozenset.unchanged
      refine wpAny_bind (wpAny_bind (wpAny_setEpoch_of hoa hda hfa ?_))
      rw [bne_self_eq_false]
      simp only [Bool.false_eq_true, if_false]
      refine wpAny_pure (wpAny_pure ⟨rfl, rfl, fun e he => hi e (List.mem_cons_of_mem _ he), fun k' h' => ?_⟩)
      rcases hk2 k' h' with ⟨e, he, hq⟩ | z
      · rcases List.mem_cons.mp he with rfl | he
        · obtain ⟨t1, e1⟩ := is_int hk
          obtain ⟨t2, e2⟩ := is_int hq
          have e2' : x = Value.int k' t2 := e2
          rw [e1] at e2'
          cases e2'
          refine .inr ?_
          cases q : T k with
          | true => rfl
          | false => rw [q] at hr; cases hr
        · exact .inl ⟨e, he, hq⟩
      · exact .inr z
  · rintro r s' ⟨hr, rfl, _, hk2⟩
    refine .inl ⟨hr, rfl, fun k h' => ?_⟩
    rcases hk2 k h' with ⟨e, he, _⟩ | z
    · cases he
    · exact z
  · exact ⟨rfl, rfl, fun e he => he, fun k h' => .inl ((hma k).1 h')⟩
  · rintro ⟨r, u⟩ s' hp
    dsimp only at hp
    rcases hp with ⟨rfl, rfl, z⟩ | ⟨rfl, rfl, z⟩
    · exact wpAny_pure (h1 z)
    · exact wpAny_pure (h0 z)
theorem set_eqB {a b : Addr} {S T : Int → Bool} {n m : Nat} {Q : Value → Shared → Prop} (ha : s.heap.SetOf (intKind P w) a S n) (hb : s.heap.SetOf (intKind P w) b T m) (hu : A.units < cLine) (h : ∀ r, (r = true → n = m ∧ ∀ k, S k = true → T k = true) → (r = false → n = m → ∃ k, S k = true ∧ T k = false) → Q (.bool r) s) :
    wpAny (model P w) A (compareOp .Eq (.ref a) (.ref b)) Q E s := by
  refine wpAny_richCompare_same_room (op := .Eq) ha.typeIs hb.typeIs slot_set_eq (wpAny_call_entry slot_set_eq ha.typeIs entry_set_eq ?_ (args_set_eq_2 _ _)) hu
  have f1 := F.sub_set_set
  obtain ⟨oa, ea, epa, ta, hoa, hxa, hda, hela, hma, hba, hfa, hna⟩ := id ha
  obtain ⟨ob, eb, epb, tb, hob, hxb, hdb, helb, hmb, hbb, hfb, hnb⟩ := id hb
  obtain ⟨ac, ad, adt, asl⟩ := oa
  obtain ⟨bc, bd, bdt, bsl⟩ := ob
  simp only at hda hdb
  have hca : ac = .type "set" := hxa.1
  have hcb : bc = .type "set" := hxb.1
  subst hda hdb hca hcb
  have f2 := F.sub_set_frozenset
  have sz : ∀ {c : Addr} {o : Obj} {es : Array (Int × Value)} {ep : Nat} {t : SetTable} {Q' : Nat → Shared → Prop} {A' : Around}, s.heap.get? c = some o → o.data = .set es ep t → t.fits es.size = true → Q' es.size s →
      wpAny (model P w) A' (Builtin.Frozenset.sizeOf c) Q' E s := by
    intro c o es ep t Q' A' ho hd hf h
    unfold Builtin.Frozenset.sizeOf setEntries
    exact wpAny_bind (wpAny_bind (wpAny_setState_of ho hd hf (wpAny_pure (wpAny_pure h))))
  unfold Builtin.«frozenset.__eq__»
  refine wpAny_bind ?_
  generalize hSZ : Builtin.Frozenset.sizeOf = SZ
  generalize hSB : Builtin.Frozenset.subsetOf = SB
  wp_walk
  subst hSZ
  refine sz hoa rfl hfa ?_
  refine wpAny_bind (sz hob rfl hfb ?_)
  rw [hna, hnb]
  by_cases e : n = m
  · subst e
    rw [bne_self_eq_false]
    wp_walk
    subst hSB
    refine subset_any ha hb (fun z => ?_) fun z => ?_
    · exact wpAny_pure ⟨_, rfl, fun z => (nomatch z), h true (fun _ => ⟨rfl, z⟩) fun q => nomatch q⟩
    · exact wpAny_pure ⟨_, rfl, fun z => (nomatch z), h false (fun q => nomatch q) fun _ _ => z⟩
  · have e2 : (n != m) = true := bne_iff_ne.mpr e
    rw [e2]
    wp_walk
    exact ⟨_, rfl, fun z => (nomatch z), h false (fun q => nomatch q) fun _ z => (e z).elim⟩
end
section
variable {X : Cx}

def rEqSetB : R2 := fun x y H Q => ∃ a b S T n m, x = .ref a ∧ y = .ref b ∧ H a = some (.set S n) ∧ H b = some (.set T m) ∧ ∀ r, (r = true → n = m ∧ ∀ k, S k = true → T k = true) → (r = false → n = m → ∃ k, S k = true ∧ T k = false) → Q (.bl r) H
theorem op_eqSetB (hu : X.A.units + 1 < cLine) : OpR X (compareOp .Eq) rEqSetB := by
  intro pins s σ H x y v u Q I rx ry h
  obtain ⟨a, b, S, T, n, m, rfl, rfl, ha, hb, q⟩ := h
  cases rx; cases ry
  exact set_eqB (I.hok a _ ha) (I.hok b _ hb) (Nat.lt_of_succ_lt hu) fun r h1 h0 => ⟨.bl r, H, I, rfl, q r h1 h0⟩
end
end My
set_option Elab.async false
set_option maxRecDepth 100000
set_option maxHeartbeats 4000000
set_option linter.unusedVariables false
namespace My
open PySem PySem.Spec PyProof.Rows L2 L2.DX

theorem eqAt_strB (A : Around) (s : Shared) (a : Str) (t : Tok) (c : Str) (u : Tok) : ∃ e, SeqAt.EqAt A s (.str a t) (.str c u) e ∧ (e = true ↔ a = c) :=
  ⟨(a == c), SeqAt.EqAt.str_str a t c u, by simp⟩
def sameForms (l m : List (Int × Str)) : Bool := l.length == m.length && l.all fun p => look m p.1 == some p.2
def rEqF : R2 := fun x y H Q => ∃ a b l m, x = .ref a ∧ y = .ref b ∧ H a = some (.dK (ents l)) ∧ H b = some (.dK (ents m)) ∧ Q (.bl (sameForms l m)) H
theorem hits_forms {P : Program} {w : World} {A : Around} {s : Shared} {m : List (Int × Str)} {vb : List (Key × Value)} (rb : KV (ents m) vb) : ∀ {l : List (Int × Str)} {va : List (Key × Value)}, KV (ents l) va →
    PySem.W.KeqHitsP P w A s vb va (l.all fun p => look m p.1 == some p.2) := by
  intro l
  induction l with
  | nil =>
    intro va ra
    cases ra
    exact .nil
  | cons p l ih =>
    intro va ra
    unfold KV ents at ra
    rw [List.map_cons] at ra
    cases ra with
    | @cons _ q _ qs h t =>
      obtain ⟨h1, h2⟩ := h
      obtain ⟨key, v⟩ := q
      have h1' : (Sum.inl p.1 : Key) = key := h1
      subst h1'
      obtain ⟨tk, e2⟩ := (show RelV (.str p.2) v from h2)
      subst e2
      have ih' := ih (va := qs) (by unfold KV ents; exact t)
      have rr : RelO (valV (ents m) (.inl p.1)) (valueAt vb (.inl p.1)) := rb.val (.inl p.1)
      rw [valV_ents] at rr
      rw [List.all_cons]
      cases e : look m p.1 with
      | none =>
        rw [e] at rr
        have hn : valueAt vb (.inl p.1) = none := RelO.none_of rr
        show PySem.W.KeqHitsP P w A s vb _ ((none == some p.2) && _)
        exact .miss hn
      | some n =>
        rw [e] at rr
        obtain ⟨y, hy, tk2, ry⟩ := rr.some_of
        subst ry
        obtain ⟨b, hb, hi⟩ := eqAt_strB A s p.2 tk n tk2
        have eb : (some n == some p.2) = b := by
          cases b with
          | true => rw [hi.mp rfl]; exact beq_self_eq_true _
          | false =>
            have : ¬ n = p.2 := fun z => by have := hi.mpr z.symm; cases this
            simpa using this
        rw [eb]
        exact .hit hy hb.eqP ih'
section
variable {X : Cx}
theorem op_eqF (hu : X.A.units + 80 < cLine) : OpR X (compareOp .Eq) rEqF := by
  intro pins s σ H x y v u Q I rx ry h
  obtain ⟨a, b, l, m, rfl, rfl, ha, hb, q⟩ := h
  cases (show v = Value.ref a from rx)
  cases (show u = Value.ref b from ry)
  obtain ⟨_, ya, va, ra, da⟩ := (show ObjOk X.prog X.w H s.heap a (.dK (ents l)) from I.hok a _ ha)
  obtain ⟨_, yb, vb, rb, db⟩ := (show ObjOk X.prog X.w H s.heap b (.dK (ents m)) from I.hok b _ hb)
  refine PySem.W.rcP_dicts (knd := mixKind X.prog X.w) (r := l.all fun p => look m p.1 == some p.2) ya yb da db (by omega) (fun _ => hits_forms rb ra) _ _ ?_
  have e1 : va.length = l.length := by rw [← ra.length, ents_len]
  have e2 : vb.length = m.length := by rw [← rb.length, ents_len]
  rw [e1, e2]
  exact ⟨.bl _, H, I, rfl, q⟩
end
def kinds7 : List String := ["NoneType", "bool", "int", "str", "list", "tuple", "dict"]
theorem tyD_kinds (d : PyData) : tyD d ∈ kinds7 := by
  cases d <;> simp [tyD, kinds7]

def spEqX (K : PySem.W.Frag) (C : Addr) : Sp := fun vs H Q _ => ∃ U a es y, vs = [.ref a, y] ∧ FS C U H a es ∧
  ((∃ W b fs, y = .ref b ∧ FS C W H b fs ∧ Q (.bl (sameForms es fs)) H) ∨ (∃ d, Dx K H y d ∧ Q (.bl false) H))

def spEqKB (C : Addr) : Sp := fun vs H Q _ => ∃ U W a b es fs, vs = [.ref a, .ref b] ∧ FS C U H a es ∧ FS C W H b fs ∧
  ∀ H' r, Same H H' → (r = true → es.length = fs.length ∧ ∀ k, has es k = true → has fs k = true) → (r = false → es.length = fs.length → ∃ k, has es k = true ∧ has fs k = false) → Q (.bl r) H'
end My
set_option Elab.async false
set_option maxRecDepth 100000
set_option maxHeartbeats 4000000
set_option linter.unusedVariables false
namespace My
open PySem PySem.Spec PyProof.Rows L2

def LitE (K : PySem.W.Frag) (σ : L2.St) (t : TE) (d : PyData) : Prop := ∀ (H : Hp) (Q : VK), (∀ v H', Same H H' → Dp K H' v d → Q v H') → t σ H Q
def LitA (K : PySem.W.Frag) (σ : L2.St) (t : TA) (ds : List PyData) : Prop := ∀ (H : Hp) (Q : List V → Hp → Prop), (∀ vs H', Same H H' → DpAll K H' vs ds → Q vs H') → t σ H Q
section
variable {K : PySem.W.Frag} {σ : L2.St}
theorem dpAll_len {H : Hp} : ∀ {vs : List V} {ds : List PyData}, DpAll K H vs ds → vs.length = ds.length
  | _, _, .nil => rfl
  | _, _, .cons _ r => by rw [List.length_cons, List.length_cons, dpAll_len r]
theorem lit_c {v : V} {d : PyData} (h : ∀ H, Dp K H v d) : LitE K σ (tC v) d := fun H Q k => k v H (Same.refl H) (h H)
theorem lit_int (i : Int) : LitE K σ (tC (.int i)) (.int i) := lit_c fun _ => .int i
theorem lit_str (x : Str) : LitE K σ (tC (.str x)) (.str x) := lit_c fun _ => .str x
theorem lit_bl (b : Bool) : LitE K σ (tC (.bl b)) (.bool b) := lit_c fun _ => .bl b
theorem lit_non : LitE K σ (tC .non) .none := lit_c fun _ => .non
theorem lit_var {i : Nat} {v : V} {d : PyData} (e : σ[i]? = some (some v)) (h : ∀ H, Dp K H v d) : LitE K σ (tVar i) d := fun H Q k => ⟨v, e, k v H (Same.refl H) (h H)⟩
theorem lit_nil : LitA K σ tNil [] := fun H Q k => k [] H (Same.refl H) .nil
theorem lit_cons {t : TE} {u : TA} {d : PyData} {ds : List PyData} (h : LitE K σ t d) (r : LitA K σ u ds) : LitA K σ (tCons t u) (d :: ds) := by
  intro H Q k
  refine h H _ fun v H1 s1 hv => r H1 _ fun vs H2 s2 hvs => ?_
  exact k _ _ (s1.trans s2) (.cons (dp_same s2 _ _ hv) hvs)
theorem lit_len {n : Nat} (h : n ≤ 1000) : n ≤ sizeLine := Nat.le_trans h (by decide)
theorem lit_tup {u : TA} {ds : List PyData} (r : LitA K σ u ds) (hl : ds.length ≤ 1000) : LitE K σ (tTup u) (.tuple ds) := by
  intro H Q k
  refine r H _ fun vs H1 s1 hvs => ⟨lit_len (by rw [dpAll_len hvs]; exact hl), fun p hp => ?_⟩
  have s2 : Same H1 (upd H1 p (.tup vs)) := same_new hp
  exact k _ _ (s1.trans s2) (.tup (.inl (.inl upd_same)) (dpAll_same s2 _ _ hvs))
theorem lit_lst {u : TA} {ds : List PyData} (r : LitA K σ u ds) (hl : ds.length ≤ 1000) : LitE K σ (tLst u) (.list ds) := by
  intro H Q k
  refine r H _ fun vs H1 s1 hvs => ⟨lit_len (by rw [dpAll_len hvs]; exact hl), fun p hp => ?_⟩
  have s2 : Same H1 (upd H1 p (.lst vs)) := same_new hp
  exact k _ _ (s1.trans s2) (.lst (.inl (.inl upd_same)) (dpAll_same s2 _ _ hvs))

def LsD (K : PySem.W.Frag) (H : Hp) (a : Addr) (ds : List PyData) : Prop := ∃ vs, H a = some (.lst vs) ∧ DpAll K H vs ds
theorem LsD.dp {H : Hp} {a : Addr} {ds : List PyData} (h : LsD K H a ds) : Dp K H (.ref a) (.list ds) := by
  obtain ⟨vs, h1, h2⟩ := h
  exact .lst (.inl (.inl h1)) h2
theorem LsD.same {H H' : Hp} {a : Addr} {ds : List PyData} (h : LsD K H a ds) (s : Same H H') : LsD K H' a ds := by
  obtain ⟨vs, h1, h2⟩ := h
  exact ⟨vs, s _ _ h1, dpAll_same s _ _ h2⟩
theorem LsD.len {H : Hp} {a : Addr} {ds : List PyData} {vs : List V} (h : LsD K H a ds) (e : H a = some (.lst vs)) : vs.length = ds.length := by
  obtain ⟨ws, h1, h2⟩ := h
  rw [h1] at e
  cases e
  exact dpAll_len h2

theorem lit_new {u : TA} {ds : List PyData} (r : LitA K σ u ds) (hl : ds.length ≤ 1000) {H : Hp} {Q : VK} (k : ∀ a H', Same H H' → H a = none → LsD K H' a ds → Q (.ref a) H') : tLst u σ H Q := by
  refine r H _ fun vs H1 s1 hvs => ⟨lit_len (by rw [dpAll_len hvs]; exact hl), fun p hp => ?_⟩
  have s2 : Same H1 (upd H1 p (.lst vs)) := same_new hp
  exact k _ _ (s1.trans s2) (s1.free hp) ⟨vs, upd_same, dpAll_same s2 _ _ hvs⟩
theorem lit_pow {i j : Int} (h : CPow i j) : LitE K σ (tOp (rI CPow fun i j => .int (i ^ j.toNat)) (tC (.int i)) (tC (.int j))) (.int (i ^ j.toNat)) := fun H Q k => ⟨_, _, rfl, rfl, h, k _ H (Same.refl H) (.int _)⟩
theorem lit_powadd {i j n : Int} (h : CPow i j) : LitE K σ (tOp (rI0 fun i j => .int (i + j)) (tOp (rI CPow fun i j => .int (i ^ j.toNat)) (tC (.int i)) (tC (.int j))) (tC (.int n))) (.int (i ^ j.toNat + n)) := fun H Q k => ⟨_, _, rfl, rfl, h, _, _, rfl, rfl, k _ H (Same.refl H) (.int _)⟩
theorem lit_neg (i : Int) : LitE K σ (tUn (rU fun i => .int (-i)) (tC (.int i))) (.int (-i)) := fun H Q k => ⟨_, rfl, k _ H (Same.refl H) (.int _)⟩
theorem dpAll_app {H : Hp} : ∀ {vs ws : List V} {ds es : List PyData}, DpAll K H vs ds → DpAll K H ws es → DpAll K H (vs ++ ws) (ds ++ es)
  | _, _, _, _, .nil, h => h
  | _, _, _, _, .cons h r, h2 => .cons h (dpAll_app r h2)
theorem dpAll_at {H : Hp} : ∀ {vs : List V} {ds : List PyData} {i : Nat} {v : V}, DpAll K H vs ds → vs[i]? = some v → ∃ d, ds[i]? = some d ∧ Dp K H v d
  | _, _, _, _, .nil, h => by cases h
  | _, _, 0, _, .cons (d := d) h r, e => by cases e; exact ⟨d, rfl, h⟩
  | _, _, i + 1, _, .cons h r, e => by
    have z := dpAll_at (i := i) r (by simpa using e)
    simpa using z
theorem dpAll_at' {H : Hp} : ∀ {vs : List V} {ds : List PyData} {i : Nat} {d : PyData}, DpAll K H vs ds → ds[i]? = some d → ∃ v, vs[i]? = some v ∧ Dp K H v d
  | _, _, _, _, .nil, h => by cases h
  | _, _, 0, _, .cons (v := v) h r, e => by cases e; exact ⟨v, rfl, h⟩
  | _, _, i + 1, _, .cons h r, e => by
    have z := dpAll_at' (i := i) r (by simpa using e)
    simpa using z
theorem dpAll_bools {H : Hp} : ∀ bs : List Bool, DpAll K H (bs.map V.bl) (bs.map PyData.bool)
  | [] => .nil
  | b :: r => .cons (.bl b) (dpAll_bools r)
theorem dpAll_ints {H : Hp} : ∀ {vs : List V} {ns : List Int}, DpAll K H vs (ns.map PyData.int) → vs = ns.map V.int
  | _, [], .nil => rfl
  | _, n :: ns, .cons h r => by
    cases h
    rw [List.map_cons, dpAll_ints r]
theorem lsd_cat {H : Hp} {a b : Addr} {ds es : List PyData} {Q : VK} (h1 : LsD K H a ds) (h2 : LsD K H b es) (hl : ds.length + es.length ≤ 1000) (k : ∀ p H', Same H H' → H p = none → LsD K H' p (ds ++ es) → Q (.ref p) H') : rCat (.ref a) (.ref b) H Q := by
  obtain ⟨vs, e1, d1⟩ := h1
  obtain ⟨ws, e2, d2⟩ := h2
  refine ⟨a, b, vs, ws, rfl, rfl, e1, e2, lit_len (by rw [dpAll_len d1, dpAll_len d2]; exact hl), fun p hp => ?_⟩
  have s := same_new hp (o := .lst (vs ++ ws))
  exact k p _ s hp ⟨_, upd_same, dpAll_same s _ _ (dpAll_app d1 d2)⟩
theorem seq_lit {u : TA} {ds : List PyData} {i : Nat} {rest : TS} {D : Ends} {H : Hp} (r : LitA K σ u ds) (hl : ds.length ≤ 1000) (k : ∀ a H', Same H H' → H a = none → LsD K H' a ds → rest D (σ.set i (some (.ref a))) H') :
    tSeq (tAsg (tLst u) (gName i)) rest D σ H := by
  show tLst u σ H fun x H1 => rest D (σ.set i (some x)) H1
  exact lit_new r hl k
theorem asg_lit {u : TA} {ds : List PyData} {i : Nat} {D : Ends} {H : Hp} (r : LitA K σ u ds) (hl : ds.length ≤ 1000) (k : ∀ a H', Same H H' → H a = none → LsD K H' a ds → D.nx (σ.set i (some (.ref a))) H') :
    tAsg (tLst u) (gName i) D σ H := by
  show tLst u σ H fun x H1 => D.nx (σ.set i (some x)) H1
  exact lit_new r hl k
theorem seq_cat {u : TA} {a : Addr} {es ds : List PyData} {i j : Nat} {rest : TS} {D : Ends} {H : Hp} (e : σ[i]? = some (some (.ref a))) (h : LsD K H a es) (r : LitA K σ u ds) (hl : es.length + ds.length ≤ 1000)
    (k : ∀ p H', Same H H' → H p = none → LsD K H' p (es ++ ds) → rest D (σ.set j (some (.ref p))) H') : tSeq (tAsg (tOp rCat (tVar i) (tLst u)) (gName j)) rest D σ H := by
  refine ⟨_, e, lit_new r (by omega) fun b H1 s1 n1 h1 => ?_⟩
  exact lsd_cat (h.same s1) h1 hl fun p H2 s2 n2 h2 => k p H2 (s1.trans s2) (s1.free n2) h2
theorem q_true {Q : VK} {b : Bool} {H : Hp} (h : b = true) (q : Q (.bl true) H) : Q (.bl b) H := h ▸ q
theorem args3 {u : TA} {ds : List PyData} {x y : V} {H : Hp} {Q : List V → Hp → Prop} (r : LitA K σ u ds) (hl : ds.length ≤ 1000) (k : ∀ a H', Same H H' → H a = none → LsD K H' a ds → Q [x, y, .ref a] H') :
    tCons (tC x) (tCons (tC y) (tCons (tLst u) tNil)) σ H Q := by
  show tLst u σ H fun v H1 => Q [x, y, v] H1
  exact lit_new r hl k
theorem args4 {u w : TA} {ds es : List PyData} {x y : V} {H : Hp} {Q : List V → Hp → Prop} (r : LitA K σ u ds) (hl : ds.length ≤ 1000) (r2 : LitA K σ w es) (hl2 : es.length ≤ 1000)
    (k : ∀ a b H', Same H H' → LsD K H' a ds → LsD K H' b es → Q [.ref a, x, y, .ref b] H') : tCons (tLst u) (tCons (tC x) (tCons (tC y) (tCons (tLst w) tNil))) σ H Q := by
  show tLst u σ H fun v H1 => tLst w σ H1 fun v2 H2 => Q [v, x, y, v2] H2
  refine lit_new r hl fun a H1 s1 n1 h1 => lit_new r2 hl2 fun b H2 s2 n2 h2 => ?_
  exact k a b H2 (s1.trans s2) (h1.same s2) h2
theorem args_ans {t : TE} {d : PyData} {i : Nat} {x y z : V} {H : Hp} {Q : List V → Hp → Prop} (e : σ[i]? = some (some z)) (r : LitE K σ t d) (k : ∀ v H', Same H H' → Dp K H' v d → Q [x, z, y, v] H') :
    tCons (tC x) (tCons (tVar i) (tCons (tC y) (tCons t tNil))) σ H Q := ⟨z, e, r _ _ k⟩
theorem iter_cat {u : TA} {a : Addr} {es ds : List PyData} {i : Nat} {H : Hp} {R : It → Hp → Prop} (e : σ[i]? = some (some (.ref a))) (h : LsD K H a es) (r : LitA K σ u ds) (hl : es.length + ds.length ≤ 1000)
    (k : ∀ p H', Same H H' → LsD K H' p (es ++ ds) → R (Itl K p) H') : iList K (tOp rCat (tVar i) (tLst u)) σ H R := by
  refine ⟨_, e, lit_new r (by omega) fun b H1 s1 n1 h1 => ?_⟩
  refine lsd_cat (h.same s1) h1 hl fun p H2 s2 n2 h2 => ?_
  have h3 := h2
  obtain ⟨vs, e2, _⟩ := h3
  exact ⟨p, rfl, ⟨vs, SqL.of e2⟩, k p H2 (s1.trans s2) h2⟩
theorem flat_bools : ∀ bs : List Bool, (bs.map V.bl).all flatV = true
  | [] => rfl
  | b :: r => flat_bools r
theorem flat_ints : ∀ bs : List Int, (bs.map V.int).all flatV = true
  | [] => rfl
  | b :: r => flat_ints r
end
theorem ix_tupN {X : Cx} {K : PySem.W.Frag} (h : X.K = K) : IxR X (rIxT K) := by
  subst h
  exact ix_tup
theorem op_in_seqN {X : Cx} {K : PySem.W.Frag} (h : X.K = K) : OpR X (compareOp .In) (rIn K false) := by
  subst h
  exact op_in_seq
section
variable {X : Cx} {k : Nat} {ps : List Str} {sp : Sp} {x : Str} {p pos : Pos}
theorem pe_fn0 (D : Fn X.prog X.w X.K X.mg X.base k x ps sp) (hr : Room k X.A) (hg : Gl X x)
    (hdb : (x == ("__debug__" : Str)) = false := by decide) : PE X (.Call (.Name x p) [] [] pos) (tCall sp [] E0 tNil) := by
  obtain ⟨f, fd, hm, F, kp, b⟩ := D
  exact pe_call0 F hr hg hm kp b .nil pass0 hdb
end

theorem lc_w {α : Type} {J : It} {n : Nat} {G : Hp → Prop} {Y : Nat → Hp → V → Hp → Prop} (w : Walk J n G Y) {g : TG} {tt : TT} {te : TE} {vs : List Nat} {σ : L2.St} {H1 : Hp} {D : Addr} {Qd : Hp → Prop}
    (as : List α) (F : α → Option V) (hn : as.length = n) (hsz : n ≤ 1000) (hD : H1 D = none) (hG : ∀ H2, Same H1 H2 → G H2)
    (hs : ∀ (i : Nat) (a : α) (x : V) (H H' : Hp) (R : Option V → Hp → Prop), as[i]? = some a → Same H1 H → Y i H x H' → (∀ H2, Same H H2 → R (F a) H2) →
      g x (wipe σ vs) H' fun σ2 H2 => wipe σ2 vs = wipe σ vs ∧ tt σ2 H2 fun b H3 => if b = true then te σ2 H3 fun y H4 => R (some y) H4 else R none H3)
    (hd : ∀ H2, Same H1 H2 → H2 D = some (.lst (as.filterMap F)) → Qd H2) :
    ∃ W : Nat → Nat → Hp → Prop, (∃ m, W 0 m (upd H1 D (.lst []))) ∧ ∀ i m H, W i m H →
      (J.stop i H ∧ Qd H) ∨ (J.go i H ∧ ∃ Nx : Hp → Prop, (∀ H', Nx H' → ∃ m', m' < m ∧ W (i + 1) m' H') ∧ ∀ x H', J.yld i H x H' → g x (wipe σ vs) H' fun σ2 H2 => wipe σ2 vs = wipe σ vs ∧ tt σ2 H2 fun b H3 =>
        if b = true then te σ2 H3 fun y H4 => ∃ acc, H4 D = some (.lst acc) ∧ acc.length < sizeLine ∧ Nx (upd H4 D (.lst (acc ++ [y]))) else Nx H3) := by
  refine lc_it w (fun i H => Same H1 H ∧ H D = some (.lst ((as.take i).filterMap F))) ⟨same_new hD, upd_same⟩ (fun i H _ p => hG H p.1) ?_
    (fun H p => hd H p.1 (by rw [p.2, ← hn, List.take_length]))
  intro i x H H' hi p y
  obtain ⟨s, hd'⟩ := p
  have hlt : i < as.length := by omega
  have ha : as[i]? = some as[i] := List.getElem?_eq_getElem hlt
  have et : (as.take (i + 1)).filterMap F = (as.take i).filterMap F ++ (F as[i]).toList := by
    rw [List.take_add_one, ha, List.filterMap_append]
    cases q : F as[i] with
    | none => simp [q]
    | some z => simp [q]
  refine hs i as[i] x H H' (fun o H4 => match o with
    | some y => ∃ acc, H4 D = some (.lst acc) ∧ acc.length < sizeLine ∧ (Same H1 (upd H4 D (.lst (acc ++ [y]))) ∧ upd H4 D (.lst (acc ++ [y])) D = some (.lst ((as.take (i + 1)).filterMap F)))
    | none => Same H1 H4 ∧ H4 D = some (.lst ((as.take (i + 1)).filterMap F))) ha s y ?_
  intro H2 s2
  cases q : F as[i] with
  | none =>
    refine ⟨s.trans s2, ?_⟩
    rw [et, q]
    simpa using s2 _ _ hd'
  | some z =>
    refine ⟨_, s2 _ _ hd', ?_, fun b o e => (upd_ne (ne_of_none e hD)).trans ((s.trans s2) b o e), ?_⟩
    · refine Nat.lt_of_le_of_lt (Nat.le_trans (List.length_filterMap_le _ _) ?_) (show 1000 < sizeLine by decide)
      rw [List.length_take]
      omega
    · rw [upd_same, et, q]
      rfl
theorem walk_zipTT {K : PySem.W.Frag} {a b : Addr} {xs ys : List V} {n : Nat} (hn : n = min xs.length ys.length) : Walk (RZ.ItzT K a b) n (fun H => SqT K H a xs ∧ SqT K H b ys) (YPair (fun i => xs[i]?) (fun i => ys[i]?)) := by
  subst hn
  refine ⟨fun i _ hi q => ?_, fun _ q => ⟨xs, ys, q.1, q.2, by omega⟩, fun i H v H' _ q y => ?_⟩
  · have h1 : i < xs.length := by omega
    have h2 : i < ys.length := by omega
    exact ⟨xs, ys, xs[i], ys[i], q.1, q.2, by simp [h1], by simp [h2]⟩
  · obtain ⟨T, x, z, h1, h2, h3, h4, h5⟩ := y
    exact ⟨T, x, z, h1, h2, h3, h4 xs q.1, h5 ys q.2⟩
theorem zip_get {α β : Type} {xs : List α} {ys : List β} {i : Nat} {q : α × β} (h : (xs.zip ys)[i]? = some q) : xs[i]? = some q.1 ∧ ys[i]? = some q.2 := by
  rw [List.getElem?_zip_eq_some] at h
  exact h
theorem filterMap_some {α : Type} (f : α → V) : ∀ as : List α, as.filterMap (fun a => some (f a)) = as.map f
  | [] => rfl
  | a :: r => by rw [List.filterMap_cons, List.map_cons, filterMap_some f r]
end My
set_option Elab.async false
set_option maxRecDepth 100000
set_option maxHeartbeats 4000000
set_option linter.unusedVariables false
namespace My
open PySem PySem.Spec PyProof.Rows L2

section
variable {X : Cx} {pins : List (Addr × Obj)} {σ : L2.St} {H : Hp} {s : Shared}
theorem str_back {Q : VK} {P : Value → Shared → Prop} {s' : Shared} {u : Value} (h : EP X pins σ (fun v H' => ∃ x, v = .str x ∧ Q (.str x) H') u s') (k : ∀ t x H', Inv X pins σ H' s' → Q (.str x) H' → P (.str x t) s') : PySem.W.StrBack P u s' := by
  obtain ⟨_, H', I', r, x, rfl, q⟩ := h
  obtain ⟨t, rfl⟩ := r
  exact k t x H' I' q

theorem run_inG {k : Nat} {f : Addr} {fd : FuncData} {ps : List Str} {sp : Sp} {Q : VK} {us : List Value} {vs : List V}
    (F : FnG X.prog X.w X.K X.mg X.base CX0 k f fd ps sp) (hg : X.A.guards = some []) (hr : Room (k + 1) X.A) (hb : Binds X.K fd ps []) (I : Inv X pins σ H s)
    (r : Vals vs us) (h : sp vs H Q E0) {E : Value → Shared → Prop} :
    wpAny (model X.prog X.w) X.A.in1 (call (.ref f) us) (EP X pins σ Q) E s := by
  have hl : us.length = ps.length := r.length.symm.trans (F.len _ _ _ _ h)
  have b0 : BindsTo s fd ⟨us, []⟩ (ps.zip us) := by
    have := hb s us I.kIn (by simpa using hl)
    simpa using this
  have z := F.run X.A.in1 X.stack s H ⟨us, []⟩ us vs Q E0 hg hr.in1 I.env0.in1 b0 r h
  refine wpAny_call (codeAny_mono z ?_)
  intro r s' hq
  match r, hq with
  | .error e, hq => exact hq.elim
  | .ok (.ret u), hq => exact I.after hq
  | .ok .next, hq => exact hq.elim
  | .ok .brk, hq => exact hq.elim
  | .ok .cont, hq => exact hq.elim
theorem run_in2 {k : Nat} {f : Addr} {fd : FuncData} {ps : List Str} {sp : Sp} {Q : VK} {us : List Value} {vs : List V}
    (F : FnOk X.prog X.w X.K X.mg X.base CX0 k f fd ps sp) (hr : Room (k + 1 + 1) X.A) (hb : Binds X.K fd ps []) (I : Inv X pins σ H s)
    (r : Vals vs us) (h : sp vs H Q E0) {E : Value → Shared → Prop} :
    wpAny (model X.prog X.w) X.A.in1.in1 (call (.ref f) us) (EP X pins σ Q) E s := by
  have hl : us.length = ps.length := r.length.symm.trans (F.len _ _ _ _ h)
  have b0 : BindsTo s fd ⟨us, []⟩ (ps.zip us) := by
    have := hb s us I.kIn (by simpa using hl)
    simpa using this
  have z := F.run X.A.in1.in1 X.stack s H ⟨us, []⟩ us vs Q E0 hr.in1.in1 I.env0.in1.in1 b0 r h
  refine wpAny_call (codeAny_mono z ?_)
  intro r s' hq
  match r, hq with
  | .error e, hq => exact hq.elim
  | .ok (.ret u), hq => exact I.after hq
  | .ok .next, hq => exact hq.elim
  | .ok .brk, hq => exact hq.elim
  | .ok .cont, hq => exact hq.elim
end
section
variable {X : Cx}
def rOwnT (C : Addr) (sp : Sp) : List V → Hp → VK → Prop := fun vs H Q => ∃ b dy gs, vs = [.ref b] ∧ H b = some (.ins C dy gs) ∧
  sp [.ref b] H (fun v H' => ∃ x, v = .str x ∧ Q (.str x) H') E0

def MtG (P : Program) (w : World) (K : PySem.W.Frag) (mg : Str → Option Value) (base : Heap) (C : Addr) (m : Str) (k : Nat) (ps : List Str) (sp : Sp) : Prop :=
  ∃ f fd, PySem.W.findIn K (.ref C) m = some (some (.ref f)) ∧ PySem.W.isFn K (.ref f) = true ∧ PySem.W.keepIn K (.ref f) = true ∧ FnG P w K mg base CX0 k f fd ps sp ∧ Binds K fd ps []
theorem call_ownRepr {C : Addr} {k : Nat} {ps : List Str} {sp : Sp} (hg : X.A.guards = some []) (O : MtG X.prog X.w X.K X.mg X.base C "__repr__" k ps sp) (hr : Room (k + 1) X.A) :
    CallR X (.builtin "repr") (rOwnT C sp) := by
  intro pins s σ H vs us Q I r h
  obtain ⟨b, dy, gs, rfl, hb, q⟩ := h
  obtain ⟨u, rfl, ru⟩ := vals1 r
  cases ru
  obtain ⟨f, fd, hs, hf, _, F, bd⟩ := O
  obtain ⟨m, Fr⟩ := fr_of I
  obtain ⟨ox, od, J⟩ := inst_of I hb
  have hu : X.A.units + 1 < cLine := by have := hr.un; omega
  refine PySem.W.repr_K hu Fr I.ok.mod.kin J hs hf ?_
  refine thn (run_inG (us := [.ref b]) (vs := [.ref b]) F hg hr bd I (.cons rfl .nil) q) ?_
  intro u s' z
  exact str_back z fun t x H' I' q => ⟨.str x, H', I', ⟨t, rfl⟩, q⟩
theorem call_ownStr {C : Addr} {k : Nat} {ps : List Str} {sp : Sp} (O : OwnOp X C "__str__" k ps sp) (hr : Room (k + 1 + 1) X.A) :
    CallR X (.type "str") (rOwnT C sp) := by
  intro pins s σ H vs us Q I r h
  obtain ⟨b, dy, gs, rfl, hb, q⟩ := h
  obtain ⟨u, rfl, ru⟩ := vals1 r
  cases ru
  obtain ⟨f, fd, hs, hf, F, bd⟩ := O.ex
  obtain ⟨m, Fr⟩ := fr_of I
  obtain ⟨ox, od, J⟩ := inst_of I hb
  have hu : X.A.units + 1 + 1 < cLine := by have := hr.un; omega
  refine PySem.W.kso_call hu I.kIn J hs hf ?_
  refine thn (run_in2 (us := [.ref b]) (vs := [.ref b]) F hr bd I (.cons rfl .nil) q) ?_
  intro u s' z
  exact str_back z fun t x H' I' q => ⟨.str x, H', I', ⟨t, rfl⟩, q⟩

def tFmtD (K : PySem.W.Frag) (te : TE) : TE := fun σ H Q => te σ H fun x H1 => ∃ a d, x = .ref a ∧ Dp K H1 x d ∧ d.showable = true ∧ d.depth ≤ 60 ∧ d.shown.length ≤ sizeLine ∧ Q (.str d.shown) H1
theorem pe_fmtD {e : Expr} {te : TE} {pos : Pos} (hg : X.A.guards = some []) (hu : X.A.units + 64 < cLine) (he : PE X e te) : PE X (.FormattedValue e 114 none pos) (tFmtD X.K te) := by
  refine ⟨fun pins s σ H Q I h => ?_⟩
  refine wpAny_FormattedValue_repr (thn (he.run pins s σ H _ I h) fun v s1 hv => ?_)
  obtain ⟨_, H1, I1, r1, a, d, rfl, hx, hs, hd, hz, q⟩ := hv
  cases r1
  obtain ⟨as, rd⟩ := Dp.reads I1 d (.ref a) (.ref a) hx rfl
  refine pyReprObj_of_reads rd hs (fun z => by rw [dp_noDict d _ hx] at z; cases z) hg (by omega) (fun _ _ e => e) ?_ hz
  intro h' u tk hk
  exact wpAny_formatField_str ⟨.str d.shown, H1, I1.kept hk, ⟨u, rfl⟩, q⟩ ⟨.str d.shown, H1, (I1.kept (t' := tk) hk).tok _, ⟨_, rfl⟩, q⟩ hz
end
section
open PySem.W
variable {prog : Program} {w : World} {A : Around} {E : Value → Shared → Prop} {s : Shared} {K : Frag} {x C f L : Addr} {h₀ : Heap} {m : Str → Option Value} {ox : Obj} {od : Option Obj}

theorem truthy_len {Q : Bool → Shared → Prop} (F : Fr h₀ L s.heap m) (X₀ : K.In h₀) (I : InstAt s.heap x ox C od) (hs : findIn K (.ref C) "__bool__" = some none) (hl : findIn K (.ref C) "__len__" = some (some (.ref f))) (hf : isFn K (.ref f) = true)
    (h : wpAny (model prog w) A.in1 (call (.ref f) [.ref x]) (PySem.W.LenBack (fun v s' => ∃ n t, v = .int n t ∧ Q (n != 0) s')) E s) : wpAny (model prog w) A (truthy (.ref x)) Q E s := by
  have X := X₀.keeps F.keep
  unfold truthy
  refine wpAny_bind (m := callSpecial? (.ref x) (Str.ofString "__bool__")) (wpAny_bind (wpAny_bind (I.type.here ((looks_findIn X hs).here (wpAny_pure ?_)))))
  refine wpAny_bind (wpAny_bind (I.type.here ((looks_findIn X hl).here ?_)))
  show wpAny _ _ (if (some (Value.ref f)).isNone = true then _ else _) _ _ _
  rw [if_neg (by simp)]
  refine wpAny_bind (wpAny_runValue (codeAny_builtin entry_len ?_))
  rw [Around.under_plainId plain_len _]
  refine wpAny_mono (Q := fun fin s' => ∃ v, fin = .done (.ret v) ∧ ∃ n t, v = .int n t ∧ Q (n != 0) s') ?_ ?_ fun _ _ e => e
  · unfold Builtin.«len»
    refine wpAny_bind (m := oneArg "len" _) (wpAny_pure ?_)
    refine wpAny_bind (m := callSpecial? (.ref x) (Str.ofString "__len__")) (special_fn X I hl (beq_iff_eq.mp hf) (wpAny_mono h (fun r s' hr => ?_) fun _ _ y => y))
    cases r <;> first | exact hr.elim | skip
    rename_i n u
    obtain ⟨⟨h0, h1⟩, hq⟩ := hr
    refine wpAny_bind (wpAny_holding (wpAny_pure ?_))
    refine wpAny_bind (wpAny_letGo ?_)
    show wpAny _ _ (if n < 0 then _ else _) _ _ _
    rw [if_neg (by omega)]
    show wpAny _ _ (if n ≥ 2 ^ 63 then _ else _) _ _ _
    rw [if_neg (by omega)]
    exact wpAny_bind (wpAny_mkInt (wpAny_pure ⟨_, rfl, hq⟩))
  · rintro fin s' ⟨v, rfl, n, t, rfl, q⟩
    exact wpAny_pure q
open Builtin in
theorem bool_len {Q : Value → Shared → Prop} (X : K.In s.heap) (I : InstAt s.heap x ox C od) (F : Fr h₀ L s.heap m) (X₀ : K.In h₀) (hs : findIn K (.ref C) "__bool__" = some none) (hl : findIn K (.ref C) "__len__" = some (some (.ref f))) (hf : isFn K (.ref f) = true)
    (h : wpAny (model prog w) A.in1.in1.in1 (call (.ref f) [.ref x]) (PySem.W.LenBack (fun v s' => ∃ n t, v = .int n t ∧ Q (.bool (n != 0)) s')) E s) : wpAny (model prog w) A (call (.type "bool") [.ref x]) Q E s := by
  refine callType_codes (T := "bool") (Bi := Builtin.«object.__init__») (Q₁ := fun r s₁ => ∃ b, r = .bool b ∧ Q r s₁) PySem.F.called_bool (PySem.F.typeCall_bool_1 _) PySem.F.entry_object_init ?_ ?_
  · refine codeAny_of_tree ?_
    show wpAny _ A.in1.in1 (do checkBuiltinCall "bool.__new__" ⟨[.type "bool", .ref x], []⟩; again (.builtin "bool.__new__" ⟨[.type "bool", .ref x], []⟩)) _ _ s
    refine wpAny_bind (wpAny_of_eq (PySem.F.newCall_bool_1 _) (wpAny_pure ⟨plainId_quiet (by decide +kernel) _, codeAny_builtin PySem.F.entry_bool_new ?_⟩))
    rw [Around.under_plainId (by decide +kernel) _]
    unfold Builtin.«bool.__new__»
    refine wpAny_bind (m := isType (.type "bool")) (wpAny_pure ?_)
    refine wpAny_bind (wpAny_of_eq PySem.F.conv_sub_bool ?_)
    refine wpAny_bind (m := someArgs "bool" 0 1 _) (wpAny_pure ?_)
    refine wpAny_bind (wpAny_mono (truthy_len F X₀ I hs hl hf (Q := fun b s' => Q (.bool b) s') h) (fun b s' hb => ?_) fun _ _ e => e)
    exact wpAny_pure ⟨b, rfl, hb⟩
  · rintro obj s₁ ⟨y, rfl, hq⟩
    exact ⟨PySem.typeIs_bool _ _, PySem.F.args_object_init_2 _ _, object_init_meets PySem.F.called_bool.init.lookup PySem.F.called_bool.made (by decide) prog w A.in1 _ s₁ ⟨PySem.typeIs_bool _ _, rfl, hq⟩⟩
end
section
variable {X : Cx}
def rOwnN (C : Addr) (sp : Sp) : List V → Hp → VK → Prop := fun vs H Q => ∃ b dy gs, vs = [.ref b] ∧ H b = some (.ins C dy gs) ∧
  sp [.ref b] H (fun v H' => ∃ n : Int, v = .int n ∧ 0 ≤ n ∧ n < 2 ^ 63 ∧ Q (.bl (n != 0)) H') E0
theorem run_in3 {pins : List (Addr × Obj)} {σ : L2.St} {H : Hp} {s : Shared} {k : Nat} {f : Addr} {fd : FuncData} {ps : List Str} {sp : Sp} {Q : VK} {us : List Value} {vs : List V}
    (F : FnOk X.prog X.w X.K X.mg X.base CX0 k f fd ps sp) (hr : Room (k + 1 + 1 + 1) X.A) (hb : Binds X.K fd ps []) (I : Inv X pins σ H s)
    (r : Vals vs us) (h : sp vs H Q E0) {E : Value → Shared → Prop} :
    wpAny (model X.prog X.w) X.A.in1.in1.in1 (call (.ref f) us) (EP X pins σ Q) E s := by
  have hl : us.length = ps.length := r.length.symm.trans (F.len _ _ _ _ h)
  have b0 : BindsTo s fd ⟨us, []⟩ (ps.zip us) := by
    have := hb s us I.kIn (by simpa using hl)
    simpa using this
  have z := F.run X.A.in1.in1.in1 X.stack s H ⟨us, []⟩ us vs Q E0 hr.in1.in1.in1 I.env0.in1.in1.in1 b0 r h
  refine wpAny_call (codeAny_mono z ?_)
  intro r s' hq
  match r, hq with
  | .error e, hq => exact hq.elim
  | .ok (.ret u), hq => exact I.after hq
  | .ok .next, hq => exact hq.elim
  | .ok .brk, hq => exact hq.elim
  | .ok .cont, hq => exact hq.elim
theorem call_ownBool {C : Addr} {k : Nat} {ps : List Str} {sp : Sp} (nb : PySem.W.findIn X.K (.ref C) "__bool__" = some none) (O : OwnOp X C "__len__" k ps sp) (hr : Room (k + 1 + 1 + 1) X.A) :
    CallR X (.type "bool") (rOwnN C sp) := by
  intro pins s σ H vs us Q I r h
  obtain ⟨b, dy, gs, rfl, hb, q⟩ := h
  obtain ⟨u, rfl, ru⟩ := vals1 r
  cases ru
  obtain ⟨f, fd, hs, hf, F, bd⟩ := O.ex
  obtain ⟨m, Fr⟩ := fr_of I
  obtain ⟨ox, od, J⟩ := inst_of I hb
  refine bool_len I.kIn J Fr I.ok.mod.kin nb hs hf ?_
  refine thn (run_in3 (us := [.ref b]) (vs := [.ref b]) F hr bd I (.cons rfl .nil) q) ?_
  rintro u s' ⟨_, H', I', r, n, rfl, n0, n1, z⟩
  obtain ⟨t, rfl⟩ := r
  exact ⟨⟨n0, n1⟩, n, _, rfl, .bl (n != 0), H', I'.tok _, rfl, z⟩
end
end My
set_option Elab.async false
set_option maxRecDepth 100000
set_option maxHeartbeats 4000000
set_option linter.unusedVariables false
namespace My
open PySem PySem.Spec PyProof.Rows L2

theorem FunV.kbinds {K : PySem.W.Frag} {x qual : Str} {st : Stmt} {f t : Addr} {fd : FuncData} {o : Obj} {v : Value} {m : Nat} {ps ks : List Str} {n : Nat} (F : FunV K x qual st (.ref t) f fd) (lt : K.lookup t = some o) (ot : o.data = .seq #[v] m)
    (h : ∀ (kV doc pm : Value) (an : Option Addr) (cdv ct : Value) (us ws : List Value), us.length = n → ws.length = ks.length →
      ∃ k, bindArgs (PySem.W.fnOf x qual (defArgs st) (defBody st) (defScope st) (.ref t) kV doc pm an cdv ct) ⟨us, ks.zip ws⟩ = seqItems? (.ref t) >>= k ∧ k (some #[v]) = pure (ps.zip (us ++ ws))) :
    KBn K fd ps n ks (fun us ws => us ++ ws) (fun vs zs => vs ++ zs) := by
  obtain ⟨oc, od, kV, doc, pm, an, cdv, ct, osl, rfl, lk, hcd⟩ := F.ex
  refine ⟨fun s us ws X l1 l2 => ?_, fun r1 r2 => r1.append r2⟩
  obtain ⟨k, e1, e2⟩ := h kV doc pm an cdv ct us ws l1 l2
  refine BindsTo.of_looks fun M => ?_
  rw [e1]
  exact looks_items X lt ot (.of_pure e2)
def MkK (P : Program) (w : World) (K : PySem.W.Frag) (mg : Str → Option Value) (base : Heap) (C : Addr) (k : Nat) (ps : List Str) (ks : List Str) (sp : Sp) : Prop :=
  ∃ f fd, Mk K C f ∧ FnOk P w K mg base CX0 k f fd ps sp ∧ KBn K fd ps 1 ks (fun us ws => us ++ ws) (fun vs zs => vs ++ zs)
def tMakeK (C : Addr) (m : Nat) (sp : Sp) (tk : TA) : TE := fun σ H Q => tk σ H fun zs H2 => zs.length = m ∧
  ∀ x dx, H2 x = none → H2 dx = none → dx ≠ x → sp ([V.ref x] ++ zs) (upd (upd H2 dx (.own x)) x (.ins C dx [])) (fun v H3 => v = .non ∧ Q (.ref x) H3) E0
theorem pe_mkK {X : Cx} {k : Nat} {C : Addr} {ps ks : List Str} {sp : Sp} {x : Str} {p pos : Pos} {kws : List Keyword} {tk : TA} (D : MkK X.prog X.w X.K X.mg X.base C k ps ks sp) (hr : Room (k + 1) X.A) (hg : Gl X x) (hm : X.mg x = some (.ref C))
    (hkw : PK X kws tk) (hall : (backToKw pos (keywordEach kws X.env)).all (·.1.isSome) = true := by rfl) (hks : (backToKw pos (keywordEach kws X.env)).filterMap (·.1) = ks := by rfl)
    (hdb : (x == ("__debug__" : Str)) = false := by decide)
    (hpl : ((backTo pos (starEach [] X.env)).any (·.1) || (backToKw pos (keywordEach kws X.env)).any (·.1.isNone)) = false := by rfl) :
    PE X (.Call (.Name x p) [] kws pos) (tMakeK C ks.length sp tk) := by
  obtain ⟨f, fd, M, F, hb⟩ := D
  refine ⟨fun pins s σ H Q I h => ?_⟩
  refine wpAny_Call_Name_kw (ld_glob I hg hm ?_ hdb)
  refine PySem.W.callWith_KW0 (h₀ := X.base) I.ok.mod.kin M.kp hall (thn (hkw.run pos pins s σ H _ I h) fun ws s2 ⟨zs, H2, I2, rz, l2, q2⟩ => ⟨I2.kIn, ?_⟩) hpl
  rw [hks]
  exact run_makeN (n := 0) M F hr hb pass0 I2 .nil rz rfl l2 q2
end My
set_option Elab.async false
set_option maxRecDepth 100000
set_option maxHeartbeats 4000000
set_option linter.unusedVariables false
namespace My
open PySem PySem.Spec PyProof.Rows L2

theorem empty_app (x : Str) : Str.empty ++ x = x := by
  show (⟨#[] ++ x.cps⟩ : Str) = x
  rw [Array.empty_append]
theorem app_len (x y : Str) : (x ++ y).length = x.length + y.length := by
  show (x.cps ++ y.cps).size = _
  rw [Array.size_append]
  rfl
def intS (i : Int) : Str := (toString i : String)
theorem intS_len {i : Int} (h : i.natAbs < 10 ^ 12) : (intS i).length ≤ 13 := PyData.shown_int_le h
theorem key_log {i : Int} (h0 : 0 ≤ i) (h1 : i ≤ 999999) : i.natAbs.log2 < 1920 := log2_small (by
  have : (1000000 : Nat) < 2 ^ 1920 := by decide
  omega)
def elS (p : Int × Str) : Str := (intS p.1 ++ ":") ++ p.2
theorem name_len {x : Str} (h : nameOk x = true) : x.length ≤ 4 := by
  unfold nameOk at h
  simp only [Bool.and_eq_true, decide_eq_true_eq] at h
  exact h.1.1.2
theorem elS_len {p : Int × Str} (h : (0 ≤ p.1 ∧ p.1 ≤ 999999) ∧ nameOk p.2 = true) : (elS p).length ≤ 20 := by
  have a := intS_len (i := p.1) (by have := h.1; omega)
  have b := name_len h.2
  unfold elS
  rw [app_len, app_len, show (":" : Str).length = 1 from rfl]
  omega
theorem sum_le_mul {α : Type} (f : α → Nat) (b : Nat) : ∀ l : List α, (∀ x ∈ l, f x ≤ b) → (l.map f).sum ≤ l.length * b
  | [], _ => by simp
  | x :: r, h => by
    have := sum_le_mul f b r fun y hy => h y (List.mem_cons_of_mem _ hy)
    have := h x List.mem_cons_self
    rw [List.map_cons, List.sum_cons, List.length_cons, Nat.succ_mul]
    omega
def textE (es : List (Int × Str)) : Str := if es.isEmpty = true then "empty" else Txt.join " " (es.map elS)
def shownE (es : List (Int × Str)) : Str := (PyData.list (es.map tupD)).shown
def reprE (es : List (Int × Str)) : Str := ("FormSet(" ++ shownE es) ++ ")"
theorem VS.perm {es es' : List (Int × Str)} (h : VS es) (p : es'.Perm es) : VS es' := fun q hq => h q (p.mem_iff.mp hq)
theorem VS.ne {es : List (Int × Str)} (h : VS es) : NE es := fun p hp => (h p hp).2
theorem okP_name {x : Str} (h : nameOk x = true) : okP 1000 10 (.str x) := by
  have hl := name_len h
  refine ⟨?_, ?_, ?_, ?_, name_lay h⟩
  · first | rfl | simp [PyData.showable]
  · exact PyData.leavesShort_of_canLay0 100 (.str x) (name_lay h) rfl
  · show x.length ≤ 1000; omega
  · show 0 ≤ 10; omega
theorem okP_tups {es : List (Int × Str)} (h : VS es) (hl : es.length ≤ 20) : okP 41000 20 (.list (es.map tupD)) := by
  refine okP_list (W := 2002) (D := 11) (fun d hd => ?_) (by rw [List.length_map]; omega) (by decide)
  obtain ⟨p, hp, rfl⟩ := List.mem_map.mp hd
  refine okP_tup (W := 1000) (D := 10) (fun e he => ?_) (by simp) (by decide)
  simp only [List.mem_cons, List.not_mem_nil, or_false] at he
  rcases he with rfl | rfl
  · exact okP_of (small_int (h p hp).1.1 (by have := (h p hp).1.2; omega))
  · exact okP_name (h p hp).2
theorem okP_len {W D : Nat} {d : PyData} (h : okP W D d) (hw : W ≤ 41000) : d.shown.length ≤ 4200000 := by
  have a := PyData.shown_le 100 (by decide) d h.2.1
  have := h.2.2.1
  omega
theorem shownE_len {es : List (Int × Str)} (h : VS es) (hl : es.length ≤ 20) : (shownE es).length ≤ 4200000 := okP_len (okP_tups h hl) (Nat.le_refl _)
theorem fit5 {n : Nat} (h : n ≤ 5000000) : n ≤ sizeLine := Nat.le_trans h (by decide)

theorem sort_one {es a b : List (Int × Str)} (nd : (keys es).Nodup) (pa : a.Perm es) (sa : a.Pairwise (fun p q => p.1 < q.1)) (pb : b.Perm es) (sb : b.Pairwise (fun p q => p.1 < q.1)) : a = b := by
  have pk : (keys b).Perm (keys es) := pb.map _
  have sk : (keys b).Pairwise (· ≤ ·) := List.pairwise_map.mpr (sb.imp fun h => Int.le_of_lt h)
  have e1 := sorted_eq (ks := keys b) nd nd (fun _ => rfl) pa sa pk sk
  have e2 := sorted_eq (ks := keys b) nd nd (fun _ => rfl) pb sb pk sk
  rw [e1]
  exact e2.symm
def spStrS (C : Addr) : Sp := fun vs H Q _ => ∃ U a es, vs = [.ref a] ∧ FS C U H a es ∧ VS es ∧ es.length ≤ 20 ∧
  ∀ H' es', Same H H' → es'.Perm es → es'.Pairwise (fun p q => p.1 < q.1) → Q (.str (textE es')) H'
def spReprS (C : Addr) : Sp := fun vs H Q _ => ∃ U a es, vs = [.ref a] ∧ FS C U H a es ∧ VS es ∧ es.length ≤ 20 ∧
  ∀ H' es', Same H H' → es'.Perm es → es'.Pairwise (fun p q => p.1 < q.1) → Q (.str (reprE es')) H'
end My
set_option Elab.async false
set_option maxRecDepth 100000
set_option maxHeartbeats 4000000
set_option linter.unusedVariables false
namespace My
open PySem PySem.Spec PyProof.Rows L2
theorem Bag.put {H : Hp} {a b : Addr} {n : Nat} {o : HO} (h : Bag H a n) (ne : b ≠ a) : Bag (upd H b o) a n := by
  obtain ⟨x, y, z, h, r⟩ := h
  exact ⟨x, y, z, (upd_ne ne.symm).trans h, r⟩
theorem at_map {α : Type} {xs : List α} {f : α → V} {i : Int} (h0 : 0 ≤ i) (h1 : i < xs.length) : ∃ x, atI (xs.map f) i = some (f x) ∧ x ∈ xs := by
  have hlt : i.toNat < xs.length := by omega
  refine ⟨xs[i.toNat], ?_, List.getElem_mem hlt⟩
  unfold atI ixN
  rw [if_pos h0, if_pos (by rw [List.length_map]; exact h1)]
  simp [hlt]
theorem tupS_bag {H H' : Hp} {a : Addr} {n : Nat} (e : Ext a H H') (b : Bag H a n) {ts : List V} {es : List (Int × Str)} (h : TupS H ts es) : TupS H' ts es := by
  obtain ⟨x, y, z, e1, _⟩ := b
  exact tupS_chg e1 e h
def spRows2 : Sp := fun vs H Q _ => ∃ (a : Addr) (n : Nat), vs = [.ref a] ∧ Bag H a n ∧ n < 1000 ∧
  ∀ l xs rows H', Ext a H H' → Bag H' a (n + 50) → H' l = some (.lst xs) → l ≠ a → TupS H' xs rows → VS rows → rows.length ≤ 12 → Q (.ref l) H'
theorem VS.snoc {es : List (Int × Str)} {p : Int × Str} (h : VS es) (hp : (0 ≤ p.1 ∧ p.1 ≤ 999999) ∧ nameOk p.2 = true) : VS (es ++ [p]) := by
  intro q hq
  rcases List.mem_append.mp hq with hq | hq
  · exact h q hq
  · rw [List.mem_singleton.mp hq]; exact hp
theorem Bag.ne2 {H : Hp} {a b : Addr} {n : Nat} {kvs : List (Key × V)} (h : Bag H a n) (e : H b = some (.dK kvs)) : b ≠ a := by
  rintro rfl
  obtain ⟨x, y, z, h, _⟩ := h
  rw [h] at e; cases e
def okR (d : PyData) : Prop := sm d ∧ d.showable = true ∧ d.depth ≤ 60 ∧ d.shown.length ≤ sizeLine
theorem okR_of {d : PyData} (h : okB d = true) : okR d := by
  have t := okT_of (okP_mono (okP_of h) (by decide) (by decide))
  exact ⟨okT_sm t, t.1, Nat.le_trans t.2.2.2.1 (by decide), okT_len t⟩
theorem okR_dict0 : okR (.dict []) := ⟨⟨by decide, .inr ⟨_, rfl⟩⟩, by decide +kernel, by decide, by decide +kernel⟩
def spOthers (K : PySem.W.Frag) : Sp := fun vs H Q _ => ∃ (a dd : Addr) (n : Nat) (es : List (Int × Str)), vs = [.ref a, .ref dd] ∧ Bag H a n ∧ n < 5000 ∧ H dd = some (.dK (ents es)) ∧
  ∀ l xs H', Ext a H H' → Bag H' a (n + 1) → H' l = some (.lst xs) → (∀ v ∈ xs, ∃ d, Dx K H' v d ∧ okR d ∧ hasD es d = false) → xs.length ≤ 20 → Q (.ref l) H'
theorem pass0X {X : Cx} : Passes (L2.CX X.prog X.w) X E0 := by
  rintro pins σ H s e s' _ ⟨_, _, _, _, _, _, _, _, _, _, _, _, h⟩
  exact h.elim
def spRight (C : Addr) : Sp := fun vs H Q _ => ∃ U x d es, vs = [.ref x, .ref d] ∧ FS C U H x es ∧ H d = some (.dK (ents es)) ∧ VS es ∧ es.length ≤ 20 ∧ ∀ H', Same H H' → Q (.bl true) H'
theorem ifE_join {c : Bool} {ta tb : TE} {σ : L2.St} {H : Hp} {Q : VK} {v : V} (h1 : c = true → ∀ R : VK, R v H → ta σ H R) (h2 : c = false → ∀ R : VK, R v H → tb σ H R) (k : Q v H) : if c = true then ta σ H Q else tb σ H Q := by
  cases c with
  | true => exact iteT (h1 rfl Q k)
  | false => exact iteF (h2 rfl Q k)
theorem eqv_empty (L : List (Int × Str)) : PyData.eqv (.list (L.map tupD)) (.list []) = L.isEmpty := by cases L <;> rfl
theorem textE_of {L : List (Int × Str)} (h : L.isEmpty = false) : textE L = Txt.join " " (L.map elS) := by
  unfold textE
  rw [h, if_neg (by simp)]
theorem textE_nil {L : List (Int × Str)} (h : L.isEmpty = true) : textE L = "empty" := by
  unfold textE
  rw [h, if_pos rfl]
theorem len_ne {L : List (Int × Str)} {n : Nat} (h : L.length = n) : (((n : Nat) : Int) != 0) = !L.isEmpty := by
  subst h
  cases L with
  | nil => rfl
  | cons _ _ =>
    rw [List.length_cons]
    show (!(((_ : Nat) : Int) == 0)) = true
    rw [Bool.not_eq_true', beq_eq_false_iff_ne]
    omega
theorem dec_bl2 (a : Bool) : decide (V.bl a = V.bl a) = true := decide_eq_true rfl
end My
set_option Elab.async false
set_option maxRecDepth 100000
set_option maxHeartbeats 4000000
set_option linter.unusedVariables false
namespace My
open PySem PySem.Spec PyProof.Rows L2
section
variable {X : Cx}

def rEq2 (K : PySem.W.Frag) (C : Addr) (sp : Sp) : R2 := fun x y H Q => ∃ a dx fs, x = .ref a ∧ H a = some (.ins C dx fs) ∧
  ((∃ b dy gs, y = .ref b ∧ H b = some (.ins C dy gs)) ∨ ∃ d, Dx K H y d) ∧ sp [x, y] H (fun v H' => ∃ c, v = .bl c ∧ Q (.bl c) H') E0
theorem op_ownEq2 {C : Addr} {k : Nat} {ps : List Str} {sp : Sp} (O : OwnOp X C "__eq__" k ps sp) (hr : Room k X.A) (hu : X.A.units < cLine)
    (hn : ∀ S ∈ kinds7, PySem.W.notFirst X.K C (.type S) = true) : OpR X (compareOp .Eq) (rEq2 X.K C sp) := by
  intro pins s σ H x y v u Q I rx ry h
  obtain ⟨a, dx, fs, rfl, ha, hy, q⟩ := h
  cases rx
  obtain ⟨f, fd, hs, hf, F, bd⟩ := O.ex
  obtain ⟨m, Fr⟩ := fr_of I
  obtain ⟨ox, od, J⟩ := inst_of I ha
  show wpAny _ _ (richCompare .Eq _ _) _ _ _
  have go : ∀ tb, PySem.W.Looks (model X.prog X.w) s.heap (typeOf u) tb → PySem.W.notFirst X.K C tb = true → wpAny (model X.prog X.w) X.A (richCompare .Eq (.ref a) u) (EP X pins σ Q) X.xe s := by
    intro tb hb hn2
    refine PySem.W.cmp_K hu Fr I.ok.mod.kin J hb hn2 hs hf ?_
    refine thn (run_fn (us := [.ref a, u]) (vs := [.ref a, y]) F hr bd .nil pass0 I (.cons rfl (.cons ry .nil)) q) ?_
    rintro u s' ⟨_, H', I', r, c, rfl, z⟩
    cases r
    exact ⟨.bl c, H', I', rfl, z⟩
  rcases hy with ⟨b, dy, gs, rfl, hb⟩ | ⟨d, hd⟩
  · cases ry
    obtain ⟨oy, oe, J2⟩ := inst_of I hb
    exact go _ J2.type (by unfold PySem.W.notFirst; simp)
  · obtain ⟨P, kx, p, _⟩ := kit_of I ry (ty_of hd)
    exact go _ (kx.ty _ _ I.kIn p) (hn _ (tyD_kinds d))
end
end My
set_option Elab.async false
set_option maxRecDepth 100000
set_option maxHeartbeats 4000000
set_option linter.unusedVariables false
namespace My
open PySem PySem.Spec PyProof.Rows L2
theorem op_ownEq2N {X : Cx} {K : PySem.W.Frag} {C : Addr} {k : Nat} {ps : List Str} {sp : Sp} (h : X.K = K) (O : OwnOp X C "__eq__" k ps sp) (hr : Room k X.A) (hu : X.A.units < cLine)
    (hn : ∀ S ∈ kinds7, PySem.W.notFirst K C (.type S) = true) : OpR X (compareOp .Eq) (rEq2 K C sp) := by
  subst h
  exact op_ownEq2 O hr hu hn
theorem keys_rev (rows : List (Int × Str)) : keys rows.reverse = (keys rows).reverse := List.map_reverse
theorem has_firsts (rows : List (Int × Str)) (k : Int) : has (firsts rows) k = true ↔ k ∈ keys rows := by
  rw [has_iff]
  have go : ∀ l : List (Int × Str), ∀ acc : List (Int × Str), k ∈ keys (l.foldl (fun acc p => if has acc p.1 = true then acc else acc ++ [p]) acc) ↔ k ∈ keys acc ∨ k ∈ keys l := by
    intro l
    induction l with
    | nil => intro acc; simp [keys]
    | cons p r ih =>
      intro acc
      rw [List.foldl_cons, ih]
      by_cases h : has acc p.1 = true
      · rw [if_pos h]
        have h2 := has_iff.mp h
        unfold keys at h2 ⊢
        rw [List.map_cons, List.mem_cons]
        constructor
        · rintro (z | z)
          · exact .inl z
          · exact .inr (.inr z)
        · rintro (z | z | z)
          · exact .inl z
          · exact .inl (z ▸ h2)
          · exact .inr z
      · rw [if_neg h, keys_app]
        unfold keys
        simp only [List.map_cons, List.map_nil, List.mem_append, List.mem_cons, List.not_mem_nil, or_false, or_assoc]
  rw [show firsts rows = rows.foldl (fun acc p => if has acc p.1 = true then acc else acc ++ [p]) [] from rfl, go rows []]
  simp [keys]
theorem firsts_le (rows : List (Int × Str)) : (firsts rows).length ≤ rows.length := by
  have := firsts_len rows rows.length
  rwa [List.take_length] at this
theorem good_own {rows : List (Int × Str)} (h : rows.length ≤ 1000) : Good (keys rows) (firsts rows) := good_firsts (fun p hp => List.mem_map_of_mem hp) (by rw [keys_len]; exact h)
theorem tupS_rev {H : Hp} : ∀ {ts : List V} {es : List (Int × Str)}, TupS H ts es → TupS H ts.reverse es.reverse
  | _, _, .nil => .nil
  | _, _, .cons h r => by
    rw [List.reverse_cons, List.reverse_cons]
    exact tupS_app h (tupS_rev r)
theorem VS.rev {es : List (Int × Str)} (h : VS es) : VS es.reverse := fun p hp => h p (List.mem_reverse.mp hp)

theorem set_made {K : PySem.W.Frag} {C r : Addr} {xs : List V} {rows : List (Int × Str)} {H : Hp} {R : Addr → Hp → Prop} (hr : H r = some (.lst xs) ∨ SqT K H r xs) (he : ElAll K H xs rows) (hl : rows.length ≤ 1000)
    (k : ∀ z H', Same H H' → FS C (keys rows) H' z (firsts rows) → R z H') (x dx : Addr) (hx : H x = none) (hdx : H dx = none) (hne : dx ≠ x) :
    spInit K C [.ref x, .ref r] (upd (upd H dx (.own x)) x (.ins C dx [])) (fun v H2 => v = .non ∧ R x H2) E0 := by
  have sm := made_same (C := C) (fs := []) hx hdx hne
  refine ⟨x, dx, r, xs, rows, rfl, upd_same, ?_, he.same sm, hl, fun d2 H6 s6 hz6 hd6 => ⟨rfl, k x H6 ?_ ⟨dx, d2, hz6, hd6, good_own hl⟩⟩⟩
  · rcases hr with hr | hr
    · exact .inl (sm _ _ hr)
    · exact .inr (same_seqT sm hr)
  · intro b o e
    have q := s6 b o ((del_at (ne_of_none e hx)).trans (sm _ _ e))
    rw [del_at (ne_of_none e hx)] at q
    exact q
theorem flat_ents : ∀ es : List (Int × Str), ∃ ds, FlatKv (ents es) ds
  | [] => ⟨_, .nil⟩
  | p :: r => by
    obtain ⟨ds, h⟩ := flat_ents r
    exact ⟨_, .cons (d := .str p.2) rfl h⟩

structure Liv (K : PySem.W.Frag) (C z1 z2 d1 l : Addr) (xs : List V) (rows : List (Int × Str)) (H0 H : Hp) : Prop where
  one : FS C (keys rows) H z1 (firsts rows)
  two : FS C (keys rows.reverse) H z2 (firsts rows.reverse)
  due : H d1 = some (.dK (ents (firsts rows)))
  lst : H l = some (.lst xs)
  tup : TupS H xs rows
  all : ∀ b o, H0 b = some o → H b = some o
theorem Liv.same {K : PySem.W.Frag} {C z1 z2 d1 l : Addr} {xs : List V} {rows : List (Int × Str)} {H0 H H' : Hp} (h : Liv K C z1 z2 d1 l xs rows H0 H) (s : Same H H') : Liv K C z1 z2 d1 l xs rows H0 H' :=
  ⟨h.one.same s, h.two.same s, s _ _ h.due, s _ _ h.lst, tupS_same s h.tup, fun b o e => s _ _ (h.all b o e)⟩
theorem Liv.ext {K : PySem.W.Frag} {C z1 z2 d1 l g : Addr} {xs : List V} {rows : List (Int × Str)} {H0 H H' : Hp} {n : Nat} (h : Liv K C z1 z2 d1 l xs rows H0 H) (b : Bag H g n) (nl : l ≠ g) (ng : H0 g = none) (s : Ext g H H') : Liv K C z1 z2 d1 l xs rows H0 H' := by
  have b2 := b
  obtain ⟨x, y, z, e, _⟩ := b
  exact ⟨h.one.chg e s, h.two.chg e s, s _ _ (b2.ne2 h.due) h.due, s _ _ nl h.lst, tupS_chg e s h.tup, fun c o q => s _ _ (fun w => by rw [w, ng] at q; cases q) (h.all c o q)⟩
theorem nd_firsts (rows : List (Int × Str)) : (keys (firsts rows)).Nodup := (firsts_from rows [] List.nodup_nil).1
theorem rev_len {rows : List (Int × Str)} : (firsts rows).length = (firsts rows.reverse).length := by
  have p : (keys (firsts rows)).Perm (keys (firsts rows.reverse)) := by
    refine (List.perm_ext_iff_of_nodup (nd_firsts _) (nd_firsts _)).mpr fun k => ?_
    rw [← has_iff, ← has_iff, has_firsts, has_firsts, keys_rev, List.mem_reverse]
  have := p.length_eq
  rwa [keys_len, keys_len] at this
theorem rev_has {rows : List (Int × Str)} {k : Int} (h : has (firsts rows) k = true) : has (firsts rows.reverse) k = true := by
  rw [has_firsts] at h ⊢
  rw [keys_rev, List.mem_reverse]
  exact h
theorem more_len {rows : List (Int × Str)} {p : Int × Str} (h : has (firsts rows) p.1 = false) : (firsts (rows ++ [p])).length = (firsts rows).length + 1 := by
  rw [firsts_app, if_neg (by rw [h]; simp), List.length_append]
  rfl
theorem same_no {l m : List (Int × Str)} (h : l.length ≠ m.length) : sameForms l m = false := by
  unfold sameForms
  rw [show (l.length == m.length) = false from beq_eq_false_iff_ne.mpr h]
  rfl
theorem and_join {c : Bool} {u : TT} {σ : L2.St} {H : Hp} {Q : Bool → Hp → Prop} (h : c = true → ∀ R : Bool → Hp → Prop, (∀ H', Same H H' → R false H') → u σ H R) (k : ∀ H', Same H H' → Q false H') : if c = true then u σ H Q else Q false H := by
  cases c with
  | true => exact iteT (h rfl Q k)
  | false => exact iteF (k H (Same.refl H))
theorem not_self (b : Bool) : decide (V.bl (!b) = V.bl b) = false := by cases b <;> rfl
end My
set_option Elab.async false
set_option maxRecDepth 100000
set_option maxHeartbeats 4000000
set_option linter.unusedVariables false
namespace My
open PySem PySem.Spec PyProof.Rows L2

def hasR (rs : List (Int × Rw)) (d : PyData) : Bool := match d with
  | .int n => mKey d && hs rs n
  | _ => false
theorem hasR_no {rs : List (Int × Rw)} {d : PyData} (h : mKey d = false) : hasR rs d = false := by
  cases d with
  | int n => show (mKey (.int n) && hs rs n) = false; rw [h]; rfl
  | _ => rfl
theorem hasR_int {rs : List (Int × Rw)} {n : Int} (h : mKey (.int n) = true) : hasR rs (.int n) = hs rs n := by
  show (mKey (.int n) && hs rs n) = hs rs n
  rw [h]; rfl
def spHasDX (K : PySem.W.Frag) (C : Addr) : Sp := fun vs H Q _ => ∃ U a rs v d, vs = [.ref a, v] ∧ DD K C U H a rs ∧ Dx K H v d ∧ sm d ∧ ∀ H', Same H H' → Q (.bl (hasR rs d)) H'

def spFormDX (K : PySem.W.Frag) (C CB : Addr) : Sp := fun vs H Q E => ∃ U a rs v d, vs = [.ref a, v] ∧ DD K C U H a rs ∧ Dx K H v d ∧ sm d ∧
  (∀ n x m H', v = .int n → hasR rs d = true → lk rs n = some (x, m) → Same H H' → Q (.str x) H') ∧ ∀ e H', hasR rs d = false → Same H H' → H e = none → H' e = some (.xd [("value", v)]) → E (.ref CB) (some e) H'

def spItemDX (K : PySem.W.Frag) (C CB : Addr) : Sp := fun vs H Q E => ∃ U a rs v d, vs = [.ref a, v] ∧ DD K C U H a rs ∧ Dx K H v d ∧ sm d ∧
  (∀ n x m H', v = .int n → hasR rs d = true → lk rs n = some (x, m) → Same H H' → Q (.int m) H') ∧ ∀ e H', hasR rs d = false → Same H H' → H e = none → H' e = some (.xd [("value", v)]) → E (.ref CB) (some e) H'
def lessD (rs : List (Int × Rw)) (n : Int) : List (Int × Rw) := rs.filter fun p => decide (p.1 ≠ n)
def spLessD (K : PySem.W.Frag) (C : Addr) : Sp := fun vs H Q _ => ∃ U a rs n, vs = [.ref a, .int n] ∧ DD K C U H a rs ∧ (0 ≤ n ∧ n ≤ 999999) ∧
  ∀ d H', Same H H' → DD K C U H' d (lessD rs n) → Q (.ref d) H'
def spLenD (K : PySem.W.Frag) (C : Addr) : Sp := fun vs H Q _ => ∃ U a rs, vs = [.ref a] ∧ DD K C U H a rs ∧ Q (.int rs.length) H
theorem drop_entsV (n : Int) (es : List (Int × V)) : dropK (entsV es) (.inl n) = entsV (es.filter fun p => decide (p.1 ≠ n)) := by
  unfold dropK entsV
  rw [List.filter_map]
  congr 1
  refine List.filter_congr fun p _ => ?_
  show decide ((Sum.inl p.1 : Key) ≠ .inl n) = decide (p.1 ≠ n)
  by_cases e : p.1 = n
  · rw [e]; simp
  · rw [decide_eq_true e]
    exact decide_eq_true fun z => e (Sum.inl.inj z)
theorem less_id {rs : List (Int × Rw)} {n : Int} (h : hs rs n = false) : lessD rs n = rs := by
  unfold lessD
  rw [List.filter_eq_self]
  intro p hp
  refine decide_eq_true fun e => ?_
  unfold hs at h
  cases q : lk rs n with
  | some r => rw [q] at h; cases h
  | none =>
    unfold lk at q
    rw [Option.map_eq_none_iff, List.find?_eq_none] at q
    exact q p hp (decide_eq_true e)
theorem Rws.less {K : PySem.W.Frag} {H : Hp} {es : List (Int × V)} {rs : List (Int × Rw)} (h : Rws K H es rs) (n : Int) : Rws K H (es.filter fun p => decide (p.1 ≠ n)) (lessD rs n) :=
  h.filter fun k => decide (k ≠ n)

def sameRows (rs qs : List (Int × Rw)) : Bool := rs.length == qs.length && rs.all fun p => decide (lk qs p.1 = some p.2)
def rEqRX (K : PySem.W.Frag) : R2 := fun x y H Q => ∃ a b es fs rs qs, x = .ref a ∧ y = .ref b ∧ H a = some (.dK (entsV es)) ∧ H b = some (.dK (entsV fs)) ∧ Rws K H es rs ∧ Rws K H fs qs ∧ VR rs ∧ VR qs ∧ Q (.bl (sameRows rs qs)) H
section
variable {X : Cx} {pins : List (Addr × Obj)} {σ : L2.St} {H : Hp} {s : Shared}
theorem eqv_row {z y : Str} {n m : Int} : PyData.eqv (.tuple [.str z, .int n]) (.tuple [.str y, .int m]) = decide ((z, n) = (y, m)) := by
  show (z == y && (decide (n = m) && true)) = _
  rw [Bool.and_true]
  by_cases h1 : z = y
  · by_cases h2 : n = m
    · rw [h1, h2]; simp
    · rw [h1, decide_eq_false h2, decide_eq_false (fun e => h2 (Prod.mk.inj e).2)]; simp
  · rw [decide_eq_false (fun e => h1 (Prod.mk.inj e).1), beq_eq_false_iff_ne.mpr h1]; rfl
theorem row_eqP (I : Inv X pins σ H s) {A : Around} (hu : A.units + 64 < cLine) {t w : Addr} {z y : Str} {n m : Int} (h1 : SqT X.K H t [.str z, .int n]) (h2 : SqT X.K H w [.str y, .int m]) (hz : nameOk z = true) (hy : nameOk y = true) :
    SeqAt.EqP X.prog X.w A s (.ref t) (.ref w) (decide ((z, n) = (y, m))) := by
  by_cases e : t = w
  · subst e
    have := I.tuple_inj h1 h2
    cases this
    rw [decide_eq_true rfl]
    exact (SeqAt.EqAt.same _).eqP
  · refine SeqAt.eqP_refs e fun E Q q => ?_
    obtain ⟨as, d1⟩ := Dp.reads I (.tuple [.str z, .int n]) (.ref t) (.ref t) (.tup h1 (.cons (.str _) (.cons (.int _) .nil))) rfl
    obtain ⟨bs, d2⟩ := Dp.reads I (.tuple [.str y, .int m]) (.ref w) (.ref w) (.tup h2 (.cons (.str _) (.cons (.int _) .nil))) rfl
    refine SeqAt.compareEq_shaped d1 d2 (row_lay hz) (row_lay hy) hu ?_
    rw [eqv_row]
    exact q
theorem hits_rows (I : Inv X pins σ H s) {A : Around} (hu : A.units + 64 < cLine) {fs : List (Int × V)} {qs : List (Int × Rw)} {vb : List (Key × Value)} (rb : KV (entsV fs) vb) (r2 : Rws X.K H fs qs) (vq : VR qs) :
    ∀ {es : List (Int × V)} {rs : List (Int × Rw)} {va : List (Key × Value)}, Rws X.K H es rs → VR rs → KV (entsV es) va →
    PySem.W.KeqHitsP X.prog X.w A s vb va (rs.all fun p => decide (lk qs p.1 = some p.2)) := by
  intro es
  induction es with
  | nil =>
    intro rs va r1 _ ra
    cases r1
    cases ra
    exact .nil
  | cons p es ih =>
    intro rs va r1 vr ra
    cases r1 with
    | @cons t k x n _ rs' ht r1' =>
      unfold KV entsV at ra
      rw [List.map_cons] at ra
      cases ra with
      | @cons _ q _ qs' h tl =>
        obtain ⟨h1, h2⟩ := h
        obtain ⟨key, v⟩ := q
        have h1' : (Sum.inl k : Key) = key := h1
        subst h1'
        have e2 : v = Value.ref t := h2
        subst e2
        have ih' := ih (va := qs') r1' (fun r hr => vr r (List.mem_cons_of_mem _ hr)) (by unfold KV entsV; exact tl)
        have rr : RelO (valV (entsV fs) (.inl k)) (valueAt vb (.inl k)) := rb.val (.inl k)
        rw [valV_entsV] at rr
        rw [List.all_cons]
        rcases r2.lk k with ⟨e1, e3⟩ | ⟨t2, y, m, e1, e3, ht2⟩
        · rw [e1] at rr
          have hn : valueAt vb (.inl k) = none := RelO.none_of rr
          show PySem.W.KeqHitsP X.prog X.w A s vb _ (decide (lk qs k = some (x, n)) && _)
          rw [e3, decide_eq_false (fun z => nomatch z)]
          exact .miss hn
        · rw [e1] at rr
          obtain ⟨u, hu2, ru⟩ := rr.some_of
          have eu : u = Value.ref t2 := ru
          subst eu
          have ok1 := (vr _ List.mem_cons_self).2.1
          have ok2 := (vq _ (lk_mem e3)).2.1
          have hb := row_eqP I hu ht ht2 ok1 ok2
          show PySem.W.KeqHitsP X.prog X.w A s vb _ (decide (lk qs k = some (x, n)) && _)
          have ed : decide (lk qs k = some (x, n)) = decide ((x, n) = (y, m)) := by
            rw [e3]
            by_cases z : (x, n) = (y, m)
            · rw [z]; simp
            · rw [decide_eq_false z, decide_eq_false fun w => z (Option.some.inj w).symm]
          rw [ed]
          exact .hit hu2 hb ih'
theorem op_eqRX (hu : X.A.units + 80 < cLine) : OpR X (compareOp .Eq) (rEqRX X.K) := by
  intro pins s σ H x y v u Q I rx ry h
  obtain ⟨a, b, es, fs, rs, qs, rfl, rfl, ha, hb, r1, r2, v1, v2, q⟩ := h
  cases (show v = Value.ref a from rx)
  cases (show u = Value.ref b from ry)
  obtain ⟨_, ya, va, ra, da⟩ := (show ObjOk X.prog X.w H s.heap a (.dK (entsV es)) from I.hok a _ ha)
  obtain ⟨_, yb, vb, rb, db⟩ := (show ObjOk X.prog X.w H s.heap b (.dK (entsV fs)) from I.hok b _ hb)
  refine PySem.W.rcP_dicts (knd := mixKind X.prog X.w) (r := rs.all fun p => decide (lk qs p.1 = some p.2)) ya yb da db (by omega) (fun _ => hits_rows I (by show X.A.units + 1 + 64 < cLine; omega) rb r2 v2 r1 v1 ra) _ _ ?_
  have e1 : va.length = rs.length := by rw [← ra.length, entsV_len, r1.len]
  have e2 : vb.length = qs.length := by rw [← rb.length, entsV_len, r2.len]
  rw [e1, e2]
  exact ⟨.bl _, H, I, rfl, q⟩
end

def spEqDX (K : PySem.W.Frag) (C S : Addr) : Sp := fun vs H Q _ => ∃ U a rs y, vs = [.ref a, y] ∧ DD K C U H a rs ∧
  ((∃ W b qs, y = .ref b ∧ DD K C W H b qs ∧ Q (.bl (sameRows rs qs)) H) ∨ (∃ W b fs, y = .ref b ∧ FS S W H b fs ∧ Q (.bl false) H))

def enS (p : Int × Rw) : Str := (((intS p.1 ++ ":") ++ p.2.1) ++ "=") ++ intS p.2.2
def textR (rs : List (Int × Rw)) : Str := if rs.isEmpty = true then "empty" else Txt.join " " (rs.map enS)
def shownR (rs : List (Int × Rw)) : Str := (PyData.list (rs.map ent3)).shown
def reprR (rs : List (Int × Rw)) : Str := ("FormDict(" ++ shownR rs) ++ ")"
def spStrD (K : PySem.W.Frag) (C : Addr) : Sp := fun vs H Q _ => ∃ U a rs, vs = [.ref a] ∧ DD K C U H a rs ∧ rs.length ≤ 13 ∧
  ∀ H' L, Same H H' → L.Perm rs → L.Pairwise (fun p q => p.1 < q.1) → Q (.str (textR L)) H'
def spReprD (K : PySem.W.Frag) (C : Addr) : Sp := fun vs H Q _ => ∃ U a rs, vs = [.ref a] ∧ DD K C U H a rs ∧ rs.length ≤ 13 ∧
  ∀ H' L, Same H H' → L.Perm rs → L.Pairwise (fun p q => p.1 < q.1) → Q (.str (reprR L)) H'
end My
set_option Elab.async false
set_option maxRecDepth 100000
set_option maxHeartbeats 4000000
set_option linter.unusedVariables false
namespace My
open PySem PySem.Spec PyProof.Rows L2

def ValOk (v : Int) : Prop := 1 - 10 ^ 40 ≤ v ∧ v ≤ 10 ^ 40 - 1
theorem ValOk.abs {v : Int} (h : ValOk v) : v.natAbs < 10 ^ 40 := by
  obtain ⟨h1, h2⟩ := h
  omega
theorem ValOk.log {v : Int} (h : ValOk v) : v.natAbs.log2 < 133 := by
  have h1 := h.abs
  by_cases e : v.natAbs = 0
  · rw [e]; decide
  · refine (Nat.log2_lt e).mpr (Nat.lt_of_lt_of_le h1 (by decide))
theorem ValOk.log2 {v : Int} (h : ValOk v) : v.natAbs.log2 < 1920 := Nat.lt_trans h.log (by decide)
theorem val_len {v : Int} (h : ValOk v) : (intS v).length ≤ 41 := by
  have h1 := int_text_length_le10 (a := v) (k := 40) (by decide) h.abs
  unfold intS
  rw [PySem.ofString_length]
  exact h1
theorem okB_val {v : Int} (h : ValOk v) : okB (.int v) = true := by
  unfold okB
  have a3 : (PyData.shown (.int v)).length ≤ 100 := by
    rw [PyData.shown_int]
    exact Nat.le_trans (val_len h) (by decide)
  have a4 : (PyData.int v).weight ≤ 1000 := by
    show (if v == 0 then 0 else v.natAbs.log2 + 1) ≤ 1000
    have := h.log
    split <;> omega
  have b1 : (PyData.int v).showable = true := by simp only [PyData.showable]; exact decide_eq_true h.log2
  have b2 : (PyData.int v).leavesShort 100 = true := by simp only [PyData.leavesShort]; exact decide_eq_true a3
  rw [b1, b2, decide_eq_true a4]
  rfl
theorem enS_len {p : Int × Rw} (h : rowOk p) : (enS p).length ≤ 70 := by
  obtain ⟨⟨h1, h2⟩, h3, h4⟩ := h
  have a := intS_len (i := p.1) (by omega)
  have b := name_len h3
  have c := val_len (v := p.2.2) h4
  unfold enS
  rw [app_len, app_len, app_len, app_len]
  have : (":" : Str).length = 1 := rfl
  have : ("=" : Str).length = 1 := rfl
  omega
theorem VR.perm {rs L : List (Int × Rw)} (h : VR rs) (p : L.Perm rs) : VR L := fun q hq => h q (p.mem_iff.mp hq)
theorem okP_en {p : Int × Rw} (h : rowOk p) : okP 3003 11 (ent3 p) := by
  refine okP_tup (W := 1000) (D := 10) (fun e he => ?_) (by simp) (by decide)
  simp only [List.mem_cons, List.not_mem_nil, or_false] at he
  rcases he with rfl | rfl | rfl
  · exact okP_of (small_int h.1.1 (by have := h.1.2; omega))
  · exact okP_name h.2.1
  · exact okP_of (okB_val h.2.2)
theorem okP_ents {rs : List (Int × Rw)} (h : VR rs) (hl : rs.length ≤ 13) : okP 41000 20 (.list (rs.map ent3)) := by
  refine okP_list (W := 3003) (D := 11) (fun d hd => ?_) (by rw [List.length_map]; omega) (by decide)
  obtain ⟨p, hp, rfl⟩ := List.mem_map.mp hd
  exact okP_en (h p hp)
theorem shownR_len {rs : List (Int × Rw)} (h : VR rs) (hl : rs.length ≤ 13) : (shownR rs).length ≤ 4200000 := okP_len (okP_ents h hl) (Nat.le_refl _)
theorem sort_oneR {rs a b : List (Int × Rw)} (nd : (ks rs).Nodup) (pa : a.Perm rs) (sa : a.Pairwise (fun p q => p.1 < q.1)) (pb : b.Perm rs) (sb : b.Pairwise (fun p q => p.1 < q.1)) : a = b := by
  refine List.Perm.eq_of_pairwise (le := fun p q => p.1 < q.1) (fun x y hx hy h1 h2 => ?_) sa sb (pa.trans pb.symm)
  exact absurd h1 (by omega)

def withR (rs : List (Int × Rw)) (n : Int) (x : Str) (v : Int) (b : Bool) : List (Int × Rw) := if (b || !hs rs n) = true then mergedA rs [(n, (x, v))] else rs
def spWithD (K : PySem.W.Frag) (C : Addr) : Sp := fun vs H Q _ => ∃ U a rs n x v b, vs = [.ref a, .int n, .str x, .int v, .bl b] ∧ DD K C U H a rs ∧ rowOk (n, (x, v)) ∧ n ∈ U ∧
  ∀ d H', Same H H' → DD K C U H' d (withR rs n x v b) → Q (.ref d) H'

theorem dict_made {K : PySem.W.Frag} {C r : Addr} {xs : List V} {rows : List (Int × Rw)} {H : Hp} {U : List Int} {R : Addr → Hp → Prop} (hr : H r = some (.lst xs) ∨ SqT K H r xs) (he : EnAll K H xs rows) (hl : rows.length ≤ 1000)
    (hm : ∀ p ∈ rows, p.1 ∈ U) (hU : U.length ≤ 1000)
    (k : ∀ z H', Same H H' → DD K C U H' z (laidA [] rows) → R z H') (x dx : Addr) (hx : H x = none) (hdx : H dx = none) (hne : dx ≠ x) :
    spInitD K C [.ref x, .ref r] (upd (upd H dx (.own x)) x (.ins C dx [])) (fun v H2 => v = .non ∧ R x H2) E0 := by
  have sm := made_same (C := C) (fs := []) hx hdx hne
  refine ⟨x, dx, r, xs, rows, rfl, upd_same, ?_, he.same sm, hl, fun d2 H6 es s6 hz6 hd6 hr6 => ⟨rfl, k x H6 ?_ ⟨dx, d2, hz6, ⟨es, hd6, hr6, (Gd.nil hU).laid hm⟩, VR.laid (fun _ z => nomatch z) (vr_en he)⟩⟩⟩
  · rcases hr with hr | hr
    · exact .inl (sm _ _ hr)
    · exact .inr (same_seqT sm hr)
  · intro b o e
    have q := s6 b o ((del_at (ne_of_none e hx)).trans (sm _ _ e))
    rw [del_at (ne_of_none e hx)] at q
    exact q
theorem laid_one (r : Int × Rw) : laidA [] [r] = [r] := by
  obtain ⟨n, x, v⟩ := r
  rfl
end My
set_option Elab.async false
set_option maxRecDepth 100000
set_option maxHeartbeats 4000000
set_option linter.unusedVariables false
namespace My
open PySem PySem.Spec PyProof.Rows L2

def MtD (P : Program) (w : World) (K : PySem.W.Frag) (mg : Str → Option Value) (base : Heap) (C : Addr) (m : Str) (k : Nat) (ps : List Str) (sp : Sp) (dvs : List V) (n : Nat) (ks : List Str) (gV : List V → List V → List V) : Prop :=
  ∃ f fd, PySem.W.findIn K (.ref C) m = some (some (.ref f)) ∧ PySem.W.isFn K (.ref f) = true ∧ PySem.W.keepIn K (.ref f) = true ∧ FnOk P w K mg base CX0 k f fd ps sp ∧ (∃ ds, Vals dvs ds ∧ Binds K fd ps ds) ∧ ∃ g, KBn K fd ps (n + 1) ks g gV
def tMethK (C : Addr) (m : Str) (n j : Nat) (sp : Sp) (gV : List V → List V → List V) (ta : TE) (t tk : TA) : TE := fun σ H Q => ta σ H fun x H1 => ∃ a dx fs, x = .ref a ∧ H1 a = some (.ins C dx fs) ∧ fs.lookup m = none ∧
  t σ H1 fun vs H2 => tk σ H2 fun zs H3 => vs.length = n ∧ zs.length = j ∧ sp (gV (x :: vs) zs) H3 Q E0
section
variable {X : Cx} {C : Addr} {k n : Nat} {ps ks : List Str} {sp : Sp} {dvs : List V} {gV : List V → List V → List V} {x m : Str} {p pos apos : Pos} {e o : Expr} {es : List Expr} {kws : List Keyword} {t tk : TA} {to : TE}
theorem pe_mtD {pl : Sem Bool} (D : MtD X.prog X.w X.K X.mg X.base C m k ps sp dvs n ks gV) (hr : Room k X.A) (c : Cls X.K C) (he : PE X o to) (ha : PA X (e :: es) t)
    (hst : starEach (e :: es) X.env = (false, eval e X.env) :: starEach es X.env := by rfl) (hpl : (backTo pos (starEach es X.env)).any (·.1) = false := by rfl)
    (ht : eval (.Call (.Attribute o m apos) (e :: es) [] pos) X.env = (do
      let ov ← eval o X.env
      standAt apos.atName
      let (f, first) ← holding [ov] (getMethod ov m pl)
      callWith pos f first (backTo pos (starEach (e :: es) X.env)) (backToKw pos (keywordEach [] X.env))) := by rfl) :
    PE X (.Call (.Attribute o m apos) (e :: es) [] pos) (tMeth C m sp dvs E0 to t) := by
  obtain ⟨f, fd, h1, h2, h3, F, ⟨ds, hv, b⟩, _⟩ := D
  exact pe_meth he c ⟨h1, h2, h3⟩ F hr b hv pass0 ha hst hpl ht
theorem pe_mtK {pl : Sem Bool} (D : MtD X.prog X.w X.K X.mg X.base C m k ps sp dvs n ks gV) (hr : Room k X.A) (c : Cls X.K C) (he : PE X o to) (ha : PA X (e :: es) t) (hkw : PK X kws tk)
    (hall : (backToKw pos (keywordEach kws X.env)).all (·.1.isSome) = true := by rfl) (hks : (backToKw pos (keywordEach kws X.env)).filterMap (·.1) = ks := by rfl)
    (hst : starEach (e :: es) X.env = (false, eval e X.env) :: starEach es X.env := by rfl)
    (hpl : ((backTo pos (starEach (e :: es) X.env)).any (·.1) || (backToKw pos (keywordEach kws X.env)).any (·.1.isNone)) = false := by rfl)
    (ht : eval (.Call (.Attribute o m apos) (e :: es) kws pos) X.env = (do
      let ov ← eval o X.env
      standAt apos.atName
      let (f, first) ← holding [ov] (getMethod ov m pl)
      callWith pos f first (backTo pos (starEach (e :: es) X.env)) (backToKw pos (keywordEach kws X.env))) := by rfl) :
    PE X (.Call (.Attribute o m apos) (e :: es) kws pos) (tMethK C m n ks.length sp gV to t tk) := by
  obtain ⟨f, fd, h1, h2, h3, F, _, g, hb⟩ := D
  refine ⟨fun pins s σ H Q I h => ?_⟩
  refine PySem.W.methodCall_KW (pl := pl) (thn (he.run pins s σ H _ I h) fun u s1 ⟨x, H1, I1, rx, a, dx, fs, ex, ea, l, q⟩ => ?_) ht
  subst ex
  obtain rfl : u = Value.ref a := rx
  refine getmeth_ok I1 ea c ⟨h1, h2, h3⟩ l ?_
  refine PySem.W.callWith_KW (h₀ := X.base) (first := [.ref a]) I1.ok.mod.kin h3 hall (thn (ha.run pos pins s1 σ H1 _ I1 q) fun us s3 ⟨vs, H2, I3, rv, q2⟩ => ?_) hpl hst
  refine thn (hkw.run pos pins s3 σ H2 _ I3 q2) fun ws s4 ⟨zs, H3, I4, rz, l1, l2, q3⟩ => ⟨I4.kIn, ?_⟩
  rw [hks]
  have e1 : (Value.ref a :: us).length = n + 1 := by rw [List.length_cons, ← rv.length, l1]
  have e2 : ws.length = ks.length := rz.length.symm.trans l2
  have z := F.run X.A X.stack s4 H3 ⟨.ref a :: us, ks.zip ws⟩ (g (.ref a :: us) ws) (gV (.ref a :: vs) zs) Q E0 hr I4.env0 (hb.to s4 (.ref a :: us) ws I4.kIn e1 e2) (hb.rel (.cons rfl rv) rz) q3
  refine wpAny_call (codeAny_mono z ?_)
  intro r s' hq
  match r, hq with
  | .error e, hq => exact hq.elim
  | .ok (.ret u), hq => exact I4.after hq
  | .ok .next, hq => exact hq.elim
  | .ok .brk, hq => exact hq.elim
  | .ok .cont, hq => exact hq.elim
end
theorem FunD.okN {P : Program} {w : World} {K : PySem.W.Frag} {mg : Str → Option Value} {base : Heap} {x qual : Str} {params : Arguments} {body : List Stmt} {scope : Scope} {dvs : List V} {kws : List (Str × V)} {f : Addr} {fd : FuncData}
    {N ps : List Str} {k : Nat} {sp : Sp} (F : FunD K x qual params body scope dvs kws f fd) (S : FnScope N ps scope) (len : ∀ vs H Q E, sp vs H Q E → vs.length = ps.length)
    (hbody : ∀ (cdv : Value) (A : Around) (outer : List Env) (s : Shared) (H : Hp) (vs : List V) (Q : VK) (E : XK), Room k (A.deeper (envOfC qual scope s.heap.objs.size f cdv)) → sp vs H Q E →
      ∃ t, PSs (cxOf CX0 P w K mg base N qual scope f cdv A outer s H E).nox body t ∧ t { nx := fun _ H' => Q .non H', rt := Q } (start N vs) H) : FnOk P w K mg base CX0 (k + 1) f fd ps sp := by
  refine F.ok S len fun cdv A outer s H vs Q E hr hsp => ?_
  obtain ⟨t, h, q⟩ := hbody cdv A outer s H vs Q E hr hsp
  exact ⟨t, h.nox, q⟩

theorem MtX.calm {P : Program} {w : World} {K : PySem.W.Frag} {mg : Str → Option Value} {base : Heap} {C : Addr} {m : Str} {k : Nat} {ps : List Str} {sp : Sp} (D : MtX P w K mg base C m k ps sp) : Mt P w K mg base C m k ps (fun vs H Q _ => sp vs H Q E0) := by
  obtain ⟨f, fd, h1, h2, h3, F, b⟩ := D
  refine ⟨f, fd, h1, h2, h3, ⟨fun vs H Q E h => F.len _ _ _ _ h, fun A outer s H args us vs Q E hr e0 hb r h => ?_⟩, b⟩
  refine codeAny_mono (F.run A outer s H args us vs Q E0 hr e0 hb r h) fun r s' hq => ?_
  cases r with
  | error e =>
    obtain ⟨_, _, _, _, _, _, _, _, _, _, _, _, z⟩ := (show L2.CX P w outer H s E0 e s' from hq)
    exact z.elim
  | ok fl =>
    cases fl with
    | ret u => exact hq
    | next => exact hq
    | brk => exact hq
    | cont => exact hq
theorem sl_tupK {X : Cx} {K : PySem.W.Frag} (h : X.K = K) : SlR X (rSlA K) := by
  subst h
  exact sl_tupA
end My
set_option Elab.async false
set_option maxRecDepth 100000
set_option maxHeartbeats 4000000
set_option linter.unusedVariables false
namespace My
open PySem PySem.Spec PyProof.Rows L2

theorem tup3_bag {H H' : Hp} {a : Addr} {n : Nat} (e : Ext a H H') (b : Bag H a n) {ts : List V} {rs : List (Int × Rw)} (h : Tup3 H ts rs) : Tup3 H' ts rs := by
  obtain ⟨x, y, z, e1, _⟩ := b
  exact h.chg e1 e
def keys7 : List Int := [0, 1, 2, 3, 999999, 31, 4]
def spRows3 : Sp := fun vs H Q _ => ∃ (a : Addr) (n : Nat), vs = [.ref a] ∧ Bag H a n ∧ n < 1000 ∧
  ∀ l xs rows H', Ext a H H' → Bag H' a (n + 60) → H' l = some (.lst xs) → l ≠ a → Tup3 H' xs rows → VR rows → (∀ p ∈ rows, p.1 ∈ keys7) → rows.length ≤ 12 → Q (.ref l) H'
theorem VR.snoc {rs : List (Int × Rw)} {p : Int × Rw} (h : VR rs) (hp : rowOk p) : VR (rs ++ [p]) := by
  intro q hq
  rcases List.mem_append.mp hq with hq | hq
  · exact h q hq
  · rw [List.mem_singleton.mp hq]; exact hp
def spDue3 (K : PySem.W.Frag) : Sp := fun vs H Q _ => ∃ (a : Addr) (xs : List V) (l : List (Int × Rw)), vs = [.ref a] ∧ H a = some (.lst xs) ∧ EnAll K H xs l ∧ l.length ≤ 1000 ∧
  ∀ d H' es, Same H H' → H' d = some (.dK (entsV es)) → Rws K H' es (laidA [] l) → Q (.ref d) H'
def spRightD (K : PySem.W.Frag) (C : Addr) : Sp := fun vs H Q _ => ∃ U V2 x d rs ds, vs = [.ref x, .ref d] ∧ DD K C U H x rs ∧ RD K V2 H d ds ∧ rs.length ≤ 13 ∧ ds.length ≤ 13 ∧ (∀ k, lk rs k = lk ds k) ∧ ∀ H', Same H H' → Q (.bl true) H'
theorem eqv_emptyR (L : List (Int × Rw)) : PyData.eqv (.list (L.map ent3)) (.list []) = L.isEmpty := by cases L <;> rfl
theorem textR_of {L : List (Int × Rw)} (h : L.isEmpty = false) : textR L = Txt.join " " (L.map enS) := by
  unfold textR
  rw [if_neg (by rw [h]; simp)]
theorem textR_nil {L : List (Int × Rw)} (h : L.isEmpty = true) : textR L = "empty" := by
  unfold textR
  rw [if_pos h]
theorem len_neR {L : List (Int × Rw)} {n : Nat} (h : L.length = n) : (((n : Nat) : Int) != 0) = !L.isEmpty := by
  subst h
  cases L with
  | nil => rfl
  | cons p r => simp; omega

theorem set_madeU {K : PySem.W.Frag} {C r : Addr} {xs : List V} {rows : List (Int × Str)} {H : Hp} {U : List Int} {R : Addr → Hp → Prop} (hr : H r = some (.lst xs) ∨ SqT K H r xs) (he : ElAll K H xs rows) (hl : rows.length ≤ 1000)
    (hm : ∀ p ∈ rows, p.1 ∈ U) (hU : U.length ≤ 1000)
    (k : ∀ z H', Same H H' → FS C U H' z (firsts rows) → R z H') (x dx : Addr) (hx : H x = none) (hdx : H dx = none) (hne : dx ≠ x) :
    spInit K C [.ref x, .ref r] (upd (upd H dx (.own x)) x (.ins C dx [])) (fun v H2 => v = .non ∧ R x H2) E0 :=
  set_made hr he hl (fun z H' s hz => k z H' s (by
    obtain ⟨dz, d, h1, h2, _⟩ := hz
    exact ⟨dz, d, h1, h2, good_firsts hm hU⟩)) x dx hx hdx hne
theorem formsOf_len (rs : List (Int × Rw)) : (formsOf rs).length = rs.length := List.length_map _
def keys4 : List Int := [0, 1, 31, 7]
def spEntryD (K : PySem.W.Frag) (C : Addr) : Sp := fun vs H Q _ => ∃ U V2 b x d n rs ds, vs = [.ref b, .ref x, .ref d] ∧ Bag H b n ∧ n < 5000 ∧ DD K C U H x rs ∧ RD K V2 H d ds ∧ VR ds ∧ rs.length ≤ 12 ∧ ds.length ≤ 12 ∧ (∀ k, lk rs k = lk ds k) ∧
  (∀ k ∈ keys4, k ∈ U) ∧ (∀ k ∈ keys4, k ∈ V2) ∧ ∀ H', Ext b H H' → Bag H' b (n + 2) → Q (.bl true) H'
theorem bag_ne_ {H : Hp} {a b : Addr} {n : Nat} {o : HO} (h : Bag H a n) (e : H b = some o) (no : ∀ ls, o ≠ .lst ls) : b ≠ a := by
  rintro rfl
  obtain ⟨x, y, z, h, _⟩ := h
  rw [h] at e
  cases e
  exact no _ rfl
theorem DD.bag {K : PySem.W.Frag} {C : Addr} {U : List Int} {H H' : Hp} {a x : Addr} {n : Nat} {rs : List (Int × Rw)} (b : Bag H a n) (e : Ext a H H') (h : DD K C U H x rs) : DD K C U H' x rs := by
  obtain ⟨_, _, _, e1, _⟩ := b
  exact h.chg e1 e
theorem RD.bag {K : PySem.W.Frag} {U : List Int} {H H' : Hp} {a d : Addr} {n : Nat} {rs : List (Int × Rw)} (b : Bag H a n) (e : Ext a H H') (h : RD K U H d rs) : RD K U H' d rs := by
  obtain ⟨_, _, _, e1, _⟩ := b
  exact h.chg e1 e
theorem DD.chgD {K : PySem.W.Frag} {C : Addr} {U : List Int} {H H' : Hp} {g x : Addr} {kvs : List (Key × V)} {rs : List (Int × Rw)} (e : H g = some (.dK kvs)) (s : Ext g H H') (ne : ∀ dx d, H x = some (.ins C dx [("_rows", .ref d)]) → d ≠ g) (h : DD K C U H x rs) : DD K C U H' x rs := by
  obtain ⟨dx, d, h1, ⟨es, h2, h3, h4⟩, h5⟩ := h
  exact ⟨dx, d, s _ _ (fun z => by rw [z, e] at h1; cases h1) h1, ⟨es, s _ _ (ne dx d h1) h2, h3.chgD e s, h4⟩, h5⟩
theorem RD.chgD {K : PySem.W.Frag} {U : List Int} {H H' : Hp} {g d : Addr} {kvs : List (Key × V)} {rs : List (Int × Rw)} (e : H g = some (.dK kvs)) (s : Ext g H H') (ne : d ≠ g) (h : RD K U H d rs) : RD K U H' d rs := by
  obtain ⟨es, h2, h3, h4⟩ := h
  exact ⟨es, s _ _ ne h2, h3.chgD e s, h4⟩
theorem putA_len {α : Type} (es : List (Int × α)) (k : Int) (x : α) : (putA es k x).length ≤ es.length + 1 := by
  unfold putA
  split
  · rw [List.length_map]; omega
  · rw [List.length_append]; exact Nat.le_refl _
theorem withR_len (rs : List (Int × Rw)) (n : Int) (x : Str) (v : Int) (b : Bool) : (withR rs n x v b).length ≤ rs.length + 1 := by
  unfold withR
  split
  · exact merged_len rs [(n, (x, v))] rs
  · omega
theorem with_true {rs ds : List (Int × Rw)} {n : Int} {x : Str} {v : Int} (h : ∀ k, lk rs k = lk ds k) (k : Int) : lk (withR rs n x v true) k = lk (putA ds n ((over1 (lk ds n) (x, v)).1, v)) k := by
  show lk (putA rs n (over1 (lk rs n) (x, v))) k = _
  rw [lk_put, lk_put, h, h]
  rfl
theorem with_false {rs ds : List (Int × Rw)} {n : Int} {x : Str} {v : Int} (h : ∀ k, lk rs k = lk ds k) (k : Int) : lk (withR rs n x v false) k = lk (putA ds n ((lk ds n).getD (x, v))) k := by
  unfold withR
  cases q : lk ds n with
  | none =>
    have hs0 : hs rs n = false := by unfold hs; rw [h, q]; rfl
    rw [hs0, if_pos (by rfl)]
    show lk (putA rs n (over1 (lk rs n) (x, v))) k = _
    rw [lk_put, lk_put, h, h, q]
    rfl
  | some r =>
    have hs1 : hs rs n = true := by unfold hs; rw [h, q]; rfl
    rw [hs1, if_neg (by decide), lk_put, h]
    by_cases e : k = n
    · rw [if_pos e, e, q]; rfl
    · rw [if_neg e]
theorem less_eqL {rs ds : List (Int × Rw)} {n : Int} (h : ∀ k, lk rs k = lk ds k) (k : Int) : lk (lessD rs n) k = lk (lessD ds n) k := by
  unfold lessD
  rw [lk_filter (fun q => decide (q ≠ n)), lk_filter (fun q => decide (q ≠ n)), h]
theorem less_len (rs : List (Int × Rw)) (n : Int) : (lessD rs n).length ≤ rs.length := List.length_filter_le _ _
end My
set_option Elab.async false
set_option maxRecDepth 100000
set_option maxHeartbeats 4000000
set_option linter.unusedVariables false
namespace My
open PySem PySem.Spec PyProof.Rows L2 LamX

section
variable {P : Program} {w : World} {K : PySem.W.Frag}
def noTab : Obj := { cls := .none, data := .fields #[] }

def startH (a : Addr) (u : Option HO) (ts : List Addr) : Hp := fun b => if b = a then u else if b ∈ ts then some (.tbl #[]) else none
theorem startH_a {a : Addr} {u : Option HO} {ts : List Addr} : startH a u ts a = u := if_pos rfl
theorem startH_t {a b : Addr} {u : Option HO} {ts : List Addr} (n : b ≠ a) (h : b ∈ ts) : startH a u ts b = some (.tbl #[]) := (if_neg n).trans (if_pos h)
theorem startH_o {a b : Addr} {u : Option HO} {ts : List Addr} (n : b ≠ a) (h : b ∉ ts) : startH a u ts b = none := (if_neg n).trans (if_neg h)
theorem callGT {mg mb : Str → Option Value} {CX : CXT} {k : Nat} {fa a : Addr} {fd : FuncData} {x : Str} {sp : Sp} {s : Shared} {vs : List Value} {ns : List Int} {tabs : List (Addr × Addr)}
    (KX : K.In s.heap) (h1 : s.heap.Ns mainGlobals mg) (h2 : s.heap.Ns builtinsNs mb) (h3 : ∀ x : Str, x ≠ "__name__" → mb x = bootBuiltins x) (h4 : s.heap.NoLimit) (h5 : s.gens = #[])
    (ht : ∀ q ∈ tabs, s.heap.get? q.2 = some noTab) (htk : ∀ q ∈ tabs, K.lookup q.2 = none) (htc : ∀ q ∈ tabs, PySem.W.CodeHd s.heap q.1 q.2)
    (hbm : ∃ (bm : Addr) (ob : Obj), mg "__builtins__" = some (.ref bm) ∧ bm ≠ builtinsNs ∧ s.heap.get? bm = some ob ∧ ob.cls = .type "module" ∧ ob.dict = some builtinsNs ∧ ob.data = .plain)
    (ha : s.heap.get? a = some { cls := .type "list", data := .seq vs.toArray }) (hi : IntsAre vs ns) (hl : ns.length ≤ sizeLine) (hr : Room k callerA)
    (F : ∀ base : Heap, K.In base → base.Ns mainGlobals mg → (∀ q ∈ tabs, TabB base mg q.1 q.2) → FnG P w K mg base CX k fa fd [x] sp)
    (hb : ∀ (s : Shared) (u : Value), BindsTo s fd ⟨[u], []⟩ [(x, u)])
    (hsp : ∀ H : Hp, (∀ q ∈ tabs, H q.2 = some (.tbl #[])) → SqL K H a (ns.map V.int) → sp [.ref a] H (fun v _ => v = .bl true) fun _ _ _ => False)
    (hCX : ∀ H e s', CX [] H s (fun _ _ _ => False) e s' → False) :
    codeAny (model P w) callerA (.call (.ref fa) ⟨[.ref a], []⟩) (fun r s' => r = .ok (.ret (.bool true)) ∧ OldK s.heap s'.heap ∧ s'.os = s.os ∧ AllBare s'.gens) s := by
  have rv := vals_ints hi
  generalize eT : tabs.map (·.2) = ts
  have tIn : ∀ q ∈ tabs, q.2 ∈ ts := fun q hq => by rw [← eT]; exact List.mem_map_of_mem hq
  have tOut : ∀ {b : Addr}, b ∈ ts → ∃ q ∈ tabs, q.2 = b := fun {b} h => by
    rw [← eT] at h
    exact List.mem_map.mp h
  have tObj : ∀ {b : Addr}, b ∈ ts → s.heap.get? b = some noTab := fun h => by
    obtain ⟨q, hq, rfl⟩ := tOut h
    exact ht q hq
  have aT : a ∉ ts := fun h => by
    have z := (tObj h).symm.trans ha
    cases z
  have main : ∀ u : Option HO, (u = none ∨ (K.lookup a = none ∧ u = some (.frz { cls := .type "list", data := .seq vs.toArray } (.lst (ns.map V.int))))) → SqL K (startH a u ts) a (ns.map V.int) →
      codeAny (model P w) callerA (.call (.ref fa) ⟨[.ref a], []⟩) (fun r s' => r = .ok (.ret (.bool true)) ∧ OldK s.heap s'.heap ∧ s'.os = s.os ∧ AllBare s'.gens) s := by
    intro u hu hS
    have known : ∀ {b : Addr} {v : HO}, startH a u ts b = some v → (b = a ∧ u = some v) ∨ (b ∈ ts ∧ v = .tbl #[]) := by
      intro b v z
      by_cases e : b = a
      · subst e
        exact .inl ⟨rfl, startH_a.symm.trans z⟩
      · by_cases m : b ∈ ts
        · exact .inr ⟨m, (Option.some.inj ((startH_t e m).symm.trans z)).symm⟩
        · cases (startH_o e m).symm.trans z
    have hok : HOk P w (startH a u ts) s.heap := by
      intro b v z
      rcases known z with ⟨rfl, e⟩ | ⟨m, rfl⟩
      · rcases hu with r | ⟨_, r⟩
        · rw [r] at e; cases e
        · obtain rfl := Option.some.inj (e.symm.trans r)
          exact ⟨ha, by rw [List.length_map]; exact hl, vs, _, rv, ha⟩
      · exact tObj m
    have free : ∀ {b : Addr} {o : Obj}, s.heap.get? b = some o → (∀ ws n, o.data ≠ .seq ws n) → o.data ≠ .fields #[] → startH a u ts b = none := by
      intro b o e n1 n2
      cases z : startH a u ts b with
      | none => rfl
      | some v =>
        rcases known z with ⟨rfl, _⟩ | ⟨m, _⟩
        · rw [ha] at e
          cases e
          exact absurd rfl (n1 _ _)
        · rw [tObj m] at e
          cases e
          exact absurd rfl n2
    have up : ∀ {b : Addr} {o : Obj}, s.heap.get? b = some o → (∀ ws n, o.data ≠ .seq ws n) → o.data ≠ .fields #[] → (hidT s.heap (startH a u ts)).get? b = some o := fun e n1 n2 => hidT_get e (free e n1 n2)
    have upN : ∀ {b : Addr} {m : Str → Option Value}, s.heap.Ns b m → (hidT s.heap (startH a u ts)).Ns b m := by
      rintro b m ⟨o, es, n, e, d, r⟩
      exact ⟨o, es, n, up e (fun _ _ z => by rw [d] at z; cases z) (fun z => by rw [d] at z; cases z), d, r⟩
    have KH : K.In (hidT s.heap (startH a u ts)) := by
      intro b o e
      refine hidT_get (KX b o e) ?_
      cases z : startH a u ts b with
      | none => rfl
      | some v =>
        rcases known z with ⟨rfl, e2⟩ | ⟨m, _⟩
        · rcases hu with r | ⟨r, _⟩
          · rw [r] at e2; cases e2
          · rw [r] at e; cases e
        · obtain ⟨q, hq, rfl⟩ := tOut m
          rw [htk q hq] at e; cases e
    have M : Mod K mg (hidT s.heap (startH a u ts)) := by
      refine ⟨KH, upN h1, ⟨mb, upN h2, h3⟩, ?_⟩
      obtain ⟨mc, l1, l2⟩ := h4
      exact ⟨mc, upN l1, l2⟩
    have TB : ∀ q ∈ tabs, TabB (hidT s.heap (startH a u ts)) mg q.1 q.2 := by
      intro q hq
      refine ⟨?_, ?_, ?_⟩
      · obtain ⟨o, us, c1, c2, c3, c4, c5, c6, c7, e, e1, e2, e3, rest⟩ := htc q hq
        have n2 : o.data ≠ .fields #[] := fun z => by
          rw [e2] at z
          injection z with z
          rw [z] at e3
          cases e3
        exact ⟨o, us, c1, c2, c3, c4, c5, c6, c7, up e (fun _ _ z => by rw [e2] at z; cases z) n2, e1, e2, e3, rest⟩
      · obtain ⟨bm, ob, b1, b2, b3, b4, b5, b6⟩ := hbm
        have nq : bm ≠ q.2 := fun z => by
          rw [z, ht q hq] at b3
          cases b3
          cases b6
        have ng : bm ≠ mainGlobals := fun z => by
          obtain ⟨o, es, n, e, d, _⟩ := h1
          rw [z, e] at b3
          cases b3
          rw [d] at b6
          cases b6
        exact ⟨bm, ob, b1, b2, ng, nq, up b3 (fun _ _ z => by rw [b6] at z; cases z) (fun z => by rw [b6] at z; cases z), b4, b5, b6⟩
      · intro z
        obtain ⟨o, es, n, e, d, _⟩ := h1
        rw [z, ht q hq] at e
        cases e
        cases d
    have e0 : Env0 P w K mg (hidT s.heap (startH a u ts)) callerA [] s (startH a u ts) :=
      { frames := rfl, mod := M, bs := fun b o e => of_hidT e, bsz := Nat.le_of_eq (hidT_size _ _)
        funs := trivial, frf := fun b z => absurd z (List.not_mem_nil), hok := hok, bare := .of_eq h5 }
    have hT : ∀ q ∈ tabs, startH a u ts q.2 = some (.tbl #[]) := fun q hq => startH_t (fun z => aT (z ▸ tIn q hq)) (tIn q hq)
    have run := (F _ KH (upN h1) TB).run callerA [] s (startH a u ts) ⟨[.ref a], []⟩ [.ref a] [.ref a] _ _ rfl hr e0 (hb s (.ref a)) (.cons rfl .nil) (hsp _ hT hS)
    refine codeAny_mono run ?_
    intro r s' h
    match r, h with
    | .error e, h => exact (hCX _ e s' h).elim
    | .ok .next, h => exact h.elim
    | .ok .brk, h => exact h.elim
    | .ok .cont, h => exact h.elim
    | .ok (.ret u2), h =>
      obtain ⟨v, H', os, bare, un, hok', r', q⟩ := h
      obtain rfl : v = .bl true := q
      obtain rfl : u2 = Value.bool true := r'
      have stays : ∀ b o, b ∉ ts → s.heap.get? b = some o → s'.heap.get? b = some o := by
        intro b o m e
        cases z : startH a u ts b with
        | none => exact un.keep b o e z (fun z => absurd z (List.not_mem_nil)) (List.not_mem_nil)
        | some v =>
          rcases known z with ⟨rfl, e2⟩ | ⟨m2, _⟩
          · rcases hu with r | ⟨_, r⟩
            · rw [r] at e2; cases e2
            · have z2 := z.trans (e2.symm.trans r)
              obtain ⟨g1, _⟩ := hok b _ z2
              obtain ⟨g2, _⟩ := hok' b _ (un.frzs b _ _ z2)
              rw [e] at g1; cases g1
              exact g2
          · exact absurd m2 m
      have grows : ∀ q ∈ tabs, ∃ more : Array Value, s'.heap.get? q.2 = some { cls := .none, data := .fields more } := by
        intro q hq
        obtain ⟨more, z⟩ := un.tbls q.2 #[] (hT q hq)
        exact ⟨_, hok' q.2 _ z⟩
      refine ⟨rfl, ⟨fun b o e => ?_, fun b o e => ?_⟩, os, bare⟩
      · by_cases m : b ∈ ts
        · obtain ⟨q, hq, rfl⟩ := tOut m
          obtain ⟨more, hm⟩ := grows q hq
          rw [ht q hq] at e
          cases e
          right; left
          exact ⟨((htc q hq).tab (ht q hq)).isCodeTable, rfl, #[], more, rfl, by rw [Array.empty_append]; exact hm⟩
        · exact .inl (stays b o m e)
      · by_cases m : b ∈ ts
        · obtain ⟨q, hq, rfl⟩ := tOut m
          obtain ⟨more, hm⟩ := grows q hq
          exact ⟨_, hm⟩
        · exact ⟨o, stays b o m e⟩
  cases hk : K.lookup a with
  | some o =>
    obtain rfl := Option.some.inj ((KX a o hk).symm.trans ha)
    exact main none (.inl rfl) (.inr ⟨_, vs.toArray, _, hk, rfl, rfl, rfl, by rw [List.size_toArray, hi.length]; exact hl, by simpa using rv⟩)
  | none => exact main _ (.inr ⟨hk, rfl⟩) (.inl (.inr ⟨_, startH_a⟩))
end

theorem walkGT {l : PySem.W.OpenLaw} {n k : Nat} {q : Program} {loose : List Str} {XP : (Str → Option Value) → Heap → Prop} {YP : World → Heap → Prop} {d : DefRec} {K : Params → PySem.W.Frag} {CX : World → CXT} {sp : World → List (Addr × Addr) → Sp} {x : Str}
    (names : List Str) (hn : l.most = some n) (hn2 : n ≤ sizeLine) (hdf : d.params.defaults = []) (hr : Room k callerA) (hY : ∀ (w : World) (h : Heap), YP w h → (K w.params).In h)
    (hrec : ∀ y ∈ names, ((recsOf q).find? fun e => e.name == y).isSome = true)
    (F : ∀ (w : World) (mg : Str → Option Value) (fa : Addr) (h : Heap), (K w.params).In h → h.Ns mainGlobals mg → mg d.name = some (.ref fa) →
      ∃ (fd : FuncData) (tabs : List (Addr × Addr)), tabs.map (fun p => some p) = names.map (PySem.W.tabIn (K w.params)) ∧ (∀ p ∈ tabs, (K w.params).lookup p.2 = none) ∧ (∀ (s : Shared) (u : Value), BindsTo s fd ⟨[u], []⟩ [(x, u)]) ∧
        ∀ base : Heap, (K w.params).In base → base.Ns mainGlobals mg → (∀ p ∈ tabs, TabB base mg p.1 p.2) → FnG l.prog w (K w.params) mg base (CX w) k fa fd [x] (sp w tabs))
    (hsp : ∀ (w : World) (tabs : List (Addr × Addr)) (H : Hp) (a : Addr) (ns : List Int), ns.length ≤ n → (∀ p ∈ tabs, H p.2 = some (.tbl #[])) → SqL (K w.params) H a (ns.map V.int) → sp w tabs [.ref a] H (fun v _ => v = .bl true) fun _ _ _ => False)
    (hCX : ∀ (w : World) (H : Hp) (s : Shared) (e : Value) (s' : Shared), CX w [] H s (fun _ _ _ => False) e s' → False) :
    PySem.W.WalkO q loose XP YP l.row.toRowW d [] (fun f vs => PySem.call f vs) := by
  refine Att.attach_call hn hdf ?_
  intro w s₀ s₁ mg mb fa o pm cd doc a vs ns G Y ho hd hcd hmg hobj hints hlen hg
  have KX := hY w _ Y
  obtain ⟨fd, tabs, ht, hk, hb, hF⟩ := F w mg fa _ KX G.T.g hmg
  have got : ∀ p ∈ tabs, PySem.W.CodeHd s₁.heap p.1 p.2 ∧ s₁.heap.get? p.2 = some noTab := by
    intro p hp
    have m : some p ∈ names.map (PySem.W.tabIn (K w.params)) := by
      rw [← ht]
      exact List.mem_map.mpr ⟨p, hp, rfl⟩
    obtain ⟨y, hy, e⟩ := List.mem_map.mp m
    obtain ⟨d2, e2⟩ := Option.isSome_iff_exists.mp (hrec y hy)
    exact PySem.W.tab_of G.T KX e2 e
  exact callGT KX G.T.g G.T.b G.T.builtins G.T.nolimit hg (fun p hp => (got p hp).2) hk (fun p hp => (got p hp).1) G.T.bmain hobj hints (Nat.le_trans hlen hn2) hr hF hb
    (fun H hT hS => hsp w tabs H a ns hlen hT hS) fun H e s' => hCX w H s₁ e s'
end My
set_option Elab.async false
set_option maxRecDepth 100000
set_option maxHeartbeats 4000000
set_option linter.unusedVariables false
namespace My
open PySem PySem.Spec PyProof.Rows L2 LamX

section
variable {X : Cx} {pins : List (Addr × Obj)} {σ : L2.St} {H : Hp} {s : Shared}

theorem pe_actS {Eg : XK} {Ng : List Str} {qg a : Str} {sg scope : Scope} {g f c' : Addr} {cdg pm ctv : Value} {params : Arguments} {body : Expr} {k i : Nat} {pn : List (Addr × Obj)} {xe : Value → Shared → Prop} {W : WX} {t : XK → TE} {p1 p2 : Pos}
    (I : Inv X pins σ H s) (L : LamS X.env.scope scope) (hf : s.heap.get? f = some (PySem.W.kla_obj "<lambda>" (X.env.qual ++ "<lambda>") params body scope (cloFrom X.env.cells scope.names []) pm c' ctv)) (hfn : H f = none) (hfr : f ∉ frs X.stack)
    (hbind : bindArgs (PySem.W.kla_fn "<lambda>" (X.env.qual ++ "<lambda>") params body scope (cloFrom X.env.cells scope.names []) pm (.ref c') ctv) ⟨[], []⟩ = pure [])
    (tk : Takes ((cxOf CX0 X.prog X.w X.K X.mg X.base Ng qg sg g cdg X.A X.stack s H Eg).tr pn xe) W)
    (hr : Room (k + 1) (X.A.deeper (envOfC qg sg s.heap.objs.size g cdg)))
    (hbody : ∀ (A : Around) (outer : List Env) (s : Shared) (H : Hp) (E : XK), Room k (A.deeper (lamEnv X scope s.heap.objs.size f c')) → PE (lamCx X A outer s H E scope f c') body (t E))
    (hN : Ng[i]? = some a) (hv : Vis sg a) (hd : (a == ("__debug__" : Str)) = false) (hcd : (a == ("__classdict__" : Str)) = false) :
    PE ((cxOf CX0 X.prog X.w X.K X.mg X.base Ng qg sg g cdg X.A X.stack s H Eg).tr pn xe) (.Call (.Name a p1) [] [] p2)
      (fun σZ HZ Q => σZ[i]? = some (some (.ref f)) ∧ HZ c' = some (CodeO c' (X.env.qual ++ "<lambda>")) ∧ t (WE W σZ) σ HZ Q) := by
  refine ⟨fun pinsZ sZ σZ HZ Q IZ h => ?_⟩
  obtain ⟨hs, hc, h⟩ := h
  refine wpAny_Call_Name_kw (raw_name hN hv IZ hs (fun u ru => ?_) hd hcd)
  cases ru
  have at_f : sZ.heap.get? f = some (PySem.W.kla_obj "<lambda>" (X.env.qual ++ "<lambda>") params body scope (cloFrom X.env.cells scope.names []) pm c' ctv) :=
    IZ.base.keep f _ hf hfn hfr (fun z => absurd (show f ∈ ([] : List Addr) from z) (List.not_mem_nil))
  refine PySem.W.callWith_F0 ⟨_, _, _, _, at_f⟩ ?_
  obtain ⟨⟨oc, vs, tt, o1, o2, o3⟩, _, _⟩ := IZ.hok c' _ hc
  have out := passAt (X := (cxOf CX0 X.prog X.w X.K X.mg X.base Ng qg sg g cdg X.A X.stack s H Eg).tr pn xe) tk σZ
  have run : codeAny (model X.prog X.w) (X.A.deeper (envOfC qg sg s.heap.objs.size g cdg)) (.call (.ref f) ⟨[], []⟩) (CR (L2.CX X.prog X.w) (envOfC qg sg s.heap.objs.size g cdg :: X.stack) X.prog X.w HZ sZ Q (WE W σZ)) sZ := by
    refine PySem.W.kla_callFunE hr.depth at_f rfl L.co L.gen rfl ⟨c', oc, vs, tt, rfl, o1, o2, o3⟩ ?_
    rw [hbind]
    refine wpAny_pure (wpAny_newFunctionEnv (fun y hy => (L.own y hy).2) (fun y hy => absurd hy (List.not_mem_nil)) (fun h1 hn hx => ⟨IZ.nolimit.fresh _ hx, ?_⟩) L.kind)
    have kp : ∀ b o, sZ.heap.get? b = some o → h1.get? b = some o := by
      intro b o e
      exact hx.extBut b o (Nat.ne_of_lt (Heap.lt_size e)) (Heap.get?_push_of_some _ e)
    have J := lam_start2 (E := WE W σZ) (c' := c') (f := f) (tk := sZ.toks + ([] : List (Str × Value)).length) I L IZ.env0 hr.hd IZ.base hn kp
    refine PySem.W.kla_codeExpr (wpAny_mono ((hbody _ _ sZ HZ (WE W σZ) (hr.deeper _)).run [] _ _ HZ Q J h) ?_ fun e s' z => z)
    rintro v s' ⟨z, H', J', rv, q⟩
    exact ⟨z, H', J'.os, J'.bare, J'.base, J'.hok, rv, q⟩
  refine wpAny_call (codeAny_mono run ?_)
  intro r s' hq
  match r, hq with
  | .error e, hq => exact out pinsZ HZ sZ e s' IZ hq
  | .ok (.ret u), hq => exact IZ.after hq
  | .ok .next, hq => exact hq.elim
  | .ok .brk, hq => exact hq.elim
  | .ok .cont, hq => exact hq.elim
end
def GivesTo2 (X : Cx) (kg : Nat) (Ng : List Str) (x : Str) (sg : Scope) (g : Addr) (cdg : Value) (bg : List Stmt) (a q : Str) (TT : (XK → Hp → VK → Prop) → V → Hp → VK → Prop) : Prop :=
  ∀ (f c' : Addr) (y : V) (s : Shared) (H : Hp) (Q : VK) (tl : XK → Hp → VK → Prop),
    (X.A.deeper (envOfC x sg s.heap.objs.size g cdg)).guards = some [] → Room kg (X.A.deeper (envOfC x sg s.heap.objs.size g cdg)) →
    (∀ (W : WX) (pn : List (Addr × Obj)) (xe : Value → Shared → Prop) (p1 p2 : Pos), Takes ((cxOf CX0 X.prog X.w X.K X.mg X.base Ng x sg g cdg X.A X.stack s H E0).tr pn xe) W →
      PE ((cxOf CX0 X.prog X.w X.K X.mg X.base Ng x sg g cdg X.A X.stack s H E0).tr pn xe) (.Call (.Name a p1) [] [] p2) (fun σZ HZ Q => σZ[0]? = some (some (.ref f)) ∧ HZ c' = some (CodeO c' q) ∧ tl (WE W σZ) HZ Q)) →
    H c' = some (CodeO c' q) → TT tl y H Q →
    ∃ t, PSs (cxOf CX0 X.prog X.w X.K X.mg X.base Ng x sg g cdg X.A X.stack s H E0).nox bg t ∧ t { nx := fun _ H' => Q .non H', rt := Q } (L2.start Ng [.ref f, y]) H
def tLam2 (T : List (Addr × Str)) (TT : (XK → Hp → VK → Prop) → V → Hp → VK → Prop) (j : Nat) (t : XK → TE) : TE := fun σ H Q => Tabs T H ∧ ∃ y, σ[j]? = some (some y) ∧ ∀ H1, ExtN H H1 → Tabs T H1 → TT (fun E H' Q' => t E σ H' Q') y H1 Q
section
variable {X : Cx}
theorem pe_lamcall2 {T : List (Addr × Str)} {TT : (XK → Hp → VK → Prop) → V → Hp → VK → Prop} {x a a2 v : Str} {g c P : Addr} {k j : Nat} {st : Stmt} {fd : FuncData} {Ng : List Str}
    {params : Arguments} {body : Expr} {scope : Scope} {t : XK → TE} {p lpos vpos pos : Pos} (hg : Gl X x) (hm : X.mg x = some (.ref g)) (hk : PySem.W.keepIn X.K (.ref g) = true)
    (F : Fun X.K x x st g fd) (hb : L2.Binds X.K fd [a, a2] []) (Sg : FnScope Ng [a, a2] (defScope st)) (hNg : Ng[0]? = some a) (hva : Vis (defScope st) a)
    (hG : ∀ cdg, GivesTo2 X (k + 1) Ng x (defScope st) g cdg (defBody st) a (X.env.qual ++ "<lambda>") TT) (hgd : X.A.guards = some [])
    (hj : X.N[j]? = some v) (hv : Vis X.env.scope v)
    (TB : TabB X.base X.mg c P) (hcode : X.env.code = .ref c) (hmT : (P, X.env.qual ++ "<lambda>") ∈ T) (hu : ∀ p ∈ T, p.1 = P → p.2 = X.env.qual ++ "<lambda>") (hr : Room (k + 2) X.A) (L : LamS X.env.scope scope) (hdef : defaultsOf params X.env = ([], []))
    (hbind : ∀ (q : Str) (cl : List (Str × Addr)) (pm cv ctv : Value), bindArgs (PySem.W.kla_fn "<lambda>" q params body scope cl pm cv ctv) ⟨[], []⟩ = pure [])
    (hbody : ∀ (A : Around) (outer : List Env) (s : Shared) (H : Hp) (E : XK) (f c' : Addr), Room k (A.deeper (lamEnv X scope s.heap.objs.size f c')) → PE (lamCx X A outer s H E scope f c') body (t E))
    (hdb : (x == ("__debug__" : Str)) = false := by decide) (hd : (a == ("__debug__" : Str)) = false := by decide) (hcd : (a == ("__classdict__" : Str)) = false := by decide)
    (hd2 : (v == ("__debug__" : Str)) = false := by decide) (hcd2 : (v == ("__classdict__" : Str)) = false := by decide)
    (hst : starEach [.Lambda params body scope lpos, .Name v vpos] X.env = [(false, eval (.Lambda params body scope lpos) X.env), (false, eval (.Name v vpos) X.env)] := by rfl)
    (hpl : (backTo pos (starEach [.Name v vpos] X.env)).any (·.1) = false := by rfl) :
    PE X (.Call (.Name x p) [.Lambda params body scope lpos, .Name v vpos] [] pos) (tLam2 T TT j t) := by
  refine ⟨fun pins s σ H Q I h => ?_⟩
  obtain ⟨hT, y, hy, h⟩ := h
  obtain ⟨oc, od, kV, doc, pm, an, cdv, ct, osl, rfl, lk, hcg⟩ := F.ex
  refine wpAny_Call_Name_kw (ld_glob I hg hm ?_ hdb)
  refine PySem.W.callWith_K (h₀ := X.base) I.ok.mod.kin hk ?_ (by rfl) hpl
  have e1 : spliced (backTo pos (starEach [.Lambda params body scope lpos, .Name v vpos] X.env)) = spliced (backTo pos [(false, eval (.Lambda params body scope lpos) X.env), (false, eval (.Name v vpos) X.env)]) := by rw [hst]
  rw [e1]
  refine Calls.spliced_cons (lam_make2 I TB hcode hmT hu hT hdef (L.has I.ok) fun f c' pm' ctv H1 s' I1 eN T1 hf hfn hfr hco => ?_)
  refine Calls.spliced_cons (raw_name hj hv I1 hy (fun u ru => ?_) hd2 hcd2)
  refine Calls.spliced_nil ⟨I1.kIn, ?_⟩
  have rr : Vals [V.ref f, y] [Value.ref f, u] := .cons rfl (.cons ru .nil)
  have rc : codeAny (model X.prog X.w) X.A (.call (.ref g) ⟨[.ref f, u], []⟩) (CR CX0 X.stack X.prog X.w H1 s' Q E0) s' := by
    refine run_ofS (N := Ng) (ps := [a, a2]) (us := [.ref f, u]) (vs := [.ref f, y]) lk hcg Sg hr I1.env0 (hb s' [.ref f, u] I1.kIn rfl) rr rfl fun hr' => ?_
    obtain ⟨t', ht', hq'⟩ := hG cdv f c' y s' H1 Q (fun E H' Q' => t E σ H' Q') (deeper_guards _ _ hgd) hr' (fun W pn xe p1 p2 tk => pe_actS (i := 0) (t := t) I1 L hf hfn hfr (hbind _ _ _ _ _) tk hr' (fun A outer s H E hr2 => hbody A outer s H E f c' hr2) hNg hva hd hcd) hco (h H1 eN T1)
    exact ⟨t', ht'.nox, hq'⟩
  refine wpAny_call (codeAny_mono rc fun r s2 hq => ?_)
  match r, hq with
  | .error e, hq => exact hq.elim
  | .ok (.ret u), hq => exact I1.after hq
  | .ok .next, hq => exact hq.elim
  | .ok .brk, hq => exact hq.elim
  | .ok .cont, hq => exact hq.elim
end

def TRef (K : PySem.W.Frag) (CB : Addr) : (XK → Hp → VK → Prop) → V → Hp → VK → Prop := fun tl y H Q =>
  ∀ (E : XK) (Q2 : VK), (∀ e d H', H' e = some (.xd [("value", y)]) → Dx K H' y d → okR d → Q (.bl true) H' → E (.ref CB) (some e) H') → tl E H Q2
end My
set_option Elab.async false
set_option maxRecDepth 100000
set_option maxHeartbeats 4000000
set_option linter.unusedVariables false
namespace My
open PySem PySem.Spec PyProof.Rows L2

section
variable {X : Cx} {k : Nat} {C S : Addr} {ps : List Str} {sp : Sp} {o i e : Expr} {ta tb te : TE} {pos : Pos} {E : XK}
theorem run_in1X {pins : List (Addr × Obj)} {σ : L2.St} {H : Hp} {s : Shared} {f : Addr} {fd : FuncData} {Q : VK} {us : List Value} {vs : List V}
    (F : FnOk X.prog X.w X.K X.mg X.base (L2.CX X.prog X.w) k f fd ps sp) (hr : Room (k + 1) X.A) (hb : Binds X.K fd ps []) (hx : Passes (L2.CX X.prog X.w) X E) (I : Inv X pins σ H s)
    (r : Vals vs us) (h : sp vs H Q E) : wpAny (model X.prog X.w) X.A.in1 (call (.ref f) us) (EP X pins σ Q) X.xe s := by
  have hl : us.length = ps.length := r.length.symm.trans (F.len _ _ _ _ h)
  have b0 : BindsTo s fd ⟨us, []⟩ (ps.zip us) := by
    have := hb s us I.kIn (by simpa using hl)
    simpa using this
  have z := F.run X.A.in1 X.stack s H ⟨us, []⟩ us vs Q E hr.in1 I.env0.in1 b0 r h
  refine wpAny_call (codeAny_mono z ?_)
  intro r s' hq
  match r, hq with
  | .error e, hq => exact hx pins σ H s e s' I hq
  | .ok (.ret u), hq => exact I.after hq
  | .ok .next, hq => exact hq.elim
  | .ok .brk, hq => exact hq.elim
  | .ok .cont, hq => exact hq.elim
def tGetX (C : Addr) (sp : Sp) (E : XK) (ta tb : TE) : TE := fun σ H Q => ta σ H fun x H1 => tb σ H1 fun y H2 => ∃ a dx fs, x = .ref a ∧ H2 a = some (.ins C dx fs) ∧ sp [x, y] H2 Q E
theorem pe_getX (D : MtX X.prog X.w X.K X.mg X.base C "__getitem__" k ps sp) (fi : ∃ f, PySem.W.findIn X.K (.ref C) "__getitem__" = some (some (.ref f)) ∧ PySem.W.fnIn X.K f = true) (hr : Room (k + 1) X.A) (hx : Passes (L2.CX X.prog X.w) X E) (ha : PE X o ta) (hb : PE X i tb)
    (hsl : ∀ v u, subscripted i true v u = runValue (.builtin "lifetime.subscript" ⟨[v, u], []⟩)) : PE X (.Subscript o i pos) (tGetX C sp E ta tb) := by
  obtain ⟨f, fd, h1, h2, h3, F, b⟩ := D
  obtain ⟨f', e1, e2⟩ := fi
  obtain rfl : f = f' := by
    have := h1.symm.trans e1
    injection this with this
    injection this with this
    injection this
  refine ⟨fun pins s σ H Q I h => ?_⟩
  refine Subscript_ (thn (ha.run pins s σ H _ I h) fun v s1 ⟨x, H1, I1, rx, q1⟩ => thn (hb.run pins s1 σ H1 _ I1 q1) fun u s2 ⟨y, H2, I2, ry, a, dx, fs, ex, ea, q⟩ => ?_)
  subst ex
  obtain rfl : v = Value.ref a := rx
  obtain ⟨m, Fr⟩ := fr_of I2
  obtain ⟨ox, od, J⟩ := inst_of I2 ea
  exact PySem.W.sub_K Fr I2.ok.mod.kin J h1 e2 h2 (run_in1X (us := [.ref a, u]) (vs := [.ref a, y]) F hr b hx I2 (.cons rfl (.cons ry .nil)) q) (hsl _ _)
def rNe2 (C S : Addr) (sp : Sp) : R2 := fun x y H Q => ∃ a b dx fs dy gs, x = .ref a ∧ y = .ref b ∧ H a = some (.ins C dx fs) ∧ H b = some (.ins S dy gs) ∧
  sp [x, y] H (fun v H' => ∃ c, v = .bl c ∧ Q (.bl (!c)) H') E0
theorem op_ownNe2 (O : OwnOp X C "__eq__" k ps sp) (hr : Room (k + 1) X.A) (hu : X.A.units + 1 < cLine) (hn : PySem.W.notFirst X.K C (.ref S) = true)
    (ht : PySem.W.mroIn X.K C (.type "object") = some true) (hd : PySem.W.findIn X.K (.ref C) "__ne__" = some (some (.builtin "object.__ne__"))) :
    OpR X (compareOp .NotEq) (rNe2 C S sp) := by
  intro pins s σ H x y v u Q I rx ry h
  obtain ⟨a, b, dx, fs, dy, gs, rfl, rfl, ha, hb, q⟩ := h
  cases rx; cases ry
  obtain ⟨f, fd, hs, hf, F, bd⟩ := O.ex
  obtain ⟨m, Fr⟩ := fr_of I
  obtain ⟨ox, od, J⟩ := inst_of I ha
  obtain ⟨oy, oe, J2⟩ := inst_of I hb
  refine ne_own hu I.kIn J J2.type hn ht hd hs hf ?_
  refine thn (run_in1 (us := [.ref a, .ref b]) (vs := [.ref a, .ref b]) F hr bd I (.cons rfl (.cons rfl .nil)) q) ?_
  rintro u s' ⟨_, H', I', r, c, rfl, z⟩
  cases r
  exact ⟨c, rfl, .bl (!c), H', I', rfl, z⟩
def tNotO (C : Addr) (sp : Sp) (te : TE) : TE := fun σ H Q => te σ H fun x H1 => ∃ b dy gs, x = .ref b ∧ H1 b = some (.ins C dy gs) ∧
  sp [.ref b] H1 (fun v H' => ∃ n : Int, v = .int n ∧ 0 ≤ n ∧ n < 2 ^ 63 ∧ Q (.bl (!(n != 0))) H') E0
theorem pe_notO (nb : PySem.W.findIn X.K (.ref C) "__bool__" = some none) (O : OwnOp X C "__len__" k ps sp) (hr : Room (k + 1) X.A) (he : PE X e te) : PE X (.UnaryOp .Not e pos) (tNotO C sp te) := by
  refine ⟨fun pins s σ H Q I h => ?_⟩
  refine UnaryOp_ (thn (he.run pins s σ H _ I h) fun v s1 ⟨x, H1, I1, r1, q1⟩ => ?_)
  obtain ⟨b, dy, gs, rfl, hb, q⟩ := q1
  cases r1
  obtain ⟨f, fd, hs, hf, F, bd⟩ := O.ex
  obtain ⟨m, Fr⟩ := fr_of I1
  obtain ⟨ox, od, J⟩ := inst_of I1 hb
  refine not_of (truthy_len Fr I1.ok.mod.kin J nb hs hf ?_)
  refine thn (run_in1 (us := [.ref b]) (vs := [.ref b]) F hr bd I1 (.cons rfl .nil) q) ?_
  rintro u s' ⟨_, H', I', r, n, rfl, n0, n1, z⟩
  obtain ⟨t, rfl⟩ := r
  exact ⟨⟨n0, n1⟩, n, _, rfl, .bl (!(n != 0)), H', I'.tok _, rfl, z⟩
end
end My
set_option Elab.async false
set_option maxRecDepth 100000
set_option maxHeartbeats 4000000
set_option linter.unusedVariables false
namespace My
open PySem PySem.Spec PyProof.Rows L2

theorem keys7_ok {k : Int} (h : k ∈ keys7) : 0 ≤ k ∧ k ≤ 999999 := by
  simp only [keys7, List.mem_cons, List.not_mem_nil, or_false] at h
  rcases h with rfl | rfl | rfl | rfl | rfl | rfl | rfl <;> decide
def UU : List Int := [0, 1, 2, 3, 999999, 31, 4, 7]
theorem keys7_UU {k : Int} (h : k ∈ keys7) : k ∈ UU := by
  simp only [keys7, List.mem_cons, List.not_mem_nil, or_false] at h
  rcases h with rfl | rfl | rfl | rfl | rfl | rfl | rfl <;> decide
theorem keys4_UU : ∀ k ∈ keys4, k ∈ UU := by decide
theorem len_UU : UU.length ≤ 1000 := by decide
theorem extN_sqT {K : PySem.W.Frag} {H H' : Hp} {t : Addr} {xs : List V} (e : LamX.ExtN H H') (h : SqT K H t xs) : SqT K H' t xs := by
  rcases h with (h | ⟨o, h⟩) | h
  · exact .inl (.inl (e _ _ h fun _ z => nomatch z))
  · exact .inl (.inr ⟨o, e _ _ h fun _ z => nomatch z⟩)
  · exact .inr h
theorem extN_sqL {K : PySem.W.Frag} {H H' : Hp} {t : Addr} {xs : List V} (e : LamX.ExtN H H') (h : SqL K H t xs) : SqL K H' t xs := by
  rcases h with (h | ⟨o, h⟩) | h
  · exact .inl (.inl (e _ _ h fun _ z => nomatch z))
  · exact .inl (.inr ⟨o, e _ _ h fun _ z => nomatch z⟩)
  · exact .inr h
theorem extN_rws {K : PySem.W.Frag} {H H' : Hp} (e : LamX.ExtN H H') : ∀ {es : List (Int × V)} {rs : List (Int × Rw)}, Rws K H es rs → Rws K H' es rs
  | _, _, .nil => .nil
  | _, _, .cons h r => .cons (extN_sqT e h) (extN_rws e r)
theorem extN_rd {K : PySem.W.Frag} {U : List Int} {H H' : Hp} {d : Addr} {rs : List (Int × Rw)} (e : LamX.ExtN H H') (h : RD K U H d rs) : RD K U H' d rs := by
  obtain ⟨es, h1, h2, h3⟩ := h
  exact ⟨es, e _ _ h1 (fun _ z => nomatch z), extN_rws e h2, h3⟩
theorem extN_dd {K : PySem.W.Frag} {C : Addr} {U : List Int} {H H' : Hp} {d : Addr} {rs : List (Int × Rw)} (e : LamX.ExtN H H') (h : DD K C U H d rs) : DD K C U H' d rs := by
  obtain ⟨dx, dd, h1, h2, h3⟩ := h
  exact ⟨dx, dd, e _ _ h1 (fun _ z => nomatch z), extN_rd e h2, h3⟩
theorem extN_bag {H H' : Hp} {a : Addr} {n : Nat} (e : LamX.ExtN H H') (h : Bag H a n) : Bag H' a n := by
  obtain ⟨x, y, z, h1, r⟩ := h
  exact ⟨x, y, z, e _ _ h1 (fun _ z => nomatch z), r⟩
theorem tabs_bag {H H' : Hp} {a : Addr} {n : Nat} {T : List (Addr × Str)} (e : Ext a H H') (b : Bag H a n) (h : LamX.Tabs T H) : LamX.Tabs T H' := by
  obtain ⟨x, y, z, hb, _⟩ := b
  have ne : ∀ {c : Addr} {o : HO}, H c = some o → (∀ ls, o ≠ .lst ls) → H' c = some o := fun {c o} h1 no => e c o (fun q => by
    rw [q, hb] at h1
    exact no _ (Option.some.inj h1).symm) h1
  intro p hp
  obtain ⟨ps, h1, h2, h3⟩ := h p hp
  refine ⟨ps, ne h1 (fun _ z => nomatch z), h2, fun pos cv hc => ?_⟩
  obtain ⟨c, e1, e2⟩ := h3 pos cv hc
  exact ⟨c, e1, ne e2 fun ls z => by unfold LamX.CodeO at z; cases z⟩
structure LivD (K : PySem.W.Frag) (C x1 x2 d1 d2 : Addr) (A B : List (Int × Rw)) (T : List (Addr × Str)) (H0 H : Hp) : Prop where
  one : DD K C UU H x1 A
  two : DD K C UU H x2 B
  due : RD K UU H d1 A
  oth : RD K UU H d2 B
  tabs : LamX.Tabs T H
  all : LamX.ExtN H0 H
section
variable {K : PySem.W.Frag} {C x1 x2 d1 d2 : Addr} {A B : List (Int × Rw)} {T : List (Addr × Str)} {H0 H H' : Hp}
theorem LivD.same (h : LivD K C x1 x2 d1 d2 A B T H0 H) (s : Same H H') : LivD K C x1 x2 d1 d2 A B T H0 H' :=
  ⟨h.one.same s, h.two.same s, h.due.same s, h.oth.same s, h.tabs.ext s, fun b o e n => s _ _ (h.all b o e n)⟩
theorem LivD.extN (h : LivD K C x1 x2 d1 d2 A B T H0 H) (e : LamX.ExtN H H') (t : LamX.Tabs T H') : LivD K C x1 x2 d1 d2 A B T H0 H' :=
  ⟨extN_dd e h.one, extN_dd e h.two, extN_rd e h.due, extN_rd e h.oth, t, h.all.trans e⟩
theorem LivD.ext {g : Addr} {n : Nat} (h : LivD K C x1 x2 d1 d2 A B T H0 H) (b : Bag H g n) (ng : ∀ c o, H0 c = some o → (∀ ps, o ≠ .tbl ps) → c ≠ g) (s : Ext g H H') : LivD K C x1 x2 d1 d2 A B T H0 H' :=
  ⟨h.one.bag b s, h.two.bag b s, h.due.bag b s, h.oth.bag b s, tabs_bag s b h.tabs, fun c o e n => s c o (ng c o e n) (h.all c o e n)⟩
end
mutual
theorem extN_dp {K : PySem.W.Frag} {H H' : Hp} (e : LamX.ExtN H H') : ∀ (d : PyData) (v : V), Dp K H v d → Dp K H' v d
  | .none, _, h => by cases h; exact .non
  | .bool _, _, h => by cases h; exact .bl _
  | .int _, _, h => by cases h; exact .int _
  | .str _, _, h => by cases h; exact .str _
  | .list ds, _, h => by
    cases h with
    | lst q r => exact .lst (extN_sqL e q) (extN_dpAll e ds _ r)
  | .tuple ds, _, h => by
    cases h with
    | tup q r => exact .tup (extN_sqT e q) (extN_dpAll e ds _ r)
  | .dict _, _, h => by cases h
theorem extN_dpAll {K : PySem.W.Frag} {H H' : Hp} (e : LamX.ExtN H H') : ∀ (ds : List PyData) (vs : List V), DpAll K H vs ds → DpAll K H' vs ds
  | [], _, h => by cases h; exact .nil
  | d :: ds, _, h => by
    cases h with
    | cons q r => exact .cons (extN_dp e d _ q) (extN_dpAll e ds _ r)
end
theorem extN_dx {K : PySem.W.Frag} {H H' : Hp} {v : V} {d : PyData} (e : LamX.ExtN H H') (h : Dx K H v d) : Dx K H' v d := by
  cases h with
  | of h => exact .of (extN_dp e _ _ h)
  | dict h f => exact .dict (e _ _ h fun _ z => nomatch z) f

def NoKey (K : PySem.W.Frag) (rs : List (Int × Rw)) (H : Hp) (v : V) : Prop := ∃ d, Dx K H v d ∧ okR d ∧ hasR rs d = false
theorem no500 {rs : List (Int × Rw)} (h : ∀ k ∈ ks rs, k ∈ UU) : hasR rs (.int 500000) = false := by
  rw [hasR_int (by decide)]
  cases q : hs rs 500000 with
  | false => rfl
  | true =>
    have := h _ ((hs_iff).mp q)
    revert this
    decide
theorem noKeys {K : PySem.W.Frag} {rs : List (Int × Rw)} {H : Hp} {tp lp : Addr} {v : V} (h : ∀ k ∈ ks rs, k ∈ UU) (h1 : H tp = some (.tup [.int 0])) (h2 : H lp = some (.lst [.int 0]))
    (hv : v ∈ [V.bl true, .bl false, .non, .str "0", .int (-1), .ref tp, .ref lp, .int 500000]) : NoKey K rs H v := by
  simp only [List.mem_cons, List.not_mem_nil, or_false] at hv
  rcases hv with rfl | rfl | rfl | rfl | rfl | rfl | rfl | rfl
  · exact ⟨_, .of (.bl true), okR_of (by decide +kernel), rfl⟩
  · exact ⟨_, .of (.bl false), okR_of (by decide +kernel), rfl⟩
  · exact ⟨_, .of .non, okR_of (by decide +kernel), rfl⟩
  · exact ⟨_, .of (.str _), okR_of (by decide +kernel), rfl⟩
  · exact ⟨_, .of (.int _), okR_of (by decide +kernel), rfl⟩
  · exact ⟨_, .of (.tup (.of h1) (.cons (.int _) .nil)), okR_of (by decide +kernel), rfl⟩
  · exact ⟨_, .of (.lst (.of h2) (.cons (.int _) .nil)), okR_of (by decide +kernel), rfl⟩
  · exact ⟨_, .of (.int _), okR_of (by decide +kernel), no500 h⟩

def prD (p : Int × Int) : PyData := .tuple [.int p.1, .int p.2]
theorem eqv_prs : ∀ A B : List (Int × Int), PyData.eqvAll (A.map prD) (B.map prD) = decide (A = B)
  | [], [] => rfl
  | [], _ :: _ => rfl
  | _ :: _, [] => rfl
  | p :: A, q :: B => by
    show (PyData.eqv (prD p) (prD q) && PyData.eqvAll (A.map prD) (B.map prD)) = _
    rw [eqv_prs A B]
    have e : PyData.eqv (prD p) (prD q) = decide (p = q) := by
      obtain ⟨a, b⟩ := p
      obtain ⟨c, d⟩ := q
      show (decide (a = c) && (decide (b = d) && true)) = _
      rw [Bool.and_true]
      by_cases h1 : a = c
      · by_cases h2 : b = d
        · rw [h1, h2]; simp
        · rw [decide_eq_false h2, Bool.and_false, decide_eq_false fun z => h2 (Prod.mk.inj z).2]
      · rw [decide_eq_false h1, Bool.false_and, decide_eq_false fun z => h1 (Prod.mk.inj z).1]
    rw [e]
    by_cases h1 : p = q
    · by_cases h2 : A = B
      · rw [h1, h2]; simp
      · rw [decide_eq_false h2, Bool.and_false, decide_eq_false fun z => h2 (List.cons.inj z).2]
    · rw [decide_eq_false h1, Bool.false_and, decide_eq_false fun z => h1 (List.cons.inj z).1]
theorem shaped_prs (A : List (Int × Int)) : SeqAt.shaped (.list (A.map prD)) = true := by
  have h1 : ∀ A : List (Int × Int), PyData.canLayAll0 (A.map prD) = true := fun A => by
    induction A with
    | nil => rfl
    | cons p A ih =>
      show ((PyData.canLay0 (.int p.1) && (PyData.canLay0 (.int p.2) && true)) && PyData.canLayAll0 (A.map prD)) = true
      rw [ih]; rfl
  have h2 : ∀ A : List (Int × Int), PyData.depthAll (A.map prD) ≤ 1 := fun A => by
    induction A with
    | nil => decide
    | cons p A ih =>
      show max (PyData.depth (prD p)) (PyData.depthAll (A.map prD)) ≤ 1
      exact Nat.max_le.mpr ⟨Nat.le_of_eq rfl, ih⟩
  show (PyData.canLayAll0 (A.map prD) && decide (PyData.depthAll (A.map prD) + 1 ≤ 64)) = true
  have := h2 A
  rw [h1, decide_eq_true (by omega)]
  rfl
theorem nd_subG {α : Type} [BEq α] [LawfulBEq α] : ∀ {l U : List α}, l.Nodup → (∀ k ∈ l, k ∈ U) → l.length ≤ U.length
  | [], _, _, _ => Nat.zero_le _
  | a :: l, U, nd, h => by
    have h1 := List.nodup_cons.mp nd
    have h2 := h a List.mem_cons_self
    have z := nd_subG (U := U.erase a) h1.2 fun k hk => (List.mem_erase_of_ne (by rintro rfl; exact h1.1 hk)).mpr (h k (List.mem_cons_of_mem _ hk))
    have := List.length_pos_of_mem h2
    rw [List.length_erase_of_mem h2] at z
    rw [List.length_cons]
    omega
theorem same_sorted {l m A B : List (Int × Int)} (nl : (ks l).Nodup) (nm : (ks m).Nodup) (pA : A.Perm l) (sA : A.Pairwise (fun p q => p.1 < q.1)) (pB : B.Perm m) (sB : B.Pairwise (fun p q => p.1 < q.1)) : sameInts l m = decide (A = B) := by
  by_cases e : A = B
  · rw [decide_eq_true e]
    subst e
    have p : l.Perm m := pA.symm.trans pB
    unfold sameInts
    rw [p.length_eq, beq_self_eq_true, Bool.true_and, List.all_eq_true]
    intro q hq
    have := lk_ents nm (p.mem_iff.mp hq)
    rw [this]
    exact beq_self_eq_true _
  · rw [decide_eq_false e]
    cases h : sameInts l m with
    | false => rfl
    | true =>
      refine absurd ?_ e
      unfold sameInts at h
      rw [Bool.and_eq_true, List.all_eq_true] at h
      obtain ⟨h1, h2⟩ := h
      have sub : l ⊆ m := fun q hq => by
        have z := h2 q hq
        exact lk_mem (eq_of_beq z)
      have nd : l.Nodup := List.Pairwise.of_map (R := (· ≠ ·)) (S := (· ≠ ·)) (·.1) (fun a b h z => h (by rw [z])) nl
      have ndm : m.Nodup := List.Pairwise.of_map (R := (· ≠ ·)) (S := (· ≠ ·)) (·.1) (fun a b h z => h (by rw [z])) nm
      have h1 : l.length = m.length := eq_of_beq h1
      have p : l.Perm m := (List.perm_ext_iff_of_nodup nd ndm).mpr fun a => ⟨fun h => sub h, fun h => by
        refine Classical.byContradiction fun no => ?_
        have z := nd_subG (U := m.erase a) nd fun k hk => (List.mem_erase_of_ne (by rintro rfl; exact no hk)).mpr (sub hk)
        have := List.length_pos_of_mem h
        rw [List.length_erase_of_mem h] at z
        omega⟩
      refine List.Perm.eq_of_pairwise (le := fun p q => p.1 < q.1) (fun x y hx hy h1 h2 => ?_) sA sB (pA.trans (p.trans pB.symm))
      exact absurd h1 (by omega)
def lawQ : Str := (("law" : Str) ++ (".<locals>." : Str)) ++ ("<lambda>" : Str)

def spLawTs (K : PySem.W.Frag) (tabs : List (Addr × Addr)) : Sp := fun vs H Q _ => ∃ (a : Addr) (ns : List Int), vs = [.ref a] ∧ SqL K H a (ns.map V.int) ∧ ns.length ≤ 63 ∧ (∀ p ∈ tabs, H p.2 = some (.tbl #[])) ∧ ∀ H', Q (.bl true) H'
section
variable {P : Program} {w : World} {K : PySem.W.Frag} {mg : Str → Option Value} {base : Heap} {CX : CXT}

theorem okGc {x qual : Str} {st : Stmt} {f c : Addr} {fd : FuncData} {N ps : List Str} {k : Nat} {sp : Sp} (F : Fun K x qual st f fd) (hc : fd.code = .ref c) (S : FnScope N ps (defScope st)) (len : ∀ vs H Q E, sp vs H Q E → vs.length = ps.length)
    (body : ∀ (A : Around) (outer : List Env) (s : Shared) (H : Hp) (vs : List V) (Q : VK) (E : XK),
      (A.deeper (envOfC qual (defScope st) s.heap.objs.size f (.ref c))).guards = some [] → Room k (A.deeper (envOfC qual (defScope st) s.heap.objs.size f (.ref c))) → sp vs H Q E →
      ∃ t, PSs (cxOf CX P w K mg base N qual (defScope st) f (.ref c) A outer s H E).nox (defBody st) t ∧ t { nx := fun _ H' => Q .non H', rt := Q } (L2.start N vs) H) : FnG P w K mg base CX (k + 1) f fd ps sp := by
  obtain ⟨oc, od, kV, doc, pm, an, cdv, ct, osl, rfl, lk, hcd⟩ := F.ex
  obtain rfl : cdv = .ref c := hc
  refine ⟨len, ?_⟩
  intro A outer s H args us vs Q E hg hr e0 hb r hsp
  have ln := len _ _ _ _ hsp
  have kin : K.In s.heap := e0.mod.kin.keeps fun b o e => (e0.bs b o e).1
  have lim : s.heap.NoLimit := e0.mod.nolimit.keeps fun b o e => (e0.bs b o e).1
  have kinds : ∀ y ∈ ps.zip us, (defScope st).names.lookup y.1 = some .local ∨ ((defScope st).names.lookup y.1 = some .cell ∧ ((cellsFrom (s.heap.objs.size + 1) (defScope st).names []).lookup y.1).isSome = true) := by
    rintro ⟨n, v⟩ hy
    rcases S.par n (List.of_mem_zip hy).1 with q | q
    · left; exact q
    · right; exact ⟨q, PySem.W.cellsFrom_some _ _ _ (.inl q)⟩
  refine codeAny_call_function hr.depth (kin _ _ lk) rfl S.co S.gen rfl (PySem.W.codeRec_of kin hcd) (hb _ _ _ _ ?_)
  refine wpAny_newFunctionEnv_cells S.kind kinds ?_
  intro env he s1 x
  subst he
  refine ⟨lim.keeps x.toInCall.keep, codeAny_func ?_⟩
  obtain ⟨t, ht, hq⟩ := body A outer s H vs Q E (deeper_guards A _ hg) (hr.deeper _) hsp
  have I := inv_start (CX := CX) (P := P) (mg := mg) (base := base) (E := E) S hr.hd e0 ln r x
  refine wpAny_mono (ht.nox.run [] s1 (L2.start N vs) H _ I hq) ?_ (fun e s' hs => hs)
  intro fl s' hs
  cases fl with
  | ret u =>
    obtain ⟨v, σ', H', J, rv, q⟩ := hs
    exact ⟨v, H', J.os, J.bare, J.base, J.hok, rv, q⟩
  | next =>
    obtain ⟨σ', H', J, q⟩ := hs
    exact ⟨V.non, H', J.os, J.bare, J.base, J.hok, rfl, q⟩
  | brk => obtain ⟨_, _, _, z⟩ := hs; exact z.elim
  | cont => obtain ⟨_, _, _, z⟩ := hs; exact z.elim
end
theorem Tup3.rev {H : Hp} : ∀ {ts : List V} {es : List (Int × Rw)}, Tup3 H ts es → Tup3 H ts.reverse es.reverse
  | _, _, .nil => .nil
  | _, _, .cons h r => by
    rw [List.reverse_cons, List.reverse_cons]
    exact Tup3.app h (Tup3.rev r)
theorem VR.rev {es : List (Int × Rw)} (h : VR es) : VR es.reverse := fun p hp => h p (List.mem_reverse.mp hp)

def TupI (H : Hp) (ts : List V) (l : List (Int × Int)) : Prop := TupV H ts (l.map fun p => (p.1, V.int p.2))
theorem tupI_dp {K : PySem.W.Frag} {H : Hp} : ∀ {ts : List V} {l : List (Int × Int)}, TupI H ts l → DpAll K H ts (l.map prD) := by
  intro ts l
  induction l generalizing ts with
  | nil =>
    intro h
    cases h
    exact .nil
  | cons p l ih =>
    intro h
    unfold TupI at h
    rw [List.map_cons] at h
    cases h with
    | cons h r => exact .cons (.tup (.of h) (.cons (.int _) (.cons (.int _) .nil))) (ih r)
theorem laid_len0 (rows : List (Int × Rw)) : (laidA [] rows).length ≤ rows.length := by
  have := laid_len rows []
  simpa using this
theorem tabIn_of {K : PySem.W.Frag} {x : Str} {f c P : Addr} {oc e1 : Value} {od e2 : Option Addr} {fd : FuncData} {sl e3 : Array (Option Value)} {vs : Array Value} (a : PySem.W.nsIn K mainGlobals x = some (some (.ref f))) (l : K.lookup f = some ⟨oc, od, .func fd, sl⟩)
    (hc : fd.code = .ref c) (lc : K.lookup c = some ⟨e1, e2, .fields vs, e3⟩) (vp : vs[11]? = some (.ref P)) : PySem.W.tabIn K x = some (c, P) := by
  unfold PySem.W.tabIn
  simp only [a, l, hc, lc, vp]
end My
set_option Elab.async false
set_option linter.all false
set_option maxRecDepth 100000

namespace My
open PySem PySem.Spec PyProof.Rows L2
inductive AllX (K : PySem.W.Frag) (H : Hp) : List V → List PyData → Prop
  | nil : AllX K H [] []
  | cons {v : V} {d : PyData} {vs : List V} {ds : List PyData} : Dx K H v d → AllX K H vs ds → AllX K H (v :: vs) (d :: ds)
inductive Dn (K : PySem.W.Frag) (H : Hp) : V → PyData → Prop
  | of {v : V} {d : PyData} : Dx K H v d → Dn K H v d
  | lst {a : Addr} {vs : List V} {ds : List PyData} : SqL K H a vs → AllX K H vs ds → Dn K H (.ref a) (.list ds)
  | tup {a : Addr} {vs : List V} {ds : List PyData} : SqT K H a vs → AllX K H vs ds → Dn K H (.ref a) (.tuple ds)
section
variable {K : PySem.W.Frag} {H H' : Hp}
theorem AllX.same (s : Same H H') : ∀ {vs : List V} {ds : List PyData}, AllX K H vs ds → AllX K H' vs ds
  | _, _, .nil => .nil
  | _, _, .cons h r => .cons (h.same s) (AllX.same s r)
theorem AllX.app {vs ws : List V} {ds es : List PyData} (h : AllX K H vs ds) (h2 : AllX K H ws es) : AllX K H (vs ++ ws) (ds ++ es) := by
  induction h with
  | nil => exact h2
  | cons a _ ih => exact .cons a ih
theorem AllX.len {vs : List V} {ds : List PyData} (h : AllX K H vs ds) : vs.length = ds.length := by
  induction h with
  | nil => rfl
  | cons _ _ ih => rw [List.length_cons, List.length_cons, ih]
theorem AllX.at {vs : List V} {ds : List PyData} (h : AllX K H vs ds) : ∀ {i : Nat} {v : V}, vs[i]? = some v → ∃ d, ds[i]? = some d ∧ Dx K H v d := by
  induction h with
  | nil => intro i v e; cases e
  | cons a _ ih =>
    intro i v e
    cases i with
    | zero => cases e; exact ⟨_, rfl, a⟩
    | succ i => simpa using ih (i := i) (by simpa using e)
theorem AllX.at' {vs : List V} {ds : List PyData} (h : AllX K H vs ds) : ∀ {i : Nat} {d : PyData}, ds[i]? = some d → ∃ v, vs[i]? = some v ∧ Dx K H v d := by
  induction h with
  | nil => intro i v e; cases e
  | cons a _ ih =>
    intro i v e
    cases i with
    | zero => cases e; exact ⟨_, rfl, a⟩
    | succ i => simpa using ih (i := i) (by simpa using e)
theorem AllX.of : ∀ {vs : List V} {ds : List PyData}, DpAll K H vs ds → AllX K H vs ds
  | _, _, .nil => .nil
  | _, _, .cons h r => .cons (.of h) (AllX.of r)
theorem AllX.take {vs : List V} {ds : List PyData} (h : AllX K H vs ds) : ∀ n, AllX K H (vs.take n) (ds.take n) := by
  induction h with
  | nil => intro n; simpa using AllX.nil
  | cons a _ ih =>
    intro n
    cases n with
    | zero => exact .nil
    | succ n => exact .cons a (ih n)
theorem AllX.drop {vs : List V} {ds : List PyData} (h : AllX K H vs ds) : ∀ n, AllX K H (vs.drop n) (ds.drop n) := by
  induction h with
  | nil => intro n; simpa using AllX.nil
  | cons a r ih =>
    intro n
    cases n with
    | zero => exact .cons a r
    | succ n => exact ih n
theorem Dn.same {v : V} {d : PyData} (h : Dn K H v d) (s : Same H H') : Dn K H' v d := by
  cases h with
  | of h => exact .of (h.same s)
  | lst h1 h2 => exact .lst (s.seq h1) (h2.same s)
  | tup h1 h2 => exact .tup (same_seqT s h1) (h2.same s)
end

def SysK (K : PySem.W.Frag) : Prop := ∃ od es n sl, K.lookup sysModules = some ⟨.type "dict", od, .dict es n, sl⟩
section
variable {h : Heap}
mutual
theorem reads_noSys {o : Obj} (ho : h.get? sysModules = some o) (hc : o.cls = .type "dict") : ∀ {v : Value} {d : PyData} {as : List Addr}, Reads h v d as → d.hasDict = false → sysModules ∉ as
  | _, _, _, .none, _ => List.not_mem_nil
  | _, _, _, .bool _, _ => List.not_mem_nil
  | _, _, _, .int _ _, _ => List.not_mem_nil
  | _, _, _, .str _ _, _ => List.not_mem_nil
  | _, _, _, .list e1 e2 e3 r, hd => fun m => by
    rcases List.mem_cons.mp m with q | q
    · rw [← q, ho] at e1
      cases e1
      rw [hc] at e2
      exact absurd e2 (by decide)
    · exact readsAll_noSys ho hc r (by simpa only [PyData.hasDict] using hd) q
  | _, _, _, .tuple e1 e2 e3 r, hd => readsAll_noSys ho hc r (by simpa only [PyData.hasDict] using hd)
  | _, _, _, .dict _ _ _ _ _, hd => by simp only [PyData.hasDict] at hd; cases hd
theorem readsAll_noSys {o : Obj} (ho : h.get? sysModules = some o) (hc : o.cls = .type "dict") : ∀ {vs : List Value} {ds : List PyData} {as : List Addr}, ReadsAll h vs ds as → PyData.hasDictAll ds = false → sysModules ∉ as
  | _, _, _, .nil, _ => List.not_mem_nil
  | _, _, _, .cons r1 r2, hd => fun m => by
    simp only [PyData.hasDictAll, Bool.or_eq_false_iff] at hd
    rcases List.mem_append.mp m with q | q
    · exact reads_noSys ho hc r1 hd.1 q
    · exact readsAll_noSys ho hc r2 hd.2 q
end
end
section
variable {X : Cx} {pins : List (Addr × Obj)} {σ : L2.St} {H : Hp} {s : Shared}
theorem sys_obj (S : SysK X.K) (I : L2.Inv X pins σ H s) : ∃ o, s.heap.get? sysModules = some o ∧ o.cls = .type "dict" := by
  obtain ⟨od, es, n, sl, e⟩ := S
  exact ⟨_, I.kIn _ _ e, rfl⟩
theorem Dx.reads (S : SysK X.K) (I : L2.Inv X pins σ H s) {x : V} {d : PyData} {u : Value} (h : Dx X.K H x d) (r : RelV x u) : ∃ as, Reads s.heap u d as ∧ sysModules ∉ as := by
  obtain ⟨o, ho, hc⟩ := sys_obj S I
  cases h with
  | of hp =>
    obtain ⟨as, rd⟩ := Dp.reads I d x u hp r
    exact ⟨as, rd, reads_noSys ho hc rd (dp_noDict d x hp)⟩
  | @dict a kvs ds ha f =>
    cases r
    obtain ⟨_, ne, vs, kv, o, es, ep, e1, e2, e3, _, p, _⟩ := I.hok a _ ha
    obtain ⟨z1, z2⟩ := readsAll_flat (h := s.heap) p kv f
    refine ⟨_, Reads.dict e1 e2.1 e3 z1 z2, fun m => ?_⟩
    have m2 : sysModules ∈ [a] := by simpa using m
    rw [List.mem_singleton] at m2
    subst m2
    simp at ne
theorem AllX.reads (S : SysK X.K) (I : L2.Inv X pins σ H s) : ∀ {xs : List V} {ds : List PyData} {us : List Value}, AllX X.K H xs ds → Vals xs us → ∃ as, ReadsAll s.heap us ds as ∧ sysModules ∉ as
  | _, _, _, .nil, .nil => ⟨[], .nil, List.not_mem_nil⟩
  | _, _, _, .cons h r, .cons r1 r2 => by
    obtain ⟨as, a1, a2⟩ := h.reads S I r1
    obtain ⟨bs, b1, b2⟩ := AllX.reads S I r r2
    exact ⟨_, .cons a1 b1, fun m => (List.mem_append.mp m).elim a2 b2⟩
theorem Dn.reads (S : SysK X.K) (I : L2.Inv X pins σ H s) {x : V} {d : PyData} {u : Value} (h : Dn X.K H x d) (r : RelV x u) : ∃ as, Reads s.heap u d as ∧ sysModules ∉ as := by
  obtain ⟨o, ho, hc⟩ := sys_obj S I
  cases h with
  | of h => exact h.reads S I r
  | @lst a vs ds h1 h2 =>
    cases r
    obtain ⟨its, rv, ⟨n, dd, e1, e2, e3, e4⟩, hz⟩ := I.list h1
    obtain ⟨as, a1, a2⟩ := h2.reads S I rv
    refine ⟨_, Reads.list e1 e2 e4 (by simpa using a1), fun m => ?_⟩
    rcases List.mem_cons.mp m with q | q
    · rw [← q, ho] at e1
      cases e1
      rw [hc] at e2
      exact absurd e2 (by decide)
    · exact a2 q
  | @tup a vs ds h1 h2 =>
    cases r
    obtain ⟨its, rv, ⟨o, e1, e2, n, e4⟩, hz⟩ := I.tuple h1
    obtain ⟨as, a1, a2⟩ := h2.reads S I rv
    exact ⟨_, Reads.tuple e1 e2 e4 (by simpa using a1), a2⟩
def rReprN (K : PySem.W.Frag) : List V → Hp → VK → Prop := fun xs H Q => ∃ x d, xs = [x] ∧ Dn K H x d ∧ d.showable = true ∧ d.depth ≤ 60 ∧ d.shown.length ≤ sizeLine ∧ Q (.str d.shown) H
theorem call_reprN (S : SysK X.K) (g : X.A.guards = some []) (hu : X.A.units + 64 < cLine) : CallR X (.builtin "repr") (rReprN X.K) := by
  intro pins s σ H xs us Q I r h
  obtain ⟨x, d, rfl, hx, hs, hd, hz, q⟩ := h
  cases hx with
  | of hx => exact call_repr g hu pins s σ H [x] us Q I r ⟨x, d, rfl, hx, hs, hd, hz, q⟩
  | lst h1 h2 =>
    obtain ⟨u, rfl, ru⟩ := vals1 r
    obtain ⟨as, rd, nm⟩ := Dn.reads S I (.lst h1 h2) ru
    cases ru
    exact repr_of_reads' rd hs (fun _ => nm) g (by omega) (fun _ _ e => e) (fun h' t tk k => ⟨.str _, H, I.kept k, ⟨t, rfl⟩, q⟩) hz
  | tup h1 h2 =>
    obtain ⟨u, rfl, ru⟩ := vals1 r
    obtain ⟨as, rd, nm⟩ := Dn.reads S I (.tup h1 h2) ru
    cases ru
    exact repr_of_reads' rd hs (fun _ => nm) g (by omega) (fun _ _ e => e) (fun h' t tk k => ⟨.str _, H, I.kept k, ⟨t, rfl⟩, q⟩) hz
end
end My
set_option Elab.async false
set_option linter.all false
set_option maxRecDepth 100000
set_option maxHeartbeats 4000000

namespace My
open PySem PySem.Spec PyProof.Rows L2 LamX
section
variable {P : Program} {w : World} {K : PySem.W.Frag} {mg : Str → Option Value} {base : Heap}

def FnX (P : Program) (w : World) (K : PySem.W.Frag) (mg : Str → Option Value) (base : Heap) (k : Nat) (x : Str) (ps : List Str) (sp : Sp) : Prop :=
  ∃ f fd, mg x = some (.ref f) ∧ FnOk P w K mg base (L2.CX P w) k f fd ps sp ∧ PySem.W.keepIn K (.ref f) = true ∧ Binds K fd ps []

def MkX (P : Program) (w : World) (K : PySem.W.Frag) (mg : Str → Option Value) (base : Heap) (C : Addr) (k : Nat) (ps : List Str) (sp : Sp) : Prop :=
  ∃ f fd, Mk K C f ∧ FnOk P w K mg base (L2.CX P w) k f fd ps sp ∧ Binds K fd ps []
theorem FunV.okX {x qual : Str} {st : Stmt} {f : Addr} {fd : FuncData} {dV : Value} {N ps : List Str} {k : Nat} {sp : Sp} (F : FunV K x qual st dV f fd) (S : FnScope N ps (defScope st))
    (len : ∀ vs H Q E, sp vs H Q E → vs.length = ps.length)
    (hbody : ∀ (cdv : Value) (A : Around) (outer : List Env) (s : Shared) (H : Hp) (vs : List V) (Q : VK) (E : XK), Room k (A.deeper (envOfC qual (defScope st) s.heap.objs.size f cdv)) → sp vs H Q E →
      ∃ t, PSs (cxOf (L2.CX P w) P w K mg base N qual (defScope st) f cdv A outer s H E) (defBody st) t ∧ t { nx := fun _ H' => Q .non H', rt := Q } (start N vs) H) : FnOk P w K mg base (L2.CX P w) (k + 1) f fd ps sp := by
  obtain ⟨oc, od, kV, doc, pm, an, cdv, ct, osl, rfl, lk, hcd⟩ := F.ex
  exact fn_of lk hcd S len fun A outer s H vs Q E hr hsp => hbody cdv A outer s H vs Q E hr hsp
end
section
variable {X : Cx} {C : Addr} {k : Nat} {ps : List Str} {sp : Sp} {x : Str} {p pos : Pos} {e : Expr} {es : List Expr} {t : TA} {E : XK}
theorem pe_fnX (D : FnX X.prog X.w X.K X.mg X.base k x ps sp) (hr : Room k X.A) (hg : Gl X x) (hx : Passes (L2.CX X.prog X.w) X E) (ha : PA X (e :: es) t)
    (hdb : (x == ("__debug__" : Str)) = false := by decide) (he : starEach (e :: es) X.env = (false, eval e X.env) :: starEach es X.env := by rfl) (hpl : (backTo pos (starEach es X.env)).any (·.1) = false := by rfl) :
    PE X (.Call (.Name x p) (e :: es) [] pos) (tCall sp [] E t) := by
  obtain ⟨f, fd, hm, F, kp, b⟩ := D
  exact pe_call (ds := []) F hr hg hm kp b .nil hx ha hdb he hpl
theorem pe_mkX (D : MkX X.prog X.w X.K X.mg X.base C k ps sp) (hr : Room (k + 1) X.A) (hg : Gl X x) (hm : X.mg x = some (.ref C)) (hx : Passes (L2.CX X.prog X.w) X E) (ha : PA X (e :: es) t)
    (hdb : (x == ("__debug__" : Str)) = false := by decide) (he : starEach (e :: es) X.env = (false, eval e X.env) :: starEach es X.env := by rfl) (hpl : (backTo pos (starEach es X.env)).any (·.1) = false := by rfl) :
    PE X (.Call (.Name x p) (e :: es) [] pos) (tMake C sp [] E t) := by
  obtain ⟨f, fd, M, F, b⟩ := D
  exact pe_make (ds := []) M F hr hg hm b .nil hx ha hdb he hpl

theorem op_nvr {α : Type} {f : Value → Value → Sem Value} : OpR X f (fun _ _ _ _ => False) := fun _ _ _ _ _ _ _ _ _ _ _ _ h => h.elim
end

def GivesTo1 (X : Cx) (kg : Nat) (Ng : List Str) (x : Str) (sg : Scope) (g : Addr) (cdg : Value) (bg : List Stmt) (a q : Str) (TT : (XK → Hp → VK → Prop) → Hp → VK → Prop) : Prop :=
  ∀ (f c' : Addr) (s : Shared) (H : Hp) (Q : VK) (tl : XK → Hp → VK → Prop),
    (X.A.deeper (envOfC x sg s.heap.objs.size g cdg)).guards = some [] → Room kg (X.A.deeper (envOfC x sg s.heap.objs.size g cdg)) →
    (∀ (W : WX) (pn : List (Addr × Obj)) (xe : Value → Shared → Prop) (p1 p2 : Pos), Takes ((cxOf CX0 X.prog X.w X.K X.mg X.base Ng x sg g cdg X.A X.stack s H E0).tr pn xe) W →
      PE ((cxOf CX0 X.prog X.w X.K X.mg X.base Ng x sg g cdg X.A X.stack s H E0).tr pn xe) (.Call (.Name a p1) [] [] p2) (fun σZ HZ Q => σZ[0]? = some (some (.ref f)) ∧ HZ c' = some (CodeO c' q) ∧ tl (WE W σZ) HZ Q)) →
    H c' = some (CodeO c' q) → TT tl H Q →
    ∃ t, PSs (cxOf CX0 X.prog X.w X.K X.mg X.base Ng x sg g cdg X.A X.stack s H E0).nox bg t ∧ t { nx := fun _ H' => Q .non H', rt := Q } (L2.start Ng [.ref f]) H
def tLam1 (T : List (Addr × Str)) (TT : (XK → Hp → VK → Prop) → Hp → VK → Prop) (t : XK → TE) : TE := fun σ H Q => Tabs T H ∧ ∀ H1, ExtN H H1 → Tabs T H1 → TT (fun E H' Q' => t E σ H' Q') H1 Q
section
variable {X : Cx}
theorem pe_lamcall1 {T : List (Addr × Str)} {TT : (XK → Hp → VK → Prop) → Hp → VK → Prop} {x a : Str} {g c P : Addr} {k : Nat} {st : Stmt} {fd : FuncData} {Ng : List Str}
    {params : Arguments} {body : Expr} {scope : Scope} {t : XK → TE} {p lpos pos : Pos} (hg : Gl X x) (hm : X.mg x = some (.ref g)) (hk : PySem.W.keepIn X.K (.ref g) = true)
    (F : Fun X.K x x st g fd) (hb : L2.Binds X.K fd [a] []) (Sg : FnScope Ng [a] (defScope st)) (hNg : Ng[0]? = some a) (hva : Vis (defScope st) a)
    (hG : ∀ cdg, GivesTo1 X (k + 1) Ng x (defScope st) g cdg (defBody st) a (X.env.qual ++ "<lambda>") TT) (hgd : X.A.guards = some [])
    (TB : TabB X.base X.mg c P) (hcode : X.env.code = .ref c) (hmT : (P, X.env.qual ++ "<lambda>") ∈ T) (hu : ∀ p ∈ T, p.1 = P → p.2 = X.env.qual ++ "<lambda>") (hr : Room (k + 2) X.A) (L : LamS X.env.scope scope) (hdef : defaultsOf params X.env = ([], []))
    (hbind : ∀ (q : Str) (cl : List (Str × Addr)) (pm cv ctv : Value), bindArgs (PySem.W.kla_fn "<lambda>" q params body scope cl pm cv ctv) ⟨[], []⟩ = pure [])
    (hbody : ∀ (A : Around) (outer : List Env) (s : Shared) (H : Hp) (E : XK) (f c' : Addr), Room k (A.deeper (lamEnv X scope s.heap.objs.size f c')) → PE (lamCx X A outer s H E scope f c') body (t E))
    (hdb : (x == ("__debug__" : Str)) = false := by decide) (hd : (a == ("__debug__" : Str)) = false := by decide) (hcd : (a == ("__classdict__" : Str)) = false := by decide) :
    PE X (.Call (.Name x p) [.Lambda params body scope lpos] [] pos) (tLam1 T TT t) := by
  refine ⟨fun pins s σ H Q I h => ?_⟩
  obtain ⟨hT, h⟩ := h
  obtain ⟨oc, od, kV, doc, pm, an, cdv, ct, osl, rfl, lk, hcg⟩ := F.ex
  refine wpAny_Call_Name_kw (ld_glob I hg hm ?_ hdb)
  refine PySem.W.callWith_K (h₀ := X.base) I.ok.mod.kin hk ?_ (by rfl) (by rfl)
  show wpAny _ _ (spliced ((false, eval (.Lambda params body scope lpos) X.env) :: backTo pos (starEach [] X.env))) _ _ s
  refine Calls.spliced_cons (lam_make2 I TB hcode hmT hu hT hdef (L.has I.ok) fun f c' pm' ctv H1 s' I1 eN T1 hf hfn hfr hco => ?_)
  refine Calls.spliced_nil ⟨I1.kIn, ?_⟩
  have rc : codeAny (model X.prog X.w) X.A (.call (.ref g) ⟨[.ref f], []⟩) (CR CX0 X.stack X.prog X.w H1 s' Q E0) s' := by
    refine run_ofS (N := Ng) (ps := [a]) (us := [.ref f]) (vs := [.ref f]) lk hcg Sg hr I1.env0 (hb s' [.ref f] I1.kIn rfl) (.cons rfl .nil) rfl fun hr' => ?_
    obtain ⟨t', ht', hq'⟩ := hG cdv f c' s' H1 Q (fun E H' Q' => t E σ H' Q') (deeper_guards _ _ hgd) hr' (fun W pn xe p1 p2 tk => pe_actS (i := 0) (t := t) I1 L hf hfn hfr (hbind _ _ _ _ _) tk hr' (fun A outer s H E hr2 => hbody A outer s H E f c' hr2) hNg hva hd hcd) hco (h H1 eN T1)
    exact ⟨t', ht'.nox, hq'⟩
  refine wpAny_call (codeAny_mono rc fun r s2 hq => ?_)
  match r, hq with
  | .error e, hq => exact hq.elim
  | .ok (.ret u), hq => exact I1.after hq
  | .ok .next, hq => exact hq.elim
  | .ok .brk, hq => exact hq.elim
  | .ok .cont, hq => exact hq.elim
end
end My
set_option Elab.async false
set_option linter.all false
set_option maxRecDepth 100000

namespace My
open PySem PySem.Spec PyProof.Rows L2

inductive OddArg (K : PySem.W.Frag) (pre : Hp → List V → Prop) (m : PyData → Bool) (H : Hp) : V → V → PyData → Prop
  | item {a : Addr} {xs ys zs : List V} {u : V} {d : PyData} (h : H a = some (.lst xs) ∨ SqT K H a xs) (e : xs = ys ++ u :: zs) (hp : pre H ys) (hl : ys.length ≤ 1000) (hd : Dx K H u d) (hs : sm d) (hm : m d = false) : OddArg K pre m H (.ref a) u d
  | other {v : V} {d : PyData} (hd : Dx K H v d) (hs : sm d) (ht : PySem.W.kitAny K (.type (tyD d)) [.type "list", .type "tuple"] = some false) : OddArg K pre m H v v d
def preS (K : PySem.W.Frag) : Hp → List V → Prop := fun H ys => ∃ l, ElAll K H ys l
def preD (K : PySem.W.Frag) : Hp → List V → Prop := fun H ys => ∃ l, EnAll K H ys l
def spOdd (K : PySem.W.Frag) (CB : Addr) (pre : Hp → List V → Prop) (m : PyData → Bool) : Sp := fun vs H _ E => ∃ v u d, vs = [v] ∧ OddArg K pre m H v u d ∧ ∀ e H', Same H H' → H e = none → H' e = some (.xd [("value", u)]) → E (.ref CB) (some e) H'
def spOddI (K : PySem.W.Frag) (C CB : Addr) (pre : Hp → List V → Prop) (m : PyData → Bool) : Sp := fun vs H _ E => ∃ x dx v u d, vs = [.ref x, v] ∧ H x = some (.ins C dx []) ∧ OddArg K pre m H v u d ∧ ∀ e H', Same H H' → H e = none → H' e = some (.xd [("value", u)]) → E (.ref CB) (some e) H'
theorem kit_no {K : PySem.W.Frag} {d : PyData} (h1 : tyD d ≠ "list") (h2 : tyD d ≠ "tuple") : PySem.W.kitAny K (.type (tyD d)) [.type "list", .type "tuple"] = some false := by
  have a1 : ∀ S : String, S = "NoneType" ∨ S = "bool" ∨ S = "int" ∨ S = "str" ∨ S = "dict" → PySem.W.kitAny K (.type S) [.type "list", .type "tuple"] = some false := by
    intro S hS
    rcases hS with rfl | rfl | rfl | rfl | rfl <;> exact kitAny_cons (b := false) (kit_ty (by decide +kernel)) (fun _ => kitAny_cons (b := false) (kit_ty (by decide +kernel)) (fun _ => rfl) (fun z => (nomatch z))) (fun z => (nomatch z))
  cases d with
  | none => exact a1 _ (.inl rfl)
  | bool b => exact a1 _ (.inr (.inl rfl))
  | int i => exact a1 _ (.inr (.inr (.inl rfl)))
  | str s => exact a1 _ (.inr (.inr (.inr (.inl rfl))))
  | list ds => exact absurd rfl h1
  | tuple ds => exact absurd rfl h2
  | dict ds => exact a1 _ (.inr (.inr (.inr (.inr rfl))))
end My
set_option Elab.async false
set_option linter.all false
set_option maxRecDepth 100000

namespace My
open PySem PySem.Spec PyProof.Rows L2
def MtDX (P : Program) (w : World) (K : PySem.W.Frag) (mg : Str → Option Value) (base : Heap) (C : Addr) (m : Str) (k : Nat) (ps : List Str) (sp : Sp) (dvs : List V) (n : Nat) (ks : List Str) (gV : List V → List V → List V) : Prop :=
  ∃ f fd, PySem.W.findIn K (.ref C) m = some (some (.ref f)) ∧ PySem.W.isFn K (.ref f) = true ∧ PySem.W.keepIn K (.ref f) = true ∧ FnOk P w K mg base (L2.CX P w) k f fd ps sp ∧ (∃ ds, Vals dvs ds ∧ Binds K fd ps ds) ∧ ∃ g, KBn K fd ps (n + 1) ks g gV
def tMethKX (C : Addr) (m : Str) (n j : Nat) (sp : Sp) (gV : List V → List V → List V) (E : XK) (ta : TE) (t tk : TA) : TE := fun σ H Q => ta σ H fun x H1 => ∃ a dx fs, x = .ref a ∧ H1 a = some (.ins C dx fs) ∧ fs.lookup m = none ∧
  t σ H1 fun vs H2 => tk σ H2 fun zs H3 => vs.length = n ∧ zs.length = j ∧ sp (gV (x :: vs) zs) H3 Q E
section
variable {X : Cx} {C : Addr} {k n : Nat} {ps ks : List Str} {sp : Sp} {dvs : List V} {gV : List V → List V → List V} {x m : Str} {p pos apos : Pos} {e o : Expr} {es : List Expr} {kws : List Keyword} {t tk : TA} {to : TE} {E : XK}
theorem pe_mtDX {pl : Sem Bool} (D : MtDX X.prog X.w X.K X.mg X.base C m k ps sp dvs n ks gV) (hr : Room k X.A) (c : Cls X.K C) (hx : Passes (L2.CX X.prog X.w) X E) (he : PE X o to) (ha : PA X (e :: es) t)
    (hst : starEach (e :: es) X.env = (false, eval e X.env) :: starEach es X.env := by rfl) (hpl : (backTo pos (starEach es X.env)).any (·.1) = false := by rfl)
    (ht : eval (.Call (.Attribute o m apos) (e :: es) [] pos) X.env = (do
      let ov ← eval o X.env
      standAt apos.atName
      let (f, first) ← holding [ov] (getMethod ov m pl)
      callWith pos f first (backTo pos (starEach (e :: es) X.env)) (backToKw pos (keywordEach [] X.env))) := by rfl) :
    PE X (.Call (.Attribute o m apos) (e :: es) [] pos) (tMeth C m sp dvs E to t) := by
  obtain ⟨f, fd, h1, h2, h3, F, ⟨ds, hv, b⟩, _⟩ := D
  exact pe_meth he c ⟨h1, h2, h3⟩ F hr b hv hx ha hst hpl ht
theorem pe_mtKX {pl : Sem Bool} (D : MtDX X.prog X.w X.K X.mg X.base C m k ps sp dvs n ks gV) (hr : Room k X.A) (c : Cls X.K C) (hx : Passes (L2.CX X.prog X.w) X E) (he : PE X o to) (ha : PA X (e :: es) t) (hkw : PK X kws tk)
    (hall : (backToKw pos (keywordEach kws X.env)).all (·.1.isSome) = true := by rfl) (hks : (backToKw pos (keywordEach kws X.env)).filterMap (·.1) = ks := by rfl)
    (hst : starEach (e :: es) X.env = (false, eval e X.env) :: starEach es X.env := by rfl)
    (hpl : ((backTo pos (starEach (e :: es) X.env)).any (·.1) || (backToKw pos (keywordEach kws X.env)).any (·.1.isNone)) = false := by rfl)
    (ht : eval (.Call (.Attribute o m apos) (e :: es) kws pos) X.env = (do
      let ov ← eval o X.env
      standAt apos.atName
      let (f, first) ← holding [ov] (getMethod ov m pl)
      callWith pos f first (backTo pos (starEach (e :: es) X.env)) (backToKw pos (keywordEach kws X.env))) := by rfl) :
    PE X (.Call (.Attribute o m apos) (e :: es) kws pos) (tMethKX C m n ks.length sp gV E to t tk) := by
  obtain ⟨f, fd, h1, h2, h3, F, _, g, hb⟩ := D
  refine ⟨fun pins s σ H Q I h => ?_⟩
  refine PySem.W.methodCall_KW (pl := pl) (thn (he.run pins s σ H _ I h) fun u s1 ⟨x, H1, I1, rx, a, dx, fs, ex, ea, l, q⟩ => ?_) ht
  subst ex
  obtain rfl : u = Value.ref a := rx
  refine getmeth_ok I1 ea c ⟨h1, h2, h3⟩ l ?_
  refine PySem.W.callWith_KW (h₀ := X.base) (first := [.ref a]) I1.ok.mod.kin h3 hall (thn (ha.run pos pins s1 σ H1 _ I1 q) fun us s3 ⟨vs, H2, I3, rv, q2⟩ => ?_) hpl hst
  refine thn (hkw.run pos pins s3 σ H2 _ I3 q2) fun ws s4 ⟨zs, H3, I4, rz, l1, l2, q3⟩ => ⟨I4.kIn, ?_⟩
  rw [hks]
  have e1 : (Value.ref a :: us).length = n + 1 := by rw [List.length_cons, ← rv.length, l1]
  have e2 : ws.length = ks.length := rz.length.symm.trans l2
  have z := F.run X.A X.stack s4 H3 ⟨.ref a :: us, ks.zip ws⟩ (g (.ref a :: us) ws) (gV (.ref a :: vs) zs) Q E hr I4.env0 (hb.to s4 (.ref a :: us) ws I4.kIn e1 e2) (hb.rel (.cons rfl rv) rz) q3
  refine wpAny_call (codeAny_mono z ?_)
  intro r s' hq
  match r, hq with
  | .error e, hq => exact hx pins σ H3 s4 e s' I4 hq
  | .ok (.ret u), hq => exact I4.after hq
  | .ok .next, hq => exact hq.elim
  | .ok .brk, hq => exact hq.elim
  | .ok .cont, hq => exact hq.elim
end

def spOddE (K : PySem.W.Frag) (CB : Addr) : Sp := fun vs H _ E => ∃ a u d, vs = [.ref a, u] ∧ Dx K H u d ∧ sm d ∧ mEl d = false ∧ ∀ e H', Same H H' → H e = none → H' e = some (.xd [("value", u)]) → E (.ref CB) (some e) H'

def spOddW (K : PySem.W.Frag) (CB : Addr) : Sp := fun vs H _ E => ∃ a k f v b dk df dv, vs = [.ref a, k, f, v, .bl b] ∧ Dp K H k dk ∧ Dp K H f df ∧ Dp K H v dv ∧ sm (.tuple [dk, df, dv]) ∧ mEnt (.tuple [dk, df, dv]) = false ∧
  ∀ e u H', Same H H' → H e = none → H' e = some (.xd [("value", u)]) → Dx K H' u (.tuple [dk, df, dv]) → E (.ref CB) (some e) H'
end My
set_option Elab.async false
set_option linter.all false
set_option maxRecDepth 100000

namespace My
open PySem PySem.Spec PyProof.Rows L2
def LitX (K : PySem.W.Frag) (σ : L2.St) (t : TE) (d : PyData) : Prop := ∀ (H : Hp) (Q : VK), (∀ v H', Same H H' → Dx K H' v d → Q v H') → t σ H Q
def LitAX (K : PySem.W.Frag) (σ : L2.St) (t : TA) (ds : List PyData) : Prop := ∀ (H : Hp) (Q : List V → Hp → Prop), (∀ vs H', Same H H' → AllX K H' vs ds → Q vs H') → t σ H Q
def LsX (K : PySem.W.Frag) (H : Hp) (a : Addr) (ds : List PyData) : Prop := ∃ vs, H a = some (.lst vs) ∧ AllX K H vs ds
section
variable {K : PySem.W.Frag} {σ : L2.St}
theorem litx_of {t : TE} {d : PyData} (h : LitE K σ t d) : LitX K σ t d := fun H Q k => h H Q fun v H' s hv => k v H' s (.of hv)
theorem litx_dict : LitX K σ tDNewK (.dict []) := fun H Q k p hp => k _ _ (same_new hp) (.dict upd_same .nil)
theorem litx_all {t : TA} {ds : List PyData} (h : LitA K σ t ds) : LitAX K σ t ds := fun H Q k => h H Q fun vs H' s hv => k vs H' s (.of hv)
theorem litx_nil : LitAX K σ tNil [] := fun H Q k => k [] H (Same.refl H) .nil
theorem litx_cons {t : TE} {u : TA} {d : PyData} {ds : List PyData} (h : LitX K σ t d) (r : LitAX K σ u ds) : LitAX K σ (tCons t u) (d :: ds) := by
  intro H Q k
  refine h H _ fun v H1 s1 hv => r H1 _ fun vs H2 s2 hvs => ?_
  exact k _ _ (s1.trans s2) (.cons (hv.same s2) hvs)
theorem litx_new {u : TA} {ds : List PyData} (r : LitAX K σ u ds) (hl : ds.length ≤ 1000) {H : Hp} {Q : VK} (k : ∀ a H', Same H H' → H a = none → LsX K H' a ds → Q (.ref a) H') : tLst u σ H Q := by
  refine r H _ fun vs H1 s1 hvs => ⟨lit_len (by rw [hvs.len]; exact hl), fun p hp => ?_⟩
  have s2 : Same H1 (upd H1 p (.lst vs)) := same_new hp
  exact k _ _ (s1.trans s2) (s1.free hp) ⟨vs, upd_same, hvs.same s2⟩
theorem LsX.same {H H' : Hp} {a : Addr} {ds : List PyData} (h : LsX K H a ds) (s : Same H H') : LsX K H' a ds := by
  obtain ⟨vs, h1, h2⟩ := h
  exact ⟨vs, s _ _ h1, h2.same s⟩
theorem lsx_cat {H : Hp} {a b : Addr} {ds es : List PyData} {Q : VK} (h1 : LsX K H a ds) (h2 : LsX K H b es) (hl : ds.length + es.length ≤ 1000) (k : ∀ p H', Same H H' → H p = none → LsX K H' p (ds ++ es) → Q (.ref p) H') : rCat (.ref a) (.ref b) H Q := by
  obtain ⟨vs, e1, d1⟩ := h1
  obtain ⟨ws, e2, d2⟩ := h2
  refine ⟨a, b, vs, ws, rfl, rfl, e1, e2, lit_len (by rw [d1.len, d2.len]; exact hl), fun p hp => ?_⟩
  have s := same_new hp (o := .lst (vs ++ ws))
  exact k p _ s hp ⟨_, upd_same, (d1.app d2).same s⟩
theorem seq_litx {u : TA} {ds : List PyData} {i : Nat} {rest : TS} {D : L2.Ends} {H : Hp} (r : LitAX K σ u ds) (hl : ds.length ≤ 1000) (k : ∀ a H', Same H H' → H a = none → LsX K H' a ds → rest D (σ.set i (some (.ref a))) H') :
    tSeq (tAsg (tLst u) (gName i)) rest D σ H := by
  show tLst u σ H fun x H1 => rest D (σ.set i (some x)) H1
  exact litx_new r hl k
theorem seq_catx {u : TA} {a : Addr} {es ds : List PyData} {i j : Nat} {rest : TS} {D : L2.Ends} {H : Hp} (e : σ[i]? = some (some (.ref a))) (h : LsX K H a es) (r : LitAX K σ u ds) (hl : es.length + ds.length ≤ 1000)
    (k : ∀ p H', Same H H' → H p = none → LsX K H' p (es ++ ds) → rest D (σ.set j (some (.ref p))) H') : tSeq (tAsg (tOp rCat (tVar i) (tLst u)) (gName j)) rest D σ H := by
  refine ⟨_, e, litx_new r (by omega) fun b H1 s1 n1 h1 => ?_⟩
  exact lsx_cat (h.same s1) h1 hl fun p H2 s2 n2 h2 => k p H2 (s1.trans s2) (s1.free n2) h2
end

def rIsXT (K : PySem.W.Frag) (D a : Addr) (cls : Value) (d : Option Addr) : List V → Hp → VK → Prop := fun xs H Q => ∃ (tp dd : Addr) (cs : List V) (ws : List Value) (b : Bool) (fs : List (Str × V)), cls = .ref D ∧ d = some dd ∧ xs = [.ref a, .ref tp] ∧ H dd = some (.xd fs) ∧ H tp = some (.tup cs) ∧ Paired ClsV cs ws ∧ PySem.W.kitAny K (.ref D) ws = some b ∧ Q (.bl b) H
theorem call_isXT {X : Cx} {a D : Addr} {cls : Value} {d : Option Addr} {oe : Obj} {pn : List (Addr × Obj)} (C : ExcC X.K D) (hz : Zc cls d oe) (hf : ∃ vs, oe.data = .fields vs) : CallR (X.suite a ((a, oe) :: pn)) (.builtin "isinstance") (rIsXT X.K D a cls d) := by
  intro pins s σ H xs us Q I r h
  obtain ⟨tp, dd, cs, ws, b, fs, rfl, rfl, rfl, hd, hT, k, e, q⟩ := h
  obtain ⟨u1, u2, rfl, r1, r2⟩ := vals2 r
  cases (show u2 = Value.ref tp from r2)
  cases (show u1 = Value.ref a from r1)
  obtain ⟨hget, _⟩ := I.pin (a, oe) (List.mem_append.mpr (.inl List.mem_cons_self))
  obtain ⟨vs, hv⟩ := hf
  obtain ⟨o, eo⟩ := objOk_get (I.hok dd _ hd)
  have J : PySem.W.InstAt s.heap a oe D (some o) := by
    obtain ⟨oc, od, oda, osl⟩ := oe
    obtain ⟨h1, h2⟩ := hz
    dsimp only at h1 h2 hv
    subst h1 h2 hv
    exact ⟨hget, rfl, rfl, eo⟩
  obtain ⟨_, its, rv, o2, h1, h2, n, h3⟩ := (show ObjOk X.prog X.w H s.heap tp (.tup cs) from I.hok tp _ hT)
  have e3 := ClsV.all k rv
  subst e3
  obtain ⟨oc, od, dt, sl⟩ := o2
  simp only at h2 h3
  subst h2 h3
  exact PySem.W.kia_tup (kitX_exc C) I.kIn J h1 e (fun z => nomatch z) fun tk => ⟨.bl b, H, I.kept (t' := tk) fun _ _ z => z, rfl, q⟩

def dedup (ns : List Int) : List Int := ns.foldl (fun acc k => if acc.any (· == k) then acc else acc ++ [k]) []
theorem firstMet_dedup (ns : List Int) : PyProof.Rows.firstMet (fun i => ns.getD i 0) ns.length = dedup ns := by
  have e : (List.range ns.length).map (fun i => ns.getD i 0) = ns := by
    refine List.ext_getElem (by simp) fun i h1 h2 => ?_
    simp at h1 h2 ⊢
    simp [h2]
  unfold PyProof.Rows.firstMet
  rw [e]
  rfl
def tLenSet (te : TE) : TE := fun σ H Q => te σ H fun x H1 => ∃ p ns, x = .ref p ∧ H1 p = some (.lst (ns.map V.int)) ∧ ns.length ≤ 1000 ∧ Q (.int (dedup ns).length) H1
theorem pe_lenSet {X : Cx} {e : Expr} {te : TE} {p1 p2 c1 c2 : Pos} (hc : X.calm = true) (hg1 : Gl X "len") (hm1 : X.mg "len" = none) (hg2 : Gl X "set") (hm2 : X.mg "set" = none) (he : PE X e te) (hs : starEach [e] X.env = [(false, eval e X.env)] := by rfl)
    (hs2 : starEach [.Call (.Name "set" p2) [e] [] c2] X.env = [(false, eval (.Call (.Name "set" p2) [e] [] c2) X.env)] := by rfl) :
    PE X (.Call (.Name "len" p1) [.Call (.Name "set" p2) [e] [] c2] [] c1) (tLenSet te) := by
  refine ⟨fun pins s σ H Q I h => wpAny_Call_Name_kw (ld_blt I hg1 hm1 PySem.boot_len ?_ (by decide) (by decide))⟩
  refine PyProof.Rows.callWith_builtin1 ?_ hs2 (by rfl)
  rw [hs2]
  refine Calls.spliced_cons (wpAny_Call_Name_kw (ld_blt I hg2 hm2 PyProof.Rows.boot_set ?_ (by decide) (by decide)))
  have ha : PA X [e] (tCons te tNil) := pa_cons he pa_nil hs
  refine PyProof.Rows.callWith_type1 (thn (ha.run c2 pins s σ H (fun vs H1 => match vs with
    | [x] => ∃ p ns, x = .ref p ∧ H1 p = some (.lst (ns.map V.int)) ∧ ns.length ≤ 1000 ∧ Q (.int (dedup ns).length) H1
    | _ => False) I h) fun us s1 hh => ?_) hs rfl
  obtain ⟨vs, H1, I1, r1, hh⟩ := hh
  match vs, hh with
  | [x], hh =>
  obtain ⟨p, ns, rfl, hp, hl, q⟩ := hh
  obtain ⟨u, rfl, ru⟩ := vals1 r1
  cases (show u = Value.ref p from ru)
  obtain ⟨its, rv, pl, hz⟩ := I1.list (SqL.of hp)
  have hi : PyProof.Rows.IntsAre its.toArray.toList ns := ints_of_vals rv
  have hsz : its.toArray.size = ns.length := by
    have := rv.length
    simpa using this.symm
  refine PySem.call_set_list (I1.ok.hd hc) pl.isList hi (by rw [hsz]; unfold scanBound; omega) fun h' tk so k => ?_
  rw [hsz] at so
  rw [firstMet_dedup] at so
  obtain ⟨o, es, ep, t, ho, hex, hd, _, _, hb, hf, hn⟩ := so
  have I2 : L2.Inv X pins σ H1 { s1 with heap := h', toks := tk } := I1.kept (t' := tk) fun b o e => k b o (Heap.lt_size e) e
  refine Calls.spliced_nil (PySem.call_len_set (s := { s1 with heap := h', toks := tk }) ho hex hd hf (by unfold scanBound at hb; omega) ?_)
  exact ⟨.int (dedup ns).length, H1, I2.tok _, ⟨tk + 1, by rw [hn]⟩, q⟩
theorem dedup_app (ns : List Int) (k : Int) : dedup (ns ++ [k]) = if (dedup ns).any (· == k) = true then dedup ns else dedup ns ++ [k] := by
  unfold dedup
  rw [List.foldl_append]
  rfl
end My
set_option Elab.async false
set_option linter.all false
set_option maxRecDepth 100000

namespace My
open PySem PySem.Spec PyProof.Rows L2
theorem snoc_ind {α : Type} {Pr : List α → Prop} (h0 : Pr []) (hs : ∀ l a, Pr l → Pr (l ++ [a])) (l : List α) : Pr l := by
  have : ∀ r : List α, Pr r.reverse := by
    intro r
    induction r with
    | nil => exact h0
    | cons a r ih => rw [List.reverse_cons]; exact hs _ _ ih
  have z := this l.reverse
  rw [List.reverse_reverse] at z
  exact z
theorem any_mem {ns : List Int} {k : Int} : ns.any (· == k) = true ↔ k ∈ ns := by simp
theorem firsts_dedup (l : List (Int × Str)) : keys (firsts l) = dedup (l.map (·.1)) := by
  refine snoc_ind (Pr := fun l => keys (firsts l) = dedup (l.map (·.1))) rfl (fun l a ih => ?_) l
  rw [firsts_app, List.map_append, List.map_singleton, dedup_app, ← ih]
  by_cases h : a.1 ∈ keys (firsts l)
  · rw [if_pos (has_iff.mpr h), if_pos (any_mem.mpr h)]
  · rw [if_neg (fun z => h (has_iff.mp z)), if_neg (fun z => h (any_mem.mp z)), keys_app]
    rfl
theorem laid_dedup (l : List (Int × Rw)) : ks (laidA [] l) = dedup (l.map (·.1)) := by
  refine snoc_ind (Pr := fun l => ks (laidA [] l) = dedup (l.map (·.1))) rfl (fun l a ih => ?_) l
  have e : laidA [] (l ++ [a]) = laid1 (laidA [] l) a := by unfold laidA; rw [List.foldl_append]; rfl
  have e1 : ks (laid1 (laidA [] l) a) = if hs (laidA [] l) a.1 = true then ks (laidA [] l) else ks (laidA [] l) ++ [a.1] := ks_put _ _ _
  rw [e, e1, List.map_append, List.map_singleton, dedup_app, ← ih]
  by_cases h : a.1 ∈ ks (laidA [] l)
  · rw [if_pos (hs_iff.mpr h), if_pos (any_mem.mpr h)]
  · rw [if_neg (fun z => h (hs_iff.mp z)), if_neg (fun z => h (any_mem.mp z))]
theorem firsts_count (l : List (Int × Str)) : (firsts l).length = (dedup (l.map (·.1))).length := by
  rw [← firsts_dedup]; exact (List.length_map _).symm
theorem laid_count (l : List (Int × Rw)) : (laidA [] l).length = (dedup (l.map (·.1))).length := by
  rw [← laid_dedup]; exact (List.length_map _).symm
def odd1 : List PyData := [.none, .bool true, .int 7, .str "1:x", .tuple [], .tuple [.int 1], .tuple [.str "x", .int 1], .tuple [.bool true, .str "x"], .tuple [.int 1, .str "X"], .tuple [.int 1, .str "keys"], .tuple [.int 1, .str "self"], .tuple [.int (-1), .str "x"]]
def odd2 : List PyData := [.tuple [.int (10 ^ 6), .str "x"], .tuple [.int 1, .str ""], .tuple [.int 1, .none], .list [.int 1, .str "x"], .tuple [.int 1, .str "x", .bool true]]
def odd3 : List PyData := [.tuple [.int 1, .str "x", .str "2"], .tuple [.int 1, .str "x", .none]]
def odd4 : List PyData := [.tuple [.int 1, .str "x", .int 2, .int 3], .tuple [.bool false, .str "x", .int 1], .tuple [.int 1, .str "abcde", .int 0], .tuple [.int 1, .str "abcde"], .list [.int 1, .str "x", .int 2], .dict []]
def oddL : List PyData := odd1 ++ odd2 ++ odd3 ++ odd4
def isT3 : PyData → Bool
  | .tuple [_, _, _] => true
  | _ => false

def three : List PyData → Bool
  | [.int _, .int _, .int _] => true
  | _ => false
mutual
def noBag : PyData → Bool
  | .list ds => !three ds && noBagAll ds
  | .tuple ds => noBagAll ds
  | _ => true
def noBagAll : List PyData → Bool
  | [] => true
  | d :: ds => noBag d && noBagAll ds
end
theorem bag_three {K : PySem.W.Frag} {H : Hp} {a : Addr} {n : Nat} {vs : List V} {ds : List PyData} (b : Bag H a n) (e : H a = some (.lst vs)) (h : DpAll K H vs ds) : three ds = true := by
  obtain ⟨x, y, z, e2, _⟩ := b
  rw [e] at e2
  cases e2
  cases h with
  | cons h1 r => cases h1; cases r with
    | cons h2 r => cases h2; cases r with
      | cons h3 r => cases h3; cases r; rfl
theorem bag_lst {H : Hp} {a : Addr} {n : Nat} {o : HO} (b : Bag H a n) (e : H a = some o) (h : ∀ vs, o ≠ .lst vs) : False := by
  obtain ⟨x, y, z, e2, _⟩ := b
  rw [e] at e2
  cases e2
  exact h _ rfl
mutual
theorem dp_bag {K : PySem.W.Frag} {H H' : Hp} {a : Addr} {n : Nat} (b : Bag H a n) (x : Ext a H H') : ∀ (d : PyData) (v : V), noBag d = true → Dp K H v d → Dp K H' v d
  | .none, _, _, h => by cases h; exact .non
  | .bool b, _, _, h => by cases h; exact .bl b
  | .int i, _, _, h => by cases h; exact .int i
  | .str x, _, _, h => by cases h; exact .str x
  | .list ds, _, t, h => by
    unfold noBag at t
    rw [Bool.and_eq_true, Bool.not_eq_true'] at t
    cases h with
    | lst q z =>
      refine .lst ?_ (dpAll_bag b x ds _ t.2 z)
      rcases q with (q | ⟨o, q⟩) | q
      · exact .inl (.inl (x _ _ (fun e => by rw [e] at q; have := bag_three b q z; rw [t.1] at this; cases this) q))
      · exact .inl (.inr ⟨o, x _ _ (fun e => by rw [e] at q; exact bag_lst b q fun _ z => nomatch z) q⟩)
      · exact .inr q
  | .tuple ds, _, t, h => by
    unfold noBag at t
    cases h with
    | tup q z =>
      refine .tup ?_ (dpAll_bag b x ds _ t z)
      rcases q with (q | ⟨o, q⟩) | q
      · exact .inl (.inl (x _ _ (fun e => by rw [e] at q; exact bag_lst b q fun _ z => nomatch z) q))
      · exact .inl (.inr ⟨o, x _ _ (fun e => by rw [e] at q; exact bag_lst b q fun _ z => nomatch z) q⟩)
      · exact .inr q
  | .dict _, _, _, h => by cases h
theorem dpAll_bag {K : PySem.W.Frag} {H H' : Hp} {a : Addr} {n : Nat} (b : Bag H a n) (x : Ext a H H') : ∀ (ds : List PyData) (vs : List V), noBagAll ds = true → DpAll K H vs ds → DpAll K H' vs ds
  | [], _, _, h => by cases h; exact .nil
  | d :: ds, _, t, h => by
    unfold noBagAll at t
    rw [Bool.and_eq_true] at t
    cases h with
    | cons q z => exact .cons (dp_bag b x d _ t.1 q) (dpAll_bag b x ds _ t.2 z)
end
theorem dx_bag {K : PySem.W.Frag} {H H' : Hp} {a : Addr} {n : Nat} (b : Bag H a n) (x : Ext a H H') {v : V} {d : PyData} (t : noBag d = true) (h : Dx K H v d) : Dx K H' v d := by
  cases h with
  | of h => exact .of (dp_bag b x d v t h)
  | dict q f => exact .dict (x _ _ (fun e => by rw [e] at q; exact bag_lst b q fun _ z => nomatch z) q) f
theorem odd_noBag : ∀ d ∈ oddL, noBag d = true := by decide +kernel
def lay0 : PyData → Bool
  | .dict _ => true
  | d => d.canLay0
theorem lay0_laid {d : PyData} (h : lay0 d = true) : laid d := by
  cases d with
  | dict kvs => exact .inr ⟨_, rfl⟩
  | _ => exact .inl h
def okOdd (d : PyData) : Bool := lay0 d && decide (d.weight ≤ 100000) && d.showable && decide (d.depth ≤ 60) && decide (d.shown.length ≤ 60) && !mEnt d && (isT3 d || !mEl d)
theorem odd_ok : ∀ d ∈ oddL, okOdd d = true := by decide +kernel
theorem odd_len : oddL.length = 25 := by decide +kernel
theorem odd_facts {d : PyData} (h : d ∈ oddL) : okR d ∧ d.shown.length ≤ 60 ∧ mEnt d = false ∧ (isT3 d = false → mEl d = false) := by
  have z := odd_ok d h
  unfold okOdd at z
  simp only [Bool.and_eq_true, decide_eq_true_eq, Bool.not_eq_true', Bool.or_eq_true] at z
  obtain ⟨⟨⟨⟨⟨⟨z0, z1⟩, z2⟩, z3⟩, z4⟩, z5⟩, z6⟩ := z
  refine ⟨⟨⟨z1, lay0_laid z0⟩, z2, z3, Nat.le_trans z4 (by decide)⟩, z4, z5, fun e => ?_⟩
  rcases z6 with q | q
  · rw [e] at q; cases q
  · exact q
theorem call_len_seqK {X : Cx} {K : PySem.W.Frag} (h : X.K = K) : CallR X (.builtin "len") (fun xs H Q => ∃ p ys, xs = [.ref p] ∧ (SqL K H p ys ∨ SqT K H p ys) ∧ Q (.int ys.length) H) := by
  subst h
  exact call_len_seq
theorem op_catTK {X : Cx} {K : PySem.W.Frag} (h : X.K = K) : OpR X (binaryOp .Add) (rCatT K) := by
  subst h
  exact op_catT
end My
set_option Elab.async false
set_option linter.all false
set_option maxRecDepth 100000

namespace My
open PySem PySem.Spec PyProof.Rows L2
theorem OddArg.same {K : PySem.W.Frag} {pre : Hp → List V → Prop} {m : PyData → Bool} {H H' : Hp} {v u : V} {d : PyData} (h : OddArg K pre m H v u d) (hp : ∀ ys, pre H ys → pre H' ys) (s : Same H H') : OddArg K pre m H' v u d := by
  cases h with
  | item h e h1 hl hd hs hm => exact .item (h.imp (fun z => s _ _ z) (sqT_same s)) e (hp _ h1) hl (hd.same s) hs hm
  | other hd hs ht => exact .other (hd.same s) hs ht
theorem preS_same {K : PySem.W.Frag} {H H' : Hp} (s : Same H H') : ∀ ys, preS K H ys → preS K H' ys := fun ys ⟨l, h⟩ => ⟨l, h.same s⟩
theorem preD_same {K : PySem.W.Frag} {H H' : Hp} (s : Same H H') : ∀ ys, preD K H ys → preD K H' ys := fun ys ⟨l, h⟩ => ⟨l, h.same s⟩

def spMade (K : PySem.W.Frag) (CS CD : Addr) : Sp := fun vs H Q _ => ∃ (b : Bool) (l : Addr) (xs : List V), vs = [.bl b, .ref l] ∧ H l = some (.lst xs) ∧
  (b = false → ∃ es, ElAll K H xs es ∧ es.length ≤ 1000 ∧ ∀ z H', Same H H' → FS CS (keys es) H' z (firsts es) → Q (.ref z) H') ∧
  (b = true → ∃ rs, EnAll K H xs rs ∧ rs.length ≤ 1000 ∧ ∀ z H', Same H H' → DD K CD (ks rs) H' z (laidA [] rs) → Q (.ref z) H')

inductive OddOf (K : PySem.W.Frag) (H : Hp) : Bool → V → V → PyData → Prop
  | s {v u : V} {d : PyData} : OddArg K (preS K) mEl H v u d → OddOf K H false v u d
  | d {v u : V} {d : PyData} : OddArg K (preD K) mEnt H v u d → OddOf K H true v u d
theorem OddOf.same {K : PySem.W.Frag} {H H' : Hp} {b : Bool} {v u : V} {d : PyData} (h : OddOf K H b v u d) (s : Same H H') : OddOf K H' b v u d := by
  cases h with
  | s h => exact .s (h.same (preS_same s) s)
  | d h => exact .d (h.same (preD_same s) s)
def spMadeOdd (K : PySem.W.Frag) (CB : Addr) : Sp := fun vs H _ E => ∃ b v u d, vs = [.bl b, v] ∧ OddOf K H b v u d ∧ ∀ e H', Same H H' → H e = none → H' e = some (.xd [("value", u)]) → E (.ref CB) (some e) H'

def TWhy (K : PySem.W.Frag) (CB : Addr) : (XK → Hp → VK → Prop) → Hp → VK → Prop := fun tl H Q => ∃ d, okR d ∧
  ∀ (E : XK) (Q2 : VK), (∀ e u H', H' e = some (.xd [("value", u)]) → Dx K H' u d → (∀ H2, Same H' H2 → Q (.str d.shown) H2) → E (.ref CB) (some e) H') → tl E H Q2

def spDefOdd (K : PySem.W.Frag) (CD CB : Addr) : Sp := fun vs H _ E => ∃ a dx r t k f v dk df dv, vs = [.ref a, .ref t] ∧ H a = some (.ins CD dx [("_rows", r)]) ∧ SqT K H t [k, f, v] ∧ Dp K H k dk ∧ Dp K H f df ∧ Dp K H v dv ∧ sm (.tuple [dk, df, dv]) ∧ mEnt (.tuple [dk, df, dv]) = false ∧
  ∀ e u H', Same H H' → H e = none → H' e = some (.xd [("value", u)]) → Dx K H' u (.tuple [dk, df, dv]) → E (.ref CB) (some e) H'
theorem keys_in {rs : List (Int × Rw)} : ∀ p ∈ rs, p.1 ∈ ks rs := fun p hp => List.mem_map_of_mem hp
theorem ks_len1 (rs : List (Int × Rw)) : (ks rs).length = rs.length := List.length_map _
end My
set_option Elab.async false
set_option linter.all false
set_option maxRecDepth 100000
set_option maxHeartbeats 4000000

namespace My
open PySem PySem.Spec PyProof.Rows L2 LamX
def row3 (m : Int) (es : List (Int × Str)) : List (Int × Rw) := es.map fun p => (p.1, (p.2, m))

def okQ (W D : Nat) (d : PyData) : Prop := d.showable = true ∧ d.leavesShort 100 = true ∧ d.weight ≤ W ∧ d.depth ≤ D
def okQb (d : PyData) : Bool := d.showable && d.leavesShort 100 && decide (d.weight ≤ 3003) && decide (d.depth ≤ 11)
theorem okQ_b {d : PyData} (h : okQb d = true) : okQ 3003 11 d := by
  unfold okQb at h
  simp only [Bool.and_eq_true, decide_eq_true_eq] at h
  obtain ⟨⟨⟨a, b⟩, c⟩, e⟩ := h
  exact ⟨a, b, c, e⟩
theorem okQ_P {d : PyData} (h : okP 3003 11 d) : okQ 3003 11 d := ⟨h.1, h.2.1, h.2.2.1, h.2.2.2.1⟩
theorem odd_okQ : ∀ d ∈ oddL, okQ 3003 11 d := fun d h => okQ_b ((by decide +kernel : ∀ d ∈ oddL, okQb d = true) d h)
theorem okQ_all {W D : Nat} : ∀ {ds : List PyData}, (∀ d ∈ ds, okQ W D d) → PyData.showableAll ds = true ∧ PyData.leavesShortAll 100 ds = true ∧ PyData.weightAll ds ≤ ds.length * (W + 1) ∧ PyData.depthAll ds ≤ D
  | [], _ => ⟨rfl, rfl, Nat.zero_le _, Nat.zero_le _⟩
  | d :: r, h => by
    obtain ⟨a1, a2, a3, a4⟩ := h d List.mem_cons_self
    obtain ⟨b1, b2, b3, b4⟩ := okQ_all (W := W) (D := D) fun x hx => h x (List.mem_cons_of_mem _ hx)
    refine ⟨?_, ?_, ?_, ?_⟩
    · rw [PyData.showableAll, a1, b1]; rfl
    · rw [PyData.leavesShortAll, a2, b2]; rfl
    · rw [PyData.weightAll, List.length_cons, Nat.succ_mul]; omega
    · rw [PyData.depthAll]; exact Nat.max_le.mpr ⟨a4, b4⟩

def repOk (d : PyData) : Prop := d.showable = true ∧ d.depth ≤ 60 ∧ d.shown.length ≤ sizeLine
theorem repOk_list {ds : List PyData} (h : ∀ d ∈ ds, okQ 3003 11 d) (hl : ds.length ≤ 13) : repOk (.list ds) := by
  obtain ⟨b1, b2, b3, b4⟩ := okQ_all h
  refine ⟨by rw [PyData.showable]; exact b1, by rw [PyData.depth]; omega, ?_⟩
  have a := PyData.shown_le 100 (by decide) (.list ds) (by rw [PyData.leavesShort]; exact b2)
  have hw : (PyData.list ds).weight ≤ 13 * 3004 := by
    rw [PyData.weight]
    exact Nat.le_trans b3 (Nat.mul_le_mul_right _ hl)
  exact fit5 (by omega)
theorem repOk_tup {ds : List PyData} (h : ∀ d ∈ ds, okQ 3003 11 d) (hl : ds.length ≤ 13) : repOk (.tuple ds) := by
  obtain ⟨b1, b2, b3, b4⟩ := okQ_all h
  refine ⟨by rw [PyData.showable]; exact b1, by rw [PyData.depth]; omega, ?_⟩
  have a := PyData.shown_le 100 (by decide) (.tuple ds) (by rw [PyData.leavesShort]; exact b2)
  have hw : (PyData.tuple ds).weight ≤ 13 * 3004 := by
    rw [PyData.weight]
    exact Nat.le_trans b3 (Nat.mul_le_mul_right _ hl)
  exact fit5 (by omega)
theorem okR_rep {d : PyData} (h : okR d) : repOk d := h.2

section
variable {K : PySem.W.Frag} {H H' : Hp}
theorem ElAll.tr (hm : ∀ t ys, SqT K H t ys → SqT K H' t ys) : ∀ {vs : List V} {es : List (Int × Str)}, ElAll K H vs es → ElAll K H' vs es
  | _, _, .nil => .nil
  | _, _, .cons h hk hx r => .cons (hm _ _ h) hk hx (ElAll.tr hm r)
theorem EnAll.tr (hm : ∀ t ys, SqT K H t ys → SqT K H' t ys) : ∀ {vs : List V} {rs : List (Int × Rw)}, EnAll K H vs rs → EnAll K H' vs rs
  | _, _, .nil => .nil
  | _, _, .cons h ok r => .cons (hm _ _ h) ok (EnAll.tr hm r)
theorem ElAll.take : ∀ {vs : List V} {es : List (Int × Str)} (n : Nat), ElAll K H vs es → ElAll K H (vs.take n) (es.take n)
  | _, _, 0, _ => by rw [List.take_zero, List.take_zero]; exact .nil
  | _, _, n + 1, .nil => by rw [List.take_nil, List.take_nil]; exact .nil
  | _, _, n + 1, .cons h hk hx r => .cons h hk hx (ElAll.take n r)
theorem EnAll.take : ∀ {vs : List V} {rs : List (Int × Rw)} (n : Nat), EnAll K H vs rs → EnAll K H (vs.take n) (rs.take n)
  | _, _, 0, _ => by rw [List.take_zero, List.take_zero]; exact .nil
  | _, _, n + 1, .nil => by rw [List.take_nil, List.take_nil]; exact .nil
  | _, _, n + 1, .cons h ok r => .cons h ok (EnAll.take n r)
theorem ElAll.dp : ∀ {vs : List V} {es : List (Int × Str)}, ElAll K H vs es → DpAll K H vs (es.map tupD)
  | _, _, .nil => .nil
  | _, _, .cons h _ _ r => .cons (.tup h (.cons (.int _) (.cons (.str _) .nil))) r.dp
theorem EnAll.dp : ∀ {vs : List V} {rs : List (Int × Rw)}, EnAll K H vs rs → DpAll K H vs (rs.map ent3)
  | _, _, .nil => .nil
  | _, _, .cons h _ r => .cons (.tup h (.cons (.int _) (.cons (.str _) (.cons (.int _) .nil)))) r.dp
theorem ElAll.vs : ∀ {vs : List V} {es : List (Int × Str)}, ElAll K H vs es → VS es
  | _, _, .nil => fun _ z => nomatch z
  | _, _, .cons _ hk hx r => fun p hp => by
    rcases List.mem_cons.mp hp with rfl | hp
    · exact ⟨hk, hx⟩
    · exact r.vs p hp
theorem EnAll.vr : ∀ {vs : List V} {rs : List (Int × Rw)}, EnAll K H vs rs → VR rs
  | _, _, .nil => fun _ z => nomatch z
  | _, _, .cons _ ok r => fun p hp => by
    rcases List.mem_cons.mp hp with rfl | hp
    · exact ok
    · exact r.vr p hp
theorem sqT_bag {a t : Addr} {n : Nat} {ys : List V} (b : Bag H a n) (x : Ext a H H') (h : SqT K H t ys) : SqT K H' t ys := by
  obtain ⟨p, q, r, e, _⟩ := b
  exact sqT_chg e x h

inductive RowsX (K : PySem.W.Frag) (H : Hp) : Bool → List V → List Int → Prop
  | s {xs : List V} {es : List (Int × Str)} (h : ElAll K H xs es) (hl : es.length ≤ 6) : RowsX K H false xs (es.map (·.1))
  | d {xs : List V} {rs : List (Int × Rw)} (h : EnAll K H xs rs) (hl : rs.length ≤ 6) : RowsX K H true xs (rs.map (·.1))
theorem RowsX.tr {b : Bool} {xs : List V} {ks : List Int} (hm : ∀ t ys, SqT K H t ys → SqT K H' t ys) (h : RowsX K H b xs ks) : RowsX K H' b xs ks := by
  cases h with
  | s h hl => exact .s (h.tr hm) hl
  | d h hl => exact .d (h.tr hm) hl
theorem RowsX.same {b : Bool} {xs : List V} {ks : List Int} (h : RowsX K H b xs ks) (s : Same H H') : RowsX K H' b xs ks := h.tr fun _ _ => sqT_same s
theorem RowsX.extN {b : Bool} {xs : List V} {ks : List Int} (h : RowsX K H b xs ks) (s : ExtN H H') : RowsX K H' b xs ks := h.tr fun _ _ => extN_sqT s
theorem RowsX.bag {b : Bool} {xs : List V} {ks : List Int} {a : Addr} {n : Nat} (h : RowsX K H b xs ks) (g : Bag H a n) (x : Ext a H H') : RowsX K H' b xs ks := h.tr fun _ _ => sqT_bag g x
theorem RowsX.len {b : Bool} {xs : List V} {ks : List Int} (h : RowsX K H b xs ks) : xs.length ≤ 6 ∧ ks.length = xs.length := by
  cases h with
  | s h hl => exact ⟨by rw [h.len]; exact hl, by rw [List.length_map, h.len]⟩
  | d h hl => exact ⟨by rw [h.len]; exact hl, by rw [List.length_map, h.len]⟩
theorem RowsX.data {b : Bool} {xs : List V} {ks : List Int} (h : RowsX K H b xs ks) : ∃ ds, DpAll K H xs ds ∧ (∀ d ∈ ds, okQ 3003 11 d) := by
  cases h with
  | s h hl =>
    refine ⟨_, h.dp, fun d hd => ?_⟩
    obtain ⟨p, hp, rfl⟩ := List.mem_map.mp hd
    refine okQ_P (okP_tup (W := 1000) (D := 10) (fun e he => ?_) (by simp) (by decide))
    simp only [List.mem_cons, List.not_mem_nil, or_false] at he
    rcases he with rfl | rfl
    · exact okP_of (small_int (h.vs p hp).1.1 (by have := (h.vs p hp).1.2; omega))
    · exact okP_name (h.vs p hp).2
  | d h hl =>
    refine ⟨_, h.dp, fun d hd => ?_⟩
    obtain ⟨p, hp, rfl⟩ := List.mem_map.mp hd
    exact okQ_P (okP_en (h.vr p hp))
theorem RowsX.at {b : Bool} {xs : List V} {ks : List Int} (h : RowsX K H b xs ks) {i : Nat} {v : V} (e : xs[i]? = some v) : ∃ t k ys, v = .ref t ∧ ks[i]? = some k ∧ SqT K H t (.int k :: ys) := by
  cases h with
  | s h hl =>
    obtain ⟨t, k, x, rfl, e1, ht, _⟩ := h.at e
    exact ⟨t, k, _, rfl, by rw [List.getElem?_map, e1]; rfl, ht⟩
  | d h hl =>
    obtain ⟨t, k, x, m, rfl, e1, ht, _⟩ := h.at e
    exact ⟨t, k, _, rfl, by rw [List.getElem?_map, e1]; rfl, ht⟩
theorem rowsX_of {b : Bool} {xs : List V} {es : List (Int × Str)} (hV : VS es) (hk : ∀ p ∈ es, p.1 ≤ 4) (hl : es.length ≤ 6) (h1 : b = false → TupS H xs es) (h2 : b = true → Tup3 H xs (row3 es.length es)) : RowsX K H b xs (es.map (·.1)) := by
  cases b with
  | false => exact .s (tupS_el (h1 rfl) hV) hl
  | true =>
    have e : es.map (·.1) = (row3 es.length es).map (·.1) := by unfold row3; rw [List.map_map]; rfl
    rw [e]
    refine .d ((h2 rfl).en fun p hp => ?_) (by unfold row3; rw [List.length_map]; exact hl)
    obtain ⟨q, hq, rfl⟩ := List.mem_map.mp hp
    refine ⟨(hV q hq).1, (hV q hq).2, ?_⟩
    have z : (0 : Int) ≤ (es.length : Int) ∧ (es.length : Int) ≤ 6 := ⟨by omega, by omega⟩
    have m1 : (1 : Int) - 10 ^ 40 ≤ 0 := by decide
    have m2 : (6 : Int) ≤ 10 ^ 40 - 1 := by decide
    exact ⟨Int.le_trans m1 z.1, Int.le_trans z.2 m2⟩

theorem AllX.extN (e : ExtN H H') : ∀ {vs : List V} {ds : List PyData}, AllX K H vs ds → AllX K H' vs ds
  | _, _, .nil => .nil
  | _, _, .cons h r => .cons (extN_dx e h) (AllX.extN e r)
theorem Dn.extN {v : V} {d : PyData} (e : ExtN H H') (h : Dn K H v d) : Dn K H' v d := by
  cases h with
  | of h => exact .of (extN_dx e h)
  | lst q r => exact .lst (extN_sqL e q) (r.extN e)
  | tup q r => exact .tup (extN_sqT e q) (r.extN e)
theorem preS_extN (e : ExtN H H') : ∀ ys, preS K H ys → preS K H' ys := fun ys ⟨l, h⟩ => ⟨l, h.tr fun _ _ => extN_sqT e⟩
theorem preD_extN (e : ExtN H H') : ∀ ys, preD K H ys → preD K H' ys := fun ys ⟨l, h⟩ => ⟨l, h.tr fun _ _ => extN_sqT e⟩
theorem OddArg.extN {pre : Hp → List V → Prop} {m : PyData → Bool} {v u : V} {d : PyData} (e : ExtN H H') (hp : ∀ ys, pre H ys → pre H' ys) (h : OddArg K pre m H v u d) : OddArg K pre m H' v u d := by
  cases h with
  | item h e1 h1 hl hd hs hm => exact .item (h.imp (fun z => e _ _ z fun _ q => nomatch q) (extN_sqT e)) e1 (hp _ h1) hl (extN_dx e hd) hs hm
  | other hd hs ht => exact .other (extN_dx e hd) hs ht
theorem OddOf.extN {b : Bool} {v u : V} {d : PyData} (e : ExtN H H') (h : OddOf K H b v u d) : OddOf K H' b v u d := by
  cases h with
  | s h => exact .s (h.extN e (preS_extN e))
  | d h => exact .d (h.extN e (preD_extN e))
theorem OddArg.dx {pre : Hp → List V → Prop} {m : PyData → Bool} {v u : V} {d : PyData} (h : OddArg K pre m H v u d) : Dx K H u d := by
  cases h with
  | item _ _ _ _ hd _ _ => exact hd
  | other hd _ _ => exact hd
theorem OddOf.dx {b : Bool} {v u : V} {d : PyData} (h : OddOf K H b v u d) : Dx K H u d := by
  cases h with
  | s h => exact h.dx
  | d h => exact h.dx

theorem odd_in {b : Bool} {xs zs : List V} {ks : List Int} {l : Addr} {u : V} {d : PyData} {i : Nat} (h : RowsX K H b xs ks) (hl : H l = some (.lst (xs.take i ++ u :: zs)) ∨ SqT K H l (xs.take i ++ u :: zs)) (hd : Dx K H u d) (hs : sm d) (h0 : b = false → mEl d = false) (h1 : b = true → mEnt d = false) : OddOf K H b (.ref l) u d := by
  have n1 : (xs.take i).length ≤ 1000 := by rw [List.length_take]; have := h.len; omega
  cases h with
  | s h _ => exact .s (.item hl rfl ⟨_, h.take i⟩ n1 hd hs (h0 rfl))
  | d h _ => exact .d (.item hl rfl ⟨_, h.take i⟩ n1 hd hs (h1 rfl))
theorem odd_other {b : Bool} {v : V} {d : PyData} (hd : Dx K H v d) (hs : sm d) (n1 : tyD d ≠ "list") (n2 : tyD d ≠ "tuple") : OddOf K H b v v d := by
  cases b with
  | false => exact .s (.other hd hs (kit_no n1 n2))
  | true => exact .d (.other hd hs (kit_no n1 n2))

def ExtB (a : Addr) (H H' : Hp) : Prop := ∀ c o, c ≠ a → H c = some o → (∀ ps, o ≠ .tbl ps) → H' c = some o
theorem ExtB.of {a : Addr} (x : Ext a H H') : ExtB a H H' := fun c o n e _ => x c o n e
theorem ExtB.ofN {a : Addr} (x : ExtN H H') : ExtB a H H' := fun c o _ e n => x c o e n
theorem ExtB.trans {a : Addr} {H2 : Hp} (x : ExtB a H H') (y : ExtB a H' H2) : ExtB a H H2 := fun c o n e m => y c o n (x c o n e m) m
theorem Bag.extN {a : Addr} {n : Nat} (h : Bag H a n) (e : ExtN H H') : Bag H' a n := extN_bag e h
theorem ofSame (s : Same H H') : ExtN H H' := fun b o e _ => s b o e
end

def spTurn (T : List (Addr × Str)) : Sp := fun vs H Q _ => ∃ (a : Addr) (b : Bool) (n : Nat), vs = [.ref a, .bl b] ∧ Bag H a n ∧ n < 800000 ∧ Tabs T H ∧ ∀ n2 H', Bag H' a n2 → n2 ≤ n + 30 → ExtB a H H' → Tabs T H' → Q (.bl true) H'
def spTurn1 (T : List (Addr × Str)) : Sp := fun vs H Q _ => ∃ (a : Addr) (n : Nat), vs = [.ref a] ∧ Bag H a n ∧ n < 800000 ∧ Tabs T H ∧ ∀ n2 H', Bag H' a n2 → n2 ≤ n + 30 → ExtB a H H' → Tabs T H' → Q (.bl true) H'
theorem lam_made {K : PySem.W.Frag} {CB : Addr} {T : List (Addr × Str)} {σ : L2.St} {H : Hp} {Q : VK} {i j : Nat} {b : Bool} {v u : V} {d : PyData} (hT : Tabs T H) (h1 : σ[i]? = some (some (.bl b))) (h2 : σ[j]? = some (some v)) (ho : OddOf K H b v u d) (hd : okR d)
    (k : ∀ H', ExtN H H' → Tabs T H' → Q (.str d.shown) H') : tLam1 T (TWhy K CB) (fun E => tCall (spMadeOdd K CB) [] E (tCons (tVar i) (tCons (tVar j) tNil))) σ H Q := by
  refine ⟨hT, fun H1 eN T1 => ⟨d, hd, fun E Q2 kE => ?_⟩⟩
  refine ⟨_, h1, _, h2, b, v, u, d, rfl, ho.extN eN, fun e H' s he hH => ?_⟩
  exact kE e u H' hH ((ho.extN eN).dx.same s) fun H2 s2 => k H2 (eN.trans (ofSame (s.trans s2))) (T1.ext (s.trans s2))
theorem call_either {X : Cx} {f : Value} {r1 r2 : List V → Hp → VK → Prop} (h1 : CallR X f r1) (h2 : CallR X f r2) : CallR X f (fun xs H Q => r1 xs H Q ∨ r2 xs H Q) := by
  intro pins s σ H xs us Q I r h
  rcases h with h | h
  · exact h1 pins s σ H xs us Q I r h
  · exact h2 pins s σ H xs us Q I r h
theorem cut_from (xs : List V) (i : Nat) (h : i ≤ xs.length) : cutV xs (some (i : Int)) none = xs.drop i := by
  have e : HT.sIx xs.length 0 (some (i : Int)) = i := by
    rw [HT.sIx_nat]
    omega
  have e2 : HT.sIx xs.length xs.length none = xs.length := rfl
  unfold cutV
  rw [e, e2]
  rw [List.take_of_length_le (by rw [List.length_drop]; omega)]
theorem flat_rep (w : V) (n : Nat) : (List.replicate n [w]).flatten = List.replicate n w := by
  induction n with
  | zero => rfl
  | succ n ih => rw [List.replicate_succ, List.flatten_cons, ih, List.replicate_succ]; rfl
theorem AllX.rep {K : PySem.W.Frag} {H : Hp} {w : V} {d : PyData} (h : Dx K H w d) : ∀ n, AllX K H (List.replicate n w) (List.replicate n d)
  | 0 => .nil
  | n + 1 => .cons h (AllX.rep h n)
theorem set_self {α : Type} : ∀ {l : List α} {i : Nat} {x : α}, l[i]? = some x → l.set i x = l
  | [], _, _, h => by cases h
  | y :: l, 0, x, h => by cases h; rfl
  | y :: l, i + 1, x, h => by rw [List.set_cons_succ, set_self (by simpa using h)]
theorem t3_mem : ∀ d ∈ oddL, ∀ ds, d = .tuple ds → ds.length ≠ 3 → isT3 d = false := by
  intro d _ ds e n
  subst e
  match ds, n with
  | [], _ => rfl
  | [_], _ => rfl
  | [_, _], _ => rfl
  | [_, _, _], n => exact absurd rfl n
  | _ :: _ :: _ :: _ :: _, _ => rfl
theorem if_odd {K : PySem.W.Frag} {σ : L2.St} {D : L2.Ends} {H : Hp} {b : Bool} {u : V} {d : PyData} (e1 : σ[1]? = some (some (.bl b))) (e3 : σ[3]? = some (some u)) (hdx : Dx K H u d) (hd : d ∈ oddL)
    (k : ∀ u' d' H', Same H H' → Dx K H' u' d' → okR d' → okQ 3003 11 d' → (b = false → mEl d' = false) → (b = true → mEnt d' = false) → noBag d' = true → D.nx (σ.set 3 (some u')) H') :
    tIfS (tAnd (tNot (tB (tVar 1))) (tAnd (tB (tCB (rIsi K) (tCons (tVar 3) (tCons (tC (.ty "tuple")) tNil)))) (tTest (tOp rEq (tCB (fun xs H Q => ∃ p ys, xs = [.ref p] ∧ (SqL K H p ys ∨ SqT K H p ys) ∧ Q (.int ys.length) H) (tCons (tVar 3) tNil)) (tC (.int 3))))))
      (tAsg (tTup (tCons (tC (.int 1)) (tCons (tC (.str "x")) (tCons (tC (.int 2)) tNil)))) (gName 3)) tNext D σ H := by
  obtain ⟨o1, o2, o3, o4⟩ := odd_facts hd
  have stay : (b = false → mEl d = false) → D.nx σ H := fun z => by
    have := k u d H (Same.refl H) hdx o1 (odd_okQ d hd) z (fun _ => o3) (odd_noBag d hd)
    rwa [set_self e3] at this
  refine ⟨_, e1, b, rfl, ?_⟩
  cases b with
  | true => exact stay fun z => nomatch z
  | false =>
    refine rd_isi e3 hdx (.inr (.inr (.inr (.inl rfl)))) ?_
    refine ⟨_, rfl, ?_⟩
    have no : isD "tuple" d = false → D.nx σ H := fun e => stay fun _ => o4 (by
      cases d with
      | tuple ds => cases (show isD "tuple" (.tuple ds) = true from (by decide +kernel : isS "tuple" "tuple" = true)).symm.trans e
      | _ => rfl)
    cases q : isD "tuple" d with
    | false => exact no q
    | true =>
      have z : ∃ a ys ds, u = .ref a ∧ SqT K H a ys ∧ d = .tuple ds ∧ ys.length = ds.length := by
        cases hdx with
        | dict _ _ => exact absurd q (by rw [show isD "tuple" (.dict _) = isS "dict" "tuple" from rfl, (by decide +kernel : isS "dict" "tuple" = false)]; simp)
        | of h =>
          cases h with
          | tup h1 h2 => exact ⟨_, _, _, rfl, h1, rfl, (AllX.of h2).len⟩
          | non => exact absurd q (by rw [show isD "tuple" .none = isS "NoneType" "tuple" from rfl, (by decide +kernel : isS "NoneType" "tuple" = false)]; simp)
          | bl _ => exact absurd q (by rw [show isD "tuple" (.bool _) = isS "bool" "tuple" from rfl, (by decide +kernel : isS "bool" "tuple" = false)]; simp)
          | int _ => exact absurd q (by rw [show isD "tuple" (.int _) = isS "int" "tuple" from rfl, (by decide +kernel : isS "int" "tuple" = false)]; simp)
          | str _ => exact absurd q (by rw [show isD "tuple" (.str _) = isS "str" "tuple" from rfl, (by decide +kernel : isS "str" "tuple" = false)]; simp)
          | lst _ _ => exact absurd q (by rw [show isD "tuple" (.list _) = isS "list" "tuple" from rfl, (by decide +kernel : isS "list" "tuple" = false)]; simp)
      obtain ⟨a, ys, ds, rfl, ha, rfl, hl⟩ := z
      refine ⟨_, e3, a, ys, rfl, .inr ha, rfl, _, rfl, ?_⟩
      by_cases h3 : ds.length = 3
      · have e : decide (V.int (ys.length : Int) = V.int 3) = true := decide_eq_true (by rw [hl, h3]; rfl)
        rw [e]
        refine ⟨size_ok (by simp), fun p hp => ?_⟩
        have s := same_new hp (o := .tup [.int 1, .str "x", .int 2])
        exact k _ (.tuple [.int 1, .str "x", .int 2]) _ s (.of (.tup (.of upd_same) (.cons (.int _) (.cons (.str _) (.cons (.int _) .nil))))) (okR_of (by decide +kernel)) (okQ_b (by decide +kernel)) (fun _ => by decide +kernel) (fun z => nomatch z) (by decide +kernel)
      · have e : decide (V.int (ys.length : Int) = V.int 3) = false := decide_eq_false (by
          intro z
          injection z with z
          rw [hl] at z
          exact h3 (by omega))
        rw [e]
        exact stay fun _ => o4 (t3_mem _ hd _ rfl h3)
theorem bad_list {K : PySem.W.Frag} {H : Hp} {b : Bool} {xs : List V} {ks : List Int} {u w : V} {d e : PyData} {m : Nat} (j : Nat) (rows : RowsX K H b xs ks) (hu : Dx K H u d) (hd : okQ 3003 11 d) (hw : Dx K H w e) (he : okQ 3003 11 e) (hm : m ≤ 1) :
    ∃ ds, AllX K H ((xs.take j ++ [u] ++ xs.drop j) ++ List.replicate m w) ds ∧ repOk (.list ds) ∧ repOk (.tuple ds) := by
  obtain ⟨ds, h1, h2⟩ := rows.data
  have len := rows.len.1
  have l1 := (AllX.of h1).len
  have ok : ∀ x ∈ (ds.take j ++ [d] ++ ds.drop j) ++ List.replicate m e, okQ 3003 11 x := by
    intro x hx
    simp only [List.mem_append, List.mem_singleton] at hx
    rcases hx with ((hx | rfl) | hx) | hx
    · exact h2 x (List.mem_of_mem_take hx)
    · exact hd
    · exact h2 x (List.mem_of_mem_drop hx)
    · rw [List.eq_of_mem_replicate hx]; exact he
  have hl : ((ds.take j ++ [d] ++ ds.drop j) ++ List.replicate m e).length ≤ 13 := by
    simp only [List.length_append, List.length_take, List.length_drop, List.length_replicate, List.length_singleton]
    omega
  exact ⟨_, ((((AllX.of h1).take j).app (.cons hu .nil)).app ((AllX.of h1).drop j)).app (AllX.rep hw m), repOk_list ok hl, repOk_tup ok hl⟩
theorem bad_eq (xs zs : List V) (u : V) (j : Nat) : (xs.take j ++ [u] ++ xs.drop j) ++ zs = xs.take j ++ u :: (xs.drop j ++ zs) := by simp
def okRb (d : PyData) : Bool := decide (d.weight ≤ 100000) && d.showable && decide (d.depth ≤ 60) && decide (d.shown.length ≤ 60) && lay0 d && decide (tyD d ≠ "list") && decide (tyD d ≠ "tuple")
theorem six_ok : ∀ d ∈ [PyData.none, .str "x", .int 0, .dict [], .bool true, .dict [(.int 1, .str "x")]], okRb d = true := by decide +kernel
theorem six_odd {K : PySem.W.Frag} {H : Hp} {b : Bool} {e1 e2 : Addr} (h1 : H e1 = some (.dK [])) (h2 : H e2 = some (.dK [(.inl 1, .str "x")])) {i : Nat} {v : V} (hv : [V.non, .str "x", .int 0, .ref e1, .bl true, .ref e2][i]? = some v) : ∃ d, OddOf K H b v v d ∧ okR d := by
  have fin : ∀ d ∈ [PyData.none, .str "x", .int 0, .dict [], .bool true, .dict [(.int 1, .str "x")]], Dx K H v d → ∃ d, OddOf K H b v v d ∧ okR d := by
    intro d hd hx
    have z := six_ok d hd
    unfold okRb at z
    simp only [Bool.and_eq_true, decide_eq_true_eq] at z
    obtain ⟨⟨⟨⟨⟨⟨z1, z2⟩, z3⟩, z4⟩, z5⟩, z6⟩, z7⟩ := z
    have sd : sm d := ⟨z1, lay0_laid z5⟩
    exact ⟨d, odd_other hx sd z6 z7, sd, z2, z3, Nat.le_trans z4 (by decide)⟩
  have m := List.mem_of_getElem? hv
  simp only [List.mem_cons, List.not_mem_nil, or_false] at m
  rcases m with rfl | rfl | rfl | rfl | rfl | rfl
  · exact fin _ (by simp) (.of .non)
  · exact fin _ (by simp) (.of (.str _))
  · exact fin _ (by simp) (.of (.int _))
  · exact fin (.dict []) (by simp) (.dict h1 .nil)
  · exact fin _ (by simp) (.of (.bl true))
  · exact fin (.dict [(.int 1, .str "x")]) (by simp) (.dict h2 (.cons rfl .nil))
theorem ne_same (v : V) : (!decide (v = v)) = false := by simp
theorem dedup_len (ns : List Int) : (dedup ns).length ≤ ns.length := by
  refine snoc_ind (Pr := fun ns => (dedup ns).length ≤ ns.length) (Nat.le_refl _) (fun l a ih => ?_) ns
  rw [dedup_app, List.length_append, List.length_singleton]
  split
  · omega
  · rw [List.length_append, List.length_singleton]; omega
theorem eq_true {x y : V} (h : x = y) : V.bl (decide (x = y)) = .bl true := by rw [decide_eq_true h]

theorem hu_T {P1 P2 : Addr} {Q1 Q2 : Str} (h : P1 ≠ P2) : ∀ p ∈ [(P1, Q1), (P2, Q2)], p.1 = P1 → p.2 = Q1 := by
  intro p hp e
  simp only [List.mem_cons, List.not_mem_nil, or_false] at hp
  rcases hp with rfl | rfl
  · rfl
  · exact absurd e.symm h
theorem hu_T2 {P1 P2 : Addr} {Q1 Q2 : Str} (h : P1 ≠ P2) : ∀ p ∈ [(P1, Q1), (P2, Q2)], p.1 = P2 → p.2 = Q2 := by
  intro p hp e
  simp only [List.mem_cons, List.not_mem_nil, or_false] at hp
  rcases hp with rfl | rfl
  · exact absurd e h
  · rfl
end My
set_option Elab.async false
set_option linter.all false
set_option maxRecDepth 100000
set_option maxHeartbeats 4000000

namespace My
open PySem PySem.Spec PyProof.Rows L2 LamX
section
variable {K : PySem.W.Frag} {CB C CD : Addr} {T : List (Addr × Str)} {σ : L2.St} {H H' : Hp} {Q : VK}
theorem lam_wel {i j : Nat} {a dx r : Addr} {u : V} {d : PyData} (hT : Tabs T H) (h1 : σ[i]? = some (some (.ref a))) (h2 : σ[j]? = some (some u)) (ha : H a = some (.ins C dx [("_forms", .ref r)])) (hu : Dx K H u d) (hd : okR d) (hm : mEl d = false)
    (k : ∀ H', ExtN H H' → Tabs T H' → Q (.str d.shown) H') : tLam1 T (TWhy K CB) (fun E => tMeth C "with_element" (spOddE K CB) [] E (tVar i) (tCons (tVar j) tNil)) σ H Q := by
  refine ⟨hT, fun H1 eN T1 => ⟨d, hd, fun E Q2 kE => ?_⟩⟩
  refine ⟨_, h1, a, dx, _, rfl, eN _ _ ha (fun _ z => nomatch z), rfl, _, h2, a, u, d, rfl, extN_dx eN hu, hd.1, hm, fun e H' s he hH => ?_⟩
  exact kE e u H' hH ((extN_dx eN hu).same s) fun H2 s2 => k H2 (eN.trans (ofSame (s.trans s2))) (T1.ext (s.trans s2))
theorem lam_with {i j l m : Nat} {a dx r : Addr} {k0 f0 v0 : V} {dk df dv : PyData} (hT : Tabs T H) (h1 : σ[i]? = some (some (.ref a))) (h2 : σ[j]? = some (some k0)) (h3 : σ[l]? = some (some f0)) (h4 : σ[m]? = some (some v0)) (ha : H a = some (.ins C dx [("_rows", .ref r)]))
    (p1 : Dp K H k0 dk) (p2 : Dp K H f0 df) (p3 : Dp K H v0 dv) (hd : okR (.tuple [dk, df, dv])) (hm : mEnt (.tuple [dk, df, dv]) = false)
    (k : ∀ H', ExtN H H' → Tabs T H' → Q (.str (PyData.tuple [dk, df, dv]).shown) H') : tLam1 T (TWhy K CB) (fun E => tMeth C "with_entry" (spOddW K CB) [V.bl true] E (tVar i) (tCons (tVar j) (tCons (tVar l) (tCons (tVar m) tNil)))) σ H Q := by
  refine ⟨hT, fun H1 eN T1 => ⟨_, hd, fun E Q2 kE => ?_⟩⟩
  refine ⟨_, h1, a, dx, _, rfl, eN _ _ ha (fun _ z => nomatch z), rfl, _, h2, _, h3, _, h4, a, k0, f0, v0, true, dk, df, dv, rfl, extN_dp eN _ _ p1, extN_dp eN _ _ p2, extN_dp eN _ _ p3, hd.1, hm, fun e u H' s he hH hu => ?_⟩
  exact kE e u H' hH hu fun H2 s2 => k H2 (eN.trans (ofSame (s.trans s2))) (T1.ext (s.trans s2))
theorem lam_dflt {i j : Nat} {a dx t : Addr} {r : V} {k0 f0 v0 : V} {dk df dv : PyData} (hT : Tabs T H) (h1 : σ[i]? = some (some (.ref a))) (h2 : σ[j]? = some (some (.ref t))) (ha : H a = some (.ins CD dx [("_rows", r)])) (ht : SqT K H t [k0, f0, v0])
    (p1 : Dp K H k0 dk) (p2 : Dp K H f0 df) (p3 : Dp K H v0 dv) (hd : okR (.tuple [dk, df, dv])) (hm : mEnt (.tuple [dk, df, dv]) = false)
    (k : ∀ H', ExtN H H' → Tabs T H' → Q (.str (PyData.tuple [dk, df, dv]).shown) H') : tLam1 T (TWhy K CB) (fun E => tCall (spDefOdd K CD CB) [] E (tCons (tVar i) (tCons (tVar j) tNil))) σ H Q := by
  refine ⟨hT, fun H1 eN T1 => ⟨_, hd, fun E Q2 kE => ?_⟩⟩
  refine ⟨_, h1, _, h2, a, dx, r, t, k0, f0, v0, dk, df, dv, rfl, eN _ _ ha (fun _ z => nomatch z), extN_sqT eN ht, extN_dp eN _ _ p1, extN_dp eN _ _ p2, extN_dp eN _ _ p3, hd.1, hm, fun e u H' s he hH hu => ?_⟩
  exact kE e u H' hH hu fun H2 s2 => k H2 (eN.trans (ofSame (s.trans s2))) (T1.ext (s.trans s2))
theorem FS.bagX {U : List Int} {a x : Addr} {n : Nat} {es : List (Int × Str)} (b : Bag H a n) (e : Ext a H H') (h : FS C U H x es) : FS C U H' x es := by
  obtain ⟨_, _, _, e1, _⟩ := b
  exact h.chg e1 e
theorem FS.extN {U : List Int} {x : Addr} {es : List (Int × Str)} (e : ExtN H H') (h : FS C U H x es) : FS C U H' x es := by
  obtain ⟨dx, d, h1, h2, h3⟩ := h
  exact ⟨dx, d, e _ _ h1 (fun _ z => nomatch z), e _ _ h2 (fun _ z => nomatch z), h3⟩
theorem odd_noEl : ∀ d ∈ oddL, mEl d = false := by decide +kernel
theorem dx_tup3 {v : V} {x y z : PyData} (h : Dx K H v (.tuple [x, y, z])) : ∃ t k f w, v = .ref t ∧ SqT K H t [k, f, w] ∧ Dp K H k x ∧ Dp K H f y ∧ Dp K H w z := by
  cases h with
  | of h =>
    cases h with
    | tup q h =>
      cases h with
      | cons h1 h => cases h with
        | cons h2 h => cases h with
          | cons h3 h => cases h; exact ⟨_, _, _, _, rfl, q, h1, h2, h3⟩
theorem next_ixlit {i : Nat} {u : TA} {te : TE} {rest' : TS} {D0 D : L2.Ends} {ds : List PyData} (e : D0.nx = tSeq (tAsg (tOp (rIxL K) (tLst u) te) (gName i)) rest' D) (r : LitAX K σ u ds) (hl : ds.length ≤ 1000)
    (k : ∀ a H', Same H H' → H a = none → LsX K H' a ds → te σ H' fun y H2 => rIxL K (.ref a) y H2 fun v H3 => rest' D (σ.set i (some v)) H3) : tNext D0 σ H := by
  show D0.nx σ H
  rw [e]
  show tLst u σ H fun x H1 => te σ H1 fun y H2 => rIxL K x y H2 fun v H3 => rest' D (σ.set i (some v)) H3
  exact litx_new r hl k

def bad4 : List PyData := [.tuple [.bool true, .str "x", .int 1], .tuple [.int 1, .str "keys", .int 1], .tuple [.int 1, .str "x", .none], .tuple [.int (-1), .str "x", .int 1]]
theorem bad4_ok : ∀ d ∈ bad4, okRb d = true ∧ mEnt d = false ∨ d.shown.length ≤ 60 ∧ mEnt d = false ∧ d.weight ≤ 100000 ∧ d.showable = true ∧ d.depth ≤ 60 ∧ lay0 d = true := by decide +kernel
theorem bad4_tup {d : PyData} (h : d ∈ bad4) : ∃ x y z, d = .tuple [x, y, z] := by
  simp only [bad4, List.mem_cons, List.not_mem_nil, or_false] at h
  rcases h with rfl | rfl | rfl | rfl <;> exact ⟨_, _, _, rfl⟩
theorem bad4_facts {d : PyData} (h : d ∈ bad4) : okR d ∧ mEnt d = false := by
  rcases bad4_ok d h with ⟨z, z2⟩ | ⟨z1, z2, z3, z4, z5, z6⟩
  · unfold okRb at z
    simp only [Bool.and_eq_true, decide_eq_true_eq] at z
    obtain ⟨⟨⟨⟨⟨⟨z1, z2⟩, z3⟩, z4⟩, z5⟩, z6⟩, z7⟩ := z
    exact ⟨⟨⟨z1, lay0_laid z5⟩, z2, z3, Nat.le_trans z4 (by decide)⟩, by assumption⟩
  · exact ⟨⟨⟨z3, lay0_laid z6⟩, z4, z5, Nat.le_trans z1 (by decide)⟩, z2⟩
end
end My
set_option Elab.async false
set_option linter.all false
set_option maxRecDepth 100000
set_option maxHeartbeats 4000000

namespace My
open PySem PySem.Spec PyProof.Rows L2 LamX
theorem reprAll_more {P : Program} {w : World} {h : Heap} {as as' : List Addr} {n n' : Nat} (sub : ∀ b ∈ as, b ∈ as') (le : n ≤ n') : ∀ {l : List Value} {ts : List Str}, ReprAllK P w as h n l ts → ReprAllK P w as' h n' l ts
  | _, _, .nil => .nil
  | _, _, .cons a r => .cons ((a.more sub).level_le le) (reprAll_more sub le r)
theorem reprAll_at {P : Program} {w : World} {h : Heap} {as : List Addr} {n : Nat} : ∀ {l : List Value} {ts : List Str}, ReprAllK P w as h n l ts → ts.length = l.length ∧ ∀ (i : Nat) (y : Value), l[i]? = some y → ∃ t, ts[i]? = some t ∧ ReprK P w as h n y t
  | _, _, .nil => ⟨rfl, fun i y e => by cases e⟩
  | _, _, .cons a r => by
    obtain ⟨h1, h2⟩ := reprAll_at r
    refine ⟨by rw [List.length_cons, List.length_cons, h1], fun i y e => ?_⟩
    cases i with
    | zero => cases e; exact ⟨_, rfl, a⟩
    | succ i => exact h2 i y (by simpa using e)
section
variable {X : Cx} {pins : List (Addr × Obj)} {σ : L2.St} {H : Hp} {s : Shared}
theorem dx_readsR (I : L2.Inv X pins σ H s) {x : V} {d : PyData} {u : Value} (h : Dx X.K H x d) (r : RelV x u) : ∃ as, Reads s.heap u d as ∧ (d.hasDict = true → sysModules ∉ as) := by
  cases h with
  | of hp =>
    obtain ⟨as, rd⟩ := Dp.reads I d x u hp r
    exact ⟨as, rd, fun z => by rw [dp_noDict d x hp] at z; cases z⟩
  | @dict a kvs ds ha f =>
    cases r
    obtain ⟨_, ne, vs, kv, o, es, ep, e1, e2, e3, _, p, _⟩ := I.hok a _ ha
    obtain ⟨z1, z2⟩ := readsAll_flat (h := s.heap) p kv f
    refine ⟨_, Reads.dict e1 e2.1 e3 z1 z2, fun _ m => ?_⟩
    have m2 : sysModules ∈ [a] := by simpa using m
    rw [List.mem_singleton] at m2
    subst m2
    simp at ne
theorem allX_readsR (I : L2.Inv X pins σ H s) : ∀ {xs : List V} {ds : List PyData} {us : List Value}, AllX X.K H xs ds → Vals xs us → PyData.showableAll ds = true → (∀ t ∈ PyData.shownAll ds, t.length ≤ sizeLine) →
    (∃ as, ReadsAll s.heap us ds as) ∧ ∃ bs, ReadAtMost s.heap (PyData.depthAll ds) bs ∧ ReprAllK X.prog X.w bs s.heap (PyData.depthAll ds) us (PyData.shownAll ds)
  | _, _, _, .nil, .nil, _, _ => ⟨⟨[], .nil⟩, [], (fun _ z => nomatch z), .nil⟩
  | _, d :: ds, _, .cons h r, .cons r1 r2, hs, ht => by
    rw [PyData.showableAll, Bool.and_eq_true] at hs
    rw [PyData.shownAll] at ht
    obtain ⟨⟨as, a1⟩, bs, b1, b2⟩ := allX_readsR I r r2 hs.2 fun t z => ht t (List.mem_cons_of_mem _ z)
    obtain ⟨cs, c1, c2⟩ := dx_readsR I h r1
    obtain ⟨ds', d1, d2⟩ := ReprK.of_reads (prog := X.prog) (w := X.w) c1 hs.1 c2 (ht _ List.mem_cons_self)
    have l1 : d.depth ≤ PyData.depthAll (d :: ds) := by rw [PyData.depthAll]; exact Nat.le_max_left _ _
    have l2 : PyData.depthAll ds ≤ PyData.depthAll (d :: ds) := by rw [PyData.depthAll]; exact Nat.le_max_right _ _
    refine ⟨⟨_, .cons c1 a1⟩, ds' ++ bs, (d1.mono l1).append (b1.mono l2), ?_⟩
    rw [PyData.shownAll]
    exact .cons ((d2.more fun b z => List.mem_append.mpr (.inl z)).level_le l1) (reprAll_more (fun b z => List.mem_append.mpr (.inr z)) l2 b2)
theorem call_reprX (g : X.A.guards = some []) (hu : X.A.units + 64 < cLine) : CallR X (.builtin "repr") (rReprN X.K) := by
  intro pins s σ H xs us Q I r h
  obtain ⟨x, d, rfl, hx, hs, hd, hz, q⟩ := h
  cases hx with
  | of hx => exact call_repr g hu pins s σ H [x] us Q I r ⟨x, d, rfl, hx, hs, hd, hz, q⟩
  | @lst a vs ds h1 h2 =>
    by_cases hne : ds = []
    · subst hne
      cases h2
      exact call_repr g hu pins s σ H _ us Q I r ⟨_, _, rfl, .of (.lst h1 .nil), hs, hd, hz, q⟩
    obtain ⟨u, rfl, ru⟩ := vals1 r
    cases ru
    obtain ⟨its, rv, ⟨n, dd, e1, e2, e3, e4⟩, _⟩ := I.list h1
    rw [PyData.showable] at hs
    rw [PyData.depth] at hd
    rw [PyData.shown.eq_5] at hz q
    obtain ⟨⟨as, a1⟩, bs, b1, b2⟩ := allX_readsR I h2 rv hs fun t z => Nat.le_trans (listText_mem_le z) hz
    have nm : a ∉ bs := not_mem_of_deeper (Reads.list e1 e2 e4 (by simpa using a1)) (by rw [PyData.depth]; omega) b1
    obtain ⟨l1, l2⟩ := reprAll_at b2
    cases its with
    | nil =>
      exfalso
      cases rv
      cases h2
      exact hne rfl
    | cons y l =>
    refine call_repr_slot (T := "list") (idr := "list.__repr__") (by omega) ?_ ?_ (call_list_reprK (as := bs) (d := PyData.depthAll ds) e1 e2 e4 nm ?_ ?_ (g := []) ?_ ?_ ?_ (fun _ _ e => e) (fun h' t tk k => ⟨_, t, rfl, .str _, H, I.kept k, ⟨t, rfl⟩, q⟩) hz)
    · exact ⟨_, e1, e2⟩
    · exact ⟨PySem.F.slot_list_repr.lookup, PySem.F.slot_list_repr.bind, PySem.F.slot_list_repr.check⟩
    · simpa using l1
    · intro i y2 e
      exact l2 i y2 (by simpa using e)
    · exact g
    · intro b _ id v rest kw z
      cases z
    · show X.A.units + 1 + (PyData.depthAll ds + 1) < cLine
      omega
  | @tup a vs ds h1 h2 =>
    obtain ⟨u, rfl, ru⟩ := vals1 r
    cases ru
    obtain ⟨its, rv, ⟨o, e1, e2, n, e4⟩, _⟩ := I.tuple h1
    rw [PyData.showable] at hs
    rw [PyData.depth] at hd
    rw [PyData.shown.eq_6] at hz q
    have ht : ∀ t ∈ PyData.shownAll ds, t.length ≤ sizeLine := fun t z => Nat.le_trans (tupleText_mem_le z) hz
    obtain ⟨⟨as, a1⟩, bs, b1, b2⟩ := allX_readsR I h2 rv hs ht
    have nm : a ∉ bs := not_mem_of_deeper (Reads.tuple e1 e2 e4 (by simpa using a1)) (by rw [PyData.depth]; omega) b1
    refine call_repr_slot (T := "tuple") (idr := "tuple.__repr__") (by omega) ⟨_, e1, e2⟩ PySem.F.slot_tuple_repr (call_tuple_reprK (as := bs) (d := PyData.depthAll ds) e1 e2 e4 nm (by simpa using b2) (g := []) g (fun b _ id v rest kw z => by cases z) ?_ (fun _ _ e => e) (fun h' t tk k => ⟨_, t, rfl, .str _, H, I.kept k, ⟨t, rfl⟩, q⟩) hz)
    show X.A.units + 1 + (PyData.depthAll ds + 1) < cLine
    omega
end
end My
set_option Elab.async false
set_option linter.all false
set_option maxRecDepth 100000
set_option maxHeartbeats 4000000
namespace My
open PySem PySem.Spec PyProof.Rows L2
def top (i : Nat) : Stmt := PySem.Challenge.pw_equalunlike_k03_members_and_entries_refu.main.body.getD i (.Pass ⟨0, 0, 0, 0⟩)
abbrev s_is_whole : Stmt := top 7
abbrev s_is_name : Stmt := top 8
abbrev s_is_key : Stmt := top 9
abbrev s_is_value : Stmt := top 10
abbrev s_is_element : Stmt := top 11
abbrev s_is_entry : Stmt := top 12
abbrev s_BadElement_init : Stmt := inClass (top 14) 0
abbrev s_p_first_forms : Stmt := top 19
abbrev s_FormSet_init : Stmt := inClass (top 18) 0
abbrev s_FormSet_len : Stmt := inClass (top 18) 15
abbrev s_FormSet_members : Stmt := inClass (top 18) 1
abbrev s_FormSet_repr : Stmt := inClass (top 18) 17
abbrev s_p_rows_of : Stmt := top 26
abbrev s_FormDict_init : Stmt := inClass (top 25) 0
abbrev s_FormDict_len : Stmt := inClass (top 25) 17
abbrev s_FormDict_entries : Stmt := inClass (top 25) 2
abbrev s_FormDict_repr : Stmt := inClass (top 25) 19
abbrev s_FormSet_with_element : Stmt := inClass (top 18) 11
abbrev s_FormDict_with_entry : Stmt := inClass (top 25) 13
abbrev s_l_bag : Stmt := top 30
abbrev s_l_take : Stmt := top 31
abbrev s_l_odd : Stmt := top 32
abbrev s_l_why : Stmt := top 33
abbrev s_l_list : Stmt := top 34
abbrev s_l_made : Stmt := top 35
abbrev s_l_default : Stmt := top 37
abbrev s_l_lists_right : Stmt := top 36
abbrev s_l_single_right : Stmt := top 38
abbrev s_law : Stmt := top 39
structure Txt (K : PySem.W.Frag) (mg : Str → Option Value) (C_FormSet : Addr) (C_FormDict : Addr) (C_BadElement : Addr) (C_BadKey : Addr) (C_BadRow : Addr) : Prop where
  n_ValueError : mg "ValueError" = none
  n_abs : mg "abs" = none
  n_all : mg "all" = none
  n_bool : mg "bool" = none
  n_int : mg "int" = none
  n_isinstance : mg "isinstance" = none
  n_len : mg "len" = none
  n_list : mg "list" = none
  n_max : mg "max" = none
  n_min : mg "min" = none
  n_range : mg "range" = none
  n_repr : mg "repr" = none
  n_set : mg "set" = none
  n_sorted : mg "sorted" = none
  n_str : mg "str" = none
  n_tuple : mg "tuple" = none
  g_LETTERS : ∃ t, mg "LETTERS" = some (.str "abcdefghijklmnopqrstuvwxyz" t)
  g_MOST_LETTERS : ∃ t, mg "MOST_LETTERS" = some (.int 4 t)
  g_RESERVED : ∃ r, mg "RESERVED" = some (.ref r) ∧ ∀ H, SqT K H r [.str "keys", .str "look", .str "self"]
  g_HIGHEST_KEY : ∃ t, mg "HIGHEST_KEY" = some (.int 999999 t)
  g_VALUE_LIMIT : ∃ t, mg "VALUE_LIMIT" = some (.int 10000000000000000000000000000000000000000 t)
  g_FormSet : mg "FormSet" = some (.ref C_FormSet)
  cl_FormSet : Cls K C_FormSet
  nF : NoAttr K C_FormSet "_forms"
  top_FormSet : PySem.W.mroIn K C_FormSet (.type "object") = some true
  kc_FormSet : PySem.W.findIn K (.ref C_FormSet) "__class__" = some (some (.builtin "object.__class__"))
  kg : PySem.W.specialIn K (.builtin "object.__class__") "__get__" = some (some (.builtin "getset_descriptor.__get__"))
  kt : PySem.W.takesIn K (.builtin "object.__class__") = some true
  g_FormDict : mg "FormDict" = some (.ref C_FormDict)
  cl_FormDict : Cls K C_FormDict
  nR : NoAttr K C_FormDict "_rows"
  top_FormDict : PySem.W.mroIn K C_FormDict (.type "object") = some true
  kc_FormDict : PySem.W.findIn K (.ref C_FormDict) "__class__" = some (some (.builtin "object.__class__"))
  g_BadElement : mg "BadElement" = some (.ref C_BadElement)
  ox_BadElement : OwnX K C_BadElement
  nv_BadElement : PySem.W.findIn K (.ref C_BadElement) "value" = some none
  ec_BadElement : ExcC K C_BadElement
  xf_BadElement : XfC K C_BadElement
  xm_BadElement : PySem.W.exmOne K (.ref C_BadElement) (.ref C_BadElement) = some true
  k2_BadElement : PySem.W.kitOne K (.ref C_BadElement) (.type "ValueError") = some true
  g_BadKey : mg "BadKey" = some (.ref C_BadKey)
  g_BadRow : mg "BadRow" = some (.ref C_BadRow)
  kk_BadElement : PySem.W.kitAny K (.ref C_BadElement) [.ref C_BadKey, .ref C_BadRow] = some false

def goodV (b : Bool) : List V := if b = true then [.int 1, .str "x", .int 5] else [.int 1, .str "x"]
def spOddDraw (K : PySem.W.Frag) : Sp := fun vs H Q _ => ∃ (a : Addr) (b : Bool) (n : Nat), vs = [.ref a, .bl b] ∧ Bag H a n ∧ n < 900000 ∧
  ∀ (u : V) (d : PyData) (g p : Addr) (H2 : Hp), d ∈ oddL → Dx K H2 u d → H2 g = some (.tup (goodV b)) → H2 p = some (.tup [u, .ref g]) → Bag H2 a (n + 1) → Ext a H H2 → Q (.ref p) H2

def spRowsL : Sp := fun vs H Q _ => ∃ (a : Addr) (b : Bool) (n : Nat), vs = [.ref a, .bl b] ∧ Bag H a n ∧ n < 900000 ∧
  ∀ (l : Addr) (xs : List V) (es : List (Int × Str)) (n2 : Nat) (H2 : Hp), VS es → (∀ p ∈ es, p.1 ≤ 4) → es.length ≤ 6 → Bag H2 a n2 → n2 ≤ n + 13 → Ext a H H2 → l ≠ a → H2 l = some (.lst xs) → (b = false → TupS H2 xs es) → (b = true → Tup3 H2 xs (row3 es.length es)) → Q (.ref l) H2

def Q1 : Str := (("_law_lists_right" : Str) ++ (".<locals>." : Str)) ++ ("<lambda>" : Str)
def Q2 : Str := (("_law_single_right" : Str) ++ (".<locals>." : Str)) ++ ("<lambda>" : Str)
variable {PTa PTb : Addr}

section
variable {P : Program} {w : World} {K : PySem.W.Frag} {mg : Str → Option Value} {base : Heap} {C_FormSet : Addr} {C_FormDict : Addr} {C_BadElement : Addr} {C_BadKey : Addr} {C_BadRow : Addr}
theorem sc_is_whole : FnScope ["thing"] ["thing"] (defScope s_is_whole) := ⟨rfl, rfl, rfl, by decide +kernel, rfl, by decide +kernel, by decide +kernel⟩
theorem ok_is_whole {f : Addr} {fd : FuncData} (F : Fun K "is_whole" "is_whole" s_is_whole f fd) (T : Txt K mg C_FormSet C_FormDict C_BadElement C_BadKey C_BadRow)
    : FnOk P w K mg base CX0 1 f fd ["thing"] (spIs K mWhole) := by
  refine F.ok sc_is_whole (fun vs H Q E h => ?_) (fun cdv A outer s H vs Q E hr h => ?_)
  · obtain ⟨v, d, rfl, _⟩ := h; rfl
  · obtain ⟨v, d, rfl, hx, hs, k⟩ := h
    have hu := hu_of hr
    have hu64 := hr.units
    refine ⟨_, (pss_one (ps_ret (pe_and (pe_callB call_isi (by rfl) T.n_isinstance (by decide +kernel) (pa_cons (pv 0) (pa_cons (pe_bltn (v := .ty "int") (u := .type "int") (by rfl) T.n_int (by decide +kernel) rfl) pa_nil))) (pe_one (pe_not (pe_callB call_isi (by rfl) T.n_isinstance (by decide +kernel) (pa_cons (pv 0) (pa_cons (pe_bltn (v := .ty "bool") (u := .type "bool") (by rfl) T.n_bool (by decide +kernel) rfl) pa_nil)))))))), ?_⟩
    refine rd_isi rfl hx (by simp) ⟨_, rfl, ?_⟩
    rw [isD_int]
    have k := k H (Same.refl H)
    cases d with
    | int i => refine iteT (rd_isi rfl hx (by simp) ⟨_, rfl, ?_⟩); rw [isD_bool]; exact k
    | bool b => refine iteT (rd_isi rfl hx (by simp) ⟨_, rfl, ?_⟩); rw [isD_bool]; exact k
    | none => exact iteF k
    | str x => exact iteF k
    | list xs => exact iteF k
    | tuple xs => exact iteF k
    | dict kvs => exact iteF k
theorem sc_is_name : FnScope ["thing", "letter"] ["thing"] (defScope s_is_name) := ⟨rfl, rfl, rfl, by decide +kernel, rfl, by decide +kernel, by decide +kernel⟩
theorem ok_is_name {f : Addr} {fd : FuncData} (F : Fun K "is_name" "is_name" s_is_name f fd) (T : Txt K mg C_FormSet C_FormDict C_BadElement C_BadKey C_BadRow)
    : FnOk P w K mg base CX0 1 f fd ["thing"] (spIs K mName) := by
  obtain ⟨t_LETTERS, g_LETTERS⟩ := T.g_LETTERS
  obtain ⟨t_MOST_LETTERS, g_MOST_LETTERS⟩ := T.g_MOST_LETTERS
  obtain ⟨t_RESERVED, g_RESERVED, s_RESERVED⟩ := T.g_RESERVED
  refine F.ok sc_is_name (fun vs H Q E h => ?_) (fun cdv A outer s H vs Q E hr h => ?_)
  · obtain ⟨v, d, rfl, _⟩ := h; rfl
  · obtain ⟨v, d, rfl, hx, hs, k⟩ := h
    have hu := hu_of hr
    have hu64 := hr.units
    refine ⟨_, (pss_cons (ps_if (PW.pt (pw_or (pt_not (pt_val (pe_callB call_isi (by rfl) T.n_isinstance (by decide +kernel) (pa_cons (pv 0) (pa_cons (pe_bltn (v := .ty "str") (u := .type "str") (by rfl) T.n_str (by decide +kernel) rfl) pa_nil))))) (pw_or1 (pt_not (pt_chain op_le op_le pe_int (pe_callB call_len_str (by rfl) T.n_len PySem.boot_len (pa_cons (pv 0) pa_nil)) (pe_glob (v := .int 4) rfl g_MOST_LETTERS ⟨_, rfl⟩))))))
    (pss_one (ps_ret pe_bl))
    pss_nil)
  (pss_cons (ps_if (pt_cmpR op_in_seq (pv 0) (pe_glob (v := .ref t_RESERVED) rfl g_RESERVED rfl) (by rfl))
    (pss_one (ps_ret pe_bl))
    pss_nil)
  (pss_one (ps_ret (pe_callB (cr_all rfl) (by rfl) T.n_all (by decide +kernel) (pa_cons (pe_lc (own := [("letter", 1)]) (g := gName 1) (tt := tYes) rfl sc_is_name.nd (pi_str (pv 0)) (blkOk_by (own := [("letter", 1)]) (N := ["thing", "letter"]) (sc := defScope s_is_name) (by decide +kernel)) (fun _ _ _ _ _ => (pg_name (i := 1) sc_is_name.nd rfl (Or.inl rfl))) (fun _ _ _ _ _ => pts_nil) (fun _ _ _ _ _ => (pe_cmpR op_in_sign (pv 1) (pe_glob (v := .str "abcdefghijklmnopqrstuvwxyz") rfl g_LETTERS ⟨_, rfl⟩) (by rfl)))) pa_nil)))))), ?_⟩
    refine rd_isi rfl hx (by simp) ⟨_, rfl, ?_⟩
    rw [isD_str]
    cases d with
    | int i => exact iteT (iteT (k H (Same.refl H)))
    | bool b => exact iteT (iteT (k H (Same.refl H)))
    | none => exact iteT (iteT (k H (Same.refl H)))
    | list xs => exact iteT (iteT (k H (Same.refl H)))
    | tuple xs => exact iteT (iteT (k H (Same.refl H)))
    | dict kvs => exact iteT (iteT (k H (Same.refl H)))
    | str x =>
      obtain rfl := dx_str hx
      have hl := len_le hs
      have k : ∀ H', Same H H' → Q (.bl (nameOk x)) H' := k
      refine iteF ⟨_, rfl, _, rfl, size_ok (by omega), _, _, rfl, rfl, _, rfl, ?_⟩
      by_cases h1 : (1 : Int) ≤ x.length
      · rw [decide_eq_true h1]
        refine iteT ⟨_, _, rfl, rfl, _, rfl, ?_⟩
        by_cases h4 : (x.length : Int) ≤ 4
        · rw [decide_eq_true h4]
          refine iteF ⟨_, rfl, _, _, rfl, Or.inr (s_RESERVED _), rfl, rfl, inV (.str x) [.str "keys", .str "look", .str "self"], rfl, ?_⟩
          cases e : inV (.str x) [.str "keys", .str "look", .str "self"] with
          | true =>
            refine iteT ?_
            have := k H (Same.refl H)
            have e2 : nameOk x = false := by unfold nameOk; rw [e]; simp
            rw [e2] at this
            exact this
          | false =>
            refine iteF ⟨_, rfl, _, rfl, fun D hD => lc_text (fun i H' => H' = upd H D (.lst ((x.cps.toList.take i).map fun c => V.bl (inAbc c)))) rfl ?_ ?_⟩
            · rintro i c H' hc rfl
              refine ⟨rfl, _, rfl, _, _, rfl, rfl, _, upd_same, ?_, ?_⟩
              · refine size_lt ?_
                rw [List.length_map, List.length_take]
                have : x.cps.toList.length = x.length := rfl
                omega
              · show upd (upd _ _ _) _ _ = _
                rw [upd_upd, take_snoc hc, List.map_append]
                rfl
            · rintro H' rfl
              refine ⟨D, x.cps.toList.map inAbc, rfl, SqL.of (upd_same.trans ?_), ?_⟩
              · rw [List.map_map]
                congr 2
                have : x.cps.toList.take x.cps.size = x.cps.toList := List.take_of_length_le (Nat.le_of_eq Array.length_toList)
                rw [this]
                rfl
              · rw [all_ids]
                have := k _ (same_new hD (o := .lst ((x.cps.toList.take x.cps.size).map fun c => V.bl (inAbc c))))
                unfold nameOk at this
                rw [e, decide_eq_true (show 1 ≤ x.length ∧ x.length ≤ 4 by omega)] at this
                exact this
        · rw [decide_eq_false h4]
          have := k H (Same.refl H)
          unfold nameOk at this
          rw [decide_eq_false (show ¬ (1 ≤ x.length ∧ x.length ≤ 4) by omega)] at this
          exact this
      · rw [decide_eq_false h1]
        have := k H (Same.refl H)
        unfold nameOk at this
        rw [decide_eq_false (show ¬ (1 ≤ x.length ∧ x.length ≤ 4) by omega)] at this
        exact ⟨_, rfl, this⟩
theorem sc_is_key : FnScope ["thing"] ["thing"] (defScope s_is_key) := ⟨rfl, rfl, rfl, by decide +kernel, rfl, by decide +kernel, by decide +kernel⟩
theorem ok_is_key {f : Addr} {fd : FuncData} (F : Fun K "is_key" "is_key" s_is_key f fd) (T : Txt K mg C_FormSet C_FormDict C_BadElement C_BadKey C_BadRow)
    (D_is_whole : Fn P w K mg base 1 "is_whole" ["thing"] (spIs K mWhole))
    : FnOk P w K mg base CX0 2 f fd ["thing"] (spIs K mKey) := by
  obtain ⟨t_HIGHEST_KEY, g_HIGHEST_KEY⟩ := T.g_HIGHEST_KEY
  refine F.ok sc_is_key (fun vs H Q E h => ?_) (fun cdv A outer s H vs Q E hr h => ?_)
  · obtain ⟨v, d, rfl, _⟩ := h; rfl
  · obtain ⟨v, d, rfl, hx, hs, k⟩ := h
    have hu := hu_of hr
    have hu64 := hr.units
    refine ⟨_, (pss_one (ps_ret (pe_and (pe_fn D_is_whole (hr.mono (by decide)) rfl (pa_cons (pv 0) pa_nil)) (pe_one (pe_chain op_le op_le pe_int (pv 0) (pe_glob (v := .int 999999) rfl g_HIGHEST_KEY ⟨_, rfl⟩)))))), ?_⟩
    refine ⟨_, rfl, _, _, rfl, hx, hs, fun H1 s1 => ⟨_, rfl, ?_⟩⟩
    have k := k H1 s1
    cases d with
    | int i =>
      have k : Q (.bl (decide ((0 : Int) ≤ i) && decide (i ≤ 999999))) H1 := k
      obtain rfl := dx_int hx
      refine iteT ⟨_, rfl, _, _, rfl, rfl, _, rfl, ?_⟩
      by_cases h1 : (0 : Int) ≤ i
      · rw [decide_eq_true h1]
        refine iteT ⟨_, _, rfl, rfl, ?_⟩
        rw [decide_eq_true h1] at k
        exact k
      · rw [decide_eq_false h1]
        refine iteF ?_
        rw [decide_eq_false h1] at k
        exact k
    | bool b => exact iteF k
    | none => exact iteF k
    | str x => exact iteF k
    | list xs => exact iteF k
    | tuple xs => exact iteF k
    | dict kvs => exact iteF k
theorem sc_is_value : FnScope ["thing"] ["thing"] (defScope s_is_value) := ⟨rfl, rfl, rfl, by decide +kernel, rfl, by decide +kernel, by decide +kernel⟩
theorem ok_is_value {f : Addr} {fd : FuncData} (F : Fun K "is_value" "is_value" s_is_value f fd) (T : Txt K mg C_FormSet C_FormDict C_BadElement C_BadKey C_BadRow)
    (D_is_whole : Fn P w K mg base 1 "is_whole" ["thing"] (spIs K mWhole))
    : FnOk P w K mg base CX0 2 f fd ["thing"] (spIs K mVal) := by
  obtain ⟨t_VALUE_LIMIT, g_VALUE_LIMIT⟩ := T.g_VALUE_LIMIT
  refine F.ok sc_is_value (fun vs H Q E h => ?_) (fun cdv A outer s H vs Q E hr h => ?_)
  · obtain ⟨v, d, rfl, _⟩ := h; rfl
  · obtain ⟨v, d, rfl, hx, hs, k⟩ := h
    have hu := hu_of hr
    have hu64 := hr.units
    refine ⟨_, (pss_one (ps_ret (pe_and (pe_fn D_is_whole (hr.mono (by decide)) rfl (pa_cons (pv 0) pa_nil)) (pe_one (pe_cmpR op_lt (pe_callB call_abs (by rfl) T.n_abs (by decide +kernel) (pa_cons (pv 0) pa_nil)) (pe_glob (v := .int 10000000000000000000000000000000000000000) rfl g_VALUE_LIMIT ⟨_, rfl⟩) (nomark _)))))), ?_⟩
    refine ⟨_, rfl, _, _, rfl, hx, hs, fun H1 s1 => ⟨_, rfl, ?_⟩⟩
    have k := k H1 s1
    cases d with
    | int i =>
      obtain rfl := dx_int hx
      refine iteT ⟨_, rfl, _, rfl, _, _, rfl, rfl, ?_⟩
      have e : decide ((if i < 0 then -i else i) < 10000000000000000000000000000000000000000) = mVal (.int i) := by
        show _ = (decide _ && decide _)
        rw [← Bool.decide_and]
        apply decide_eq_decide.mpr
        constructor
        · intro h; split at h <;> omega
        · intro h; split <;> omega
      show Q (.bl (decide ((if i < 0 then -i else i) < 10000000000000000000000000000000000000000))) H1
      rw [e]
      exact k
    | bool b => exact iteF k
    | none => exact iteF k
    | str x => exact iteF k
    | list xs => exact iteF k
    | tuple xs => exact iteF k
    | dict kvs => exact iteF k
theorem sc_is_element : FnScope ["thing", "key", "form"] ["thing"] (defScope s_is_element) := ⟨rfl, rfl, rfl, by decide +kernel, rfl, by decide +kernel, by decide +kernel⟩
theorem ok_is_element {f : Addr} {fd : FuncData} (F : Fun K "is_element" "is_element" s_is_element f fd) (T : Txt K mg C_FormSet C_FormDict C_BadElement C_BadKey C_BadRow)
    (D_is_name : Fn P w K mg base 1 "is_name" ["thing"] (spIs K mName))
    (D_is_key : Fn P w K mg base 2 "is_key" ["thing"] (spIs K mKey))
    : FnOk P w K mg base CX0 3 f fd ["thing"] (spIs K mEl) := by
  refine F.ok sc_is_element (fun vs H Q E h => ?_) (fun cdv A outer s H vs Q E hr h => ?_)
  · obtain ⟨v, d, rfl, _⟩ := h; rfl
  · obtain ⟨v, d, rfl, hx, hs, k⟩ := h
    have hu := hu_of hr
    have hu64 := hr.units
    refine ⟨_, (pss_cons (ps_if (PW.pt (pw_or (pt_not (pt_val (pe_callB call_isi (by rfl) T.n_isinstance (by decide +kernel) (pa_cons (pv 0) (pa_cons (pe_bltn (v := .ty "tuple") (u := .type "tuple") (by rfl) T.n_tuple (by decide +kernel) rfl) pa_nil))))) (pw_or1 (pt_cmpR op_ne (pe_callB call_len_seq (by rfl) T.n_len PySem.boot_len (pa_cons (pv 0) pa_nil)) pe_int (nomark _)))))
    (pss_one (ps_ret pe_bl))
    pss_nil)
  (pss_cons (ps_asg (pv 0) (pg_tup rfl (pgs_cons (pg_name (i := 1) sc_is_element.nd rfl (Or.inl rfl)) (pgs_cons (pg_name (i := 2) sc_is_element.nd rfl (Or.inl rfl)) pgs_nil))))
  (pss_one (ps_ret (pe_and (pe_fn D_is_key (hr.mono (by decide)) rfl (pa_cons (pv 1) pa_nil)) (pe_one (pe_fn D_is_name (hr.mono (by decide)) rfl (pa_cons (pv 2) pa_nil)))))))), ?_⟩
    refine rd_isi rfl hx (by simp) ⟨_, rfl, ?_⟩
    rw [isD_tuple]
    cases d with
    | int i => exact iteT (iteT (k H (Same.refl H)))
    | bool b => exact iteT (iteT (k H (Same.refl H)))
    | none => exact iteT (iteT (k H (Same.refl H)))
    | str x => exact iteT (iteT (k H (Same.refl H)))
    | list xs => exact iteT (iteT (k H (Same.refl H)))
    | dict kvs => exact iteT (iteT (k H (Same.refl H)))
    | tuple ds =>
      obtain ⟨a, vs, rfl, ht, hd⟩ := dx_tuple hx
      have hlen := sqT_len hd
      refine iteF ⟨_, rfl, _, _, rfl, Or.inr ht, rfl, _, rfl, ?_⟩
      match vs, ds, hd, hlen with
      | [], [], _, _ => exact iteT (k H (Same.refl H))
      | [_], [_], _, _ => exact iteT (k H (Same.refl H))
      | _ :: _ :: _ :: r, _ :: _ :: _ :: _, _, _ =>
        have e : (!decide (V.int ((r.length + 1 + 1 + 1 : Nat) : Int) = V.int 2)) = true := by
          rw [decide_eq_false]
          · rfl
          · intro z
            injection z with z
            omega
        show (if (!decide (V.int ((r.length + 1 + 1 + 1 : Nat) : Int) = V.int 2)) = true then _ else _)
        rw [e]
        exact iteT (k H (Same.refl H))
      | [kv, fv], [kd, fd'], .cons h1 (.cons h2 .nil), _ =>
        have w0 : kd.weight + 1 + (fd'.weight + 1 + 0) ≤ 100000 := by simpa [PyData.weight, PyData.weightAll] using hs.1
        refine iteF ⟨_, rfl, _, _, rfl, ht, rfl, _, _, rfl, _, _, rfl, rfl, ?_⟩
        refine ⟨_, rfl, _, _, rfl, .of h1, ⟨by omega, laid_tup hs.2 _ (by simp)⟩, fun H1 s1 => ⟨_, rfl, ?_⟩⟩
        have k2 : ∀ H', Same H H' → Q (.bl (mKey kd && mName fd')) H' := k
        cases e : mKey kd with
        | false =>
          refine iteF ?_
          have := k2 H1 s1
          rw [e] at this
          exact this
        | true =>
          refine iteT ⟨_, rfl, _, _, rfl, .of (dp_same s1 _ _ h2), ⟨by omega, laid_tup hs.2 _ (by simp)⟩, fun H2 s2 => ?_⟩
          have := k2 H2 (s1.trans s2)
          rw [e] at this
          exact this
theorem sc_is_entry : FnScope ["thing", "key", "form", "value"] ["thing"] (defScope s_is_entry) := ⟨rfl, rfl, rfl, by decide +kernel, rfl, by decide +kernel, by decide +kernel⟩
theorem ok_is_entry {f : Addr} {fd : FuncData} (F : Fun K "is_entry" "is_entry" s_is_entry f fd) (T : Txt K mg C_FormSet C_FormDict C_BadElement C_BadKey C_BadRow)
    (D_is_name : Fn P w K mg base 1 "is_name" ["thing"] (spIs K mName))
    (D_is_key : Fn P w K mg base 2 "is_key" ["thing"] (spIs K mKey))
    (D_is_value : Fn P w K mg base 2 "is_value" ["thing"] (spIs K mVal))
    : FnOk P w K mg base CX0 3 f fd ["thing"] (spIs K mEnt) := by
  refine F.ok sc_is_entry (fun vs H Q E h => ?_) (fun cdv A outer s H vs Q E hr h => ?_)
  · obtain ⟨v, d, rfl, _⟩ := h; rfl
  · obtain ⟨v, d, rfl, hx, hs, k⟩ := h
    have hu := hu_of hr
    have hu64 := hr.units
    refine ⟨_, (pss_cons (ps_if (PW.pt (pw_or (pt_not (pt_val (pe_callB call_isi (by rfl) T.n_isinstance (by decide +kernel) (pa_cons (pv 0) (pa_cons (pe_bltn (v := .ty "tuple") (u := .type "tuple") (by rfl) T.n_tuple (by decide +kernel) rfl) pa_nil))))) (pw_or1 (pt_cmpR op_ne (pe_callB call_len_seq (by rfl) T.n_len PySem.boot_len (pa_cons (pv 0) pa_nil)) pe_int (nomark _)))))
    (pss_one (ps_ret pe_bl))
    pss_nil)
  (pss_cons (ps_asg (pv 0) (pg_tup rfl (pgs_cons (pg_name (i := 1) sc_is_entry.nd rfl (Or.inl rfl)) (pgs_cons (pg_name (i := 2) sc_is_entry.nd rfl (Or.inl rfl)) (pgs_cons (pg_name (i := 3) sc_is_entry.nd rfl (Or.inl rfl)) pgs_nil)))))
  (pss_one (ps_ret (pe_and (pe_fn D_is_key (hr.mono (by decide)) rfl (pa_cons (pv 1) pa_nil)) (pe_and (pe_fn D_is_name (hr.mono (by decide)) rfl (pa_cons (pv 2) pa_nil)) (pe_one (pe_fn D_is_value (hr.mono (by decide)) rfl (pa_cons (pv 3) pa_nil))))))))), ?_⟩
    refine rd_isi rfl hx (by simp) ⟨_, rfl, ?_⟩
    rw [isD_tuple]
    cases d with
    | int i => exact iteT (iteT (k H (Same.refl H)))
    | bool b => exact iteT (iteT (k H (Same.refl H)))
    | none => exact iteT (iteT (k H (Same.refl H)))
    | str x => exact iteT (iteT (k H (Same.refl H)))
    | list xs => exact iteT (iteT (k H (Same.refl H)))
    | dict kvs => exact iteT (iteT (k H (Same.refl H)))
    | tuple ds =>
      obtain ⟨a, vs, rfl, ht, hd⟩ := dx_tuple hx
      have hlen := sqT_len hd
      refine iteF ⟨_, rfl, _, _, rfl, Or.inr ht, rfl, _, rfl, ?_⟩
      match vs, ds, hd, hlen with
      | [], [], _, _ => exact iteT (k H (Same.refl H))
      | [_], [_], _, _ => exact iteT (k H (Same.refl H))
      | [_, _], [_, _], _, _ => exact iteT (k H (Same.refl H))
      | _ :: _ :: _ :: _ :: r, _ :: _ :: _ :: _ :: _, _, _ =>
        have e : (!decide (V.int ((r.length + 1 + 1 + 1 + 1 : Nat) : Int) = V.int 3)) = true := by
          rw [decide_eq_false]
          · rfl
          · intro z
            injection z with z
            omega
        show (if (!decide (V.int ((r.length + 1 + 1 + 1 + 1 : Nat) : Int) = V.int 3)) = true then _ else _)
        rw [e]
        exact iteT (k H (Same.refl H))
      | [kv, fv, av], [kd, fd', ad], .cons h1 (.cons h2 (.cons h3 .nil)), _ =>
        have w0 : kd.weight + 1 + (fd'.weight + 1 + (ad.weight + 1 + 0)) ≤ 100000 := by simpa [PyData.weight, PyData.weightAll] using hs.1
        refine iteF ⟨_, rfl, _, _, rfl, ht, rfl, _, _, rfl, _, _, rfl, _, _, rfl, rfl, ?_⟩
        refine ⟨_, rfl, _, _, rfl, .of h1, ⟨by omega, laid_tup hs.2 _ (by simp)⟩, fun H1 s1 => ⟨_, rfl, ?_⟩⟩
        have k2 : ∀ H', Same H H' → Q (.bl (mKey kd && (mName fd' && mVal ad))) H' := k
        cases e : mKey kd with
        | false =>
          refine iteF ?_
          have := k2 H1 s1
          rw [e] at this
          exact this
        | true =>
          refine iteT ⟨_, rfl, _, _, rfl, .of (dp_same s1 _ _ h2), ⟨by omega, laid_tup hs.2 _ (by simp)⟩, fun H2 s2 => ⟨_, rfl, ?_⟩⟩
          cases e2 : mName fd' with
          | false =>
            refine iteF ?_
            have := k2 H2 (s1.trans s2)
            rw [e, e2] at this
            exact this
          | true =>
            refine iteT ⟨_, rfl, _, _, rfl, .of (dp_same (s1.trans s2) _ _ h3), ⟨by omega, laid_tup hs.2 _ (by simp)⟩, fun H3 s3 => ?_⟩
            have := k2 H3 ((s1.trans s2).trans s3)
            rw [e, e2] at this
            exact this
theorem sc_BadElement_init : FnScope ["self", "value"] ["self", "value"] (defScope s_BadElement_init) := ⟨rfl, rfl, rfl, by decide +kernel, rfl, by decide +kernel, by decide +kernel⟩
theorem ok_BadElement_init {f : Addr} {fd : FuncData} (F : Fun K "__init__" "BadElement.__init__" s_BadElement_init f fd) (T : Txt K mg C_FormSet C_FormDict C_BadElement C_BadKey C_BadRow)
    : FnOk P w K mg base CX0 1 f fd ["self", "value"] (spInit1 K "value") := by
  refine F.ok sc_BadElement_init (fun vs H Q E h => ?_) (fun cdv A outer s H vs Q E hr h => ?_)
  · obtain ⟨a, C, y, rfl, _⟩ := h; rfl
  · obtain ⟨a, C, y, rfl, hT, hno, ha, k⟩ := h
    have hu := hu_of hr
    have hu64 := hr.units
    refine ⟨_, (pss_one (ps_putX (pv 0) (pv 1))), ?_⟩
    exact ⟨_, rfl, _, rfl, a, C, rfl, hT, hno, .inl ⟨ha, fun dx n ne => k dx n ne⟩⟩
theorem sc_p_first_forms : FnScope ["given", "forms", "item", "key", "form"] ["given"] (defScope s_p_first_forms) := ⟨rfl, rfl, rfl, by decide +kernel, rfl, by decide +kernel, by decide +kernel⟩
theorem ok_p_first_forms {f : Addr} {fd : FuncData} (F : Fun K "_first_forms" "_first_forms" s_p_first_forms f fd) (T : Txt K mg C_FormSet C_FormDict C_BadElement C_BadKey C_BadRow)
    (D_is_element : Fn P w K mg base 3 "is_element" ["thing"] (spIs K mEl))
    : FnOk P w K mg base CX0 4 f fd ["given"] (spFirst K) := by
  refine F.ok sc_p_first_forms (fun vs H Q E h => ?_) (fun cdv A outer s H vs Q E hr h => ?_)
  · obtain ⟨a, xs, l, rfl, _⟩ := h; rfl
  · obtain ⟨a, xs, l, rfl, ha, he, hl, k⟩ := h
    have hu := hu_of hr
    have hu64 := hr.units
    refine ⟨_, (pss_cons (ps_if (pt_not (pt_val (pe_callB call_isiT (by rfl) T.n_isinstance (by decide +kernel) (pa_cons (pv 0) (pa_cons (pe_tup (pa_cons (pe_bltn (v := .ty "list") (u := .type "list") (by rfl) T.n_list (by decide +kernel) rfl) (pa_cons (pe_bltn (v := .ty "tuple") (u := .type "tuple") (by rfl) T.n_tuple (by decide +kernel) rfl) pa_nil))) pa_nil)))))
    (pss_one ps_never)
    pss_nil)
  (pss_cons (ps_set (i := 1) sc_p_first_forms.nd rfl (Or.inl rfl) pe_dnewK)
  (pss_cons (ps_for PassesOwn.never rfl (pi_or (pi_list (pv 0)) (pi_tup (pv 0))) (pg_name (i := 2) sc_p_first_forms.nd rfl (Or.inl rfl))
    (pss_cons (ps_if (pt_not (pt_val (pe_fn D_is_element (hr.mono (by decide)) rfl (pa_cons (pv 2) pa_nil))))
        (pss_one ps_never)
        pss_nil)
      (pss_cons (ps_asg (pv 2) (pg_tup rfl (pgs_cons (pg_name (i := 3) sc_p_first_forms.nd rfl (Or.inl rfl)) (pgs_cons (pg_name (i := 4) sc_p_first_forms.nd rfl (Or.inl rfl)) pgs_nil))))
      (pss_one (ps_expr (pe_dsetd (pv 1) (pv 3) (pv 4) ⟨rfl, rfl, rfl, rfl⟩))))))
  (pss_one (ps_ret (pv 1)))))), ?_⟩
    refine ⟨_, rfl, size_ok (by simp), fun tp htp => ?_⟩
    generalize e_tp : upd H tp _ = H1
    have s_tp := new_same e_tp htp
    have h_tp := new_at e_tp
    have ha1 : H1 a = some (.lst xs) ∨ SqT K H1 a xs := ha.imp (fun e => s_tp _ _ e) (sqT_same s_tp)
    obtain ⟨ty, hty, hk⟩ := lt_ty ha1
    refine ⟨_, _, _, _, _, _, rfl, h_tp, .cons (.ty _) (.cons (.ty _) .nil), hty, hk, _, rfl, iteF ?_⟩
    intro p hp
    generalize e_p : upd H1 p _ = H2
    have s_p := new_same e_p hp
    have h_p := new_at e_p
    have he2 := (he.same s_tp).same s_p
    have hn : ∀ {t : Addr} {ys : List V} {H' : Hp}, Ext p H2 H' → SqT K H2 t ys → SqT K H' t ys := by
      intro t ys H' x h
      rcases h with (h | ⟨o, h⟩) | h
      · exact .inl (.inl (x _ _ (fun z => by rw [z, h_p] at h; cases h) h))
      · exact .inl (.inr ⟨o, x _ _ (fun z => by rw [z, h_p] at h; cases h) h⟩)
      · exact .inr h
    refine for_either (a := a) (xs := xs) (L := Ext p H2) (fun Q q => ⟨_, rfl, q⟩) ?_
      (fun i σ H' => ∃ v2 v3 v4, σ = [some (.ref a), some (.ref p), v2, v3, v4] ∧ Ext p H2 H' ∧ H' p = some (.dK (ents (firsts (l.take i))))) ?_ ?_ ?_ ?_
    · rcases ha1 with q | q
      · exact .inl fun H' x => .inl (.inl (x _ _ (ne_of_none q hp) (s_p _ _ q)))
      · exact .inr fun H' x => hn x (sqT_same s_p q)
    · exact ⟨_, _, _, rfl, fun _ _ _ e => e, by rw [h_p, List.take_zero]; rfl⟩
    · rintro i σ H' hi ⟨v2, v3, v4, rfl, x, _⟩
      exact x
    · rintro i v σ H' hv ⟨v2, v3, v4, rfl, x, hd⟩
      obtain ⟨t, n, y, rfl, e1, ht, hk2, hy⟩ := he2.at hv
      have ht2 := hn x ht
      refine ⟨_, rfl, _, _, rfl, el_dx ht2, el_sm hk2 hy, fun H3 s3 => ?_⟩
      have hd3 := s3 _ _ hd
      rw [el_ok hk2 hy]
      refine ⟨_, rfl, iteF ?_⟩
      refine ⟨_, rfl, t, _, rfl, sqT_same s3 ht2, rfl, _, _, rfl, _, _, rfl, rfl, ?_⟩
      have x3 : Ext p H2 H3 := x.trans (Ext.of s3)
      refine ⟨_, rfl, p, rfl, .inl ⟨_, .inl hd3⟩, _, rfl, _, rfl, _, .inl n, hd3, rfl, ?_, ?_, ?_⟩
      · rw [ents_len]
        have := firsts_len l i
        have := List.getElem?_eq_some_iff.mp e1
        obtain ⟨hi, _⟩ := this
        exact small1000 (by omega)
      · intro v e
        refine ⟨_, _, _, rfl, x3, hd3.trans ?_⟩
        rw [take_one e1, firsts_app]
        rw [valV_ents] at e
        have : has (firsts (l.take i)) n = true := by
          unfold has
          cases q : look (firsts (l.take i)) n with
          | none => rw [q] at e; cases e
          | some y => rfl
        rw [if_pos this]
      · intro e
        refine ⟨_, _, _, rfl, fun b o nb e => (upd_ne nb).trans (x3 b o nb e), upd_same.trans ?_⟩
        rw [take_one e1, firsts_app]
        rw [valV_ents] at e
        have e0 : look (firsts (l.take i)) n = none := by
          cases q : look (firsts (l.take i)) n with
          | none => rfl
          | some y => rw [q] at e; cases e
        have : ¬ has (firsts (l.take i)) n = true := by unfold has; rw [e0]; exact fun z => nomatch z
        rw [if_neg this, put_new (look_none.mp e0)]
    · rintro σ H' ⟨v2, v3, v4, rfl, x, hd⟩
      rw [he2.len, List.take_length] at hd
      refine ⟨_, rfl, k p H' ?_ hd⟩
      intro b o e
      have e2 := s_p _ _ (s_tp _ _ e)
      exact x b o (ne_of_none (s_tp _ _ e) hp) e2
theorem okX_p_first_forms {f : Addr} {fd : FuncData} (F : Fun K "_first_forms" "_first_forms" s_p_first_forms f fd) (T : Txt K mg C_FormSet C_FormDict C_BadElement C_BadKey C_BadRow) (D_is_element : Fn P w K mg base 3 "is_element" ["thing"] (spIs K mEl)) (D_BadElement_init : Xc P w K mg base C_BadElement 1 ["self", "value"] (spInit1 K "value"))
    : FnOk P w K mg base (L2.CX P w) 4 f fd ["given"] (spOdd K C_BadElement (preS K) mEl) := by
  refine F.okX sc_p_first_forms (fun vs H Q E h => ?_) (fun cdv A outer s H vs Q E hr h => ?_)
  · obtain ⟨v, u, d, rfl, _⟩ := h; rfl
  · obtain ⟨v, u, d, rfl, hv, k⟩ := h
    have hu := hu_of hr
    have hu64 := hr.units
    refine ⟨_, (pss_cons (ps_if (pt_not (pt_val (pe_callB call_isiT (by rfl) T.n_isinstance (by decide +kernel) (pa_cons (pv 0) (pa_cons (pe_tup (pa_cons (pe_bltn (v := .ty "list") (u := .type "list") (by rfl) T.n_list (by decide +kernel) rfl) (pa_cons (pe_bltn (v := .ty "tuple") (u := .type "tuple") (by rfl) T.n_tuple (by decide +kernel) rfl) pa_nil))) pa_nil)))))
    (pss_one (ps_raise rfl (takes_of rfl rfl rfl rfl) (mk_xc D_BadElement_init (hr.mono (by decide)) (by rfl) T.g_BadElement (pa_cons (pv 0) pa_nil))))
    pss_nil)
  (pss_cons (ps_set (i := 1) sc_p_first_forms.nd rfl (Or.inl rfl) pe_dnewK)
  (pss_cons (ps_for (passes_of rfl) rfl (pi_or (pi_list (pv 0)) (pi_tup (pv 0))) (pg_name (i := 2) sc_p_first_forms.nd rfl (Or.inl rfl))
    (pss_cons (ps_if (pt_not (pt_val (pe_fn D_is_element (hr.mono (by decide)) rfl (pa_cons (pv 2) pa_nil))))
        (pss_one (ps_raise rfl (takes_of rfl rfl rfl rfl) (mk_xc D_BadElement_init (hr.mono (by decide)) (by rfl) T.g_BadElement (pa_cons (pv 2) pa_nil))))
        pss_nil)
      (pss_cons (ps_asg (pv 2) (pg_tup rfl (pgs_cons (pg_name (i := 3) sc_p_first_forms.nd rfl (Or.inl rfl)) (pgs_cons (pg_name (i := 4) sc_p_first_forms.nd rfl (Or.inl rfl)) pgs_nil))))
      (pss_one (ps_expr (pe_dsetd (pv 1) (pv 3) (pv 4) ⟨rfl, rfl, rfl, rfl⟩))))))
  (pss_one (ps_ret (pv 1)))))), ?_⟩
    refine ⟨_, rfl, size_ok (by simp), fun tp htp => ?_⟩
    generalize e_tp : upd H tp _ = H1
    have s_tp := new_same e_tp htp
    have h_tp := new_at e_tp
    cases hv with
    | other hd hs ht =>
      refine ⟨_, _, _, _, _, _, rfl, h_tp, .cons (.ty _) (.cons (.ty _) .nil), ty_of (hd.same s_tp), ht, _, rfl, iteT ⟨_, rfl, ?_⟩⟩
      exact mkO_one T.ox_BadElement T.nv_BadElement fun e G s2 he hG => k e G (s_tp.trans s2) (s_tp.free he) hG
    | @item a xs ys zs u d h0 e hp hl hd hs hm =>
    obtain ⟨l, he⟩ := hp
    have ha1 : H1 a = some (.lst xs) ∨ SqT K H1 a xs := h0.imp (fun e => s_tp _ _ e) (sqT_same s_tp)
    obtain ⟨ty, hty, hk⟩ := lt_ty ha1
    refine ⟨_, _, _, _, _, _, rfl, h_tp, .cons (.ty _) (.cons (.ty _) .nil), hty, hk, _, rfl, iteF ?_⟩
    intro p hp
    generalize e_p : upd H1 p _ = H2
    have s_p := new_same e_p hp
    have h_p := new_at e_p
    have he2 := (he.same s_tp).same s_p
    have hd1 := hd.same s_tp
    have len := he2.len
    have s1 : ∀ {H'}, Ext p H2 H' → Same H1 H' := fun x b o e => x b o (ne_of_none e hp) (s_p _ _ e)
    have hn : ∀ {t : Addr} {ys : List V} {H' : Hp}, Ext p H2 H' → SqT K H2 t ys → SqT K H' t ys := by
      intro t ys H' x h
      rcases h with (h | ⟨o, h⟩) | h
      · exact .inl (.inl (x _ _ (fun z => by rw [z, h_p] at h; cases h) h))
      · exact .inl (.inr ⟨o, x _ _ (fun z => by rw [z, h_p] at h; cases h) h⟩)
      · exact .inr h
    refine for_either (a := a) (xs := xs) (L := Ext p H2) (fun Q q => ⟨_, rfl, q⟩) ?_
      (fun i σ H' => i ≤ ys.length ∧ ∃ v2 v3 v4, σ = [some (.ref a), some (.ref p), v2, v3, v4] ∧ Ext p H2 H' ∧ H' p = some (.dK (ents (firsts (l.take i))))) ?_ ?_ ?_ ?_
    · rcases ha1 with q | q
      · exact .inl fun H' x => .inl (.inl (x _ _ (ne_of_none q hp) (s_p _ _ q)))
      · exact .inr fun H' x => hn x (sqT_same s_p q)
    · exact ⟨Nat.zero_le _, _, _, _, rfl, fun _ _ _ e => e, by rw [h_p, List.take_zero]; rfl⟩
    · rintro i σ H' hi ⟨_, v2, v3, v4, rfl, x, _⟩
      exact x
    · rintro i v σ H' hv ⟨hle, v2, v3, v4, rfl, x, hd9⟩
      by_cases hi : i < ys.length
      · have hv' : ys[i]? = some v := by rw [e, List.getElem?_append_left hi] at hv; exact hv
        obtain ⟨t, n, y, rfl, e1, ht, hk2, hy⟩ := he2.at hv'
        have ht2 := hn x ht
        refine ⟨_, rfl, _, _, rfl, el_dx ht2, el_sm hk2 hy, fun H3 s3 => ?_⟩
        have hd3 := s3 _ _ hd9
        rw [el_ok hk2 hy]
        refine ⟨_, rfl, iteF ?_⟩
        refine ⟨_, rfl, t, _, rfl, sqT_same s3 ht2, rfl, _, _, rfl, _, _, rfl, rfl, ?_⟩
        have x3 : Ext p H2 H3 := x.trans (Ext.of s3)
        refine ⟨_, rfl, p, rfl, .inl ⟨_, .inl hd3⟩, _, rfl, _, rfl, _, .inl n, hd3, rfl, ?_, ?_, ?_⟩
        · rw [ents_len]
          have := firsts_len l i
          exact small1000 (by omega)
        · intro v e
          refine ⟨hi, _, _, _, rfl, x3, hd3.trans ?_⟩
          rw [take_one e1, firsts_app]
          rw [valV_ents] at e
          have : has (firsts (l.take i)) n = true := by
            unfold has
            cases q : look (firsts (l.take i)) n with
            | none => rw [q] at e; cases e
            | some y => rfl
          rw [if_pos this]
        · intro e
          refine ⟨hi, _, _, _, rfl, fun b o nb e => (upd_ne nb).trans (x3 b o nb e), upd_same.trans ?_⟩
          rw [take_one e1, firsts_app]
          rw [valV_ents] at e
          have e0 : look (firsts (l.take i)) n = none := by
            cases q : look (firsts (l.take i)) n with
            | none => rfl
            | some y => rw [q] at e; cases e
          have : ¬ has (firsts (l.take i)) n = true := by unfold has; rw [e0]; exact fun z => nomatch z
          rw [if_neg this, put_new (look_none.mp e0)]
      · have hi2 : i = ys.length := by omega
        have hv' : v = u := by
          rw [e, hi2, List.getElem?_append_right (Nat.le_refl _), Nat.sub_self] at hv
          exact (Option.some.inj hv).symm
        subst hv'
        refine ⟨_, rfl, _, _, rfl, hd1.same (s1 x), hs, fun H3 s3 => ?_⟩
        rw [hm]
        refine ⟨_, rfl, iteT ⟨_, rfl, ?_⟩⟩
        have sH : Same H H3 := fun b o e => s3 _ _ (s1 x b o (s_tp _ _ e))
        exact mkO_one T.ox_BadElement T.nv_BadElement fun e G s2 he hG => k e G (sH.trans s2) (sH.free he) hG
    · rintro σ H' ⟨hle, _⟩
      exfalso
      rw [e, List.length_append, List.length_cons] at hle
      omega

theorem sc_FormSet_init : FnScope ["self", "given"] ["self", "given"] (defScope s_FormSet_init) := ⟨rfl, rfl, rfl, by decide +kernel, rfl, by decide +kernel, by decide +kernel⟩
theorem ok_FormSet_init {f : Addr} {fd : FuncData} {dV : Value} (F : FunV K "__init__" "FormSet.__init__" s_FormSet_init dV f fd) (T : Txt K mg C_FormSet C_FormDict C_BadElement C_BadKey C_BadRow)
    (D_p_first_forms : Fn P w K mg base 4 "_first_forms" ["given"] (spFirst K))
    : FnOk P w K mg base CX0 5 f fd ["self", "given"] (spInit K C_FormSet) := by
  refine F.ok sc_FormSet_init (fun vs H Q E h => ?_) (fun cdv A outer s H vs Q E hr h => ?_)
  · obtain ⟨x, dx, a, xs, l, rfl, _⟩ := h; rfl
  · obtain ⟨x, dx, a, xs, l, rfl, hx, ha, he, hl, k⟩ := h
    have hu := hu_of hr
    have hu64 := hr.units
    refine ⟨_, (pss_one (ps_fld (pv 0) (pe_fn D_p_first_forms (hr.mono (by decide)) rfl (pa_cons (pv 1) pa_nil)) rfl)), ?_⟩
    refine ⟨_, rfl, a, xs, l, rfl, ha, he, hl, fun d H' s hd => ⟨_, rfl, x, C_FormSet, dx, [], rfl, s _ _ hx, T.cl_FormSet, T.nF, by decide, ?_⟩⟩
    have hdx : d ≠ x := fun e => by rw [e, s _ _ hx] at hd; cases hd
    refine k d _ ?_ upd_same ((upd_ne hdx).trans hd)
    intro b o e
    by_cases hb : b = x
    · subst hb
      unfold del at e
      rw [if_pos rfl] at e
      cases e
    · rw [del_at hb] at e ⊢
      exact (upd_ne hb).trans (s _ _ e)
theorem okX_FormSet_init {f : Addr} {fd : FuncData} {dV : Value} (F : FunV K "__init__" "FormSet.__init__" s_FormSet_init dV f fd) (T : Txt K mg C_FormSet C_FormDict C_BadElement C_BadKey C_BadRow) (DX_p_first_forms : FnX P w K mg base 4 "_first_forms" ["given"] (spOdd K C_BadElement (preS K) mEl))
    : FnOk P w K mg base (L2.CX P w) 5 f fd ["self", "given"] (spOddI K C_FormSet C_BadElement (preS K) mEl) := by
  refine FunV.okX F sc_FormSet_init (fun vs H Q E h => ?_) (fun cdv A outer s H vs Q E hr h => ?_)
  · obtain ⟨x, dx, v, u, d, rfl, _⟩ := h; rfl
  · obtain ⟨x, dx, v, u, d, rfl, hx, hv, k⟩ := h
    refine ⟨_, (pss_one (ps_fld (pv 0) (pe_fnX DX_p_first_forms (hr.mono (by decide)) rfl (L2.passes_call (takes_of rfl rfl rfl rfl) (fun _ _ _ _ z => z)) (pa_cons (pv 1) pa_nil)) rfl)), ?_⟩
    exact ⟨_, rfl, v, u, d, rfl, hv, k⟩

theorem sc_FormSet_len : FnScope ["self"] ["self"] (defScope s_FormSet_len) := ⟨rfl, rfl, rfl, by decide +kernel, rfl, by decide +kernel, by decide +kernel⟩
theorem ok_FormSet_len {f : Addr} {fd : FuncData} (F : Fun K "__len__" "FormSet.__len__" s_FormSet_len f fd) (T : Txt K mg C_FormSet C_FormDict C_BadElement C_BadKey C_BadRow)
    : FnOk P w K mg base CX0 1 f fd ["self"] (spLen C_FormSet) := by
  refine F.ok sc_FormSet_len (fun vs H Q E h => ?_) (fun cdv A outer s H vs Q E hr h => ?_)
  · obtain ⟨U, a, es, rfl, _⟩ := h; rfl
  · obtain ⟨U, a, es, rfl, ⟨dxa, da, ha, hda⟩, k⟩ := h
    have hu := hu_of hr
    have hu64 := hr.units
    refine ⟨_, (pss_one (ps_ret (pe_callB call_lenD (by rfl) T.n_len PySem.boot_len (pa_cons (pe_fld (pv 0) rfl) pa_nil)))), ?_⟩
    refine ⟨_, rfl, a, _, _, _, _, rfl, ha, T.cl_FormSet, T.nF, rfl, da, ents es, rfl, hda.1, ?_⟩
    rw [ents_len]
    exact k
theorem sc_FormSet_members : FnScope ["self"] ["self"] (defScope s_FormSet_members) := ⟨rfl, rfl, rfl, by decide +kernel, rfl, by decide +kernel, by decide +kernel⟩
theorem ok_FormSet_members {f : Addr} {fd : FuncData} (F : Fun K "members" "FormSet.members" s_FormSet_members f fd) (T : Txt K mg C_FormSet C_FormDict C_BadElement C_BadKey C_BadRow)
    : FnOk P w K mg base CX0 1 f fd ["self"] (spMemF C_FormSet) := by
  refine F.ok sc_FormSet_members (fun vs H Q E h => ?_) (fun cdv A outer s H vs Q E hr h => ?_)
  · obtain ⟨U, a, es, rfl, _⟩ := h; rfl
  · obtain ⟨U, a, es, rfl, ⟨dxa, da, ha, hda⟩, k⟩ := h
    have hu := hu_of hr
    have hu64 := hr.units
    refine ⟨_, (pss_one (ps_ret (pe_callB (cr_sortedF rfl) (by rfl) T.n_sorted (by decide +kernel) (pa_cons (pe_bm0 PySem.F.plainAttrs_dict PySem.F.slot_dict_items PySem.F.type_dict_items mt_itemsK (pe_fld (pv 0) rfl)) pa_nil)))), ?_⟩
    refine ⟨_, rfl, a, _, _, _, _, rfl, ha, T.cl_FormSet, T.nF, rfl, .inr (.inr (.inl ⟨rfl, .inl ⟨_, hda.1⟩⟩)), ?_⟩
    refine ⟨da, _, rfl, rfl, hda.1, fun p hp => ?_⟩
    generalize e_p : upd H p _ = H1
    have s_p := new_same e_p hp
    have h_p := new_at e_p
    exact ⟨p, da, es, rfl, h_p, s_p _ _ hda.1, hda.2.1, hda.2.len, fun H' l ts es' s hl0 hl ht hperm hsort => k H' l ts es' (s_p.trans s) (s_p.free hl0) hl ht hperm hsort⟩
theorem sc_FormSet_repr : FnScope ["self"] ["self"] (defScope s_FormSet_repr) := ⟨rfl, rfl, rfl, by decide +kernel, rfl, by decide +kernel, by decide +kernel⟩
theorem ok_FormSet_repr {f : Addr} {fd : FuncData} (F : Fun K "__repr__" "FormSet.__repr__" s_FormSet_repr f fd) (T : Txt K mg C_FormSet C_FormDict C_BadElement C_BadKey C_BadRow)
    (D_FormSet_members : Mt P w K mg base C_FormSet "members" 1 ["self"] (spMemF C_FormSet))
    : FnG P w K mg base CX0 2 f fd ["self"] (spReprS C_FormSet) := by
  refine okG F sc_FormSet_repr (fun vs H Q E h => ?_) (fun cdv A outer s H vs Q E hg hr h => ?_)
  · obtain ⟨U, a, es, rfl, _⟩ := h; rfl
  · obtain ⟨U, a, es, rfl, hA, hV, hl, k⟩ := h
    have hu := hu_of hr
    have hu64 := hr.units
    refine ⟨_, (pss_one (ps_ret (pe_joined (.cons pe_str (.cons (pe_fmtD hg hu64 (pe_mt0 D_FormSet_members (hr.mono (by decide)) T.cl_FormSet (pv 0))) (.cons pe_str .nil)))))), ?_⟩
    have hA2 := hA
    obtain ⟨dxa, da, ha, hd⟩ := hA2
    refine ⟨_, rfl, (by decide +kernel), _, rfl, a, _, _, rfl, ha, rfl, U, a, _, rfl, hA, fun H1 l ts es' s1 hl0 hl1 ht hp hs => ?_⟩
    have hV' := hV.perm hp
    have pl := hp.length_eq
    have ok := okP_tups hV' (by omega)
    have len := shownE_len hV' (by omega)
    refine ⟨l, .list (es'.map tupD), rfl, .lst (SqL.of hl1) (tupS_dp ht), ok.1, Nat.le_trans ok.2.2.2.1 (by decide), fit5 (Nat.le_trans len (by decide)), shownE es', rfl, ?_, _, rfl, ?_, ?_⟩
    · rw [empty_app, app_len]
      exact fit5 (by have : ("FormSet(" : Str).length = 8 := rfl; omega)
    · rw [empty_app, app_len, app_len]
      exact fit5 (by have : ("FormSet(" : Str).length = 8 := rfl; have : (")" : Str).length = 1 := rfl; omega)
    · rw [empty_app]
      exact k H1 es' s1 hp hs
theorem sc_p_rows_of : FnScope ["given", "rows", "item", "key", "form", "value", "first"] ["given"] (defScope s_p_rows_of) := ⟨rfl, rfl, rfl, by decide +kernel, rfl, by decide +kernel, by decide +kernel⟩
theorem ok_p_rows_of {f : Addr} {fd : FuncData} (F : Fun K "_rows_of" "_rows_of" s_p_rows_of f fd) (T : Txt K mg C_FormSet C_FormDict C_BadElement C_BadKey C_BadRow)
    (D_is_entry : Fn P w K mg base 3 "is_entry" ["thing"] (spIs K mEnt))
    : FnOk P w K mg base CX0 4 f fd ["given"] (spRowsOf K) := by
  refine F.ok sc_p_rows_of (fun vs H Q E h => ?_) (fun cdv A outer s H vs Q E hr h => ?_)
  · obtain ⟨a, xs, l, rfl, _⟩ := h; rfl
  · obtain ⟨a, xs, l, rfl, ha, he, hl, k⟩ := h
    have hu := hu_of hr
    have hu64 := hr.units
    refine ⟨_, (pss_cons (ps_if (pt_not (pt_val (pe_callB call_isiT (by rfl) T.n_isinstance (by decide +kernel) (pa_cons (pv 0) (pa_cons (pe_tup (pa_cons (pe_bltn (v := .ty "list") (u := .type "list") (by rfl) T.n_list (by decide +kernel) rfl) (pa_cons (pe_bltn (v := .ty "tuple") (u := .type "tuple") (by rfl) T.n_tuple (by decide +kernel) rfl) pa_nil))) pa_nil)))))
    (pss_one ps_never)
    pss_nil)
  (pss_cons (ps_set (i := 1) sc_p_rows_of.nd rfl (Or.inl rfl) pe_dnewK)
  (pss_cons (ps_for PassesOwn.never rfl (pi_or (pi_list (pv 0)) (pi_tup (pv 0))) (pg_name (i := 2) sc_p_rows_of.nd rfl (Or.inl rfl))
    (pss_cons (ps_if (pt_not (pt_val (pe_fn D_is_entry (hr.mono (by decide)) rfl (pa_cons (pv 2) pa_nil))))
        (pss_one ps_never)
        pss_nil)
      (pss_cons (ps_asg (pv 2) (pg_tup rfl (pgs_cons (pg_name (i := 3) sc_p_rows_of.nd rfl (Or.inl rfl)) (pgs_cons (pg_name (i := 4) sc_p_rows_of.nd rfl (Or.inl rfl)) (pgs_cons (pg_name (i := 5) sc_p_rows_of.nd rfl (Or.inl rfl)) pgs_nil)))))
      (pss_cons (ps_set (i := 6) sc_p_rows_of.nd rfl (Or.inl rfl) (pe_ifExp (pt_cmp (pc_din hu (pv 3) (pv 1))) (pe_ix ix_tup (pe_dget hu (pv 1) (pv 3) (fun _ _ => rfl)) pe_int (fun _ _ => rfl)) (pv 4)))
      (pss_one (ps_dput hu (pv 1) (pv 3) (pe_tup (pa_cons (pv 6) (pa_cons (pv 5) pa_nil))) rfl))))))
  (pss_one (ps_ret (pv 1)))))), ?_⟩
    refine ⟨_, rfl, size_ok (by simp), fun tp htp => ?_⟩
    generalize e_tp : upd H tp _ = H1
    have s_tp := new_same e_tp htp
    have h_tp := new_at e_tp
    have ha1 : H1 a = some (.lst xs) ∨ SqT K H1 a xs := ha.imp (fun e => s_tp _ _ e) (sqT_same s_tp)
    obtain ⟨ty, hty, hk⟩ := lt_ty ha1
    refine ⟨_, _, _, _, _, _, rfl, h_tp, .cons (.ty _) (.cons (.ty _) .nil), hty, hk, _, rfl, iteF ?_⟩
    intro p hp
    generalize e_p : upd H1 p _ = H2
    have s_p := new_same e_p hp
    have h_p := new_at e_p
    have he2 := (he.same s_tp).same s_p
    have hn : ∀ {t : Addr} {ys : List V} {H' : Hp}, Ext p H2 H' → SqT K H2 t ys → SqT K H' t ys := fun x h => sqT_chg2 h_p (fun _ z => nomatch z) (fun _ _ z => nomatch z) x h
    refine for_either (a := a) (xs := xs) (L := Ext p H2) (fun Q q => ⟨_, rfl, q⟩) ?_
      (fun i σ H' => ∃ v2 v3 v4 v5 v6 es, σ = [some (.ref a), some (.ref p), v2, v3, v4, v5, v6] ∧ Ext p H2 H' ∧ H' p = some (.dK (entsV es)) ∧ Rws K H' es (laidA [] (l.take i))) ?_ ?_ ?_ ?_
    · rcases ha1 with q | q
      · exact .inl fun H' x => .inl (.inl (x _ _ (ne_of_none q hp) (s_p _ _ q)))
      · exact .inr fun H' x => hn x (sqT_same s_p q)
    · exact ⟨_, _, _, _, _, [], rfl, fun _ _ _ e => e, h_p, by rw [List.take_zero]; exact .nil⟩
    · rintro i σ H' hi ⟨v2, v3, v4, v5, v6, es, rfl, x, _⟩
      exact x
    · rintro i v σ H' hv ⟨v2, v3, v4, v5, v6, es, rfl, x, hd, hr⟩
      obtain ⟨t, n, y, m, rfl, e1, ht, ok⟩ := he2.at hv
      have ht2 := hn x ht
      refine ⟨_, rfl, _, _, rfl, row_dx ht2, row_sm ok, fun H3 s3 => ?_⟩
      have hd3 := s3 _ _ hd
      have hr3 := hr.same s3
      rw [row_ok ok]
      refine ⟨_, rfl, iteF ?_⟩
      refine ⟨_, rfl, t, _, rfl, sqT_same s3 ht2, rfl, _, _, rfl, _, _, rfl, _, _, rfl, rfl, ?_⟩
      have x3 : Ext p H2 H3 := x.trans (Ext.of s3)
      have lt : (entsV es).length < sizeLine := by
        rw [entsV_len, hr3.len]
        have h1 := laid_len (l.take i) []
        rw [List.length_take, List.length_nil] at h1
        exact small1000 (by omega)
      refine ⟨_, rfl, _, rfl, p, _, rfl, .inl ⟨_, .inl n, .inl hd3, rfl, rfl⟩, ?_⟩
      have fin : ∀ (f : Str) (tt : Addr), over1 (lk (laidA [] (l.take i)) n) (y, m) = (f, m) → H3 tt = none →
          Ext p H2 (upd (upd H3 tt (.tup [.str f, .int m])) p (.dK (putK (entsV es) (.inl n) (.ref tt)))) ∧
          Rws K (upd (upd H3 tt (.tup [.str f, .int m])) p (.dK (putK (entsV es) (.inl n) (.ref tt)))) (putA es n (.ref tt)) (laidA [] (l.take (i + 1))) := by
        intro f tt e htt
        refine ⟨x3.trans (ext_put hd3 htt), ?_⟩
        rw [laid_take e1, e]
        exact rows_put hd3 hr3 htt
      rcases hr3.lk n with ⟨h1, h2⟩ | ⟨t0, y0, m0, h1, h2, h3⟩
      · rw [valV_entsV, h1]
        refine ⟨_, rfl, iteF ⟨_, rfl, ?_⟩⟩
        refine ⟨_, rfl, _, rfl, size_ok (by simp), fun tt htt => ?_⟩
        obtain ⟨f1, f2⟩ := fin y tt (by rw [h2]; rfl) htt
        exact ⟨_, rfl, _, rfl, p, _, rfl, .inl ⟨_, .inl n, (upd_ne (ne_of_none hd3 htt)).trans hd3, rfl, lt, rfl⟩, _, _, _, _, _, _, rfl, f1, by rw [upd_same, put_entsV], f2⟩
      · rw [valV_entsV, h1]
        refine ⟨_, rfl, iteT ⟨_, rfl, _, rfl, p, .ref t0, rfl, .inl ⟨_, .inl n, .inl hd3, rfl, by rw [valV_entsV, h1]⟩, t0, _, _, .str y0, rfl, rfl, h3, rfl, ?_⟩⟩
        refine ⟨_, rfl, _, rfl, size_ok (by simp), fun tt htt => ?_⟩
        obtain ⟨f1, f2⟩ := fin y0 tt (by rw [h2]; rfl) htt
        exact ⟨_, rfl, _, rfl, p, _, rfl, .inl ⟨_, .inl n, (upd_ne (ne_of_none hd3 htt)).trans hd3, rfl, lt, rfl⟩, _, _, _, _, _, _, rfl, f1, by rw [upd_same, put_entsV], f2⟩
    · rintro σ H' ⟨v2, v3, v4, v5, v6, es, rfl, x, hd, hr⟩
      rw [he2.len, List.take_length] at hr
      refine ⟨_, rfl, k p H' es ?_ hd hr⟩
      intro b o e
      have e2 := s_p _ _ (s_tp _ _ e)
      exact x b o (ne_of_none (s_tp _ _ e) hp) e2
theorem okX_p_rows_of {f : Addr} {fd : FuncData} (F : Fun K "_rows_of" "_rows_of" s_p_rows_of f fd) (T : Txt K mg C_FormSet C_FormDict C_BadElement C_BadKey C_BadRow) (D_is_entry : Fn P w K mg base 3 "is_entry" ["thing"] (spIs K mEnt)) (D_BadElement_init : Xc P w K mg base C_BadElement 1 ["self", "value"] (spInit1 K "value"))
    : FnOk P w K mg base (L2.CX P w) 4 f fd ["given"] (spOdd K C_BadElement (preD K) mEnt) := by
  refine F.okX sc_p_rows_of (fun vs H Q E h => ?_) (fun cdv A outer s H vs Q E hr h => ?_)
  · obtain ⟨v, u, d, rfl, _⟩ := h; rfl
  · obtain ⟨v, u, d, rfl, hv, k⟩ := h
    have hu := hu_of hr
    have hu64 := hr.units
    refine ⟨_, (pss_cons (ps_if (pt_not (pt_val (pe_callB call_isiT (by rfl) T.n_isinstance (by decide +kernel) (pa_cons (pv 0) (pa_cons (pe_tup (pa_cons (pe_bltn (v := .ty "list") (u := .type "list") (by rfl) T.n_list (by decide +kernel) rfl) (pa_cons (pe_bltn (v := .ty "tuple") (u := .type "tuple") (by rfl) T.n_tuple (by decide +kernel) rfl) pa_nil))) pa_nil)))))
    (pss_one (ps_raise rfl (takes_of rfl rfl rfl rfl) (mk_xc D_BadElement_init (hr.mono (by decide)) (by rfl) T.g_BadElement (pa_cons (pv 0) pa_nil))))
    pss_nil)
  (pss_cons (ps_set (i := 1) sc_p_rows_of.nd rfl (Or.inl rfl) pe_dnewK)
  (pss_cons (ps_for (passes_of rfl) rfl (pi_or (pi_list (pv 0)) (pi_tup (pv 0))) (pg_name (i := 2) sc_p_rows_of.nd rfl (Or.inl rfl))
    (pss_cons (ps_if (pt_not (pt_val (pe_fn D_is_entry (hr.mono (by decide)) rfl (pa_cons (pv 2) pa_nil))))
        (pss_one (ps_raise rfl (takes_of rfl rfl rfl rfl) (mk_xc D_BadElement_init (hr.mono (by decide)) (by rfl) T.g_BadElement (pa_cons (pv 2) pa_nil))))
        pss_nil)
      (pss_cons (ps_asg (pv 2) (pg_tup rfl (pgs_cons (pg_name (i := 3) sc_p_rows_of.nd rfl (Or.inl rfl)) (pgs_cons (pg_name (i := 4) sc_p_rows_of.nd rfl (Or.inl rfl)) (pgs_cons (pg_name (i := 5) sc_p_rows_of.nd rfl (Or.inl rfl)) pgs_nil)))))
      (pss_cons (ps_set (i := 6) sc_p_rows_of.nd rfl (Or.inl rfl) (pe_ifExp (pt_cmp (pc_din hu (pv 3) (pv 1))) (pe_ix ix_tup (pe_dget hu (pv 1) (pv 3) (fun _ _ => rfl)) pe_int (fun _ _ => rfl)) (pv 4)))
      (pss_one (ps_dput hu (pv 1) (pv 3) (pe_tup (pa_cons (pv 6) (pa_cons (pv 5) pa_nil))) rfl))))))
  (pss_one (ps_ret (pv 1)))))), ?_⟩
    refine ⟨_, rfl, size_ok (by simp), fun tp htp => ?_⟩
    generalize e_tp : upd H tp _ = H1
    have s_tp := new_same e_tp htp
    have h_tp := new_at e_tp
    cases hv with
    | other hd hs ht =>
      refine ⟨_, _, _, _, _, _, rfl, h_tp, .cons (.ty _) (.cons (.ty _) .nil), ty_of (hd.same s_tp), ht, _, rfl, iteT ⟨_, rfl, ?_⟩⟩
      exact mkO_one T.ox_BadElement T.nv_BadElement fun e G s2 he hG => k e G (s_tp.trans s2) (s_tp.free he) hG
    | @item a xs ys zs u d h0 e hp hl hd hs hm =>
    obtain ⟨l, he⟩ := hp
    have ha1 : H1 a = some (.lst xs) ∨ SqT K H1 a xs := h0.imp (fun e => s_tp _ _ e) (sqT_same s_tp)
    obtain ⟨ty, hty, hk⟩ := lt_ty ha1
    refine ⟨_, _, _, _, _, _, rfl, h_tp, .cons (.ty _) (.cons (.ty _) .nil), hty, hk, _, rfl, iteF ?_⟩
    intro p hp
    generalize e_p : upd H1 p _ = H2
    have s_p := new_same e_p hp
    have h_p := new_at e_p
    have he2 := (he.same s_tp).same s_p
    have hd1 := hd.same s_tp
    have len := he2.len
    have s1 : ∀ {H'}, Ext p H2 H' → Same H1 H' := fun x b o e => x b o (ne_of_none e hp) (s_p _ _ e)
    have hn : ∀ {t : Addr} {ys : List V} {H' : Hp}, Ext p H2 H' → SqT K H2 t ys → SqT K H' t ys := fun x h => sqT_chg2 h_p (fun _ z => nomatch z) (fun _ _ z => nomatch z) x h
    refine for_either (a := a) (xs := xs) (L := Ext p H2) (fun Q q => ⟨_, rfl, q⟩) ?_
      (fun i σ H' => i ≤ ys.length ∧ ∃ v2 v3 v4 v5 v6 es, σ = [some (.ref a), some (.ref p), v2, v3, v4, v5, v6] ∧ Ext p H2 H' ∧ H' p = some (.dK (entsV es)) ∧ Rws K H' es (laidA [] (l.take i))) ?_ ?_ ?_ ?_
    · rcases ha1 with q | q
      · exact .inl fun H' x => .inl (.inl (x _ _ (ne_of_none q hp) (s_p _ _ q)))
      · exact .inr fun H' x => hn x (sqT_same s_p q)
    · exact ⟨Nat.zero_le _, _, _, _, _, _, [], rfl, fun _ _ _ e => e, h_p, by rw [List.take_zero]; exact .nil⟩
    · rintro i σ H' hi ⟨_, v2, v3, v4, v5, v6, es, rfl, x, _⟩
      exact x
    · rintro i v σ H' hv ⟨hle, v2, v3, v4, v5, v6, es, rfl, x, hd9, hr9⟩
      by_cases hi : i < ys.length
      · have hv' : ys[i]? = some v := by rw [e, List.getElem?_append_left hi] at hv; exact hv
        obtain ⟨t, n, y, m, rfl, e1, ht, ok⟩ := he2.at hv'
        have ht2 := hn x ht
        refine ⟨_, rfl, _, _, rfl, row_dx ht2, row_sm ok, fun H3 s3 => ?_⟩
        have hd3 := s3 _ _ hd9
        have hr3 := hr9.same s3
        rw [row_ok ok]
        refine ⟨_, rfl, iteF ?_⟩
        refine ⟨_, rfl, t, _, rfl, sqT_same s3 ht2, rfl, _, _, rfl, _, _, rfl, _, _, rfl, rfl, ?_⟩
        have x3 : Ext p H2 H3 := x.trans (Ext.of s3)
        have lt : (entsV es).length < sizeLine := by
          rw [entsV_len, hr3.len]
          have h1 := laid_len (l.take i) []
          rw [List.length_take, List.length_nil] at h1
          exact small1000 (by omega)
        refine ⟨_, rfl, _, rfl, p, _, rfl, .inl ⟨_, .inl n, .inl hd3, rfl, rfl⟩, ?_⟩
        have fin : ∀ (f : Str) (tt : Addr), over1 (lk (laidA [] (l.take i)) n) (y, m) = (f, m) → H3 tt = none →
            Ext p H2 (upd (upd H3 tt (.tup [.str f, .int m])) p (.dK (putK (entsV es) (.inl n) (.ref tt)))) ∧
            Rws K (upd (upd H3 tt (.tup [.str f, .int m])) p (.dK (putK (entsV es) (.inl n) (.ref tt)))) (putA es n (.ref tt)) (laidA [] (l.take (i + 1))) := by
          intro f tt e htt
          refine ⟨x3.trans (ext_put hd3 htt), ?_⟩
          rw [laid_take e1, e]
          exact rows_put hd3 hr3 htt
        rcases hr3.lk n with ⟨h1, h2⟩ | ⟨t0, y0, m0, h1, h2, h3⟩
        · rw [valV_entsV, h1]
          refine ⟨_, rfl, iteF ⟨_, rfl, ?_⟩⟩
          refine ⟨_, rfl, _, rfl, size_ok (by simp), fun tt htt => ?_⟩
          obtain ⟨f1, f2⟩ := fin y tt (by rw [h2]; rfl) htt
          exact ⟨_, rfl, _, rfl, p, _, rfl, .inl ⟨_, .inl n, (upd_ne (ne_of_none hd3 htt)).trans hd3, rfl, lt, rfl⟩, hi, _, _, _, _, _, _, rfl, f1, by rw [upd_same, put_entsV], f2⟩
        · rw [valV_entsV, h1]
          refine ⟨_, rfl, iteT ⟨_, rfl, _, rfl, p, .ref t0, rfl, .inl ⟨_, .inl n, .inl hd3, rfl, by rw [valV_entsV, h1]⟩, t0, _, _, .str y0, rfl, rfl, h3, rfl, ?_⟩⟩
          refine ⟨_, rfl, _, rfl, size_ok (by simp), fun tt htt => ?_⟩
          obtain ⟨f1, f2⟩ := fin y0 tt (by rw [h2]; rfl) htt
          exact ⟨_, rfl, _, rfl, p, _, rfl, .inl ⟨_, .inl n, (upd_ne (ne_of_none hd3 htt)).trans hd3, rfl, lt, rfl⟩, hi, _, _, _, _, _, _, rfl, f1, by rw [upd_same, put_entsV], f2⟩
      · have hi2 : i = ys.length := by omega
        have hv' : v = u := by
          rw [e, hi2, List.getElem?_append_right (Nat.le_refl _), Nat.sub_self] at hv
          exact (Option.some.inj hv).symm
        subst hv'
        refine ⟨_, rfl, _, _, rfl, hd1.same (s1 x), hs, fun H3 s3 => ?_⟩
        rw [hm]
        refine ⟨_, rfl, iteT ⟨_, rfl, ?_⟩⟩
        have sH : Same H H3 := fun b o e => s3 _ _ (s1 x b o (s_tp _ _ e))
        exact mkO_one T.ox_BadElement T.nv_BadElement fun e G s2 he hG => k e G (sH.trans s2) (sH.free he) hG
    · rintro σ H' ⟨hle, _⟩
      exfalso
      rw [e, List.length_append, List.length_cons] at hle
      omega

theorem sc_FormDict_init : FnScope ["self", "given"] ["self", "given"] (defScope s_FormDict_init) := ⟨rfl, rfl, rfl, by decide +kernel, rfl, by decide +kernel, by decide +kernel⟩
theorem ok_FormDict_init {f : Addr} {fd : FuncData} {dV : Value} (F : FunV K "__init__" "FormDict.__init__" s_FormDict_init dV f fd) (T : Txt K mg C_FormSet C_FormDict C_BadElement C_BadKey C_BadRow)
    (D_p_rows_of : Fn P w K mg base 4 "_rows_of" ["given"] (spRowsOf K))
    : FnOk P w K mg base CX0 5 f fd ["self", "given"] (spInitD K C_FormDict) := by
  refine F.ok sc_FormDict_init (fun vs H Q E h => ?_) (fun cdv A outer s H vs Q E hr h => ?_)
  · obtain ⟨x, dx, a, xs, l, rfl, _⟩ := h; rfl
  · obtain ⟨x, dx, a, xs, l, rfl, hx, ha, he, hl, k⟩ := h
    have hu := hu_of hr
    have hu64 := hr.units
    refine ⟨_, (pss_one (ps_fld (pv 0) (pe_fn D_p_rows_of (hr.mono (by decide)) rfl (pa_cons (pv 1) pa_nil)) rfl)), ?_⟩
    refine ⟨_, rfl, a, xs, l, rfl, ha, he, hl, fun d H' es s hd hr => ⟨_, rfl, x, C_FormDict, dx, [], rfl, s _ _ hx, T.cl_FormDict, T.nR, by decide, ?_⟩⟩
    have hdx : d ≠ x := fun e => by rw [e, s _ _ hx] at hd; cases hd
    refine k d _ es ?_ upd_same ((upd_ne hdx).trans hd) (hr.chg2 (s _ _ hx) (fun _ z => nomatch z) (fun _ _ z => nomatch z) fun b o nb e => (upd_ne nb).trans e)
    intro b o e
    by_cases hb : b = x
    · subst hb
      unfold del at e
      rw [if_pos rfl] at e
      cases e
    · rw [del_at hb] at e ⊢
      exact (upd_ne hb).trans (s _ _ e)
theorem okX_FormDict_init {f : Addr} {fd : FuncData} {dV : Value} (F : FunV K "__init__" "FormDict.__init__" s_FormDict_init dV f fd) (T : Txt K mg C_FormSet C_FormDict C_BadElement C_BadKey C_BadRow) (DX_p_rows_of : FnX P w K mg base 4 "_rows_of" ["given"] (spOdd K C_BadElement (preD K) mEnt))
    : FnOk P w K mg base (L2.CX P w) 5 f fd ["self", "given"] (spOddI K C_FormDict C_BadElement (preD K) mEnt) := by
  refine FunV.okX F sc_FormDict_init (fun vs H Q E h => ?_) (fun cdv A outer s H vs Q E hr h => ?_)
  · obtain ⟨x, dx, v, u, d, rfl, _⟩ := h; rfl
  · obtain ⟨x, dx, v, u, d, rfl, hx, hv, k⟩ := h
    refine ⟨_, (pss_one (ps_fld (pv 0) (pe_fnX DX_p_rows_of (hr.mono (by decide)) rfl (L2.passes_call (takes_of rfl rfl rfl rfl) (fun _ _ _ _ z => z)) (pa_cons (pv 1) pa_nil)) rfl)), ?_⟩
    exact ⟨_, rfl, v, u, d, rfl, hv, k⟩

theorem sc_FormDict_len : FnScope ["self"] ["self"] (defScope s_FormDict_len) := ⟨rfl, rfl, rfl, by decide +kernel, rfl, by decide +kernel, by decide +kernel⟩
theorem ok_FormDict_len {f : Addr} {fd : FuncData} (F : Fun K "__len__" "FormDict.__len__" s_FormDict_len f fd) (T : Txt K mg C_FormSet C_FormDict C_BadElement C_BadKey C_BadRow)
    : FnOk P w K mg base CX0 1 f fd ["self"] (spLenD K C_FormDict) := by
  refine F.ok sc_FormDict_len (fun vs H Q E h => ?_) (fun cdv A outer s H vs Q E hr h => ?_)
  · obtain ⟨U, a, rs, rfl, _⟩ := h; rfl
  · obtain ⟨U, a, rs, rfl, ⟨dxa, da, ha, ⟨es, hd, hrw, hg⟩, hv⟩, k⟩ := h
    have hu := hu_of hr
    have hu64 := hr.units
    refine ⟨_, (pss_one (ps_ret (pe_callB call_lenD (by rfl) T.n_len PySem.boot_len (pa_cons (pe_fld (pv 0) rfl) pa_nil)))), ?_⟩
    refine ⟨_, rfl, a, _, _, _, _, rfl, ha, T.cl_FormDict, T.nR, rfl, da, _, rfl, hd, ?_⟩
    rw [entsV_len, hrw.len]
    exact k
theorem sc_FormDict_entries : FnScope ["self", "key", "form", "value"] ["self"] (defScope s_FormDict_entries) := ⟨rfl, rfl, rfl, by decide +kernel, rfl, by decide +kernel, by decide +kernel⟩
theorem ok_FormDict_entries {f : Addr} {fd : FuncData} (F : Fun K "entries" "FormDict.entries" s_FormDict_entries f fd) (T : Txt K mg C_FormSet C_FormDict C_BadElement C_BadKey C_BadRow)
    : FnOk P w K mg base CX0 1 f fd ["self"] (spEntF K C_FormDict) := by
  refine F.ok sc_FormDict_entries (fun vs H Q E h => ?_) (fun cdv A outer s H vs Q E hr h => ?_)
  · obtain ⟨U, a, rs, rfl, _⟩ := h; rfl
  · obtain ⟨U, a, rs, rfl, ⟨dxa, da, ha, ⟨es, hd, hrw, hg⟩, hv⟩, k⟩ := h
    have hu := hu_of hr
    have hu64 := hr.units
    refine ⟨_, (pss_one (ps_ret (pe_lc (own := [("key", 1), ("form", 2), ("value", 3)]) (g := gTup K 2 (gCons (gName 1) (gCons (gTup K 2 (gCons (gName 2) (gCons (gName 3) gNil))) gNil))) (tt := tYes) rfl sc_FormDict_entries.nd (pi_list (pe_callB (cr_sortedV rfl) (by rfl) T.n_sorted (by decide +kernel) (pa_cons (pe_bm0 PySem.F.plainAttrs_dict PySem.F.slot_dict_items PySem.F.type_dict_items mt_itemsK (pe_fld (pv 0) rfl)) pa_nil))) (blkOk_by (own := [("key", 1), ("form", 2), ("value", 3)]) (N := ["self", "key", "form", "value"]) (sc := defScope s_FormDict_entries) (by decide +kernel)) (fun _ _ _ _ _ => (pg_tup rfl (pgs_cons (pg_name (i := 1) sc_FormDict_entries.nd rfl (Or.inl rfl)) (pgs_cons (pg_tup rfl (pgs_cons (pg_name (i := 2) sc_FormDict_entries.nd rfl (Or.inl rfl)) (pgs_cons (pg_name (i := 3) sc_FormDict_entries.nd rfl (Or.inl rfl)) pgs_nil))) pgs_nil)))) (fun _ _ _ _ _ => pts_nil) (fun _ _ _ _ _ => (pe_tup (pa_cons (pv 1) (pa_cons (pv 2) (pa_cons (pv 3) pa_nil)))))))), ?_⟩
    refine ⟨_, rfl, a, _, _, _, _, rfl, ha, T.cl_FormDict, T.nR, rfl, .inr (.inr (.inl ⟨rfl, .inl ⟨_, hd⟩⟩)), ?_⟩
    refine ⟨da, _, rfl, rfl, hd, fun p hp => ?_⟩
    generalize e_p : upd H p _ = H1
    have s_p := new_same e_p hp
    have h_p := new_at e_p
    have hge : Gd U es := hg.of_ks hrw.ks
    refine ⟨p, da, es, rfl, h_p, s_p _ _ hd, hge.1, hge.len, fun H2 l ts es' s2 hl ht hperm hsort => ?_⟩
    obtain ⟨rs', hr', hp', hk'⟩ := rows_perm ((hrw.same s_p).same s2) hge.1 hperm
    refine ⟨l, rfl, ⟨_, SqL.of hl⟩, fun D hD => ?_⟩
    refine lc_list (xs := ts) (fun i H' => ∃ t2, Ext D H2 H' ∧ H' D = some (.lst t2) ∧ t2.length = i ∧ Tup3 H' t2 (rs'.take i)) ?_ ?_ ?_ ?_
    · exact ⟨[], fun b o n e => (upd_ne n).trans e, upd_same, rfl, by rw [List.take_zero]; exact .nil⟩
    · rintro i H' hi ⟨t2, x, _, _, _⟩
      exact SqL.of (x _ _ (ne_of_none hl hD) hl)
    · rintro i v H' hv2 ⟨t2, x, hD2, hlen, hT⟩
      obtain ⟨t, n, w, rfl, e1, ht1⟩ := ht.at hv2
      obtain ⟨u, y, m, rfl, e2, hu1⟩ := hr'.at e1
      have htH := x _ _ (ne_of_none ht1 hD) ht1
      have huH := sqT_ext hD x hu1
      refine ⟨t, _, rfl, .inl (.inl htH), rfl, _, _, rfl, _, _, rfl, u, _, rfl, huH, rfl, _, _, rfl, _, _, rfl, rfl, rfl, rfl, ?_⟩
      refine ⟨_, rfl, _, rfl, _, rfl, size_ok (by simp), fun q hq => ?_⟩
      have nt : D ≠ q := ne_of_none hD2 hq
      have hD3 : upd H' q (.tup [.int n, .str y, .int m]) D = some (.lst t2) := (upd_ne nt).trans hD2
      refine ⟨t2, hD3, ?_, t2 ++ [.ref q], ?_, upd_same, by rw [List.length_append, hlen]; rfl, ?_⟩
      · have q1 := (List.getElem?_eq_some_iff.mp hv2).1
        have q2 := ht.len
        have q3 := hperm.length_eq
        have q4 := hge.len
        exact small1000 (by omega)
      · exact fun b o n1 e2 => (upd_ne n1).trans (same_new hq _ _ (x b o n1 e2))
      · rw [take_one e2]
        have ex2 : Ext D (upd H' q (.tup [.int n, .str y, .int m])) (upd (upd H' q (.tup [.int n, .str y, .int m])) D (.lst (t2 ++ [.ref q]))) := fun b o n1 e2 => (upd_ne n1).trans e2
        exact Tup3.app ((upd_ne (Ne.symm nt)).trans upd_same) (Tup3.chg hD3 ex2 (hT.same (same_new hq)))
    · rintro H' ⟨t2, x, hD2, hlen, hT⟩
      have eL : ts.length = rs'.length := by rw [ht.len, hr'.len]
      rw [eL, List.take_length] at hT
      have s2' : Same H2 H' := fun b o e => x b o (ne_of_none e hD) e
      exact k H' D t2 rs' ((s_p.trans s2).trans s2') ((s_p.trans s2).free hD) hD2 hT hp' (sorted_ks hk' hsort)
theorem sc_FormDict_repr : FnScope ["self"] ["self"] (defScope s_FormDict_repr) := ⟨rfl, rfl, rfl, by decide +kernel, rfl, by decide +kernel, by decide +kernel⟩
theorem ok_FormDict_repr {f : Addr} {fd : FuncData} (F : Fun K "__repr__" "FormDict.__repr__" s_FormDict_repr f fd) (T : Txt K mg C_FormSet C_FormDict C_BadElement C_BadKey C_BadRow)
    (D_FormDict_entries : Mt P w K mg base C_FormDict "entries" 1 ["self"] (spEntF K C_FormDict))
    : FnG P w K mg base CX0 2 f fd ["self"] (spReprD K C_FormDict) := by
  refine okG F sc_FormDict_repr (fun vs H Q E h => ?_) (fun cdv A outer s H vs Q E hg hr h => ?_)
  · obtain ⟨U, a, rs, rfl, _⟩ := h; rfl
  · obtain ⟨U, a, rs, rfl, hA, hl, k⟩ := h
    have hu := hu_of hr
    have hu64 := hr.units
    refine ⟨_, (pss_one (ps_ret (pe_joined (.cons pe_str (.cons (pe_fmtD hg hu64 (pe_mt0 D_FormDict_entries (hr.mono (by decide)) T.cl_FormDict (pv 0))) (.cons pe_str .nil)))))), ?_⟩
    have hA2 := hA
    obtain ⟨dxa, da, ha, ⟨es, hd, hrw, hg⟩, hv⟩ := hA2
    refine ⟨_, rfl, (by decide +kernel), _, rfl, a, _, _, rfl, ha, rfl, U, a, _, rfl, hA, fun H1 l ts L s1 hl0 hl1 ht hp hs => ?_⟩
    have hV' := hv.perm hp
    have pl := hp.length_eq
    have ok := okP_ents hV' (by omega)
    have len := shownR_len hV' (by omega)
    refine ⟨l, .list (L.map ent3), rfl, .lst (SqL.of hl1) (tup3_dp ht), ok.1, Nat.le_trans ok.2.2.2.1 (by decide), fit5 (Nat.le_trans len (by decide)), shownR L, rfl, ?_, _, rfl, ?_, ?_⟩
    · rw [empty_app, app_len]
      exact fit5 (by have : ("FormDict(" : Str).length = 9 := rfl; omega)
    · rw [empty_app, app_len, app_len]
      exact fit5 (by have : ("FormDict(" : Str).length = 9 := rfl; have : (")" : Str).length = 1 := rfl; omega)
    · rw [empty_app]
      exact k H1 L s1 hp hs
theorem sc_FormSet_with_element : FnScope ["self", "element"] ["self", "element"] (defScope s_FormSet_with_element) := ⟨rfl, rfl, rfl, by decide +kernel, rfl, by decide +kernel, by decide +kernel⟩
theorem okX_FormSet_with_element {f : Addr} {fd : FuncData} (F : Fun K "with_element" "FormSet.with_element" s_FormSet_with_element f fd) (T : Txt K mg C_FormSet C_FormDict C_BadElement C_BadKey C_BadRow) (DX_FormSet_init : MkX P w K mg base C_FormSet 5 ["self", "given"] (spOddI K C_FormSet C_BadElement (preS K) mEl))
    : FnOk P w K mg base (L2.CX P w) 7 f fd ["self", "element"] (spOddE K C_BadElement) := by
  refine F.okX sc_FormSet_with_element (fun vs H Q E h => ?_) (fun cdv A outer s H vs Q E hr h => ?_)
  · obtain ⟨a, u, d, rfl, _⟩ := h; rfl
  · obtain ⟨a, u, d, rfl, hd, hs, hm, k⟩ := h
    refine ⟨_, pss_one (ps_ret (pe_op (op_nvr (α := Nat)) (pv 0) (pe_mkX DX_FormSet_init (hr.mono (by decide)) rfl T.g_FormSet (L2.passes_call (takes_of rfl rfl rfl rfl) (fun _ _ _ _ z => z)) (pa_cons (pe_lst (pa_cons (pv 1) pa_nil)) pa_nil)))), ?_⟩
    refine ⟨_, rfl, _, rfl, size_ok (by simp), fun p hp => ?_⟩
    generalize e_p : upd H p _ = H1
    have s_p := new_same e_p hp
    have h_p := new_at e_p
    intro x dx hx hdx hne
    have s1 : Same H1 (upd (upd H1 dx (.own x)) x (.ins C_FormSet dx [])) := fun b o e => (upd_ne (ne_of_none e hx)).trans ((upd_ne (ne_of_none e hdx)).trans e)
    refine ⟨x, dx, .ref p, u, d, rfl, upd_same, .item (ys := []) (.inl (s1 _ _ h_p)) rfl ⟨[], .nil⟩ (by decide) ((hd.same s_p).same s1) hs hm, fun e H' s' he hH => ?_⟩
    exact k e H' ((s_p.trans s1).trans s') ((s_p.trans s1).free he) hH

theorem sc_FormDict_with_entry : FnScope ["self", "key", "form", "value", "replace", "one"] ["self", "key", "form", "value", "replace"] (defScope s_FormDict_with_entry) := ⟨rfl, rfl, rfl, by decide +kernel, rfl, by decide +kernel, by decide +kernel⟩
theorem okX_FormDict_with_entry {f : Addr} {fd : FuncData} (F : FunD K "with_entry" "FormDict.with_entry" (defArgs s_FormDict_with_entry) (defBody s_FormDict_with_entry) (defScope s_FormDict_with_entry) [] [("replace", V.bl true)] f fd) (T : Txt K mg C_FormSet C_FormDict C_BadElement C_BadKey C_BadRow) (DX_FormDict_init : MkX P w K mg base C_FormDict 5 ["self", "given"] (spOddI K C_FormDict C_BadElement (preD K) mEnt))
    : FnOk P w K mg base (L2.CX P w) 7 f fd ["self", "key", "form", "value", "replace"] (spOddW K C_BadElement) := by
  refine FunD.ok F sc_FormDict_with_entry (fun vs H Q E h => ?_) (fun cdv A outer s H vs Q E hr h => ?_)
  · obtain ⟨a, k, f, v, b, dk, df, dv, rfl, _⟩ := h; rfl
  · obtain ⟨a, k0, f0, v0, b, dk, df, dv, rfl, h1, h2, h3, hs, hm, k⟩ := h
    refine ⟨_, pss_cons (ps_set (i := 5) sc_FormDict_with_entry.nd rfl (Or.inl rfl) (pe_mkX DX_FormDict_init (hr.mono (by decide)) rfl T.g_FormDict (L2.passes_call (takes_of rfl rfl rfl rfl) (fun _ _ _ _ z => z)) (pa_cons (pe_lst (pa_cons (pe_tup (pa_cons (pv 1) (pa_cons (pv 2) (pa_cons (pv 3) pa_nil)))) pa_nil)) pa_nil))) (pss_cons ps_never (pss_one ps_never)), ?_⟩
    refine ⟨_, rfl, _, rfl, _, rfl, size_ok (by simp), fun t ht => ?_⟩
    generalize e_t : upd H t _ = H0
    have s_t := new_same e_t ht
    have h_t := new_at e_t
    refine ⟨size_ok (by simp), fun p hp => ?_⟩
    generalize e_p : upd H0 p _ = H1
    have s_p := new_same e_p hp
    have h_p := new_at e_p
    intro x dx hx hdx hne
    have s1 : Same H1 (upd (upd H1 dx (.own x)) x (.ins C_FormDict dx [])) := fun b o e => (upd_ne (ne_of_none e hx)).trans ((upd_ne (ne_of_none e hdx)).trans e)
    have sH := (s_t.trans s_p).trans s1
    have hu : Dx K H0 (.ref t) (.tuple [dk, df, dv]) := .of (.tup (.of h_t) (.cons (dp_same s_t _ _ h1) (.cons (dp_same s_t _ _ h2) (.cons (dp_same s_t _ _ h3) .nil))))
    refine ⟨x, dx, .ref p, .ref t, _, rfl, upd_same, .item (ys := []) (.inl (s1 _ _ h_p)) rfl ⟨[], .nil⟩ (by decide) (hu.same (s_p.trans s1)) hs hm, fun e H' s' he hH => ?_⟩
    exact k e _ H' (sH.trans s') (sH.free he) hH (hu.same ((s_p.trans s1).trans s'))

theorem sc_l_bag : FnScope ["_law_script", "_law_at", "_law_cell", "_law_far"] ["_law_script", "_law_at"] (defScope s_l_bag) := ⟨rfl, rfl, rfl, by decide +kernel, rfl, by decide +kernel, by decide +kernel⟩
theorem ok_l_bag {f : Addr} {fd : FuncData} (F : Fun K "_law_bag" "_law_bag" s_l_bag f fd) (T : Txt K mg C_FormSet C_FormDict C_BadElement C_BadKey C_BadRow)
    : FnOk P w K mg base CX0 1 f fd ["_law_script", "_law_at"] (spBag K) := by
  refine F.ok sc_l_bag (fun vs H Q E h => ?_) (fun cdv A outer s H vs Q E hr h => ?_)
  · obtain ⟨p, ns, i, rfl, _⟩ := h; rfl
  · obtain ⟨p, ns, i, rfl, hS, hi, k⟩ := h
    have hu := hu_of hr
    have hu64 := hr.units
    refine ⟨_, (pss_cons (ps_set (i := 2) sc_l_bag.nd rfl (Or.inl rfl) (pe_ifExp (pt_cmpR op_lt (pv 1) (pe_callB call_len_seq (by rfl) T.n_len PySem.boot_len (pa_cons (pv 0) pa_nil)) (nomark _)) (pe_ix ix_list (pv 0) (pv 1) (fun _ _ => rfl)) pe_int))
  (pss_cons (ps_set (i := 3) sc_l_bag.nd rfl (Or.inl rfl) (pe_ifExp (pt_cmpR op_ge (pe_callB call_abs (by rfl) T.n_abs (by decide +kernel) (pa_cons (pv 2) pa_nil)) (pe_op op_pow pe_int pe_int) (nomark _)) (pe_callB call_abs (by rfl) T.n_abs (by decide +kernel) (pa_cons (pv 2) pa_nil)) pe_int))
  (pss_one (ps_ret (pe_lst (pa_cons (pv 3) (pa_cons (pe_op op_modN (pe_op op_mul (pe_op op_add (pe_op op_add (pe_op op_modN (pv 2) pe_int) (pe_op op_mul pe_int (pv 1))) pe_int) pe_int) pe_int) (pa_cons pe_int pa_nil)))))))), ?_⟩
    have go : ∀ (c far : Int), ∀ a, H a = none → Q (.ref a) (upd H a (.lst [.int far, .int ((((c.fmod 2305843009213693951) + 7919 * (i : Int) + 31) * 48271).fmod 2305843009213693951), .int 0])) := by
      intro c far a ha
      refine k a _ ha ⟨_, _, _, upd_same, ?_, ?_, Int.le_refl _, Int.le_refl _⟩
      · rw [Int.fmod_eq_emod_of_nonneg _ (by decide)]; exact Int.emod_nonneg _ (by decide)
      · rw [Int.fmod_eq_emod_of_nonneg _ (by decide)]; exact Int.emod_lt_of_pos _ (by decide)
    refine ⟨_, rfl, _, rfl, _, _, rfl, Or.inl hS, _, _, rfl, rfl, _, rfl, ?_⟩
    rw [List.length_map]
    refine ite2 (fun c => ?_) (fun c => ?_)
    · have hlt : i < ns.length := by simpa using c
      refine ⟨_, rfl, _, rfl, _, _, _, .int (ns[i]), rfl, rfl, hS, at_of rfl (by simp [hlt]), ?_⟩
      refine ⟨_, rfl, _, rfl, _, _, rfl, rfl, ⟨by decide, by decide, by decide⟩, _, _, rfl, rfl, _, rfl, ?_⟩
      refine ite2 (fun c => ?_) (fun c => ?_)
      · refine ⟨_, rfl, _, rfl, ?_⟩
        refine ⟨_, rfl, _, rfl, _, _, rfl, rfl, (by omega), _, rfl, _, _, rfl, rfl, Or.inl ⟨by decide, by decide⟩, _, _, rfl, rfl, _, _, rfl, rfl, _, _, rfl, rfl, Or.inr ⟨by decide, by decide⟩, _, _, rfl, rfl, (by omega), size_ok (by simp), fun a ha => go _ _ a ha⟩
      · refine ⟨_, rfl, _, rfl, _, _, rfl, rfl, (by omega), _, rfl, _, _, rfl, rfl, Or.inl ⟨by decide, by decide⟩, _, _, rfl, rfl, _, _, rfl, rfl, _, _, rfl, rfl, Or.inr ⟨by decide, by decide⟩, _, _, rfl, rfl, (by omega), size_ok (by simp), fun a ha => go _ _ a ha⟩
    · refine ⟨_, rfl, _, rfl, _, _, rfl, rfl, ⟨by decide, by decide, by decide⟩, _, _, rfl, rfl, _, rfl, ?_⟩
      refine ite2 (fun c => ?_) (fun c => ?_)
      · refine ⟨_, rfl, _, rfl, ?_⟩
        refine ⟨_, rfl, _, rfl, _, _, rfl, rfl, (by omega), _, rfl, _, _, rfl, rfl, Or.inl ⟨by decide, by decide⟩, _, _, rfl, rfl, _, _, rfl, rfl, _, _, rfl, rfl, Or.inr ⟨by decide, by decide⟩, _, _, rfl, rfl, (by omega), size_ok (by simp), fun a ha => go _ _ a ha⟩
      · refine ⟨_, rfl, _, rfl, _, _, rfl, rfl, (by omega), _, rfl, _, _, rfl, rfl, Or.inl ⟨by decide, by decide⟩, _, _, rfl, rfl, _, _, rfl, rfl, _, _, rfl, rfl, Or.inr ⟨by decide, by decide⟩, _, _, rfl, rfl, (by omega), size_ok (by simp), fun a ha => go _ _ a ha⟩
theorem sc_l_take : FnScope ["_law_bag_here", "_law_many", "_law_digit", "_law_mixed"] ["_law_bag_here", "_law_many"] (defScope s_l_take) := ⟨rfl, rfl, rfl, by decide +kernel, rfl, by decide +kernel, by decide +kernel⟩
theorem ok_l_take {f : Addr} {fd : FuncData} (F : Fun K "_law_take" "_law_take" s_l_take f fd) (T : Txt K mg C_FormSet C_FormDict C_BadElement C_BadKey C_BadRow)
    : FnOk P w K mg base CX0 1 f fd ["_law_bag_here", "_law_many"] spTake := by
  refine F.ok sc_l_take (fun vs H Q E h => ?_) (fun cdv A outer s H vs Q E hr h => ?_)
  · obtain ⟨a, m, n, rfl, _⟩ := h; rfl
  · obtain ⟨a, m, n, rfl, ⟨x, y, z, hb, y0, y1, z0, z1⟩, hn, m0, m1, k⟩ := h
    have hu := hu_of hr
    have hu64 := hr.units
    refine ⟨_, (pss_cons (ps_if (pt_cmpR op_gt (pe_ix ix_list (pv 0) pe_int (fun _ _ => rfl)) pe_int (nomark _))
    (pss_cons (ps_set (i := 2) sc_l_take.nd rfl (Or.inl rfl) (pe_op op_modN (pe_ix ix_list (pv 0) pe_int (fun _ _ => rfl)) (pv 1)))
      (pss_cons (ps_asg (pe_op op_fdivN (pe_ix ix_list (pv 0) pe_int (fun _ _ => rfl)) (pv 1)) (pg_sub (pv 0) pe_int set_list))
      (pss_one (ps_ret (pv 2)))))
    pss_nil)
  (pss_cons (ps_asg (pe_op op_add (pe_ix ix_list (pv 0) pe_int (fun _ _ => rfl)) pe_int) (pg_sub (pv 0) pe_int set_list))
  (pss_cons (ps_set (i := 3) sc_l_take.nd rfl (Or.inl rfl) (pe_op op_modN (pe_op op_pow (pe_op op_add (pe_ix ix_list (pv 0) pe_int (fun _ _ => rfl)) (pe_op op_mul pe_int (pe_ix ix_list (pv 0) pe_int (fun _ _ => rfl)))) pe_int) pe_int))
  (pss_cons (ps_set (i := 3) sc_l_take.nd rfl (Or.inl rfl) (pe_op op_modN (pe_op op_pow (pe_op op_add (pv 3) (pe_op op_mul pe_int (pe_ix ix_list (pv 0) pe_int (fun _ _ => rfl)))) pe_int) pe_int))
  (pss_one (ps_ret (pe_op op_modN (pe_op op_fdivN (pv 3) pe_int) (pv 1)))))))), ?_⟩
    refine ⟨_, rfl, _, _, _, _, rfl, rfl, SqL.of hb, rfl, _, _, rfl, rfl, _, rfl, ite2 (fun c => ?_) (fun c => ?_)⟩
    · refine ⟨_, rfl, _, _, _, _, rfl, rfl, SqL.of hb, rfl, _, rfl, _, _, rfl, rfl, (by omega), ?_⟩
      refine ⟨_, rfl, _, _, _, _, rfl, rfl, SqL.of hb, rfl, _, rfl, _, _, rfl, rfl, ⟨by omega, by omega⟩, _, rfl, _, _, _, _, rfl, rfl, hb, rfl, ?_⟩
      refine ⟨_, rfl, ?_⟩
      refine k _ _ ?_ ?_ But.upd ⟨_, y, z, upd_same, y0, y1, z0, by omega⟩
      · rw [Int.fmod_eq_emod_of_nonneg _ (by omega)]; exact Int.emod_nonneg _ (by omega)
      · rw [Int.fmod_eq_emod_of_nonneg _ (by omega)]; exact Int.emod_lt_of_pos _ (by omega)
    · refine ⟨_, rfl, _, _, _, _, rfl, rfl, SqL.of hb, rfl, _, _, rfl, rfl, _, rfl, _, _, _, _, rfl, rfl, hb, rfl, ?_⟩
      have hb2 := upd_same (H := H) (a := a) (o := .lst [.int x, .int y, .int (z + 1)])
      refine ⟨_, rfl, _, _, _, _, rfl, rfl, SqL.of hb2, rfl, _, rfl, _, _, _, _, rfl, rfl, SqL.of hb2, rfl, _, _, rfl, rfl, Or.inl ⟨by omega, by omega⟩, _, _, rfl, rfl, _, _, rfl, rfl, ⟨by decide, by decide, by omega⟩, _, _, rfl, rfl, (by omega), ?_⟩
      dsimp only
      generalize hg : Int.fmod _ 2305843009213693921 = mx
      have b1 : 0 ≤ mx ∧ mx < 2305843009213693921 := by
        rw [← hg, Int.fmod_eq_emod_of_nonneg _ (by decide)]
        exact ⟨Int.emod_nonneg _ (by decide), Int.emod_lt_of_pos _ (by decide)⟩
      refine ⟨_, rfl, _, rfl, _, _, _, _, rfl, rfl, SqL.of hb2, rfl, _, _, rfl, rfl, Or.inl ⟨by omega, by omega⟩, _, _, rfl, rfl, _, _, rfl, rfl, ⟨by decide, by decide, by omega⟩, _, _, rfl, rfl, (by omega), ?_⟩
      dsimp only
      generalize hg2 : Int.fmod _ 2305843009213693951 = my
      refine ⟨_, rfl, _, _, rfl, rfl, ⟨by decide, by decide⟩, _, rfl, _, _, rfl, rfl, (by omega), ?_⟩
      refine k _ _ ?_ ?_ But.upd ⟨x, y, z + 1, upd_same, y0, y1, by omega, by omega⟩
      · rw [Int.fmod_eq_emod_of_nonneg _ (by omega)]; exact Int.emod_nonneg _ (by omega)
      · rw [Int.fmod_eq_emod_of_nonneg _ (by omega)]; exact Int.emod_lt_of_pos _ (by omega)
theorem sc_l_odd : FnScope ["_law_bag_here", "_law_rows", "_law_some", "_law_good"] ["_law_bag_here", "_law_rows"] (defScope s_l_odd) := ⟨rfl, rfl, rfl, by decide +kernel, rfl, by decide +kernel, by decide +kernel⟩
theorem ok_l_odd {f : Addr} {fd : FuncData} (F : Fun K "_law_odd" "_law_odd" s_l_odd f fd) (T : Txt K mg C_FormSet C_FormDict C_BadElement C_BadKey C_BadRow)
    (D_l_take : Fn P w K mg base 1 "_law_take" ["_law_bag_here", "_law_many"] spTake)
    : FnOk P w K mg base CX0 2 f fd ["_law_bag_here", "_law_rows"] (spOddDraw K) := by
  refine F.ok sc_l_odd (fun vs H Q E h => ?_) (fun cdv A outer s H vs Q E hr h => ?_)
  · obtain ⟨a, b, n, rfl, _⟩ := h; rfl
  · obtain ⟨a, b, n, rfl, hb, hn, k⟩ := h
    have hu := hu_of hr
    have hu64 := hr.units
    refine ⟨_, (pss_cons (ps_set (i := 2) sc_l_odd.nd rfl (Or.inl rfl) (pe_lst (pa_cons pe_non (pa_cons pe_bl (pa_cons pe_int (pa_cons pe_str (pa_cons (pe_tup pa_nil) (pa_cons (pe_tup (pa_cons pe_int pa_nil)) (pa_cons (pe_tup (pa_cons pe_str (pa_cons pe_int pa_nil))) (pa_cons (pe_tup (pa_cons pe_bl (pa_cons pe_str pa_nil))) (pa_cons (pe_tup (pa_cons pe_int (pa_cons pe_str pa_nil))) (pa_cons (pe_tup (pa_cons pe_int (pa_cons pe_str pa_nil))) (pa_cons (pe_tup (pa_cons pe_int (pa_cons pe_str pa_nil))) (pa_cons (pe_tup (pa_cons (pe_un un_neg pe_int) (pa_cons pe_str pa_nil))) pa_nil))))))))))))))
  (pss_cons (ps_set (i := 2) sc_l_odd.nd rfl (Or.inl rfl) (pe_op op_cat (pv 2) (pe_lst (pa_cons (pe_tup (pa_cons (pe_op op_pow pe_int pe_int) (pa_cons pe_str pa_nil))) (pa_cons (pe_tup (pa_cons pe_int (pa_cons pe_str pa_nil))) (pa_cons (pe_tup (pa_cons pe_int (pa_cons pe_non pa_nil))) (pa_cons (pe_lst (pa_cons pe_int (pa_cons pe_str pa_nil))) (pa_cons (pe_tup (pa_cons pe_int (pa_cons pe_str (pa_cons pe_bl pa_nil)))) pa_nil))))))))
  (pss_cons (ps_set (i := 2) sc_l_odd.nd rfl (Or.inl rfl) (pe_op op_cat (pv 2) (pe_lst (pa_cons (pe_tup (pa_cons pe_int (pa_cons pe_str (pa_cons pe_str pa_nil)))) (pa_cons (pe_tup (pa_cons pe_int (pa_cons pe_str (pa_cons pe_non pa_nil)))) pa_nil)))))
  (pss_cons (ps_set (i := 2) sc_l_odd.nd rfl (Or.inl rfl) (pe_op op_cat (pv 2) (pe_lst (pa_cons (pe_tup (pa_cons pe_int (pa_cons pe_str (pa_cons pe_int (pa_cons pe_int pa_nil))))) (pa_cons (pe_tup (pa_cons pe_bl (pa_cons pe_str (pa_cons pe_int pa_nil)))) (pa_cons (pe_tup (pa_cons pe_int (pa_cons pe_str (pa_cons pe_int pa_nil)))) (pa_cons (pe_tup (pa_cons pe_int (pa_cons pe_str pa_nil))) (pa_cons (pe_lst (pa_cons pe_int (pa_cons pe_str (pa_cons pe_int pa_nil)))) (pa_cons pe_dnewK pa_nil)))))))))
  (pss_cons (ps_set (i := 3) sc_l_odd.nd rfl (Or.inl rfl) (pe_ifExp (pt_val (pv 1)) (pe_tup (pa_cons pe_int (pa_cons pe_str (pa_cons pe_int pa_nil)))) (pe_tup (pa_cons pe_int (pa_cons pe_str pa_nil)))))
  (pss_one (ps_ret (pe_tup (pa_cons (pe_ix ix_list (pv 2) (pe_fn D_l_take (hr.mono (by decide)) rfl (pa_cons (pv 0) (pa_cons pe_int pa_nil))) (fun _ _ => rfl)) (pa_cons (pv 3) pa_nil)))))))))), ?_⟩
    refine seq_litx (K := K) (ds := odd1) (litx_all (lit_cons lit_non (lit_cons (lit_bl _) (lit_cons (lit_int _) (lit_cons (lit_str _) (lit_cons (lit_tup lit_nil (by decide)) (lit_cons (lit_tup (lit_cons (lit_int _) lit_nil) (by decide)) (lit_cons (lit_tup (lit_cons (lit_str _) (lit_cons (lit_int _) lit_nil)) (by decide)) (lit_cons (lit_tup (lit_cons (lit_bl _) (lit_cons (lit_str _) lit_nil)) (by decide)) (lit_cons (lit_tup (lit_cons (lit_int _) (lit_cons (lit_str _) lit_nil)) (by decide)) (lit_cons (lit_tup (lit_cons (lit_int _) (lit_cons (lit_str _) lit_nil)) (by decide)) (lit_cons (lit_tup (lit_cons (lit_int _) (lit_cons (lit_str _) lit_nil)) (by decide)) (lit_cons (lit_tup (lit_cons (lit_neg _) (lit_cons (lit_str _) lit_nil)) (by decide)) lit_nil))))))))))))) (by decide) fun l1 H1 s1 n1 h1 => ?_
    refine seq_catx (es := odd1) (ds := odd2) rfl h1 (litx_all (lit_cons (lit_tup (lit_cons (lit_pow ⟨by decide, by decide, by decide⟩) (lit_cons (lit_str _) lit_nil)) (by decide)) (lit_cons (lit_tup (lit_cons (lit_int _) (lit_cons (lit_str _) lit_nil)) (by decide)) (lit_cons (lit_tup (lit_cons (lit_int _) (lit_cons lit_non lit_nil)) (by decide)) (lit_cons (lit_lst (lit_cons (lit_int _) (lit_cons (lit_str _) lit_nil)) (by decide)) (lit_cons (lit_tup (lit_cons (lit_int _) (lit_cons (lit_str _) (lit_cons (lit_bl _) lit_nil))) (by decide)) lit_nil)))))) (by decide) fun l2 H2 s2 n2 h2 => ?_
    refine seq_catx (es := odd1 ++ odd2) (ds := odd3) rfl h2 (litx_all (lit_cons (lit_tup (lit_cons (lit_int _) (lit_cons (lit_str _) (lit_cons (lit_str _) lit_nil))) (by decide)) (lit_cons (lit_tup (lit_cons (lit_int _) (lit_cons (lit_str _) (lit_cons lit_non lit_nil))) (by decide)) lit_nil))) (by decide) fun l3 H3 s3 n3 h3 => ?_
    refine seq_catx (es := odd1 ++ odd2 ++ odd3) (ds := odd4) rfl h3 (litx_cons (litx_of (lit_tup (lit_cons (lit_int _) (lit_cons (lit_str _) (lit_cons (lit_int _) (lit_cons (lit_int _) lit_nil)))) (by decide))) (litx_cons (litx_of (lit_tup (lit_cons (lit_bl _) (lit_cons (lit_str _) (lit_cons (lit_int _) lit_nil))) (by decide))) (litx_cons (litx_of (lit_tup (lit_cons (lit_int _) (lit_cons (lit_str _) (lit_cons (lit_int _) lit_nil))) (by decide))) (litx_cons (litx_of (lit_tup (lit_cons (lit_int _) (lit_cons (lit_str _) lit_nil)) (by decide))) (litx_cons (litx_of (lit_lst (lit_cons (lit_int _) (lit_cons (lit_str _) (lit_cons (lit_int _) lit_nil))) (by decide))) (litx_cons litx_dict litx_nil)))))) (by decide) fun l4 H4 s4 n4 h4 => ?_
    have s04 : Same H H4 := ((s1.trans s2).trans s3).trans s4
    have bag4 := hb.same s04
    obtain ⟨vs, hl4, hall⟩ := h4
    have hlen := hall.len
    refine ⟨_, rfl, b, rfl, ?_⟩
    cases b with
    | true =>
      refine iteT ⟨size_ok (by simp), fun g hg => ?_⟩
      generalize e_g : upd H4 g _ = H5
      have s_g := new_same e_g hg
      have h_g := new_at e_g
      refine ⟨_, rfl, _, rfl, a, 25, n, rfl, bag4.same s_g, by omega, by decide, by decide, fun i H6 i0 i1 bt bag6 => ?_⟩
      have x6 : Ext a H5 H6 := fun c o nc e => (bt c nc).trans e
      have lo : i.toNat < oddL.length := by rw [odd_len]; omega
      obtain ⟨u, hu1, hdx⟩ := hall.at' (i := i.toNat) (List.getElem?_eq_getElem lo)
      have hmem : oddL[i.toNat] ∈ oddL := List.getElem_mem lo
      generalize oddL[i.toNat] = d at hmem hdx
      have hdx6 := dx_bag (bag4.same s_g) x6 (odd_noBag d hmem) (hdx.same s_g)
      have nl : l4 ≠ a := fun e => by
        have z := bag_lst (o := .lst vs) bag4 (e ▸ hl4)
        obtain ⟨q1, q2, q3, q4, _⟩ := bag4
        rw [← e, hl4] at q4
        cases q4
        have : (3 : Nat) = 25 := hlen
        omega
      have ng : g ≠ a := (bag4.ne hg)
      have hat : atI vs i = some u := by
        unfold atI ixN
        rw [if_pos i0, if_pos (by rw [hlen]; exact i1)]
        exact hu1
      refine ⟨l4, vs, i, u, rfl, rfl, SqL.of (x6 _ _ nl (s_g _ _ hl4)), hat, ?_⟩
      refine ⟨_, rfl, size_ok (by simp), fun p hp => ?_⟩
      generalize e_p : upd H6 p _ = H7
      have s_p := new_same e_p hp
      have h_p := new_at e_p
      exact k u d g p H7 hmem (hdx6.same s_p) (s_p _ _ (x6 _ _ ng h_g)) h_p (bag6.same s_p) fun c o nc e => s_p _ _ (x6 _ _ nc (s_g _ _ (s04 _ _ e)))
    | false =>
      refine iteF ⟨size_ok (by simp), fun g hg => ?_⟩
      generalize e_g : upd H4 g _ = H5
      have s_g := new_same e_g hg
      have h_g := new_at e_g
      refine ⟨_, rfl, _, rfl, a, 25, n, rfl, bag4.same s_g, by omega, by decide, by decide, fun i H6 i0 i1 bt bag6 => ?_⟩
      have x6 : Ext a H5 H6 := fun c o nc e => (bt c nc).trans e
      have lo : i.toNat < oddL.length := by rw [odd_len]; omega
      obtain ⟨u, hu1, hdx⟩ := hall.at' (i := i.toNat) (List.getElem?_eq_getElem lo)
      have hmem : oddL[i.toNat] ∈ oddL := List.getElem_mem lo
      generalize oddL[i.toNat] = d at hmem hdx
      have hdx6 := dx_bag (bag4.same s_g) x6 (odd_noBag d hmem) (hdx.same s_g)
      have nl : l4 ≠ a := fun e => by
        have z := bag_lst (o := .lst vs) bag4 (e ▸ hl4)
        obtain ⟨q1, q2, q3, q4, _⟩ := bag4
        rw [← e, hl4] at q4
        cases q4
        have : (3 : Nat) = 25 := hlen
        omega
      have ng : g ≠ a := (bag4.ne hg)
      have hat : atI vs i = some u := by
        unfold atI ixN
        rw [if_pos i0, if_pos (by rw [hlen]; exact i1)]
        exact hu1
      refine ⟨l4, vs, i, u, rfl, rfl, SqL.of (x6 _ _ nl (s_g _ _ hl4)), hat, ?_⟩
      refine ⟨_, rfl, size_ok (by simp), fun p hp => ?_⟩
      generalize e_p : upd H6 p _ = H7
      have s_p := new_same e_p hp
      have h_p := new_at e_p
      exact k u d g p H7 hmem (hdx6.same s_p) (s_p _ _ (x6 _ _ ng h_g)) h_p (bag6.same s_p) fun c o nc e => s_p _ _ (x6 _ _ nc (s_g _ _ (s04 _ _ e)))
theorem sc_l_why : FnScope ["_law_deed", "e"] ["_law_deed"] (defScope s_l_why) := ⟨rfl, rfl, rfl, by decide +kernel, rfl, by decide +kernel, by decide +kernel⟩
theorem gives_l_why {X : Cx} {k : Nat} {g : Addr} {q : Str} (T : Txt X.K X.mg C_FormSet C_FormDict C_BadElement C_BadKey C_BadRow) (cdg : Value) :
    GivesTo1 X (k + 1) ["_law_deed", "e"] "_law_why" (defScope s_l_why) g cdg (defBody s_l_why) "_law_deed" q (TWhy X.K C_BadElement) := by
  intro f c' s H Q tl hg hr act hc h
  have hu64 := hr.units
  refine ⟨_, (pss_cons (ps_try_as (i := 1) (Wout := fun _ _ _ _ => False) (tb := fun W D σ H => σ[0]? = some (some (V.ref f)) ∧ H c' = some (LamX.CodeO c' q) ∧ tl (WE W σ) H (fun _ H' => D.nx σ H'))
      rfl rfl sc_l_why.nd rfl rfl ⟨rfl, by decide, .inl T.g_BadElement⟩ takes0
      (fun W pn xe tk _ => ⟨fun pins s' σ H' D I h' => (pss_one (ps_expr (act W pn xe _ _ tk))).run pins s' σ H' D I h'⟩)
      (fun a oe cls d pn hz hf => pss_cons (ps_if (PW.pt (pw_or (pt_val (pe_callB (call_isXT T.ec_BadElement hz hf) (by rfl) T.n_isinstance (by decide +kernel) (pa_cons (pv 1) (pa_cons (pe_tup (pa_cons (pe_glob (v := .ref C_BadKey) rfl T.g_BadKey rfl) (pa_cons (pe_glob (v := .ref C_BadRow) rfl T.g_BadRow rfl) pa_nil))) pa_nil)))) (pw_or1 (pt_not (pt_val (pe_callB (call_isXc T.ec_BadElement hz hf) (by rfl) T.n_isinstance (by decide +kernel) (pa_cons (pv 1) (pa_cons (pe_bltn (v := .ty "ValueError") (u := .type "ValueError") (by rfl) T.n_ValueError (by decide +kernel) rfl) pa_nil))))))))
          (pss_one (ps_ret pe_str)) pss_nil)
        (pss_one (ps_ret (pe_callB (call_reprS hg hu64) (by rfl) T.n_repr (by decide +kernel) (pa_cons (pe_xf T.xf_BadElement T.nv_BadElement hz hf (pv 1)) pa_nil))))))
      (pss_one (ps_ret pe_str))), ?_⟩
  obtain ⟨d, ⟨hs, hsh, hde, hle⟩, h⟩ := h
  refine ⟨rfl, hc, h _ _ fun e u H9 he hd hq => ⟨true, T.xm_BadElement, fun _ a2 ha2 => ?_, fun z => nomatch z⟩⟩
  refine ⟨_, rfl, size_ok (by simp), fun tp htp => ?_⟩
  generalize e_tp : upd H9 tp _ = H1
  have s_tp := new_same e_tp htp
  have h_tp := new_at e_tp
  refine ⟨tp, e, _, _, false, _, rfl, rfl, rfl, s_tp _ _ he, h_tp, .cons (.own _) (.cons (.own _) .nil), T.kk_BadElement, _, rfl, ?_⟩
  refine ⟨_, rfl, e, rfl, rfl, _, _, true, _, rfl, s_tp _ _ he, fun u r => r, T.k2_BadElement, ?_⟩
  refine ⟨_, rfl, ?_⟩
  refine ⟨_, rfl, rfl, rfl, e, _, u, rfl, s_tp _ _ he, rfl, u, d, rfl, hd.same s_tp, hsh, hde, hle, hq H1 s_tp⟩
theorem sc_l_list : FnScope ["_law_bag_here", "_law_entries", "_law_found", "_law_turn", "_law_one"] ["_law_bag_here", "_law_entries"] (defScope s_l_list) := ⟨rfl, rfl, rfl, by decide +kernel, rfl, by decide +kernel, by decide +kernel⟩
theorem ok_l_list {f : Addr} {fd : FuncData} (F : Fun K "_law_list" "_law_list" s_l_list f fd) (T : Txt K mg C_FormSet C_FormDict C_BadElement C_BadKey C_BadRow)
    (D_l_take : Fn P w K mg base 1 "_law_take" ["_law_bag_here", "_law_many"] spTake)
    : FnOk P w K mg base CX0 2 f fd ["_law_bag_here", "_law_entries"] spRowsL := by
  refine F.ok sc_l_list (fun vs H Q E h => ?_) (fun cdv A outer s H vs Q E hr h => ?_)
  · obtain ⟨a, b, n, rfl, _⟩ := h; rfl
  · obtain ⟨a, b, n, rfl, hb, hn, k⟩ := h
    have hu := hu_of hr
    have hu64 := hr.units
    refine ⟨_, (pss_cons (ps_set (i := 2) sc_l_list.nd rfl (Or.inr rfl) (pe_lst pa_nil))
  (pss_cons (ps_for PassesOwn.never rfl (pi_range1 (by rfl) T.n_range (pa_cons (pe_fn D_l_take (hr.mono (by decide)) rfl (pa_cons (pv 0) (pa_cons pe_int pa_nil))) pa_nil)) (pg_name (i := 3) sc_l_list.nd rfl (Or.inl rfl))
    (pss_one (ps_expr (pe_bm PySem.F.plainAttrs_list PySem.F.slot_list_append PySem.F.type_list_append mt_append (pv 2) (pa_cons (pe_tup (pa_cons (pe_fn D_l_take (hr.mono (by decide)) rfl (pa_cons (pv 0) (pa_cons pe_int pa_nil))) (pa_cons (pe_ix ix_list (pe_lst (pa_cons pe_str (pa_cons pe_str (pa_cons pe_str pa_nil)))) (pe_fn D_l_take (hr.mono (by decide)) rfl (pa_cons (pv 0) (pa_cons pe_int pa_nil))) (fun _ _ => rfl)) pa_nil))) pa_nil)))))
  (pss_one (ps_ret (pe_ifExp (pt_val (pv 1)) (pe_lc (own := [("_law_one", 4)]) (g := gName 4) (tt := tYes) rfl sc_l_list.nd (pi_list (pv 2)) (blkOk_by (own := [("_law_one", 4)]) (N := ["_law_bag_here", "_law_entries", "_law_found", "_law_turn", "_law_one"]) (sc := defScope s_l_list) (by decide +kernel)) (fun _ _ _ _ _ => (pg_name (i := 4) sc_l_list.nd rfl (Or.inl rfl))) (fun _ _ _ _ _ => pts_nil) (fun _ _ _ _ _ => (pe_op (op_catTK (K := K) rfl) (pv 4) (pe_tup (pa_cons (pe_callB (call_len_seqK (K := K) rfl) (by rfl) T.n_len PySem.boot_len (pa_cons (pv 2) pa_nil)) pa_nil))))) (pv 2)))))), ?_⟩
    refine ⟨size_ok (by simp), fun l hl => ?_⟩
    generalize e_l : upd H l _ = H1
    have s_l := new_same e_l hl
    have h_l := new_at e_l
    have nla : l ≠ a := hb.ne hl
    have bag1 := hb.same s_l
    refine ⟨_, rfl, a, 7, n, rfl, bag1, by omega, by decide, by decide, fun m H2 m0 m1 bt bag2 => ⟨m, rfl, by omega, by omega, ?_⟩⟩
    refine for_range (lo := 0) (fun i σ G => ∃ (v3 v4 : Option V) (es : List (Int × Str)) (xs : List V) (n1 : Nat), σ = [some (.ref a), some (.bl b), some (.ref l), v3, v4] ∧ es.length = i ∧ VS es ∧ (∀ p ∈ es, p.1 ≤ 4) ∧ G l = some (.lst xs) ∧ TupS G xs es ∧ Bag G a n1 ∧ n1 ≤ n + 1 + 2 * i ∧ Ext a H G) ⟨none, none, [], [], n + 1, rfl, rfl, (fun _ z => nomatch z), (fun _ z => nomatch z), (bt l nla).trans h_l, .nil, bag2, Nat.le_refl _, fun c o nc e => (bt c nc).trans (s_l _ _ e)⟩ ?_ ?_
    · rintro i σ G hi ⟨v3, v4, es, xs, n1, rfl, hes, hV, hk, hG, hT, bag3, hn1, ex⟩
      have hi7 : i < 7 := by omega
      refine ⟨_, rfl, .inl ⟨rfl, xs, SqL.of hG⟩, ?_⟩
      refine ⟨_, rfl, a, 5, n1, rfl, bag3, by omega, by decide, by decide, fun q H3 q0 q1 bt3 bag4 => ?_⟩
      refine ⟨size_ok (by simp), fun p1 hp1 => ?_⟩
      generalize e_p1 : upd H3 p1 _ = H4
      have s_p1 := new_same e_p1 hp1
      have h_p1 := new_at e_p1
      refine ⟨_, rfl, a, 3, n1 + 1, rfl, bag4.same s_p1, by omega, by decide, by decide, fun j H5 j0 j1 bt5 bag5 => ?_⟩
      have np1 : p1 ≠ a := bag4.ne hp1
      obtain ⟨mv, hmv, x, rfl, hx⟩ := at_all (xs := [V.str "x", .str "y", .str "zed"]) (Pr := fun v => ∃ x, v = .str x ∧ nameOk x = true) j0 (by simpa using j1) (by
        intro v hv
        simp only [List.mem_cons, List.not_mem_nil, or_false] at hv
        rcases hv with rfl | rfl | rfl
        · exact ⟨_, rfl, by decide +kernel⟩
        · exact ⟨_, rfl, by decide +kernel⟩
        · exact ⟨_, rfl, by decide +kernel⟩)
      refine ⟨p1, _, j, .str x, rfl, rfl, SqL.of ((bt5 p1 np1).trans h_p1), hmv, size_ok (by simp), fun p2 hp2 => ?_⟩
      generalize e_p2 : upd H5 p2 _ = H6
      have s_p2 := new_same e_p2 hp2
      have h_p2 := new_at e_p2
      have x36 : Ext a G H6 := fun c o nc e => s_p2 _ _ ((bt5 c nc).trans (s_p1 _ _ ((bt3 c nc).trans e)))
      have hG6 := x36 _ _ nla hG
      have np2 : p2 ≠ l := fun e => by
        have z := (bt5 l nla).trans (s_p1 _ _ ((bt3 l nla).trans hG))
        rw [e, z] at hp2
        cases hp2
      have tl := tupS_len hT
      refine ⟨l, xs, .ref p2, rfl, rfl, hG6, small1000 (by omega), ?_⟩
      have hT6 := tupS_bag x36 bag3 hT
      have xl : Ext l H6 (upd H6 l (.lst (xs ++ [.ref p2]))) := fun c o nc e => (upd_ne nc).trans e
      have bag6 : Bag H6 a (n1 + 1 + 1) := bag5.same s_p2
      refine ⟨_, _, es ++ [(q, x)], xs ++ [.ref p2], n1 + 1 + 1, rfl, by rw [List.length_append, hes]; rfl, ?_, ?_, upd_same, tupS_app ((upd_ne np2).trans h_p2) (tupS_chg hG6 xl hT6), ?_, by omega, ?_⟩
      · intro z hz
        rcases List.mem_append.mp hz with hz | hz
        · exact hV z hz
        · rw [List.mem_singleton.mp hz]; exact ⟨⟨q0, by omega⟩, hx⟩
      · intro z hz
        rcases List.mem_append.mp hz with hz | hz
        · exact hk z hz
        · rw [List.mem_singleton.mp hz]; show q ≤ 4; omega
      · obtain ⟨z1, z2, z3, e1, r⟩ := bag6
        exact ⟨z1, z2, z3, (upd_ne (Ne.symm nla)).trans e1, r⟩
      · intro c o nc e
        have ncl : c ≠ l := fun z => by rw [z, hl] at e; cases e
        exact (upd_ne ncl).trans (x36 _ _ nc (ex _ _ nc e))
    · rintro σ G ⟨v3, v4, es, xs, n1, rfl, hes, hV, hk, hG, hT, bag3, hn1, ex⟩
      have tl := tupS_len hT
      refine ⟨_, rfl, b, rfl, ?_⟩
      cases b with
      | false => exact iteF ⟨_, rfl, k l xs es n1 G hV hk (by omega) bag3 (by omega) ex nla hG (fun _ => hT) (fun z => nomatch z)⟩
      | true =>
        refine iteT ⟨_, rfl, l, rfl, ⟨_, SqL.of hG⟩, fun D hD => ?_⟩
        have nDl : D ≠ l := fun e => by rw [e, hG] at hD; cases hD
        have nDa : D ≠ a := bag3.ne hD
        refine lc_list (xs := xs) (fun i H' => ∃ ts, Ext D G H' ∧ H' D = some (.lst ts) ∧ ts.length = i ∧ Tup3 H' ts ((row3 es.length es).take i)) ?_ ?_ ?_ ?_
        · exact ⟨[], fun c o nc e => (upd_ne nc).trans e, upd_same, rfl, .nil⟩
        · rintro i H' hi ⟨ts, e, _⟩
          exact SqL.of (e _ _ (Ne.symm nDl) hG)
        · rintro i v H' hv ⟨ts, e, hts, htl, h3⟩
          obtain ⟨t, k0, x0, rfl, e1, ht⟩ := hT.at hv
          have lt : i < es.length := (List.getElem?_eq_some_iff.mp e1).1
          refine ⟨rfl, _, rfl, _, rfl, l, xs, rfl, .inl (SqL.of (e _ _ (Ne.symm nDl) hG)), size_ok (by simp), fun t2 ht2 => ?_⟩
          have s2 : Same H' (upd H' t2 (.tup [.int xs.length])) := same_new ht2
          have nDt : D ≠ t := fun z => by rw [z, ht] at hD; cases hD
          refine ⟨t, t2, _, _, rfl, rfl, SqT.of (s2 _ _ (e _ _ (Ne.symm nDt) ht)), SqT.of upd_same, (fun z => nomatch z), size_ok (by simp), (fun z => nomatch z), fun _ p hp => ?_⟩
          have s3 : Same H' (upd (upd H' t2 (.tup [.int xs.length])) p (.tup [.int k0, .str x0, .int xs.length])) := s2.trans (same_new hp)
          have hD3 := s3 _ _ hts
          have nDp : p ≠ D := fun z => by rw [z, s2 _ _ hts] at hp; cases hp
          refine ⟨ts, hD3, small1000 (by omega), ts ++ [.ref p], ?_, upd_same, by rw [List.length_append, htl]; rfl, ?_⟩
          · exact fun c o nc z => (upd_ne nc).trans (s3 _ _ (e _ _ nc z))
          · have e2 : (row3 es.length es)[i]? = some (k0, (x0, (es.length : Int))) := by unfold row3; rw [List.getElem?_map, e1]; rfl
            rw [take_one e2]
            have xD : Ext D (upd (upd H' t2 (.tup [.int xs.length])) p (.tup [.int k0, .str x0, .int xs.length])) (upd (upd (upd H' t2 (.tup [.int xs.length])) p (.tup [.int k0, .str x0, .int xs.length])) D (.lst (ts ++ [.ref p]))) := fun c o nc z => (upd_ne nc).trans z
            refine Tup3.app ?_ ((h3.same s3).chg hD3 xD)
            rw [← tl]
            exact (upd_ne nDp).trans upd_same
        · rintro H' ⟨ts, e, hts, htl, h3⟩
          have e3 : (row3 es.length es).take xs.length = row3 es.length es := List.take_of_length_le (by unfold row3; rw [List.length_map]; omega)
          rw [e3] at h3
          have xa : Ext a H H' := fun c o nc z => by
            have z2 := ex c o nc z
            exact e c o (fun q => by rw [← q, z2] at hD; cases hD) z2
          have bagD : Bag H' a n1 := by
            obtain ⟨z1, z2, z3, e1, r⟩ := bag3
            exact ⟨z1, z2, z3, e _ _ (Ne.symm nDa) e1, r⟩
          exact k D ts es n1 H' hV hk (by omega) bagD (by omega) xa nDa hts (fun z => nomatch z) (fun _ => h3)
theorem sc_l_made : FnScope ["_law_entries", "_law_thing"] ["_law_entries", "_law_thing"] (defScope s_l_made) := ⟨rfl, rfl, rfl, by decide +kernel, rfl, by decide +kernel, by decide +kernel⟩
theorem ok_l_made {f : Addr} {fd : FuncData} (F : Fun K "_law_made" "_law_made" s_l_made f fd) (T : Txt K mg C_FormSet C_FormDict C_BadElement C_BadKey C_BadRow)
    (D_FormSet_init : MkFn P w K mg base C_FormSet 5 ["self", "given"] (spInit K C_FormSet))
    (D_FormDict_init : MkFn P w K mg base C_FormDict 5 ["self", "given"] (spInitD K C_FormDict))
    : FnOk P w K mg base CX0 7 f fd ["_law_entries", "_law_thing"] (spMade K C_FormSet C_FormDict) := by
  refine F.ok sc_l_made (fun vs H Q E h => ?_) (fun cdv A outer s H vs Q E hr h => ?_)
  · obtain ⟨b, l, xs, rfl, _⟩ := h; rfl
  · obtain ⟨b, l, xs, rfl, hl, k1, k2⟩ := h
    have hu := hu_of hr
    have hu64 := hr.units
    refine ⟨_, (pss_one (ps_ret (pe_ifExp (pt_val (pv 0)) (pe_mk D_FormDict_init (hr.mono (by decide)) rfl T.g_FormDict (pa_cons (pv 1) pa_nil)) (pe_mk D_FormSet_init (hr.mono (by decide)) rfl T.g_FormSet (pa_cons (pv 1) pa_nil))))), ?_⟩
    refine ⟨_, rfl, b, rfl, ?_⟩
    cases b with
    | false =>
      obtain ⟨es, he, hlen, k⟩ := k1 rfl
      exact iteF ⟨_, rfl, set_made (.inl hl) he hlen fun z H' s hz => k z H' s hz⟩
    | true =>
      obtain ⟨rs, he, hlen, k⟩ := k2 rfl
      exact iteT ⟨_, rfl, dict_made (U := ks rs) (.inl hl) he hlen keys_in (by rw [ks_len1]; exact hlen) fun z H' s hz => k z H' s hz⟩
theorem okX_l_made {f : Addr} {fd : FuncData} (F : Fun K "_law_made" "_law_made" s_l_made f fd) (T : Txt K mg C_FormSet C_FormDict C_BadElement C_BadKey C_BadRow) (DX_FormSet_init : MkX P w K mg base C_FormSet 5 ["self", "given"] (spOddI K C_FormSet C_BadElement (preS K) mEl)) (DX_FormDict_init : MkX P w K mg base C_FormDict 5 ["self", "given"] (spOddI K C_FormDict C_BadElement (preD K) mEnt))
    : FnOk P w K mg base (L2.CX P w) 7 f fd ["_law_entries", "_law_thing"] (spMadeOdd K C_BadElement) := by
  refine F.okX sc_l_made (fun vs H Q E h => ?_) (fun cdv A outer s H vs Q E hr h => ?_)
  · obtain ⟨b, v, u, d, rfl, _⟩ := h; rfl
  · obtain ⟨b, v, u, d, rfl, ho, k⟩ := h
    refine ⟨_, pss_one (ps_ret (pe_ifExp (pt_val (pv 0)) (pe_mkX DX_FormDict_init (hr.mono (by decide)) rfl T.g_FormDict (L2.passes_call (takes_of rfl rfl rfl rfl) (fun _ _ _ _ z => z)) (pa_cons (pv 1) pa_nil)) (pe_mkX DX_FormSet_init (hr.mono (by decide)) rfl T.g_FormSet (L2.passes_call (takes_of rfl rfl rfl rfl) (fun _ _ _ _ z => z)) (pa_cons (pv 1) pa_nil)))), ?_⟩
    refine ⟨_, rfl, b, rfl, ?_⟩
    cases ho with
    | s ho =>
      refine iteF ⟨_, rfl, ?_⟩
      intro x dx hx hdx hne
      have s1 : Same H (upd (upd H dx (.own x)) x (.ins C_FormSet dx [])) := fun b o e => (upd_ne (ne_of_none e hx)).trans ((upd_ne (ne_of_none e hdx)).trans e)
      exact ⟨x, dx, v, u, d, rfl, upd_same, ho.same (preS_same s1) s1, fun e H' s' he hH => k e H' (s1.trans s') (s1.free he) hH⟩
    | d ho =>
      refine iteT ⟨_, rfl, ?_⟩
      intro x dx hx hdx hne
      have s1 : Same H (upd (upd H dx (.own x)) x (.ins C_FormDict dx [])) := fun b o e => (upd_ne (ne_of_none e hx)).trans ((upd_ne (ne_of_none e hdx)).trans e)
      exact ⟨x, dx, v, u, d, rfl, upd_same, ho.same (preD_same s1) s1, fun e H' s' he hH => k e H' (s1.trans s') (s1.free he) hH⟩

theorem sc_l_default : FnScope ["_law_other", "_law_entry"] ["_law_other", "_law_entry"] (defScope s_l_default) := ⟨rfl, rfl, rfl, by decide +kernel, rfl, by decide +kernel, by decide +kernel⟩
theorem okX_l_default {f : Addr} {fd : FuncData} (F : Fun K "_law_default" "_law_default" s_l_default f fd) (T : Txt K mg C_FormSet C_FormDict C_BadElement C_BadKey C_BadRow) (DX_with : MtDX P w K mg base C_FormDict "with_entry" 7 ["self", "key", "form", "value", "replace"] (spOddW K C_BadElement) [V.bl true] 3 ["replace"] (fun us ws => us ++ ws))
    : FnOk P w K mg base (L2.CX P w) 8 f fd ["_law_other", "_law_entry"] (spDefOdd K C_FormDict C_BadElement) := by
  refine F.okX sc_l_default (fun vs H Q E h => ?_) (fun cdv A outer s H vs Q E hr h => ?_)
  · obtain ⟨_, _, _, _, _, _, _, _, _, _, rfl, _⟩ := h; rfl
  · obtain ⟨a, dx, r, t, k0, f0, v0, dk, df, dv, rfl, ha, ht, h1, h2, h3, hs, hm, k⟩ := h
    refine ⟨_, pss_one (ps_ret (pe_mtKX DX_with (hr.mono (by decide)) T.cl_FormDict (L2.passes_call (takes_of rfl rfl rfl rfl) (fun _ _ _ _ z => z)) (pv 0) (pa_cons (pe_ix ix_tup (pv 1) pe_int (fun _ _ => rfl)) (pa_cons (pe_ix ix_tup (pv 1) pe_int (fun _ _ => rfl)) (pa_cons (pe_ix ix_tup (pv 1) pe_int (fun _ _ => rfl)) pa_nil))) (pk_cons pe_bl pk_nil))), ?_⟩
    refine ⟨_, rfl, a, dx, _, rfl, ha, rfl, ?_⟩
    refine ⟨_, rfl, t, _, 0, k0, rfl, rfl, ht, rfl, _, rfl, t, _, 1, f0, rfl, rfl, ht, rfl, _, rfl, t, _, 2, v0, rfl, rfl, ht, rfl, ?_⟩
    exact ⟨rfl, rfl, a, k0, f0, v0, false, dk, df, dv, rfl, h1, h2, h3, hs, hm, fun e u H' s he hH hd => k e u H' s he hH hd⟩

theorem sc_l_lists_right : FnScope ["_law_bag_here", "_law_entries", "_law_rows", "_law_odd_here", "_law_good", "_law_last", "_law_spot", "_law_bad", "_law_thing", "_law_kept", "_law_keys", "_law_row"] ["_law_bag_here", "_law_entries"] (defScope s_l_lists_right) := ⟨rfl, rfl, rfl, by decide +kernel, rfl, by decide +kernel, by decide +kernel⟩
theorem ok_l_lists_right {f : Addr} {fd : FuncData} (F : Fun K "_law_lists_right" "_law_lists_right" s_l_lists_right f fd) (T : Txt K mg C_FormSet C_FormDict C_BadElement C_BadKey C_BadRow)
    (D_FormSet_len : Mt P w K mg base C_FormSet "__len__" 1 ["self"] (spLen C_FormSet))
    (D_FormDict_len : Mt P w K mg base C_FormDict "__len__" 1 ["self"] (spLenD K C_FormDict))
    (D_l_take : Fn P w K mg base 1 "_law_take" ["_law_bag_here", "_law_many"] spTake)
    (D_l_odd : Fn P w K mg base 2 "_law_odd" ["_law_bag_here", "_law_rows"] (spOddDraw K))
    (D_l_list : Fn P w K mg base 2 "_law_list" ["_law_bag_here", "_law_entries"] spRowsL)
    (D_l_made : Fn P w K mg base 7 "_law_made" ["_law_entries", "_law_thing"] (spMade K C_FormSet C_FormDict))
    {fr c : Addr} {fdr : FuncData} (hPT : PTa ≠ PTb) (hfc : fd.code = .ref c) (TB : LamX.TabB base mg c PTa) (F_l_why : Fun K "_law_why" "_law_why" s_l_why fr fdr) (m_l_why : mg "_law_why" = some (.ref fr)) (kp_l_why : PySem.W.keepIn K (.ref fr) = true) (b_l_why : L2.Binds K fdr ["_law_deed"] []) (DX_l_made : FnX P w K mg base 7 "_law_made" ["_law_entries", "_law_thing"] (spMadeOdd K C_BadElement))
    : FnG P w K mg base CX0 10 f fd ["_law_bag_here", "_law_entries"] (spTurn [(PTa, Q1), (PTb, Q2)]) := by
  refine okGc F hfc sc_l_lists_right (fun vs H Q E h => ?_) (fun A outer s H vs Q E hg hr h => ?_)
  · obtain ⟨a, b, n, rfl, _⟩ := h; rfl
  · obtain ⟨a, b, n, rfl, hb, hn, hT, k⟩ := h
    have hu := hu_of hr
    have hu64 := hr.units
    refine ⟨_, (pss_cons (ps_set (i := 2) sc_l_lists_right.nd rfl (Or.inl rfl) (pe_fn D_l_list (hr.mono (by decide)) rfl (pa_cons (pv 0) (pa_cons (pv 1) pa_nil))))
  (pss_cons (ps_asg (pe_fn D_l_odd (hr.mono (by decide)) rfl (pa_cons (pv 0) (pa_cons (pv 1) pa_nil))) (pg_tup rfl (pgs_cons (pg_name (i := 3) sc_l_lists_right.nd rfl (Or.inl rfl)) (pgs_cons (pg_name (i := 4) sc_l_lists_right.nd rfl (Or.inl rfl)) pgs_nil))))
  (pss_cons (ps_if (PW.pt (pw_and (pt_not (pt_val (pv 1))) (pw_and (pt_val (pe_callB call_isi (by rfl) T.n_isinstance (by decide +kernel) (pa_cons (pv 3) (pa_cons (pe_bltn (v := .ty "tuple") (u := .type "tuple") (by rfl) T.n_tuple (by decide +kernel) rfl) pa_nil)))) (pw_and1 (pt_cmpR op_eq (pe_callB (call_len_seqK (K := K) rfl) (by rfl) T.n_len PySem.boot_len (pa_cons (pv 3) pa_nil)) pe_int (nomark _))))))
    (pss_one (ps_set (i := 3) sc_l_lists_right.nd rfl (Or.inl rfl) (pe_tup (pa_cons pe_int (pa_cons pe_str (pa_cons pe_int pa_nil))))))
    pss_nil)
  (pss_cons (ps_asg (pe_fn D_l_odd (hr.mono (by decide)) rfl (pa_cons (pv 0) (pa_cons (pv 1) pa_nil))) (pg_tup rfl (pgs_cons (pg_name (i := 5) sc_l_lists_right.nd rfl (Or.inl rfl)) (pgs_cons (pg_name (i := 4) sc_l_lists_right.nd rfl (Or.inl rfl)) pgs_nil))))
  (pss_cons (ps_set (i := 6) sc_l_lists_right.nd rfl (Or.inl rfl) (pe_fn D_l_take (hr.mono (by decide)) rfl (pa_cons (pv 0) (pa_cons (pe_op op_add (pe_callB (call_len_seqK (K := K) rfl) (by rfl) T.n_len PySem.boot_len (pa_cons (pv 2) pa_nil)) pe_int) pa_nil))))
  (pss_cons (ps_set (i := 7) sc_l_lists_right.nd rfl (Or.inl rfl) (pe_op op_cat (pe_op op_cat (pe_slice sl_list (pv 2) po_none (po_some (pv 6))) (pe_lst (pa_cons (pv 3) pa_nil))) (pe_slice sl_list (pv 2) (po_some (pv 6)) po_none)))
  (pss_cons (ps_set (i := 7) sc_l_lists_right.nd rfl (Or.inl rfl) (pe_op op_cat (pv 7) (pe_op op_rep (pe_lst (pa_cons (pv 5) pa_nil)) (pe_fn D_l_take (hr.mono (by decide)) rfl (pa_cons (pv 0) (pa_cons pe_int pa_nil))))))
  (pss_cons (ps_for PassesOwn.never rfl (pi_list (pe_lst (pa_cons (pv 7) (pa_cons (pe_callTy call_tuple_of (by rfl) T.n_tuple (by decide +kernel) (pa_cons (pv 7) pa_nil)) pa_nil)))) (pg_name (i := 8) sc_l_lists_right.nd rfl (Or.inr rfl))
    (pss_cons (ps_set (i := 9) sc_l_lists_right.nd rfl (Or.inl rfl) (pe_callB (call_reprX hg hu64) (by rfl) T.n_repr (by decide +kernel) (pa_cons (pv 8) pa_nil)))
      (pss_one (ps_if (PW.pt (pw_or (pt_cmpR op_ne (pe_lamcall1 (T := [(PTa, Q1), (PTb, Q2)]) (k := 7) rfl m_l_why kp_l_why F_l_why b_l_why sc_l_why rfl (Or.inl rfl) (fun cdg => gives_l_why T cdg) hg TB rfl List.mem_cons_self (hu_T hPT) (hr.mono (by decide)) (show LamX.LamS (defScope s_l_lists_right) _ from LamX.lamS_by (by decide +kernel)) rfl (fun _ _ _ _ _ => rfl) (fun A outer s H E f c1 hr2 => (pe_fnX DX_l_made (hr2.mono (by decide)) rfl (L2.passes_call (takes_of rfl rfl rfl rfl) (fun _ _ _ _ z => z)) (pa_cons (pe_var (i := 1) rfl (.inr (.inr rfl))) (pa_cons (pe_var (i := 8) rfl (.inr (.inr rfl))) pa_nil))))) (pe_callB (call_reprX hg hu64) (by rfl) T.n_repr (by decide +kernel) (pa_cons (pv 3) pa_nil)) (nomark _)) (pw_or1 (pt_cmpR op_ne (pe_callB (call_reprX hg hu64) (by rfl) T.n_repr (by decide +kernel) (pa_cons (pv 8) pa_nil)) (pv 9) (nomark _)))))
        (pss_one (ps_ret pe_bl))
        pss_nil))))
  (pss_cons (ps_for PassesOwn.never rfl (pi_list (pe_lst (pa_cons pe_non (pa_cons pe_str (pa_cons pe_int (pa_cons pe_dnewK (pa_cons pe_bl (pa_cons (pe_disp (pps_cons pe_int pe_str pps_nil) (by rfl) (by rfl) (fun z => by cases z) (by decide)) pa_nil)))))))) (pg_name (i := 8) sc_l_lists_right.nd rfl (Or.inr rfl))
    (pss_one (ps_if (pt_cmpR op_ne (pe_lamcall1 (T := [(PTa, Q1), (PTb, Q2)]) (k := 7) rfl m_l_why kp_l_why F_l_why b_l_why sc_l_why rfl (Or.inl rfl) (fun cdg => gives_l_why T cdg) hg TB rfl List.mem_cons_self (hu_T hPT) (hr.mono (by decide)) (show LamX.LamS (defScope s_l_lists_right) _ from LamX.lamS_by (by decide +kernel)) rfl (fun _ _ _ _ _ => rfl) (fun A outer s H E f c1 hr2 => (pe_fnX DX_l_made (hr2.mono (by decide)) rfl (L2.passes_call (takes_of rfl rfl rfl rfl) (fun _ _ _ _ z => z)) (pa_cons (pe_var (i := 1) rfl (.inr (.inr rfl))) (pa_cons (pe_var (i := 8) rfl (.inr (.inr rfl))) pa_nil))))) (pe_callB (call_reprX hg hu64) (by rfl) T.n_repr (by decide +kernel) (pa_cons (pv 8) pa_nil)) (nomark _))
        (pss_one (ps_ret pe_bl))
        pss_nil)))
  (pss_cons (ps_set (i := 10) sc_l_lists_right.nd rfl (Or.inl rfl) (pe_op op_cat (pe_lc (own := [("_law_row", 11)]) (g := gName 11) (tt := tYes) rfl sc_l_lists_right.nd (pi_list (pv 2)) (blkOk_by (own := [("_law_row", 11)]) (N := ["_law_bag_here", "_law_entries", "_law_rows", "_law_odd_here", "_law_good", "_law_last", "_law_spot", "_law_bad", "_law_thing", "_law_kept", "_law_keys", "_law_row"]) (sc := defScope s_l_lists_right) (by decide +kernel)) (fun _ _ _ _ _ => (pg_name (i := 11) sc_l_lists_right.nd rfl (Or.inl rfl))) (fun _ _ _ _ _ => pts_nil) (fun _ _ _ _ _ => (pe_ix (ix_tupK (K := K) rfl) (pv 11) pe_int (fun _ _ => rfl)))) (pe_lst (pa_cons pe_int pa_nil))))
  (pss_one (ps_ret (pe_cmpR op_eq (pe_callB (call_either (call_ownLen D_FormSet_len.op (hr.mono (by decide))) (call_ownLen D_FormDict_len.op (hr.mono (by decide)))) (by rfl) T.n_len PySem.boot_len (pa_cons (pe_fn D_l_made (hr.mono (by decide)) rfl (pa_cons (pv 1) (pa_cons (pe_op op_cat (pv 2) (pe_lst (pa_cons (pv 4) pa_nil))) pa_nil))) pa_nil)) (pe_lenSet rfl rfl T.n_len rfl T.n_set (pv 10)) (nomark _)))))))))))))), ?_⟩
    refine ⟨_, rfl, _, rfl, a, b, n, rfl, hb, by omega, fun r xs es n2 H2 hV hk hlen bag2 hn2 ex2 nra hr2 hT0 hT3 => ?_⟩
    have rows2 := rowsX_of (K := K) hV hk hlen hT0 hT3
    generalize es.map (·.1) = ks at rows2
    have T2 := tabs_bag ex2 hb hT
    refine ⟨_, rfl, _, rfl, a, b, n2, rfl, bag2, by omega, fun u0 d0 g0 p H3 hd hdx hg0 hp bag3 ex3 => ?_⟩
    refine ⟨p, _, rfl, SqT.of hp, rfl, _, _, rfl, _, _, rfl, rfl, ?_⟩
    have T3 := tabs_bag ex3 bag2 T2
    have rows3 := rows2.bag bag2 ex3
    have hr3 := ex3 _ _ nra hr2
    refine if_odd (b := b) rfl rfl hdx hd fun u d H4 s4 hdx4 okd okq hel hen hnb => ?_
    have bag4 := bag3.same s4
    refine ⟨_, rfl, _, rfl, a, b, n2 + 1, rfl, bag4, by omega, fun w e g q H5 he hdw hg hq bag5 ex5 => ?_⟩
    refine ⟨q, _, rfl, SqT.of hq, rfl, _, _, rfl, _, _, rfl, rfl, ?_⟩
    have T5 := tabs_bag ex5 bag4 (T3.ext s4)
    have rows5 := (rows3.same s4).bag bag4 ex5
    have hr5 := ex5 _ _ nra (s4 _ _ hr3)
    have nd5 : Dx K H5 u d := dx_bag bag4 ex5 hnb hdx4
    have lx := rows5.len
    refine ⟨_, rfl, _, rfl, r, xs, rfl, .inl (SqL.of hr5), _, _, rfl, rfl, a, _, n2 + 2, rfl, bag5, by omega, by omega, by omega, fun i H6 i0 i1 bt6 bag6 => ?_⟩
    obtain ⟨j, rfl⟩ : ∃ j : Nat, i = (j : Int) := ⟨i.toNat, by omega⟩
    have jl : j ≤ xs.length := by omega
    have ex6 : Ext a H5 H6 := fun c o nc e => (bt6 c nc).trans e
    have T6 := tabs_bag ex6 bag5 T5
    have rows6 := rows5.bag bag5 ex6
    have hr6 := ex6 _ _ nra hr5
    have hdx6 := dx_bag bag5 ex6 hnb nd5
    have hdw6 := dx_bag bag5 ex6 (odd_noBag e he) hdw
    refine ⟨_, rfl, _, rfl, _, rfl, r, xs, rfl, SqL.of hr6, fun p1 hp1 => ?_⟩
    generalize e_p1 : upd H6 p1 _ = H7
    have s_p1 := new_same e_p1 hp1
    have h_p1 := new_at e_p1
    refine ⟨_, rfl, size_ok (by simp), fun p2 hp2 => ?_⟩
    generalize e_p2 : upd H7 p2 _ = H8
    have s_p2 := new_same e_p2 hp2
    have h_p2 := new_at e_p2
    have c1 : (cutV xs none (some (j : Int))).length ≤ 6 := by rw [cut_to xs j jl, List.length_take]; omega
    have c2 : (cutV xs (some (j : Int)) none).length ≤ 6 := by rw [cut_from xs j jl, List.length_drop]; omega
    refine ⟨p1, p2, _, _, rfl, rfl, s_p2 _ _ h_p1, h_p2, Nat.le_trans (Nat.add_le_add c1 (Nat.le_refl 1)) (fit5 (by decide)), fun p3 hp3 => ?_⟩
    generalize e_p3 : upd H8 p3 _ = H9
    have s_p3 := new_same e_p3 hp3
    have h_p3 := new_at e_p3
    refine ⟨_, rfl, _, rfl, _, rfl, r, xs, rfl, SqL.of (s_p3 _ _ (s_p2 _ _ (s_p1 _ _ hr6))), fun p4 hp4 => ?_⟩
    generalize e_p4 : upd H9 p4 _ = H10
    have s_p4 := new_same e_p4 hp4
    have h_p4 := new_at e_p4
    refine ⟨p3, p4, _, _, rfl, rfl, s_p4 _ _ h_p3, h_p4, (by rw [List.length_append]; exact Nat.le_trans (Nat.add_le_add (Nat.add_le_add c1 (Nat.le_refl 1)) c2) (fit5 (by decide))), fun p5 hp5 => ?_⟩
    generalize e_p5 : upd H10 p5 _ = H11
    have s_p5 := new_same e_p5 hp5
    have h_p5 := new_at e_p5
    rw [cut_to xs j jl, cut_from xs j jl] at h_p5
    have s611 : Same H6 H11 := s_p1.trans (s_p2.trans (s_p3.trans (s_p4.trans s_p5)))
    have bag11 := bag6.same s611
    have T11 := T6.ext s611
    have rows11 := rows6.same s611
    have hr11 := s611 _ _ hr6
    have hdx11 := hdx6.same s611
    have hdw11 := hdw6.same s611
    refine ⟨_, rfl, _, rfl, size_ok (by simp), fun p6 hp6 => ?_⟩
    generalize e_p6 : upd H11 p6 _ = H12
    have s_p6 := new_same e_p6 hp6
    have h_p6 := new_at e_p6
    refine ⟨_, rfl, a, _, n2 + 3, rfl, bag11.same s_p6, by omega, by decide, by decide, fun m H13 m0 m1 bt13 bag13 => ?_⟩
    have ex13 : Ext a H12 H13 := fun c o nc e => (bt13 c nc).trans e
    have bag12 := bag11.same s_p6
    have T13 := tabs_bag ex13 bag12 (T11.ext s_p6)
    have rows13 := (rows11.same s_p6).bag bag12 ex13
    have hr13 := ex13 _ _ nra (s_p6 _ _ hr11)
    have hdx13 := dx_bag bag12 ex13 hnb (hdx11.same s_p6)
    have hdw13 := dx_bag bag12 ex13 (odd_noBag e he) (hdw11.same s_p6)
    have np5 : p5 ≠ a := (bag6.same (s_p1.trans (s_p2.trans (s_p3.trans s_p4)))).ne hp5 
    have np6 : p6 ≠ a := bag11.ne hp6
    refine ⟨p6, m, _, rfl, rfl, ex13 _ _ np6 h_p6, by omega, by omega, (by rw [List.length_singleton, Nat.one_mul]; exact fit5 (by omega)), fun p7 hp7 => ?_⟩
    generalize e_p7 : upd H13 p7 _ = H14
    have s_p7 := new_same e_p7 hp7
    have h_p7 := new_at e_p7
    rw [flat_rep] at h_p7
    have hm1 : m.toNat ≤ 1 := by omega
    generalize m.toNat = mm at hm1 h_p7
    have hp5' := s_p7 _ _ (ex13 _ _ np5 (s_p6 _ _ h_p5))
    refine ⟨p5, p7, _, _, rfl, rfl, hp5', h_p7, ?_, fun B hB => ?_⟩
    · rw [List.length_replicate]
      have := rows13.len.1
      simp only [List.length_append, List.length_take, List.length_drop, List.length_singleton]
      exact fit5 (by omega)
    generalize e_B : upd H14 B _ = H15
    have s_B := new_same e_B hB
    have h_B := new_at e_B
    have s1315 := s_p7.trans s_B
    have bag15 := bag13.same s1315
    have T15 := T13.ext s1315
    have rows15 := rows13.same s1315
    have hr15 := s1315 _ _ hr13
    have hdx15 := hdx13.same s1315
    have hdw15 := hdw13.same s1315
    have hg15 : SqT K H15 g (goodV b) := sqT_same s1315 (sqT_bag bag12 ex13 (sqT_same (s611.trans s_p6) (sqT_bag bag5 ex6 (SqT.of hg))))
    have e15 : ExtB a H H15 := fun c o nc e z => s1315 _ _ (ex13 _ _ nc (s_p6 _ _ (s611 _ _ (ex6 _ _ nc (ex5 _ _ nc (s4 _ _ (ex3 _ _ nc (ex2 _ _ nc e))))))))
    obtain ⟨ds, hds, rep1, rep2⟩ := bad_list j rows15 hdx15 okq hdw15 (odd_okQ e he) hm1
    rw [bad_eq] at h_B hds
    have hoB : ∀ {G : Hp} {x : Addr}, LamX.ExtN H15 G → (G x = some (.lst (xs.take j ++ u :: (xs.drop j ++ List.replicate mm w))) ∨ SqT K G x (xs.take j ++ u :: (xs.drop j ++ List.replicate mm w))) → OddOf K G b (.ref x) u d := fun e h => odd_in (rows15.extN e) h (extN_dx e hdx15) okd.1 hel hen
    refine ⟨_, rfl, _, rfl, B, _, rfl, .inl ⟨SqL.of h_B, fun tb htb => ?_⟩⟩
    generalize e_tb : upd H15 tb _ = H16
    have s_tb := new_same e_tb htb
    have h_tb := new_at e_tb
    refine ⟨size_ok (by simp), fun L hL => ?_⟩
    generalize e_L : upd H16 L _ = H17
    have s_L := new_same e_L hL
    have h_L := new_at e_L
    have s1517 := s_tb.trans s_L
    have e0 : LamX.ExtN H15 H17 := ofSame s1517
    refine ⟨L, rfl, ⟨_, SqL.of h_L⟩, ?_⟩
    refine for_list (K := K) (xs := [V.ref B, .ref tb]) (fun i σ G => (∃ v8 v9, σ = [some (.ref a), some (.bl b), some (.ref r), some u, some (.ref g), some w, some (.int j), some (.ref B), v8, v9, none, none]) ∧ LamX.ExtN H17 G ∧ LamX.Tabs [(PTa, Q1), (PTb, Q2)] G) ⟨⟨_, _, rfl⟩, .refl _, T15.ext s1517⟩ ?_ ?_ ?_
    · rintro i σ G hi ⟨⟨v8, v9, rfl⟩, eG, TG⟩
      exact SqL.of (eG _ _ h_L fun _ z => nomatch z)
    · rintro i x σ G hx ⟨⟨v8, v9, rfl⟩, eG, TG⟩
      have eG15 := e0.trans eG
      have it : OddOf K G b x u d ∧ ∃ dd, Dn K G x dd ∧ repOk dd := by
        match i, hx with
        | 0, hx =>
          cases hx
          have z := eG15 _ _ h_B fun _ z => nomatch z
          exact ⟨hoB eG15 (.inl z), _, .lst (SqL.of z) (hds.extN eG15), rep1⟩
        | 1, hx =>
          cases hx
          have z := eG _ _ (s_L _ _ h_tb) fun _ z => nomatch z
          exact ⟨hoB eG15 (.inr (SqT.of z)), _, .tup (SqT.of z) (hds.extN eG15), rep2⟩
        | i + 2, hx => cases hx
      obtain ⟨ho, dd, hdn, hrep⟩ := it
      refine ⟨_, rfl, x, dd, rfl, hdn, hrep.1, hrep.2.1, hrep.2.2, ?_⟩
      refine lam_made TG rfl rfl ho okd fun G2 e2 T2' => ?_
      refine ⟨_, rfl, u, d, rfl, .of (extN_dx (eG15.trans e2) hdx15), okd.2.1, okd.2.2.1, okd.2.2.2, rfl, _, rfl, ?_⟩
      rw [ne_same]
      refine iteF ?_
      refine ⟨_, rfl, x, dd, rfl, hdn.extN e2, hrep.1, hrep.2.1, hrep.2.2, _, rfl, rfl, _, rfl, ?_⟩
      rw [ne_same]
      refine iteF ?_
      exact ⟨⟨_, _, rfl⟩, eG.trans e2, T2'⟩
    · rintro σ G ⟨⟨v8, v9, rfl⟩, eG, TG⟩
      have eG15 := e0.trans eG
      have eaG : ExtB a H G := e15.trans (.ofN eG15)
      have bagG : Bag G a _ := extN_bag eG15 bag15
      have rowsG := rows15.extN eG15
      have hrG : G r = some (.lst xs) := eG15 _ _ hr15 fun _ z => nomatch z
      have hgG := extN_sqT eG15 hg15
      intro e1 he1
      generalize e_e1 : upd G e1 _ = G1
      have s_e1 := new_same e_e1 he1
      have h_e1 := new_at e_e1
      intro e2 he2
      refine ⟨upd_same, [(.inl 1, .str "x")], rfl, by decide, ?_⟩
      have s2 : Same G1 (upd (upd G1 e2 (.dK [])) e2 (.dK (mergeK [] [(.inl 1, .str "x")]))) := fun c o e => (upd_ne (ne_of_none e he2)).trans ((upd_ne (ne_of_none e he2)).trans e)
      have h_e2 : (upd (upd G1 e2 (.dK [])) e2 (.dK (mergeK [] [(.inl 1, .str "x")]))) e2 = some (.dK [(.inl 1, .str "x")]) := upd_same
      have h_e1' := s2 _ _ h_e1
      have sG2 := s_e1.trans s2
      generalize upd (upd G1 e2 (.dK [])) e2 (.dK (mergeK [] [(.inl 1, .str "x")])) = G2 at h_e2 h_e1' sG2 ⊢
      refine ⟨size_ok (by simp), fun M hM => ?_⟩
      generalize e_M : upd G2 M _ = G3
      have s_M := new_same e_M hM
      have h_M := new_at e_M
      have sG3 := sG2.trans s_M
      refine ⟨M, rfl, ⟨_, SqL.of h_M⟩, ?_⟩
      refine for_list (K := K) (xs := [V.non, .str "x", .int 0, .ref e1, .bl true, .ref e2]) (fun i σ J => (∃ v8, σ = [some (.ref a), some (.bl b), some (.ref r), some u, some (.ref g), some w, some (.int j), some (.ref B), v8, v9, none, none]) ∧ LamX.ExtN G3 J ∧ LamX.Tabs [(PTa, Q1), (PTb, Q2)] J) ⟨⟨_, rfl⟩, .refl _, TG.ext sG3⟩ ?_ ?_ ?_
      · rintro i σ J hi ⟨⟨v8, rfl⟩, eJ, TJ⟩
        exact SqL.of (eJ _ _ h_M fun _ z => nomatch z)
      · rintro i x σ J hx ⟨⟨v8, rfl⟩, eJ, TJ⟩
        obtain ⟨dd, ho, okdd⟩ := six_odd (K := K) (b := b) (eJ _ _ (s_M _ _ h_e1') fun _ z => nomatch z) (eJ _ _ (s_M _ _ h_e2) fun _ z => nomatch z) hx
        refine lam_made TJ rfl rfl ho okdd fun J2 e2 TJ2 => ?_
        refine ⟨_, rfl, x, dd, rfl, .of (extN_dx e2 ho.dx), okdd.2.1, okdd.2.2.1, okdd.2.2.2, rfl, _, rfl, ?_⟩
        rw [ne_same]
        refine iteF ?_
        exact ⟨⟨_, rfl⟩, eJ.trans e2, TJ2⟩
      · rintro σ J ⟨⟨v8, rfl⟩, eJ, TJ⟩
        have eGJ : LamX.ExtN G J := (ofSame sG3).trans eJ
        have eaJ := eaG.trans (.ofN eGJ)
        have bagJ := extN_bag eGJ bagG
        have rowsJ := rowsG.extN eGJ
        have hrJ : J r = some (.lst xs) := eGJ _ _ hrG fun _ z => nomatch z
        have hgJ := extN_sqT eGJ hgG
        refine ⟨_, rfl, r, rfl, ⟨_, SqL.of hrJ⟩, fun D hD => ?_⟩
        have nDr : D ≠ r := fun z => by rw [z, hrJ] at hD; cases hD
        refine lc_list (xs := xs) (fun i H' => Ext D J H' ∧ H' D = some (.lst ((ks.take i).map V.int))) ?_ ?_ ?_ ?_
        · exact ⟨fun c o nc e => (upd_ne nc).trans e, upd_same⟩
        · rintro i H' hi ⟨eD, _⟩
          exact SqL.of (eD _ _ (Ne.symm nDr) hrJ)
        · rintro i v H' hv ⟨eD, hDv⟩
          have sJ : Same J H' := fun c o z => eD c o (fun q => by rw [q, hD] at z; cases z) z
          obtain ⟨t, k0, ys, rfl, e1, ht⟩ := rowsJ.at hv
          have hi : i < xs.length := (List.getElem?_eq_some_iff.mp hv).1
          refine ⟨rfl, _, rfl, t, _, 0, .int k0, rfl, rfl, sqT_same sJ ht, ?_, _, hDv, ?_, ?_⟩
          · unfold atI ixN
            rw [if_pos (by decide), if_pos (by rw [List.length_cons]; omega)]
            rfl
          · exact Nat.lt_of_lt_of_le (Nat.lt_succ_of_le (by rw [List.length_map, List.length_take]; omega : _ ≤ 6)) (fit5 (by decide))
          · refine ⟨fun c o nc e => (upd_ne nc).trans (eD _ _ nc e), ?_⟩
            rw [upd_same, take_one e1, List.map_append]
            rfl
        · rintro J2 ⟨eD, hDv⟩
          have sJ : Same J J2 := fun c o z => eD c o (fun q => by rw [q, hD] at z; cases z) z
          have klen : ks.length = xs.length := lx.2
          rw [List.take_of_length_le (by omega)] at hDv
          refine ⟨size_ok (by simp), fun y hy => ?_⟩
          generalize e_y : upd J2 y _ = J3
          have s_y := new_same e_y hy
          have h_y := new_at e_y
          refine ⟨D, y, _, _, rfl, rfl, s_y _ _ hDv, h_y, Nat.le_trans (Nat.add_le_add (by rw [List.length_map]; omega : _ ≤ 6) (Nat.le_refl 1)) (fit5 (by decide)), fun Z hZ => ?_⟩
          generalize e_Z : upd J3 Z _ = J4
          have s_Z := new_same e_Z hZ
          have h_Z := new_at e_Z
          have s4' : Same J J4 := sJ.trans (s_y.trans s_Z)
          refine ⟨_, rfl, _, rfl, _, rfl, size_ok (by simp), fun y2 hy2 => ?_⟩
          generalize e_y2 : upd J4 y2 _ = J5
          have s_y2 := new_same e_y2 hy2
          have h_y2 := new_at e_y2
          have s5 := s4'.trans s_y2
          refine ⟨r, y2, _, _, rfl, rfl, s5 _ _ hrJ, h_y2, Nat.le_trans (Nat.add_le_add (by omega : xs.length ≤ 6) (Nat.le_refl 1)) (fit5 (by decide)), fun Y hY => ?_⟩
          generalize e_Y : upd J5 Y _ = J6
          have s_Y := new_same e_Y hY
          have h_Y := new_at e_Y
          have s6 := s5.trans s_Y
          have rows6' := rowsJ.same s6
          have hg6 := sqT_same s6 hgJ
          have hZ6 := s_Y _ _ (s_y2 _ _ h_Z)
          have hZ7 : J6 Z = some (.lst ((ks ++ [1]).map V.int)) := by rw [hZ6, List.map_append]; rfl
          have cl : (dedup (ks ++ [1])).length ≤ 7 := Nat.le_trans (dedup_len _) (by rw [List.length_append, List.length_singleton]; omega)
          refine ⟨b, Y, _, rfl, h_Y, fun eb => ?_, fun eb => ?_⟩
          · subst eb
            cases rows6' with
            | @s _ es hE hl =>
            refine ⟨_, ElAll.app hg6 (by decide) (by decide +kernel) hE, by rw [List.length_append, List.length_singleton]; omega, fun z H' sz hz => .inl ?_⟩
            have cnt := firsts_count (es ++ [((1, "x") : Int × Str)])
            rw [List.map_append] at cnt
            obtain ⟨zx, zd, h1, h2⟩ := hz
            refine ⟨z, _, _, rfl, h1, _, z, _, rfl, ⟨zx, zd, h1, h2⟩, _, rfl, by omega, ?_, ?_⟩
            · rw [cnt]; exact Int.lt_of_le_of_lt (b := 7) (by have := cl; simp only [List.map_cons, List.map_nil] at this ⊢; omega) (by decide)
            refine ⟨_, rfl, Z, es.map (·.1) ++ [1], rfl, sz _ _ hZ7, by rw [List.length_append, List.length_singleton, List.length_map]; omega, rfl, ?_⟩
            rw [eq_true (by rw [cnt]; rfl)]
            have sl := s6.trans sz
            exact k _ _ (bagJ.same sl) (by omega) (eaJ.trans (.ofN (ofSame sl))) ((TJ.ext s6).ext sz)
          · subst eb
            cases rows6' with
            | @d _ rs hE hl =>
            refine ⟨_, EnAll.app hg6 ⟨⟨by decide, by decide⟩, by decide +kernel, by decide, by decide⟩ hE, by rw [List.length_append, List.length_singleton]; omega, fun z H' sz hz => .inr ?_⟩
            have cnt := laid_count (rs ++ [((1, ("x", 5)) : Int × Rw)])
            rw [List.map_append] at cnt
            obtain ⟨zx, zd, h1, h2⟩ := hz
            refine ⟨z, _, _, rfl, h1, _, z, _, rfl, ⟨zx, zd, h1, h2⟩, _, rfl, by omega, ?_, ?_⟩
            · rw [cnt]; exact Int.lt_of_le_of_lt (b := 7) (by have := cl; simp only [List.map_cons, List.map_nil] at this ⊢; omega) (by decide)
            refine ⟨_, rfl, Z, rs.map (·.1) ++ [1], rfl, sz _ _ hZ7, by rw [List.length_append, List.length_singleton, List.length_map]; omega, rfl, ?_⟩
            rw [eq_true (by rw [cnt]; rfl)]
            have sl := s6.trans sz
            exact k _ _ (bagJ.same sl) (by omega) (eaJ.trans (.ofN (ofSame sl))) ((TJ.ext s6).ext sz)
theorem sc_l_single_right : FnScope ["_law_bag_here", "_law_some", "_law_other", "_law_kept", "_law_odd_here", "_law_key", "_law_form", "_law_amount"] ["_law_bag_here"] (defScope s_l_single_right) := ⟨rfl, rfl, rfl, by decide +kernel, rfl, by decide +kernel, by decide +kernel⟩
theorem ok_l_single_right {f : Addr} {fd : FuncData} (F : Fun K "_law_single_right" "_law_single_right" s_l_single_right f fd) (T : Txt K mg C_FormSet C_FormDict C_BadElement C_BadKey C_BadRow)
    (D_FormSet_init : MkFn P w K mg base C_FormSet 5 ["self", "given"] (spInit K C_FormSet))
    (D_FormSet_repr : MtG P w K mg base C_FormSet "__repr__" 2 ["self"] (spReprS C_FormSet))
    (D_FormDict_init : MkFn P w K mg base C_FormDict 5 ["self", "given"] (spInitD K C_FormDict))
    (D_FormDict_repr : MtG P w K mg base C_FormDict "__repr__" 2 ["self"] (spReprD K C_FormDict))
    (D_l_take : Fn P w K mg base 1 "_law_take" ["_law_bag_here", "_law_many"] spTake)
    (D_l_odd : Fn P w K mg base 2 "_law_odd" ["_law_bag_here", "_law_rows"] (spOddDraw K))
    (D_l_list : Fn P w K mg base 2 "_law_list" ["_law_bag_here", "_law_entries"] spRowsL)
    {fr c : Addr} {fdr : FuncData} (hPT : PTa ≠ PTb) (hfc : fd.code = .ref c) (TB : LamX.TabB base mg c PTb) (F_l_why : Fun K "_law_why" "_law_why" s_l_why fr fdr) (m_l_why : mg "_law_why" = some (.ref fr)) (kp_l_why : PySem.W.keepIn K (.ref fr) = true) (b_l_why : L2.Binds K fdr ["_law_deed"] []) (DX_wel : MtX P w K mg base C_FormSet "with_element" 7 ["self", "element"] (spOddE K C_BadElement)) (DX_with : MtDX P w K mg base C_FormDict "with_entry" 7 ["self", "key", "form", "value", "replace"] (spOddW K C_BadElement) [V.bl true] 3 ["replace"] (fun us ws => us ++ ws)) (DX_l_default : FnX P w K mg base 8 "_law_default" ["_law_other", "_law_entry"] (spDefOdd K C_FormDict C_BadElement))
    : FnG P w K mg base CX0 11 f fd ["_law_bag_here"] (spTurn1 [(PTa, Q1), (PTb, Q2)]) := by
  refine okGc F hfc sc_l_single_right (fun vs H Q E h => ?_) (fun A outer s H vs Q E hg hr h => ?_)
  · obtain ⟨a, n, rfl, _⟩ := h; rfl
  · obtain ⟨a, n, rfl, hb, hn, hT, k⟩ := h
    have hu := hu_of hr
    have hu64 := hr.units
    refine ⟨_, (pss_cons (ps_asg (pe_tup (pa_cons (pe_mk D_FormSet_init (hr.mono (by decide)) rfl T.g_FormSet (pa_cons (pe_fn D_l_list (hr.mono (by decide)) rfl (pa_cons (pv 0) (pa_cons pe_bl pa_nil))) pa_nil)) (pa_cons (pe_mk D_FormDict_init (hr.mono (by decide)) rfl T.g_FormDict (pa_cons (pe_fn D_l_list (hr.mono (by decide)) rfl (pa_cons (pv 0) (pa_cons pe_bl pa_nil))) pa_nil)) pa_nil))) (pg_tup rfl (pgs_cons (pg_name (i := 1) sc_l_single_right.nd rfl (Or.inr rfl)) (pgs_cons (pg_name (i := 2) sc_l_single_right.nd rfl (Or.inr rfl)) pgs_nil))))
  (pss_cons (ps_set (i := 3) sc_l_single_right.nd rfl (Or.inl rfl) (pe_lst (pa_cons (pe_callB (call_ownRepr hg D_FormSet_repr (hr.mono (by decide))) (by rfl) T.n_repr (by decide +kernel) (pa_cons (pv 1) pa_nil)) (pa_cons (pe_callB (call_ownRepr hg D_FormDict_repr (hr.mono (by decide))) (by rfl) T.n_repr (by decide +kernel) (pa_cons (pv 2) pa_nil)) pa_nil))))
  (pss_cons (ps_set (i := 4) sc_l_single_right.nd rfl (Or.inr rfl) (pe_ix (ix_tupK (K := K) rfl) (pe_fn D_l_odd (hr.mono (by decide)) rfl (pa_cons (pv 0) (pa_cons pe_bl pa_nil))) pe_int (fun _ _ => rfl)))
  (pss_cons (ps_if (pt_cmpR op_ne (pe_lamcall1 (T := [(PTa, Q1), (PTb, Q2)]) (k := 8) rfl m_l_why kp_l_why F_l_why b_l_why sc_l_why rfl (Or.inl rfl) (fun cdg => gives_l_why T cdg) hg TB rfl (List.mem_cons_of_mem _ List.mem_cons_self) (hu_T2 hPT) (hr.mono (by decide)) (show LamX.LamS (defScope s_l_single_right) _ from LamX.lamS_by (by decide +kernel)) rfl (fun _ _ _ _ _ => rfl) (fun A outer s H E f c1 hr2 => (pe_mtX DX_wel (hr2.mono (by decide)) T.cl_FormSet (L2.passes_call (takes_of rfl rfl rfl rfl) (fun _ _ _ _ z => z)) (pe_var (i := 1) rfl (.inr (.inr rfl))) (pa_cons (pe_var (i := 4) rfl (.inr (.inr rfl))) pa_nil)))) (pe_callB (call_repr hg hu64) (by rfl) T.n_repr (by decide +kernel) (pa_cons (pv 4) pa_nil)) (nomark _))
    (pss_one (ps_ret pe_bl))
    pss_nil)
  (pss_cons (ps_set (i := 4) sc_l_single_right.nd rfl (Or.inr rfl) (pe_ix (ix_listK (K := K) rfl) (pe_lst (pa_cons (pe_tup (pa_cons pe_bl (pa_cons pe_str (pa_cons pe_int pa_nil)))) (pa_cons (pe_tup (pa_cons pe_int (pa_cons pe_str (pa_cons pe_int pa_nil)))) (pa_cons (pe_tup (pa_cons pe_int (pa_cons pe_str (pa_cons pe_non pa_nil)))) (pa_cons (pe_tup (pa_cons (pe_un un_neg pe_int) (pa_cons pe_str (pa_cons pe_int pa_nil)))) pa_nil))))) (pe_fn D_l_take (hr.mono (by decide)) rfl (pa_cons (pv 0) (pa_cons pe_int pa_nil))) (fun _ _ => rfl)))
  (pss_cons (ps_asg (pv 4) (pg_tup rfl (pgs_cons (pg_name (i := 5) sc_l_single_right.nd rfl (Or.inr rfl)) (pgs_cons (pg_name (i := 6) sc_l_single_right.nd rfl (Or.inr rfl)) (pgs_cons (pg_name (i := 7) sc_l_single_right.nd rfl (Or.inr rfl)) pgs_nil)))))
  (pss_cons (ps_if (pt_cmpR op_ne (pe_lamcall1 (T := [(PTa, Q1), (PTb, Q2)]) (k := 8) rfl m_l_why kp_l_why F_l_why b_l_why sc_l_why rfl (Or.inl rfl) (fun cdg => gives_l_why T cdg) hg TB rfl (List.mem_cons_of_mem _ List.mem_cons_self) (hu_T2 hPT) (hr.mono (by decide)) (show LamX.LamS (defScope s_l_single_right) _ from LamX.lamS_by (by decide +kernel)) rfl (fun _ _ _ _ _ => rfl) (fun A outer s H E f c1 hr2 => (pe_mtDX DX_with (hr2.mono (by decide)) T.cl_FormDict (L2.passes_call (takes_of rfl rfl rfl rfl) (fun _ _ _ _ z => z)) (pe_var (i := 2) rfl (.inr (.inr rfl))) (pa_cons (pe_var (i := 5) rfl (.inr (.inr rfl))) (pa_cons (pe_var (i := 6) rfl (.inr (.inr rfl))) (pa_cons (pe_var (i := 7) rfl (.inr (.inr rfl))) pa_nil)))))) (pe_callB (call_repr hg hu64) (by rfl) T.n_repr (by decide +kernel) (pa_cons (pv 4) pa_nil)) (nomark _))
    (pss_one (ps_ret pe_bl))
    pss_nil)
  (pss_cons (ps_if (pt_cmpR op_ne (pe_lamcall1 (T := [(PTa, Q1), (PTb, Q2)]) (k := 8) rfl m_l_why kp_l_why F_l_why b_l_why sc_l_why rfl (Or.inl rfl) (fun cdg => gives_l_why T cdg) hg TB rfl (List.mem_cons_of_mem _ List.mem_cons_self) (hu_T2 hPT) (hr.mono (by decide)) (show LamX.LamS (defScope s_l_single_right) _ from LamX.lamS_by (by decide +kernel)) rfl (fun _ _ _ _ _ => rfl) (fun A outer s H E f c1 hr2 => (pe_fnX DX_l_default (hr2.mono (by decide)) rfl (L2.passes_call (takes_of rfl rfl rfl rfl) (fun _ _ _ _ z => z)) (pa_cons (pe_var (i := 2) rfl (.inr (.inr rfl))) (pa_cons (pe_var (i := 4) rfl (.inr (.inr rfl))) pa_nil))))) (pe_callB (call_repr hg hu64) (by rfl) T.n_repr (by decide +kernel) (pa_cons (pv 4) pa_nil)) (nomark _))
    (pss_one (ps_ret pe_bl))
    pss_nil)
  (pss_one (ps_ret (pe_cmpR (op_eqV hu64) (pe_lst (pa_cons (pe_callB (call_ownRepr hg D_FormSet_repr (hr.mono (by decide))) (by rfl) T.n_repr (by decide +kernel) (pa_cons (pv 1) pa_nil)) (pa_cons (pe_callB (call_ownRepr hg D_FormDict_repr (hr.mono (by decide))) (by rfl) T.n_repr (by decide +kernel) (pa_cons (pv 2) pa_nil)) pa_nil))) (pv 3) (nomark _)))))))))))), ?_⟩
    refine ⟨_, rfl, a, false, n, rfl, hb, by omega, fun l xs es0 n2 H2 hV hk hlen bag2 hn2 ex2 nla hl hT0 hT3 => ?_⟩
    have rx := rowsX_of (K := K) hV hk hlen hT0 hT3
    generalize es0.map (·.1) = ks1 at rx
    cases rx with
    | @s _ es hE hl6 =>
    refine set_made (.inl hl) hE (by omega) fun z1 H3 s3 hz1 => ?_
    have T3 := (tabs_bag ex2 hb hT).ext s3
    have bag3 := bag2.same s3
    refine ⟨_, rfl, a, true, n2, rfl, bag3, by omega, fun l' xs' es0' n4 H4 hV' hk' hlen' bag4 hn4 ex4 nla' hl' hT0' hT3' => ?_⟩
    have rx' := rowsX_of (K := K) hV' hk' hlen' hT0' hT3'
    generalize es0'.map (·.1) = ks2 at rx'
    cases rx' with
    | @d _ rs hE' hl6' =>
    refine dict_made (U := ks rs) (.inl hl') hE' (by omega) keys_in (by rw [ks_len1]; omega) fun z2 H5 s5 hz2 => ?_
    have T5 := (tabs_bag ex4 bag3 T3).ext s5
    have bag5 := bag4.same s5
    have hz1' := (hz1.bagX bag3 ex4).same s5
    refine ⟨size_ok (by simp), fun p hp => ?_⟩
    generalize e_p : upd H5 p _ = H6
    have s_p := new_same e_p hp
    have h_p := new_at e_p
    refine ⟨p, _, rfl, SqT.of h_p, rfl, _, _, rfl, _, _, rfl, rfl, ?_⟩
    have vf := vs_firsts hE.vs
    have lf : (firsts es).length ≤ 20 := by
      have := firsts_count es
      have := dedup_len (es.map (·.1))
      rw [List.length_map] at this
      omega
    have ll : (laidA [] rs).length ≤ 13 := by
      have := laid_len0 rs
      omega
    have f6 := hz1'.same s_p
    have d6 := hz2.same s_p
    have f6' := f6
    have d6' := d6
    obtain ⟨zx, zd, hi1, _⟩ := f6'
    obtain ⟨zx2, zd2, hi2, _⟩ := d6'
    refine ⟨_, rfl, z1, _, _, rfl, hi1, _, z1, _, rfl, f6, vf, lf, fun H7 a1 s7 pm1 st1 => ⟨_, rfl, ?_⟩⟩
    have d7 := d6.same s7
    refine ⟨_, rfl, z2, _, _, rfl, s7 _ _ hi2, _, z2, _, rfl, d7, ll, fun H8 a2 s8 pm2 st2 => ⟨_, rfl, ?_⟩⟩
    refine ⟨size_ok (by simp), fun kk hkk => ?_⟩
    generalize e_kk : upd H8 kk _ = H9
    have s_kk := new_same e_kk hkk
    have h_kk := new_at e_kk
    have s69 := s7.trans (s8.trans s_kk)
    have bag9 := (bag5.same s_p).same s69
    have T9 := (T5.ext s_p).ext s69
    have f9 := f6.same s69
    have d9 := d6.same s69
    refine ⟨_, rfl, a, false, n4, rfl, bag9, by omega, fun u d g q H10 hd hdx hg hq bag10 ex10 => ?_⟩
    refine ⟨q, _, 0, u, rfl, rfl, SqT.of hq, rfl, ?_⟩
    have T10 := tabs_bag ex10 bag9 T9
    have f10 := f9.bagX bag9 ex10
    have d10 := d9.bag bag9 ex10
    have nkk : kk ≠ a := ((bag5.same s_p).same (s7.trans s8)).ne hkk
    have hk10 := ex10 _ _ nkk h_kk
    obtain ⟨okd, _, _, _⟩ := odd_facts hd
    obtain ⟨zx3, zd3, hi3, _⟩ := id f10
    refine lam_wel T10 rfl rfl hi3 hdx okd (odd_noEl d hd) fun H11 e11 T11 => ?_
    refine ⟨_, rfl, u, d, rfl, extN_dx e11 hdx, okd.2.1, okd.2.2.1, okd.2.2.2, rfl, _, rfl, ?_⟩
    rw [ne_same]
    refine iteF ?_
    have bag11 := extN_bag e11 bag10
    have f11 := f10.extN e11
    have d11 := extN_dd e11 d10
    have hk11 : H11 kk = some (.lst [.str (reprE a1), .str (reprR a2)]) := e11 _ _ hk10 fun _ z => nomatch z
    refine next_ixlit (K := K) (ds := bad4) rfl (litx_all (lit_cons (lit_tup (lit_cons (lit_bl _) (lit_cons (lit_str _) (lit_cons (lit_int _) lit_nil))) (by decide)) (lit_cons (lit_tup (lit_cons (lit_int _) (lit_cons (lit_str _) (lit_cons (lit_int _) lit_nil))) (by decide)) (lit_cons (lit_tup (lit_cons (lit_int _) (lit_cons (lit_str _) (lit_cons lit_non lit_nil))) (by decide)) (lit_cons (lit_tup (lit_cons (lit_neg _) (lit_cons (lit_str _) (lit_cons (lit_int _) lit_nil))) (by decide)) lit_nil))))) (by decide) fun L H12 s12 nL hL => ?_
    obtain ⟨vs, hLv, hvs⟩ := hL
    have bag12 := bag11.same s12
    have T12 := T11.ext s12
    have len4 := hvs.len
    refine ⟨_, rfl, a, 4, _, rfl, bag12, by omega, by decide, by decide, fun i H13 i0 i1 bt13 bag13 => ?_⟩
    have ex13 : Ext a H12 H13 := fun c o nc e => (bt13 c nc).trans e
    have T13 := tabs_bag ex13 bag12 T12
    have f13 := (f11.same s12).bagX bag12 ex13
    have d13 := (d11.same s12).bag bag12 ex13
    have nL2 : L ≠ a := bag11.ne nL
    have nkk11 : kk ≠ a := nkk
    have hk13 : H13 kk = some (.lst [.str (reprE a1), .str (reprR a2)]) := ex13 _ _ nkk (s12 _ _ hk11)
    have lo : i.toNat < bad4.length := by show i.toNat < 4; omega
    obtain ⟨v, hv, hdv⟩ := hvs.at' (i := i.toNat) (List.getElem?_eq_getElem lo)
    have hmem : bad4[i.toNat] ∈ bad4 := List.getElem_mem lo
    generalize bad4[i.toNat] = d4 at hmem hdv
    obtain ⟨okd4, no4⟩ := bad4_facts hmem
    obtain ⟨dk, df, dv, rfl⟩ := bad4_tup hmem
    obtain ⟨t, k0, f0, w0, rfl, ht, p1, p2, p3⟩ := dx_tup3 hdv
    have hat : atI vs i = some (.ref t) := by
      unfold atI ixN
      rw [if_pos i0, if_pos (by rw [len4]; exact i1)]
      exact hv
    refine ⟨L, vs, i, _, rfl, rfl, SqL.of (ex13 _ _ nL2 hLv), hat, ?_⟩
    have nb4 : ∀ d ∈ bad4, noBag d = true := by decide +kernel
    have nb := nb4 _ hmem
    have ht13 := sqT_bag bag12 ex13 ht
    have nbs : noBagAll [dk, df, dv] = true := nb
    unfold noBagAll at nbs
    rw [Bool.and_eq_true] at nbs
    obtain ⟨b1, nbs⟩ := nbs
    unfold noBagAll at nbs
    rw [Bool.and_eq_true] at nbs
    obtain ⟨b2, nbs⟩ := nbs
    unfold noBagAll at nbs
    rw [Bool.and_eq_true] at nbs
    obtain ⟨b3, _⟩ := nbs
    have q1 := dp_bag bag12 ex13 _ _ b1 p1
    have q2 := dp_bag bag12 ex13 _ _ b2 p2
    have q3 := dp_bag bag12 ex13 _ _ b3 p3
    have hdt : Dx K H13 (.ref t) (.tuple [dk, df, dv]) := .of (.tup ht13 (.cons q1 (.cons q2 (.cons q3 .nil))))
    refine ⟨_, rfl, t, _, rfl, ht13, rfl, _, _, rfl, _, _, rfl, _, _, rfl, rfl, ?_⟩
    obtain ⟨zx5, zd5, hi5, _⟩ := id d13
    refine lam_with T13 rfl rfl rfl rfl hi5 q1 q2 q3 okd4 no4 fun H14 e14 T14 => ?_
    refine ⟨_, rfl, _, _, rfl, extN_dx e14 hdt, okd4.2.1, okd4.2.2.1, okd4.2.2.2, rfl, _, rfl, ?_⟩
    rw [ne_same]
    refine iteF ?_
    refine lam_dflt T14 rfl rfl (e14 _ _ hi5 fun _ z => nomatch z) (extN_sqT e14 ht13) (extN_dp e14 _ _ q1) (extN_dp e14 _ _ q2) (extN_dp e14 _ _ q3) okd4 no4 fun H15 e15 T15 => ?_
    have e35 := e14.trans e15
    refine ⟨_, rfl, _, _, rfl, extN_dx e35 hdt, okd4.2.1, okd4.2.2.1, okd4.2.2.2, rfl, _, rfl, ?_⟩
    rw [ne_same]
    refine iteF ?_
    have f15 := f13.extN e35
    have d15 := extN_dd e35 d13
    obtain ⟨zx6, zd6, hi6, _, gd⟩ := id f15
    obtain ⟨zx7, zd7, hi7, _⟩ := id d15
    refine ⟨_, rfl, z1, _, _, rfl, hi6, _, z1, _, rfl, f15, vf, lf, fun H16 c1 s16 pm3 st3 => ⟨_, rfl, ?_⟩⟩
    refine ⟨_, rfl, z2, _, _, rfl, s16 _ _ hi7, _, z2, _, rfl, d15.same s16, ll, fun H17 c2 s17 pm4 st4 => ⟨_, rfl, ?_⟩⟩
    have x1 : c1 = a1 := sort_one gd.1 pm3 st3 pm1 st1
    have x2 : c2 = a2 := sort_oneR d15.nd pm4 st4 pm2 st2
    subst x1 x2
    refine ⟨size_ok (by simp), fun y hy => ?_⟩
    generalize e_y : upd H17 y _ = H18
    have s_y := new_same e_y hy
    have h_y := new_at e_y
    refine ⟨_, rfl, 1, by decide, .inl ⟨y, kk, _, _, rfl, rfl, SqL.of h_y, SqL.of (s_y _ _ (s17 _ _ (s16 _ _ (e35 _ _ hk13 fun _ z => nomatch z)))), .cons (.inl ⟨rfl, rfl⟩) (.cons (.inl ⟨rfl, rfl⟩) .nil)⟩, ?_⟩
    have sl := s16.trans (s17.trans s_y)
    have b15 := extN_bag e35 bag13
    have x10 : Ext a H H10 := fun c o nc e => ex10 _ _ nc (s69 _ _ (s_p _ _ (s5 _ _ (ex4 _ _ nc (s3 _ _ (ex2 _ _ nc e))))))
    have x13 : ExtB a H H13 := ((ExtB.of x10).trans (.ofN e11)).trans (.of fun c o nc e => ex13 _ _ nc (s12 _ _ e))
    exact k _ _ (b15.same sl) (by omega) ((x13.trans (.ofN e35)).trans (.ofN (ofSame sl))) ((((T15.ext s16).ext s17)).ext s_y)
theorem sc_law : FnScope ["_law_script", "_law_at", "_law_bag_here", "_law_turn"] ["_law_script"] (defScope s_law) := ⟨rfl, rfl, rfl, by decide +kernel, rfl, by decide +kernel, by decide +kernel⟩
theorem ok_law {f : Addr} {fd : FuncData} (F : Fun K "law" "law" s_law f fd) (T : Txt K mg C_FormSet C_FormDict C_BadElement C_BadKey C_BadRow)
    (D_l_bag : Fn P w K mg base 1 "_law_bag" ["_law_script", "_law_at"] (spBag K))
    (D_l_lists_right : FnGr P w K mg base 10 "_law_lists_right" ["_law_bag_here", "_law_entries"] (spTurn [(PTa, Q1), (PTb, Q2)]))
    (D_l_single_right : FnGr P w K mg base 11 "_law_single_right" ["_law_bag_here"] (spTurn1 [(PTa, Q1), (PTb, Q2)]))
    {c1 c2 : Addr}
    : FnG P w K mg base CX0 12 f fd ["_law_script"] (spLawTs K [(c1, PTa), (c2, PTb)]) := by
  refine okG F sc_law (fun vs H Q E h => ?_) (fun cdv A outer s H vs Q E hg hr h => ?_)
  · obtain ⟨a, ns, rfl, _⟩ := h; rfl
  · obtain ⟨a, ns, rfl, hS, hl0, hT9, k⟩ := h
    have hu := hu_of hr
    have hu64 := hr.units
    refine ⟨_, (pss_cons (ps_for PassesOwn.never rfl (pi_range1 (by rfl) T.n_range (pa_cons (pe_callB (call_max2 rfl) (by rfl) T.n_max (by decide +kernel) (pa_cons pe_int (pa_cons (pe_callB (call_min2 rfl) (by rfl) T.n_min (by decide +kernel) (pa_cons pe_int (pa_cons (pe_callB call_len_seq (by rfl) T.n_len PySem.boot_len (pa_cons (pv 0) pa_nil)) pa_nil))) pa_nil))) pa_nil)) (pg_name (i := 1) sc_law.nd rfl (Or.inl rfl))
    (pss_cons (ps_set (i := 2) sc_law.nd rfl (Or.inl rfl) (pe_fn D_l_bag (hr.mono (by decide)) rfl (pa_cons (pv 0) (pa_cons (pv 1) pa_nil))))
      (pss_one (ps_for PassesOwn.never rfl (pi_range1 (by rfl) T.n_range (pa_cons pe_int pa_nil)) (pg_name (i := 3) sc_law.nd rfl (Or.inl rfl))
        (pss_cons (ps_if (PW.pt (pw_or (pt_not (pt_val (pe_fnG D_l_lists_right hg (hr.mono (by decide)) rfl (pa_cons (pv 2) (pa_cons pe_bl pa_nil))))) (pw_or1 (pt_not (pt_val (pe_fnG D_l_lists_right hg (hr.mono (by decide)) rfl (pa_cons (pv 2) (pa_cons pe_bl pa_nil))))))))
            (pss_one (ps_ret pe_bl))
            pss_nil)
          (pss_one (ps_if (pt_not (pt_val (pe_fnG D_l_single_right hg (hr.mono (by decide)) rfl (pa_cons (pv 2) pa_nil))))
            (pss_one (ps_ret pe_bl))
            pss_nil)))))))
  (pss_one (ps_ret pe_bl))), ?_⟩
    have turns : ∀ z : Int, z ≤ 63 → 0 ≤ z → (if (if z < 6 then z else 6) > 2 then (if z < 6 then z else 6) else 2) ≤ 6 ∧ 2 ≤ (if (if z < 6 then z else 6) > 2 then (if z < 6 then z else 6) else 2) := by
      intro z z1 z2
      split <;> split <;> omega
    have t0 := turns (ns.map V.int).length (by rw [List.length_map]; omega) (by omega)
    refine ⟨_, rfl, _, _, rfl, Or.inl hS, _, _, rfl, _, _, rfl, _, rfl, by omega, by omega, ?_⟩
    have tabs0 : LamX.Tabs [(PTa, Q1), (PTb, Q2)] H := fun p hp => by
      simp only [List.mem_cons, List.not_mem_nil, or_false] at hp
      rcases hp with rfl | rfl
      · exact .nil (hT9 (c1, PTa) List.mem_cons_self)
      · exact .nil (hT9 (c2, PTb) (List.mem_cons_of_mem _ List.mem_cons_self))
    refine for_range (lo := 0) (fun i σ H' => (∃ x1 x2 x3, σ = [some (.ref a), x1, x2, x3]) ∧ LamX.ExtN H H' ∧ LamX.Tabs [(PTa, Q1), (PTb, Q2)] H') ⟨⟨_, _, _, rfl⟩, .refl H, tabs0⟩ ?_ ?_
    · rintro i σ H1 hi ⟨⟨x1, x2, x3, rfl⟩, e1, T1⟩
      have hi6 : i < 6 := by omega
      refine ⟨_, rfl, _, rfl, a, ns, i, by simp, extN_sqL e1 hS, by omega, fun g o hg bag => ?_⟩
      have s2 := same_new hg (o := o)
      have ng : ∀ c o, H c = some o → (∀ ps, o ≠ .tbl ps) → c ≠ g := fun c o e n => ne_of_none (e1 c o e n) hg
      generalize upd H1 g o = H2 at s2 bag ⊢
      have Tg := T1.ext s2
      refine ⟨3, rfl, by decide, by decide, ?_⟩
      refine for_range (lo := 0) (fun i2 σ G => (∃ x3, σ = [some (.ref a), some (.int (0 + i)), some (.ref g), x3]) ∧ (∃ n1, Bag G g n1 ∧ n1 ≤ 100 * i2) ∧ ExtB g H2 G ∧ LamX.Tabs [(PTa, Q1), (PTb, Q2)] G) ⟨⟨_, rfl⟩, ⟨0, bag, Nat.le_refl _⟩, fun c o _ e _ => e, Tg⟩ ?_ ?_
      · rintro i2 σ G hi2 ⟨⟨x3, rfl⟩, ⟨n1, bag1, hn1⟩, xG, TG⟩
        have hi3 : i2 < 3 := by omega
        refine ⟨_, rfl, g, false, n1, rfl, bag1, by omega, TG, fun n2 G2 bag2 hn2 x2 T2 => ⟨_, rfl, ?_⟩⟩
        refine iteF ?_
        refine ⟨_, rfl, g, true, n2, rfl, bag2, by omega, T2, fun n3 G3 bag3 hn3 x3' T3 => ⟨_, rfl, ?_⟩⟩
        refine iteF ?_
        refine ⟨_, rfl, g, n3, rfl, bag3, by omega, T3, fun n4 G4 bag4 hn4 x4 T4 => ⟨_, rfl, ?_⟩⟩
        refine iteF ?_
        exact ⟨⟨_, rfl⟩, ⟨n4, bag4, by omega⟩, ((xG.trans x2).trans x3').trans x4, T4⟩
      · rintro σ G ⟨⟨x3, rfl⟩, _, xG, TG⟩
        exact ⟨⟨_, _, _, rfl⟩, fun c o e n => xG c o (ng c o e n) (s2 _ _ (e1 c o e n)) n, TG⟩
    · rintro σ H' ⟨⟨x1, x2, x3, rfl⟩, e1, T1⟩
      exact k _
end
theorem all_mk {l : PySem.W.OpenLaw} {w : World} {K : PySem.W.Frag} {h : Heap} {mg : Str → Option Value} {fa : Addr} (X : K.In h) (G : h.Ns mainGlobals mg) (hfa : mg "law" = some (.ref fa))
    {C_FormSet : Addr}
    
    
    
    
    
    
    {C_FormDict : Addr}
    
    
    
    
    {C_BadElement : Addr}
    {nmB qB : Str} {NB : Addr} {bsB subB : List Value} {snB : List Str} {abB : Bool} {colB : Option Bool} {ddB : Option Addr} {j0B j1B j2B j3B j5B : Option Value}
    
    
    
    
    
    {C_BadKey : Addr}
    {C_BadRow : Addr}
    
    {f0 : Addr} {oc0 kV0 dc0 pm0 cd0 ct0 : Value} {od0 an0 : Option Addr} {sl0 : Array (Option Value)}
    {f1 : Addr} {oc1 kV1 dc1 pm1 cd1 ct1 : Value} {od1 an1 : Option Addr} {sl1 : Array (Option Value)}
    {f2 : Addr} {oc2 kV2 dc2 pm2 cd2 ct2 : Value} {od2 an2 : Option Addr} {sl2 : Array (Option Value)}
    {f3 : Addr} {oc3 kV3 dc3 pm3 cd3 ct3 : Value} {od3 an3 : Option Addr} {sl3 : Array (Option Value)}
    {f4 : Addr} {oc4 kV4 dc4 pm4 cd4 ct4 : Value} {od4 an4 : Option Addr} {sl4 : Array (Option Value)}
    {f5 : Addr} {oc5 kV5 dc5 pm5 cd5 ct5 : Value} {od5 an5 : Option Addr} {sl5 : Array (Option Value)}
    {f6 : Addr} {oc6 kV6 dc6 pm6 cd6 ct6 : Value} {od6 an6 : Option Addr} {sl6 : Array (Option Value)}
    {f7 : Addr} {oc7 kV7 dc7 pm7 cd7 ct7 : Value} {od7 an7 : Option Addr} {sl7 : Array (Option Value)}
    {f8 : Addr} {oc8 kV8 dc8 pm8 cd8 ct8 : Value} {od8 an8 : Option Addr} {sl8 : Array (Option Value)}
    {r8 e8 : Addr} {rd8 ed8 : Option Addr} {rn8 en8 : Nat} {rs8 es8 : Array (Option Value)}
    {f9 : Addr} {oc9 kV9 dc9 pm9 cd9 ct9 : Value} {od9 an9 : Option Addr} {sl9 : Array (Option Value)}
    {f10 : Addr} {oc10 kV10 dc10 pm10 cd10 ct10 : Value} {od10 an10 : Option Addr} {sl10 : Array (Option Value)}
    {f11 : Addr} {oc11 kV11 dc11 pm11 cd11 ct11 : Value} {od11 an11 : Option Addr} {sl11 : Array (Option Value)}
    {f12 : Addr} {oc12 kV12 dc12 pm12 cd12 ct12 : Value} {od12 an12 : Option Addr} {sl12 : Array (Option Value)}
    {f13 : Addr} {oc13 kV13 dc13 pm13 cd13 ct13 : Value} {od13 an13 : Option Addr} {sl13 : Array (Option Value)}
    {r13 e13 : Addr} {rd13 ed13 : Option Addr} {rn13 en13 : Nat} {rs13 es13 : Array (Option Value)}
    {f14 : Addr} {oc14 kV14 dc14 pm14 cd14 ct14 : Value} {od14 an14 : Option Addr} {sl14 : Array (Option Value)}
    {f15 : Addr} {oc15 kV15 dc15 pm15 cd15 ct15 : Value} {od15 an15 : Option Addr} {sl15 : Array (Option Value)}
    {f16 : Addr} {oc16 kV16 dc16 pm16 cd16 ct16 : Value} {od16 an16 : Option Addr} {sl16 : Array (Option Value)}
    {f17 : Addr} {oc17 kV17 dc17 pm17 cd17 ct17 : Value} {od17 an17 : Option Addr} {sl17 : Array (Option Value)}
    {f18 : Addr} {oc18 dc18 pm18 cd18 ct18 : Value} {od18 an18 : Option Addr} {sl18 : Array (Option Value)}
    {kd18 : Addr}
    {f19 : Addr} {oc19 kV19 dc19 pm19 cd19 ct19 : Value} {od19 an19 : Option Addr} {sl19 : Array (Option Value)}
    {f20 : Addr} {oc20 kV20 dc20 pm20 cd20 ct20 : Value} {od20 an20 : Option Addr} {sl20 : Array (Option Value)}
    {f21 : Addr} {oc21 kV21 dc21 pm21 cd21 ct21 : Value} {od21 an21 : Option Addr} {sl21 : Array (Option Value)}
    {f22 : Addr} {oc22 kV22 dc22 pm22 cd22 ct22 : Value} {od22 an22 : Option Addr} {sl22 : Array (Option Value)}
    {f23 : Addr} {oc23 kV23 dc23 pm23 cd23 ct23 : Value} {od23 an23 : Option Addr} {sl23 : Array (Option Value)}
    {f24 : Addr} {oc24 kV24 dc24 pm24 cd24 ct24 : Value} {od24 an24 : Option Addr} {sl24 : Array (Option Value)}
    {f25 : Addr} {oc25 kV25 dc25 pm25 cd25 ct25 : Value} {od25 an25 : Option Addr} {sl25 : Array (Option Value)}
    {f26 : Addr} {oc26 kV26 dc26 pm26 ct26 : Value} {od26 an26 : Option Addr} {sl26 : Array (Option Value)}
    {cT26 PT26 : Addr} {te126 : Value} {te226 : Option Addr} {te326 : Array (Option Value)} {tvs26 : Array Value}
    {f27 : Addr} {oc27 kV27 dc27 pm27 ct27 : Value} {od27 an27 : Option Addr} {sl27 : Array (Option Value)}
    {cT27 PT27 : Addr} {te127 : Value} {te227 : Option Addr} {te327 : Array (Option Value)} {tvs27 : Array Value}
    {f28 : Addr} {oc28 kV28 dc28 pm28 cd28 ct28 : Value} {od28 an28 : Option Addr} {sl28 : Array (Option Value)}
    {t_LETTERS : Tok}
    {t_MOST_LETTERS : Tok}
    {r_RESERVED : Addr} {rd_RESERVED : Option Addr} {rn_RESERVED : Nat} {rs_RESERVED : Array (Option Value)} {rt_RESERVED_0 : Tok} {rt_RESERVED_1 : Tok} {rt_RESERVED_2 : Tok}
    {t_HIGHEST_KEY : Tok}
    {t_VALUE_LIMIT : Tok}
    (aC : PySem.W.nsIn K mainGlobals "FormSet" = some (some (.ref C_FormSet)))
    (pg : PySem.W.plainGet K C_FormSet Str.empty = true) (hd : PySem.W.hasDictIn K C_FormSet = true) (po : PySem.W.plainOver K C_FormSet = true) (sa : PySem.W.findIn K (.ref C_FormSet) "__setattr__" = some (some (.builtin "object.__setattr__")))
    (nF : PySem.W.findIn K (.ref C_FormSet) "_forms" = some none)
    (top1 : PySem.W.mroIn K C_FormSet (.type "object") = some true)
    (kc1 : PySem.W.findIn K (.ref C_FormSet) "__class__" = some (some (.builtin "object.__class__")))
    (kg1 : PySem.W.specialIn K (.builtin "object.__class__") "__get__" = some (some (.builtin "getset_descriptor.__get__")))
    (kt1 : PySem.W.takesIn K (.builtin "object.__class__") = some true)
    (aCd : PySem.W.nsIn K mainGlobals "FormDict" = some (some (.ref C_FormDict)))
    (pgd : PySem.W.plainGet K C_FormDict Str.empty = true) (hdd : PySem.W.hasDictIn K C_FormDict = true) (pod : PySem.W.plainOver K C_FormDict = true) (sad : PySem.W.findIn K (.ref C_FormDict) "__setattr__" = some (some (.builtin "object.__setattr__")))
    (nFd : PySem.W.findIn K (.ref C_FormDict) "_rows" = some none)
    (top1d : PySem.W.mroIn K C_FormDict (.type "object") = some true)
    (kc1d : PySem.W.findIn K (.ref C_FormDict) "__class__" = some (some (.builtin "object.__class__")))
    (aB : PySem.W.nsIn K mainGlobals "BadElement" = some (some (.ref C_BadElement)))
    (lB : K.lookup C_BadElement = some (excClassObj nmB qB C_BadElement NB bsB mroVal true snB subB abB colB ddB j0B j1B j2B j3B j5B "ValueError.__new__")) (saB : PySem.W.findIn K (.ref C_BadElement) "__setattr__" = some (some (.builtin "object.__setattr__"))) (exB : PySem.W.subIn K (.ref C_BadElement) (.type "BaseException") = some true) (tyB : PySem.W.typeIn K (.ref C_BadElement) = some (.type "type")) (kB : PySem.W.keepIn K (.ref C_BadElement) = true)
    (nvB : PySem.W.findIn K (.ref C_BadElement) "value" = some none)
    (e1B : PySem.W.findIn K (.ref C_BadElement) "__getattribute__" = some (some (.builtin "BaseException.__getattribute__"))) (e2B : PySem.W.findIn K (.ref C_BadElement) "__getattr__" = some none) (e3B : PySem.W.hasDictIn K C_BadElement = true) (e4B : PySem.W.findIn K (.ref C_BadElement) "__class__" = some (some (.builtin "object.__class__"))) (e5B : PySem.W.specialIn K (.builtin "object.__class__") "__get__" = some (some (.builtin "getset_descriptor.__get__"))) (e6B : PySem.W.takesIn K (.builtin "object.__class__") = some true) (e7B : PySem.W.mroIn K C_BadElement (.type "object") = some true)
    
    (xmB : PySem.W.exmOne K (.ref C_BadElement) (.ref C_BadElement) = some true)
    (k2B : PySem.W.kitOne K (.ref C_BadElement) (.type "ValueError") = some true)
    (aBK : PySem.W.nsIn K mainGlobals "BadKey" = some (some (.ref C_BadKey)))
    (aBR : PySem.W.nsIn K mainGlobals "BadRow" = some (some (.ref C_BadRow)))
    (kkB : PySem.W.kitAny K (.ref C_BadElement) [.ref C_BadKey, .ref C_BadRow] = some false)
    (a0 : PySem.W.nsIn K mainGlobals "is_whole" = some (some (.ref f0)))
    (l0 : K.lookup f0 = some ⟨oc0, od0, .func (PySem.W.fnOf "is_whole" "is_whole" (defArgs s_is_whole) (defBody s_is_whole) (defScope s_is_whole) .none kV0 dc0 pm0 an0 cd0 ct0), sl0⟩)
    (c0 : PySem.W.codeIn K cd0 "is_whole" = true) (k0 : PySem.W.keepIn K (.ref f0) = true)
    (a1 : PySem.W.nsIn K mainGlobals "is_name" = some (some (.ref f1)))
    (l1 : K.lookup f1 = some ⟨oc1, od1, .func (PySem.W.fnOf "is_name" "is_name" (defArgs s_is_name) (defBody s_is_name) (defScope s_is_name) .none kV1 dc1 pm1 an1 cd1 ct1), sl1⟩)
    (c1 : PySem.W.codeIn K cd1 "is_name" = true) (k1 : PySem.W.keepIn K (.ref f1) = true)
    (a2 : PySem.W.nsIn K mainGlobals "is_key" = some (some (.ref f2)))
    (l2 : K.lookup f2 = some ⟨oc2, od2, .func (PySem.W.fnOf "is_key" "is_key" (defArgs s_is_key) (defBody s_is_key) (defScope s_is_key) .none kV2 dc2 pm2 an2 cd2 ct2), sl2⟩)
    (c2 : PySem.W.codeIn K cd2 "is_key" = true) (k2 : PySem.W.keepIn K (.ref f2) = true)
    (a3 : PySem.W.nsIn K mainGlobals "is_value" = some (some (.ref f3)))
    (l3 : K.lookup f3 = some ⟨oc3, od3, .func (PySem.W.fnOf "is_value" "is_value" (defArgs s_is_value) (defBody s_is_value) (defScope s_is_value) .none kV3 dc3 pm3 an3 cd3 ct3), sl3⟩)
    (c3 : PySem.W.codeIn K cd3 "is_value" = true) (k3 : PySem.W.keepIn K (.ref f3) = true)
    (a4 : PySem.W.nsIn K mainGlobals "is_element" = some (some (.ref f4)))
    (l4 : K.lookup f4 = some ⟨oc4, od4, .func (PySem.W.fnOf "is_element" "is_element" (defArgs s_is_element) (defBody s_is_element) (defScope s_is_element) .none kV4 dc4 pm4 an4 cd4 ct4), sl4⟩)
    (c4 : PySem.W.codeIn K cd4 "is_element" = true) (k4 : PySem.W.keepIn K (.ref f4) = true)
    (a5 : PySem.W.nsIn K mainGlobals "is_entry" = some (some (.ref f5)))
    (l5 : K.lookup f5 = some ⟨oc5, od5, .func (PySem.W.fnOf "is_entry" "is_entry" (defArgs s_is_entry) (defBody s_is_entry) (defScope s_is_entry) .none kV5 dc5 pm5 an5 cd5 ct5), sl5⟩)
    (c5 : PySem.W.codeIn K cd5 "is_entry" = true) (k5 : PySem.W.keepIn K (.ref f5) = true)
    (a6 : PySem.W.findIn K (.ref C_BadElement) "__init__" = some (some (.ref f6))) (i6 : PySem.W.isFn K (.ref f6) = true)
    (ty6 : PySem.W.typeIn K (.ref f6) = some (.type "function"))
    (l6 : K.lookup f6 = some ⟨oc6, od6, .func (PySem.W.fnOf "__init__" "BadElement.__init__" (defArgs s_BadElement_init) (defBody s_BadElement_init) (defScope s_BadElement_init) .none kV6 dc6 pm6 an6 cd6 ct6), sl6⟩)
    (c6 : PySem.W.codeIn K cd6 "BadElement.__init__" = true) (k6 : PySem.W.keepIn K (.ref f6) = true)
    (a7 : PySem.W.nsIn K mainGlobals "_first_forms" = some (some (.ref f7)))
    (l7 : K.lookup f7 = some ⟨oc7, od7, .func (PySem.W.fnOf "_first_forms" "_first_forms" (defArgs s_p_first_forms) (defBody s_p_first_forms) (defScope s_p_first_forms) .none kV7 dc7 pm7 an7 cd7 ct7), sl7⟩)
    (c7 : PySem.W.codeIn K cd7 "_first_forms" = true) (k7 : PySem.W.keepIn K (.ref f7) = true)
    (a8 : PySem.W.findIn K (.ref C_FormSet) "__init__" = some (some (.ref f8))) (i8 : PySem.W.isFn K (.ref f8) = true)
    (l8 : K.lookup f8 = some ⟨oc8, od8, .func (PySem.W.fnOf "__init__" "FormSet.__init__" (defArgs s_FormSet_init) (defBody s_FormSet_init) (defScope s_FormSet_init) (.ref r8) kV8 dc8 pm8 an8 cd8 ct8), sl8⟩)
    (y8 : K.lookup r8 = some ⟨.type "tuple", rd8, .seq #[.ref e8] rn8, rs8⟩) (x8 : K.lookup e8 = some ⟨.type "tuple", ed8, .seq #[] en8, es8⟩)
    (c8 : PySem.W.codeIn K cd8 "FormSet.__init__" = true) (k8 : PySem.W.keepIn K (.ref f8) = true)
    (a9 : PySem.W.findIn K (.ref C_FormSet) "__len__" = some (some (.ref f9))) (i9 : PySem.W.isFn K (.ref f9) = true)
    (l9 : K.lookup f9 = some ⟨oc9, od9, .func (PySem.W.fnOf "__len__" "FormSet.__len__" (defArgs s_FormSet_len) (defBody s_FormSet_len) (defScope s_FormSet_len) .none kV9 dc9 pm9 an9 cd9 ct9), sl9⟩)
    (c9 : PySem.W.codeIn K cd9 "FormSet.__len__" = true) (k9 : PySem.W.keepIn K (.ref f9) = true)
    (a10 : PySem.W.findIn K (.ref C_FormSet) "members" = some (some (.ref f10))) (i10 : PySem.W.isFn K (.ref f10) = true)
    (l10 : K.lookup f10 = some ⟨oc10, od10, .func (PySem.W.fnOf "members" "FormSet.members" (defArgs s_FormSet_members) (defBody s_FormSet_members) (defScope s_FormSet_members) .none kV10 dc10 pm10 an10 cd10 ct10), sl10⟩)
    (c10 : PySem.W.codeIn K cd10 "FormSet.members" = true) (k10 : PySem.W.keepIn K (.ref f10) = true)
    (a11 : PySem.W.findIn K (.ref C_FormSet) "__repr__" = some (some (.ref f11))) (i11 : PySem.W.isFn K (.ref f11) = true)
    (l11 : K.lookup f11 = some ⟨oc11, od11, .func (PySem.W.fnOf "__repr__" "FormSet.__repr__" (defArgs s_FormSet_repr) (defBody s_FormSet_repr) (defScope s_FormSet_repr) .none kV11 dc11 pm11 an11 cd11 ct11), sl11⟩)
    (c11 : PySem.W.codeIn K cd11 "FormSet.__repr__" = true) (k11 : PySem.W.keepIn K (.ref f11) = true)
    (a12 : PySem.W.nsIn K mainGlobals "_rows_of" = some (some (.ref f12)))
    (l12 : K.lookup f12 = some ⟨oc12, od12, .func (PySem.W.fnOf "_rows_of" "_rows_of" (defArgs s_p_rows_of) (defBody s_p_rows_of) (defScope s_p_rows_of) .none kV12 dc12 pm12 an12 cd12 ct12), sl12⟩)
    (c12 : PySem.W.codeIn K cd12 "_rows_of" = true) (k12 : PySem.W.keepIn K (.ref f12) = true)
    (a13 : PySem.W.findIn K (.ref C_FormDict) "__init__" = some (some (.ref f13))) (i13 : PySem.W.isFn K (.ref f13) = true)
    (l13 : K.lookup f13 = some ⟨oc13, od13, .func (PySem.W.fnOf "__init__" "FormDict.__init__" (defArgs s_FormDict_init) (defBody s_FormDict_init) (defScope s_FormDict_init) (.ref r13) kV13 dc13 pm13 an13 cd13 ct13), sl13⟩)
    (y13 : K.lookup r13 = some ⟨.type "tuple", rd13, .seq #[.ref e13] rn13, rs13⟩) (x13 : K.lookup e13 = some ⟨.type "tuple", ed13, .seq #[] en13, es13⟩)
    (c13 : PySem.W.codeIn K cd13 "FormDict.__init__" = true) (k13 : PySem.W.keepIn K (.ref f13) = true)
    (a14 : PySem.W.findIn K (.ref C_FormDict) "__len__" = some (some (.ref f14))) (i14 : PySem.W.isFn K (.ref f14) = true)
    (l14 : K.lookup f14 = some ⟨oc14, od14, .func (PySem.W.fnOf "__len__" "FormDict.__len__" (defArgs s_FormDict_len) (defBody s_FormDict_len) (defScope s_FormDict_len) .none kV14 dc14 pm14 an14 cd14 ct14), sl14⟩)
    (c14 : PySem.W.codeIn K cd14 "FormDict.__len__" = true) (k14 : PySem.W.keepIn K (.ref f14) = true)
    (a15 : PySem.W.findIn K (.ref C_FormDict) "entries" = some (some (.ref f15))) (i15 : PySem.W.isFn K (.ref f15) = true)
    (l15 : K.lookup f15 = some ⟨oc15, od15, .func (PySem.W.fnOf "entries" "FormDict.entries" (defArgs s_FormDict_entries) (defBody s_FormDict_entries) (defScope s_FormDict_entries) .none kV15 dc15 pm15 an15 cd15 ct15), sl15⟩)
    (c15 : PySem.W.codeIn K cd15 "FormDict.entries" = true) (k15 : PySem.W.keepIn K (.ref f15) = true)
    (a16 : PySem.W.findIn K (.ref C_FormDict) "__repr__" = some (some (.ref f16))) (i16 : PySem.W.isFn K (.ref f16) = true)
    (l16 : K.lookup f16 = some ⟨oc16, od16, .func (PySem.W.fnOf "__repr__" "FormDict.__repr__" (defArgs s_FormDict_repr) (defBody s_FormDict_repr) (defScope s_FormDict_repr) .none kV16 dc16 pm16 an16 cd16 ct16), sl16⟩)
    (c16 : PySem.W.codeIn K cd16 "FormDict.__repr__" = true) (k16 : PySem.W.keepIn K (.ref f16) = true)
    (a17 : PySem.W.findIn K (.ref C_FormSet) "with_element" = some (some (.ref f17))) (i17 : PySem.W.isFn K (.ref f17) = true)
    (l17 : K.lookup f17 = some ⟨oc17, od17, .func (PySem.W.fnOf "with_element" "FormSet.with_element" (defArgs s_FormSet_with_element) (defBody s_FormSet_with_element) (defScope s_FormSet_with_element) .none kV17 dc17 pm17 an17 cd17 ct17), sl17⟩)
    (c17 : PySem.W.codeIn K cd17 "FormSet.with_element" = true) (k17 : PySem.W.keepIn K (.ref f17) = true)
    (a18 : PySem.W.findIn K (.ref C_FormDict) "with_entry" = some (some (.ref f18))) (i18 : PySem.W.isFn K (.ref f18) = true)
    (l18 : K.lookup f18 = some ⟨oc18, od18, .func (PySem.W.fnOf "with_entry" "FormDict.with_entry" (defArgs s_FormDict_with_entry) (defBody s_FormDict_with_entry) (defScope s_FormDict_with_entry) .none (.ref kd18) dc18 pm18 an18 cd18 ct18), sl18⟩)
    (c18 : PySem.W.codeIn K cd18 "FormDict.with_entry" = true) (k18 : PySem.W.keepIn K (.ref f18) = true)
    (kn18_replace : PySem.W.nsIn K kd18 "replace" = some (some (.bool true)))
    (a19 : PySem.W.nsIn K mainGlobals "_law_bag" = some (some (.ref f19)))
    (l19 : K.lookup f19 = some ⟨oc19, od19, .func (PySem.W.fnOf "_law_bag" "_law_bag" (defArgs s_l_bag) (defBody s_l_bag) (defScope s_l_bag) .none kV19 dc19 pm19 an19 cd19 ct19), sl19⟩)
    (c19 : PySem.W.codeIn K cd19 "_law_bag" = true) (k19 : PySem.W.keepIn K (.ref f19) = true)
    (a20 : PySem.W.nsIn K mainGlobals "_law_take" = some (some (.ref f20)))
    (l20 : K.lookup f20 = some ⟨oc20, od20, .func (PySem.W.fnOf "_law_take" "_law_take" (defArgs s_l_take) (defBody s_l_take) (defScope s_l_take) .none kV20 dc20 pm20 an20 cd20 ct20), sl20⟩)
    (c20 : PySem.W.codeIn K cd20 "_law_take" = true) (k20 : PySem.W.keepIn K (.ref f20) = true)
    (a21 : PySem.W.nsIn K mainGlobals "_law_odd" = some (some (.ref f21)))
    (l21 : K.lookup f21 = some ⟨oc21, od21, .func (PySem.W.fnOf "_law_odd" "_law_odd" (defArgs s_l_odd) (defBody s_l_odd) (defScope s_l_odd) .none kV21 dc21 pm21 an21 cd21 ct21), sl21⟩)
    (c21 : PySem.W.codeIn K cd21 "_law_odd" = true) (k21 : PySem.W.keepIn K (.ref f21) = true)
    (a22 : PySem.W.nsIn K mainGlobals "_law_why" = some (some (.ref f22)))
    (l22 : K.lookup f22 = some ⟨oc22, od22, .func (PySem.W.fnOf "_law_why" "_law_why" (defArgs s_l_why) (defBody s_l_why) (defScope s_l_why) .none kV22 dc22 pm22 an22 cd22 ct22), sl22⟩)
    (c22 : PySem.W.codeIn K cd22 "_law_why" = true) (k22 : PySem.W.keepIn K (.ref f22) = true)
    (a23 : PySem.W.nsIn K mainGlobals "_law_list" = some (some (.ref f23)))
    (l23 : K.lookup f23 = some ⟨oc23, od23, .func (PySem.W.fnOf "_law_list" "_law_list" (defArgs s_l_list) (defBody s_l_list) (defScope s_l_list) .none kV23 dc23 pm23 an23 cd23 ct23), sl23⟩)
    (c23 : PySem.W.codeIn K cd23 "_law_list" = true) (k23 : PySem.W.keepIn K (.ref f23) = true)
    (a24 : PySem.W.nsIn K mainGlobals "_law_made" = some (some (.ref f24)))
    (l24 : K.lookup f24 = some ⟨oc24, od24, .func (PySem.W.fnOf "_law_made" "_law_made" (defArgs s_l_made) (defBody s_l_made) (defScope s_l_made) .none kV24 dc24 pm24 an24 cd24 ct24), sl24⟩)
    (c24 : PySem.W.codeIn K cd24 "_law_made" = true) (k24 : PySem.W.keepIn K (.ref f24) = true)
    (a25 : PySem.W.nsIn K mainGlobals "_law_default" = some (some (.ref f25)))
    (l25 : K.lookup f25 = some ⟨oc25, od25, .func (PySem.W.fnOf "_law_default" "_law_default" (defArgs s_l_default) (defBody s_l_default) (defScope s_l_default) .none kV25 dc25 pm25 an25 cd25 ct25), sl25⟩)
    (c25 : PySem.W.codeIn K cd25 "_law_default" = true) (k25 : PySem.W.keepIn K (.ref f25) = true)
    (a26 : PySem.W.nsIn K mainGlobals "_law_lists_right" = some (some (.ref f26)))
    (l26 : K.lookup f26 = some ⟨oc26, od26, .func (PySem.W.fnOf "_law_lists_right" "_law_lists_right" (defArgs s_l_lists_right) (defBody s_l_lists_right) (defScope s_l_lists_right) .none kV26 dc26 pm26 an26 (.ref cT26) ct26), sl26⟩)
    (c26 : PySem.W.codeIn K (.ref cT26) "_law_lists_right" = true) (k26 : PySem.W.keepIn K (.ref f26) = true)
    (tl26 : K.lookup cT26 = some ⟨te126, te226, .fields tvs26, te326⟩) (tv26 : tvs26[11]? = some (.ref PT26)) (tn26 : K.lookup PT26 = none)
    (a27 : PySem.W.nsIn K mainGlobals "_law_single_right" = some (some (.ref f27)))
    (l27 : K.lookup f27 = some ⟨oc27, od27, .func (PySem.W.fnOf "_law_single_right" "_law_single_right" (defArgs s_l_single_right) (defBody s_l_single_right) (defScope s_l_single_right) .none kV27 dc27 pm27 an27 (.ref cT27) ct27), sl27⟩)
    (c27 : PySem.W.codeIn K (.ref cT27) "_law_single_right" = true) (k27 : PySem.W.keepIn K (.ref f27) = true)
    (tl27 : K.lookup cT27 = some ⟨te127, te227, .fields tvs27, te327⟩) (tv27 : tvs27[11]? = some (.ref PT27)) (tn27 : K.lookup PT27 = none)
    (a28 : PySem.W.nsIn K mainGlobals "law" = some (some (.ref f28)))
    (l28 : K.lookup f28 = some ⟨oc28, od28, .func (PySem.W.fnOf "law" "law" (defArgs s_law) (defBody s_law) (defScope s_law) .none kV28 dc28 pm28 an28 cd28 ct28), sl28⟩)
    (c28 : PySem.W.codeIn K cd28 "law" = true) (k28 : PySem.W.keepIn K (.ref f28) = true)
    (mk_FormSet : PySem.W.makesIn K C_FormSet = true) (kp_FormSet : PySem.W.keepIn K (.ref C_FormSet) = true)
    (mk_FormDict : PySem.W.makesIn K C_FormDict = true) (kp_FormDict : PySem.W.keepIn K (.ref C_FormDict) = true)
    (nPT : PT26 ≠ PT27)
    (z_ValueError : PySem.W.nsIn K mainGlobals "ValueError" = some none)
    (z_abs : PySem.W.nsIn K mainGlobals "abs" = some none)
    (z_all : PySem.W.nsIn K mainGlobals "all" = some none)
    (z_bool : PySem.W.nsIn K mainGlobals "bool" = some none)
    (z_int : PySem.W.nsIn K mainGlobals "int" = some none)
    (z_isinstance : PySem.W.nsIn K mainGlobals "isinstance" = some none)
    (z_len : PySem.W.nsIn K mainGlobals "len" = some none)
    (z_list : PySem.W.nsIn K mainGlobals "list" = some none)
    (z_max : PySem.W.nsIn K mainGlobals "max" = some none)
    (z_min : PySem.W.nsIn K mainGlobals "min" = some none)
    (z_range : PySem.W.nsIn K mainGlobals "range" = some none)
    (z_repr : PySem.W.nsIn K mainGlobals "repr" = some none)
    (z_set : PySem.W.nsIn K mainGlobals "set" = some none)
    (z_sorted : PySem.W.nsIn K mainGlobals "sorted" = some none)
    (z_str : PySem.W.nsIn K mainGlobals "str" = some none)
    (z_tuple : PySem.W.nsIn K mainGlobals "tuple" = some none)
    (z_LETTERS : PySem.W.nsIn K mainGlobals "LETTERS" = some (some (.str "abcdefghijklmnopqrstuvwxyz" t_LETTERS)))
    (z_MOST_LETTERS : PySem.W.nsIn K mainGlobals "MOST_LETTERS" = some (some (.int 4 t_MOST_LETTERS)))
    (z_RESERVED : PySem.W.nsIn K mainGlobals "RESERVED" = some (some (.ref r_RESERVED)))
    (y_RESERVED : K.lookup r_RESERVED = some ⟨.type "tuple", rd_RESERVED, .seq #[.str "keys" rt_RESERVED_0, .str "look" rt_RESERVED_1, .str "self" rt_RESERVED_2] rn_RESERVED, rs_RESERVED⟩)
    (z_HIGHEST_KEY : PySem.W.nsIn K mainGlobals "HIGHEST_KEY" = some (some (.int 999999 t_HIGHEST_KEY)))
    (z_VALUE_LIMIT : PySem.W.nsIn K mainGlobals "VALUE_LIMIT" = some (some (.int 10000000000000000000000000000000000000000 t_VALUE_LIMIT)))
    : ∃ (fd : FuncData) (tabs : List (Addr × Addr)), tabs.map (fun p => some p) = (["_law_lists_right", "_law_single_right"] : List Str).map (PySem.W.tabIn K) ∧ (∀ p ∈ tabs, K.lookup p.2 = none) ∧ (∀ (s : Shared) (v : Value), BindsTo s fd ⟨[v], []⟩ [("_law_script", v)]) ∧ ∀ base : Heap, K.In base → base.Ns mainGlobals mg → (∀ p ∈ tabs, LamX.TabB base mg p.1 p.2) → FnG l.prog w K mg base CX0 12 fa fd ["_law_script"] (spLawTs K tabs) := by
  have e := hfa.symm.trans (PySem.W.mg_of X G a28)
  cases e
  have T : Txt K mg C_FormSet C_FormDict C_BadElement C_BadKey C_BadRow := ⟨PySem.W.mg_none_of X G z_ValueError, PySem.W.mg_none_of X G z_abs, PySem.W.mg_none_of X G z_all, PySem.W.mg_none_of X G z_bool, PySem.W.mg_none_of X G z_int, PySem.W.mg_none_of X G z_isinstance, PySem.W.mg_none_of X G z_len, PySem.W.mg_none_of X G z_list, PySem.W.mg_none_of X G z_max, PySem.W.mg_none_of X G z_min, PySem.W.mg_none_of X G z_range, PySem.W.mg_none_of X G z_repr, PySem.W.mg_none_of X G z_set, PySem.W.mg_none_of X G z_sorted, PySem.W.mg_none_of X G z_str, PySem.W.mg_none_of X G z_tuple, ⟨t_LETTERS, PySem.W.mg_of X G z_LETTERS⟩, ⟨t_MOST_LETTERS, PySem.W.mg_of X G z_MOST_LETTERS⟩, ⟨r_RESERVED, PySem.W.mg_of X G z_RESERVED, fun H => .inr ⟨_, _, _, y_RESERVED, rfl, rfl, size_ok (by simp), .cons ⟨_, rfl⟩ (.cons ⟨_, rfl⟩ (.cons ⟨_, rfl⟩ (.nil)))⟩⟩, ⟨t_HIGHEST_KEY, PySem.W.mg_of X G z_HIGHEST_KEY⟩, ⟨t_VALUE_LIMIT, PySem.W.mg_of X G z_VALUE_LIMIT⟩, PySem.W.mg_of X G aC, ⟨pg, hd, po, sa⟩, nF, top1, kc1, kg1, kt1, PySem.W.mg_of X G aCd, ⟨pgd, hdd, pod, sad⟩, nFd, top1d, kc1d, PySem.W.mg_of X G aB, ownX_val ⟨⟨_, _, _, _, _, _, _, _, _, _, _, _, _, _, lB⟩, saB, exB, tyB, kB⟩, nvB, ⟨e1B, e2B, exB, e3B, e4B, e5B, e6B, e7B⟩, ⟨e1B, e2B, exB, e3B⟩, xmB, k2B, PySem.W.mg_of X G aBK, PySem.W.mg_of X G aBR, kkB⟩
  have tabs : [(cT26, PT26), (cT27, PT27)].map (fun p => some p) = (["_law_lists_right", "_law_single_right"] : List Str).map (PySem.W.tabIn K) := by
    simp only [List.map_cons, List.map_nil]
    rw [tabIn_of a26 l26 rfl tl26 tv26, tabIn_of a27 l27 rfl tl27 tv27]
  refine ⟨PySem.W.fnOf "law" "law" (defArgs s_law) (defBody s_law) (defScope s_law) .none kV28 dc28 pm28 an28 cd28 ct28, _, tabs, ?_, fun s v => .of_eq rfl, fun base hK hG hTB => ?_⟩
  · intro p hp
    simp only [List.mem_cons, List.not_mem_nil, or_false] at hp
    rcases hp with rfl | rfl <;> assumption
  have F_is_whole := fun_mk (st := s_is_whole) l0 c0 k0
  have O_is_whole := ok_is_whole (P := l.prog) (w := w) (base := base) F_is_whole T  
  have b_is_whole := F_is_whole.binds (ps := ["thing"]) fun _ _ _ _ _ _ us hl => match us, hl with | [_], _ => rfl
  have D_is_whole : Fn l.prog w K mg base 1 "is_whole" ["thing"] (spIs K mWhole) := ⟨_, _, PySem.W.mg_of X G a0, O_is_whole, k0, b_is_whole⟩
  have F_is_name := fun_mk (st := s_is_name) l1 c1 k1
  have O_is_name := ok_is_name (P := l.prog) (w := w) (base := base) F_is_name T  
  have b_is_name := F_is_name.binds (ps := ["thing"]) fun _ _ _ _ _ _ us hl => match us, hl with | [_], _ => rfl
  have D_is_name : Fn l.prog w K mg base 1 "is_name" ["thing"] (spIs K mName) := ⟨_, _, PySem.W.mg_of X G a1, O_is_name, k1, b_is_name⟩
  have F_is_key := fun_mk (st := s_is_key) l2 c2 k2
  have O_is_key := ok_is_key (P := l.prog) (w := w) (base := base) F_is_key T D_is_whole 
  have b_is_key := F_is_key.binds (ps := ["thing"]) fun _ _ _ _ _ _ us hl => match us, hl with | [_], _ => rfl
  have D_is_key : Fn l.prog w K mg base 2 "is_key" ["thing"] (spIs K mKey) := ⟨_, _, PySem.W.mg_of X G a2, O_is_key, k2, b_is_key⟩
  have F_is_value := fun_mk (st := s_is_value) l3 c3 k3
  have O_is_value := ok_is_value (P := l.prog) (w := w) (base := base) F_is_value T D_is_whole 
  have b_is_value := F_is_value.binds (ps := ["thing"]) fun _ _ _ _ _ _ us hl => match us, hl with | [_], _ => rfl
  have D_is_value : Fn l.prog w K mg base 2 "is_value" ["thing"] (spIs K mVal) := ⟨_, _, PySem.W.mg_of X G a3, O_is_value, k3, b_is_value⟩
  have F_is_element := fun_mk (st := s_is_element) l4 c4 k4
  have O_is_element := ok_is_element (P := l.prog) (w := w) (base := base) F_is_element T D_is_name D_is_key 
  have b_is_element := F_is_element.binds (ps := ["thing"]) fun _ _ _ _ _ _ us hl => match us, hl with | [_], _ => rfl
  have D_is_element : Fn l.prog w K mg base 3 "is_element" ["thing"] (spIs K mEl) := ⟨_, _, PySem.W.mg_of X G a4, O_is_element, k4, b_is_element⟩
  have F_is_entry := fun_mk (st := s_is_entry) l5 c5 k5
  have O_is_entry := ok_is_entry (P := l.prog) (w := w) (base := base) F_is_entry T D_is_name D_is_key D_is_value 
  have b_is_entry := F_is_entry.binds (ps := ["thing"]) fun _ _ _ _ _ _ us hl => match us, hl with | [_], _ => rfl
  have D_is_entry : Fn l.prog w K mg base 3 "is_entry" ["thing"] (spIs K mEnt) := ⟨_, _, PySem.W.mg_of X G a5, O_is_entry, k5, b_is_entry⟩
  have F_BadElement_init := fun_mk (st := s_BadElement_init) l6 c6 k6
  have O_BadElement_init := ok_BadElement_init (P := l.prog) (w := w) (base := base) F_BadElement_init T  
  have b_BadElement_init := F_BadElement_init.binds (ps := ["self", "value"]) fun _ _ _ _ _ _ us hl => match us, hl with | [_, _], _ => rfl
  have D_BadElement_init : Xc l.prog w K mg base C_BadElement 1 ["self", "value"] (spInit1 K "value") := ⟨_, _, T.ox_BadElement, a6, (show PySem.W.typeIn K (.ref f6) = some (.type "function") from ty6), O_BadElement_init, b_BadElement_init⟩
  have F_p_first_forms := fun_mk (st := s_p_first_forms) l7 c7 k7
  have O_p_first_forms := ok_p_first_forms (P := l.prog) (w := w) (base := base) F_p_first_forms T D_is_element 
  have b_p_first_forms := F_p_first_forms.binds (ps := ["given"]) fun _ _ _ _ _ _ us hl => match us, hl with | [_], _ => rfl
  have D_p_first_forms : Fn l.prog w K mg base 4 "_first_forms" ["given"] (spFirst K) := ⟨_, _, PySem.W.mg_of X G a7, O_p_first_forms, k7, b_p_first_forms⟩
  have DX_p_first_forms : FnX l.prog w K mg base 4 "_first_forms" ["given"] (spOdd K C_BadElement (preS K) mEl) := ⟨_, _, PySem.W.mg_of X G a7, okX_p_first_forms (P := l.prog) (w := w) (base := base) F_p_first_forms T D_is_element D_BadElement_init, k7, b_p_first_forms⟩
  have F_FormSet_init := funV_mk (st := s_FormSet_init) l8 c8
  have O_FormSet_init := ok_FormSet_init (P := l.prog) (w := w) (base := base) F_FormSet_init T D_p_first_forms 
  have b_FormSet_init := F_FormSet_init.bindsFull (ps := ["self", "given"]) y8 rfl fun _ _ _ _ _ _ us hl => match us, hl with | [_, _], _ => ⟨_, rfl, rfl⟩
  have b1_FormSet_init := F_FormSet_init.binds1 (ps := ["self", "given"]) (n := 1) y8 rfl rfl fun _ _ _ _ _ _ us hl => match us, hl with | [_], _ => ⟨_, rfl, rfl⟩
  have D_FormSet_init : MkFn l.prog w K mg base C_FormSet 5 ["self", "given"] (spInit K C_FormSet) := ⟨_, _, ⟨mk_FormSet, a8, i8, kp_FormSet⟩, O_FormSet_init, b_FormSet_init, e8, _, .cons rfl .nil, b1_FormSet_init, fun H => .inr ⟨_, _, _, x8, rfl, rfl, size_ok (by simp), .nil⟩⟩
  have DX_FormSet_init : MkX l.prog w K mg base C_FormSet 5 ["self", "given"] (spOddI K C_FormSet C_BadElement (preS K) mEl) := ⟨_, _, ⟨mk_FormSet, a8, i8, kp_FormSet⟩, okX_FormSet_init (P := l.prog) (w := w) (base := base) F_FormSet_init T DX_p_first_forms, b_FormSet_init⟩
  have F_FormSet_len := fun_mk (st := s_FormSet_len) l9 c9 k9
  have O_FormSet_len := ok_FormSet_len (P := l.prog) (w := w) (base := base) F_FormSet_len T  
  have b_FormSet_len := F_FormSet_len.binds (ps := ["self"]) fun _ _ _ _ _ _ us hl => match us, hl with | [_], _ => rfl
  have D_FormSet_len : Mt l.prog w K mg base C_FormSet "__len__" 1 ["self"] (spLen C_FormSet) := ⟨_, _, a9, i9, k9, O_FormSet_len, b_FormSet_len⟩
  have F_FormSet_members := fun_mk (st := s_FormSet_members) l10 c10 k10
  have O_FormSet_members := ok_FormSet_members (P := l.prog) (w := w) (base := base) F_FormSet_members T  
  have b_FormSet_members := F_FormSet_members.binds (ps := ["self"]) fun _ _ _ _ _ _ us hl => match us, hl with | [_], _ => rfl
  have D_FormSet_members : Mt l.prog w K mg base C_FormSet "members" 1 ["self"] (spMemF C_FormSet) := ⟨_, _, a10, i10, k10, O_FormSet_members, b_FormSet_members⟩
  have F_FormSet_repr := fun_mk (st := s_FormSet_repr) l11 c11 k11
  have O_FormSet_repr := ok_FormSet_repr (P := l.prog) (w := w) (base := base) F_FormSet_repr T D_FormSet_members 
  have b_FormSet_repr := F_FormSet_repr.binds (ps := ["self"]) fun _ _ _ _ _ _ us hl => match us, hl with | [_], _ => rfl
  have D_FormSet_repr : MtG l.prog w K mg base C_FormSet "__repr__" 2 ["self"] (spReprS C_FormSet) := ⟨_, _, a11, i11, k11, O_FormSet_repr, b_FormSet_repr⟩
  have F_p_rows_of := fun_mk (st := s_p_rows_of) l12 c12 k12
  have O_p_rows_of := ok_p_rows_of (P := l.prog) (w := w) (base := base) F_p_rows_of T D_is_entry 
  have b_p_rows_of := F_p_rows_of.binds (ps := ["given"]) fun _ _ _ _ _ _ us hl => match us, hl with | [_], _ => rfl
  have D_p_rows_of : Fn l.prog w K mg base 4 "_rows_of" ["given"] (spRowsOf K) := ⟨_, _, PySem.W.mg_of X G a12, O_p_rows_of, k12, b_p_rows_of⟩
  have DX_p_rows_of : FnX l.prog w K mg base 4 "_rows_of" ["given"] (spOdd K C_BadElement (preD K) mEnt) := ⟨_, _, PySem.W.mg_of X G a12, okX_p_rows_of (P := l.prog) (w := w) (base := base) F_p_rows_of T D_is_entry D_BadElement_init, k12, b_p_rows_of⟩
  have F_FormDict_init := funV_mk (st := s_FormDict_init) l13 c13
  have O_FormDict_init := ok_FormDict_init (P := l.prog) (w := w) (base := base) F_FormDict_init T D_p_rows_of 
  have b_FormDict_init := F_FormDict_init.bindsFull (ps := ["self", "given"]) y13 rfl fun _ _ _ _ _ _ us hl => match us, hl with | [_, _], _ => ⟨_, rfl, rfl⟩
  have b1_FormDict_init := F_FormDict_init.binds1 (ps := ["self", "given"]) (n := 1) y13 rfl rfl fun _ _ _ _ _ _ us hl => match us, hl with | [_], _ => ⟨_, rfl, rfl⟩
  have D_FormDict_init : MkFn l.prog w K mg base C_FormDict 5 ["self", "given"] (spInitD K C_FormDict) := ⟨_, _, ⟨mk_FormDict, a13, i13, kp_FormDict⟩, O_FormDict_init, b_FormDict_init, e13, _, .cons rfl .nil, b1_FormDict_init, fun H => .inr ⟨_, _, _, x13, rfl, rfl, size_ok (by simp), .nil⟩⟩
  have DX_FormDict_init : MkX l.prog w K mg base C_FormDict 5 ["self", "given"] (spOddI K C_FormDict C_BadElement (preD K) mEnt) := ⟨_, _, ⟨mk_FormDict, a13, i13, kp_FormDict⟩, okX_FormDict_init (P := l.prog) (w := w) (base := base) F_FormDict_init T DX_p_rows_of, b_FormDict_init⟩
  have F_FormDict_len := fun_mk (st := s_FormDict_len) l14 c14 k14
  have O_FormDict_len := ok_FormDict_len (P := l.prog) (w := w) (base := base) F_FormDict_len T  
  have b_FormDict_len := F_FormDict_len.binds (ps := ["self"]) fun _ _ _ _ _ _ us hl => match us, hl with | [_], _ => rfl
  have D_FormDict_len : Mt l.prog w K mg base C_FormDict "__len__" 1 ["self"] (spLenD K C_FormDict) := ⟨_, _, a14, i14, k14, O_FormDict_len, b_FormDict_len⟩
  have F_FormDict_entries := fun_mk (st := s_FormDict_entries) l15 c15 k15
  have O_FormDict_entries := ok_FormDict_entries (P := l.prog) (w := w) (base := base) F_FormDict_entries T  
  have b_FormDict_entries := F_FormDict_entries.binds (ps := ["self"]) fun _ _ _ _ _ _ us hl => match us, hl with | [_], _ => rfl
  have D_FormDict_entries : Mt l.prog w K mg base C_FormDict "entries" 1 ["self"] (spEntF K C_FormDict) := ⟨_, _, a15, i15, k15, O_FormDict_entries, b_FormDict_entries⟩
  have F_FormDict_repr := fun_mk (st := s_FormDict_repr) l16 c16 k16
  have O_FormDict_repr := ok_FormDict_repr (P := l.prog) (w := w) (base := base) F_FormDict_repr T D_FormDict_entries 
  have b_FormDict_repr := F_FormDict_repr.binds (ps := ["self"]) fun _ _ _ _ _ _ us hl => match us, hl with | [_], _ => rfl
  have D_FormDict_repr : MtG l.prog w K mg base C_FormDict "__repr__" 2 ["self"] (spReprD K C_FormDict) := ⟨_, _, a16, i16, k16, O_FormDict_repr, b_FormDict_repr⟩
  have F_FormSet_with_element := fun_mk (st := s_FormSet_with_element) l17 c17 k17
  have b_FormSet_with_element := F_FormSet_with_element.binds (ps := ["self", "element"]) fun _ _ _ _ _ _ us hl => match us, hl with | [_, _], _ => rfl
  have DX_wel : MtX l.prog w K mg base C_FormSet "with_element" 7 ["self", "element"] (spOddE K C_BadElement) := ⟨_, _, a17, i17, k17, okX_FormSet_with_element (P := l.prog) (w := w) (base := base) F_FormSet_with_element T DX_FormSet_init, b_FormSet_with_element⟩
  have F_FormDict_with_entry : FunD K "with_entry" "FormDict.with_entry" (defArgs s_FormDict_with_entry) (defBody s_FormDict_with_entry) (defScope s_FormDict_with_entry) [] [("replace", V.bl true)] f18 _ := ⟨⟨_, _, _, _, _, _, _, _, _, _, rfl, l18, c18, .inl ⟨rfl, rfl⟩, .inr ⟨_, rfl, fun q hq => by (obtain rfl := List.mem_singleton.mp hq; exact ⟨_, kn18_replace, rfl⟩)⟩⟩, k18⟩
  have d0_W := F_FormDict_with_entry.binds0 (ps := ["self", "key", "form", "value", "replace"]) 4 (by simp) rfl fun _ _ _ _ _ _ us ks l1 l2 => match us, ks, l1, l2 with | [_, _, _, _], [_], _, _ => ⟨_, _, _, _, _, _, rfl, rfl, rfl⟩
  have d1_W := F_FormDict_with_entry.kbinds0 (ps := ["self", "key", "form", "value", "replace"]) 4 ["replace"] [] (fun us _ ws => us ++ ws) (by simp) (by simp) (fun r _ z => r.append z) fun _ _ _ _ _ _ us mv ws l1 l2 l3 => match us, mv, ws, l1, l2, l3 with | [_, _, _, _], [], [_], _, _, _ => rfl
  obtain ⟨mv_W, d1_W⟩ := d1_W
  have DX_with : MtDX l.prog w K mg base C_FormDict "with_entry" 7 ["self", "key", "form", "value", "replace"] (spOddW K C_BadElement) [V.bl true] 3 ["replace"] (fun us ws => us ++ ws) := ⟨_, _, a18, i18, k18, okX_FormDict_with_entry (P := l.prog) (w := w) (base := base) F_FormDict_with_entry T DX_FormDict_init, d0_W, _, d1_W⟩
  have F_l_bag := fun_mk (st := s_l_bag) l19 c19 k19
  have O_l_bag := ok_l_bag (P := l.prog) (w := w) (base := base) F_l_bag T  
  have b_l_bag := F_l_bag.binds (ps := ["_law_script", "_law_at"]) fun _ _ _ _ _ _ us hl => match us, hl with | [_, _], _ => rfl
  have D_l_bag : Fn l.prog w K mg base 1 "_law_bag" ["_law_script", "_law_at"] (spBag K) := ⟨_, _, PySem.W.mg_of X G a19, O_l_bag, k19, b_l_bag⟩
  have F_l_take := fun_mk (st := s_l_take) l20 c20 k20
  have O_l_take := ok_l_take (P := l.prog) (w := w) (base := base) F_l_take T  
  have b_l_take := F_l_take.binds (ps := ["_law_bag_here", "_law_many"]) fun _ _ _ _ _ _ us hl => match us, hl with | [_, _], _ => rfl
  have D_l_take : Fn l.prog w K mg base 1 "_law_take" ["_law_bag_here", "_law_many"] spTake := ⟨_, _, PySem.W.mg_of X G a20, O_l_take, k20, b_l_take⟩
  have F_l_odd := fun_mk (st := s_l_odd) l21 c21 k21
  have O_l_odd := ok_l_odd (P := l.prog) (w := w) (base := base) F_l_odd T D_l_take 
  have b_l_odd := F_l_odd.binds (ps := ["_law_bag_here", "_law_rows"]) fun _ _ _ _ _ _ us hl => match us, hl with | [_, _], _ => rfl
  have D_l_odd : Fn l.prog w K mg base 2 "_law_odd" ["_law_bag_here", "_law_rows"] (spOddDraw K) := ⟨_, _, PySem.W.mg_of X G a21, O_l_odd, k21, b_l_odd⟩
  have F_l_why := fun_mk (st := s_l_why) l22 c22 k22
  have b_l_why := F_l_why.binds (ps := ["_law_deed"]) fun _ _ _ _ _ _ us hl => match us, hl with | [_], _ => rfl
  have F_l_list := fun_mk (st := s_l_list) l23 c23 k23
  have O_l_list := ok_l_list (P := l.prog) (w := w) (base := base) F_l_list T D_l_take 
  have b_l_list := F_l_list.binds (ps := ["_law_bag_here", "_law_entries"]) fun _ _ _ _ _ _ us hl => match us, hl with | [_, _], _ => rfl
  have D_l_list : Fn l.prog w K mg base 2 "_law_list" ["_law_bag_here", "_law_entries"] spRowsL := ⟨_, _, PySem.W.mg_of X G a23, O_l_list, k23, b_l_list⟩
  have F_l_made := fun_mk (st := s_l_made) l24 c24 k24
  have O_l_made := ok_l_made (P := l.prog) (w := w) (base := base) F_l_made T D_FormSet_init D_FormDict_init 
  have b_l_made := F_l_made.binds (ps := ["_law_entries", "_law_thing"]) fun _ _ _ _ _ _ us hl => match us, hl with | [_, _], _ => rfl
  have D_l_made : Fn l.prog w K mg base 7 "_law_made" ["_law_entries", "_law_thing"] (spMade K C_FormSet C_FormDict) := ⟨_, _, PySem.W.mg_of X G a24, O_l_made, k24, b_l_made⟩
  have DX_l_made : FnX l.prog w K mg base 7 "_law_made" ["_law_entries", "_law_thing"] (spMadeOdd K C_BadElement) := ⟨_, _, PySem.W.mg_of X G a24, okX_l_made (P := l.prog) (w := w) (base := base) F_l_made T DX_FormSet_init DX_FormDict_init, k24, b_l_made⟩
  have F_l_default := fun_mk (st := s_l_default) l25 c25 k25
  have b_l_default := F_l_default.binds (ps := ["_law_other", "_law_entry"]) fun _ _ _ _ _ _ us hl => match us, hl with | [_, _], _ => rfl
  have DX_l_default : FnX l.prog w K mg base 8 "_law_default" ["_law_other", "_law_entry"] (spDefOdd K C_FormDict C_BadElement) := ⟨_, _, PySem.W.mg_of X G a25, okX_l_default (P := l.prog) (w := w) (base := base) F_l_default T DX_with, k25, b_l_default⟩
  have F_l_lists_right := fun_mk (st := s_l_lists_right) l26 c26 k26
  have O_l_lists_right := ok_l_lists_right (P := l.prog) (w := w) (base := base) F_l_lists_right T D_FormSet_len D_FormDict_len D_l_take D_l_odd D_l_list D_l_made (hPT := nPT) (hfc := rfl) (TB := hTB _ List.mem_cons_self) F_l_why (PySem.W.mg_of X G a22) k22 b_l_why DX_l_made
  have b_l_lists_right := F_l_lists_right.binds (ps := ["_law_bag_here", "_law_entries"]) fun _ _ _ _ _ _ us hl => match us, hl with | [_, _], _ => rfl
  have D_l_lists_right : FnGr l.prog w K mg base 10 "_law_lists_right" ["_law_bag_here", "_law_entries"] (spTurn [(PT26, Q1), (PT27, Q2)]) := ⟨_, _, PySem.W.mg_of X G a26, O_l_lists_right, k26, b_l_lists_right⟩
  have F_l_single_right := fun_mk (st := s_l_single_right) l27 c27 k27
  have O_l_single_right := ok_l_single_right (P := l.prog) (w := w) (base := base) F_l_single_right T D_FormSet_init D_FormSet_repr D_FormDict_init D_FormDict_repr D_l_take D_l_odd D_l_list (hPT := nPT) (hfc := rfl) (TB := hTB _ (List.mem_cons_of_mem _ List.mem_cons_self)) F_l_why (PySem.W.mg_of X G a22) k22 b_l_why DX_wel DX_with DX_l_default
  have b_l_single_right := F_l_single_right.binds (ps := ["_law_bag_here"]) fun _ _ _ _ _ _ us hl => match us, hl with | [_], _ => rfl
  have D_l_single_right : FnGr l.prog w K mg base 11 "_law_single_right" ["_law_bag_here"] (spTurn1 [(PT26, Q1), (PT27, Q2)]) := ⟨_, _, PySem.W.mg_of X G a27, O_l_single_right, k27, b_l_single_right⟩
  have F_law := fun_mk (st := s_law) l28 c28 k28
  have O_law := ok_law (P := l.prog) (w := w) (base := base) F_law T D_l_bag D_l_lists_right D_l_single_right (c1 := cT26) (c2 := cT27)
  exact O_law
theorem walk {l : PySem.W.OpenLaw} {q : Program} {loose : List Str} {XP : (Str → Option Value) → Heap → Prop} {YP : World → Heap → Prop} {d : DefRec} {K : Params → PySem.W.Frag} (hn : l.most = some 63) (hdf : d.params.defaults = [])
    (hrec : ∀ y ∈ (["_law_lists_right", "_law_single_right"] : List Str), ((recsOf q).find? fun e => e.name == y).isSome = true) (hY : ∀ (w : World) (h : Heap), YP w h → (K w.params).In h)
    (F : ∀ (w : World) (mg : Str → Option Value) (fa : Addr) (h : Heap), (K w.params).In h → h.Ns mainGlobals mg → mg d.name = some (.ref fa) →
      ∃ (fd : FuncData) (tabs : List (Addr × Addr)), tabs.map (fun p => some p) = (["_law_lists_right", "_law_single_right"] : List Str).map (PySem.W.tabIn (K w.params)) ∧ (∀ p ∈ tabs, (K w.params).lookup p.2 = none) ∧ (∀ (s : Shared) (u : Value), BindsTo s fd ⟨[u], []⟩ [("_law_script", u)]) ∧
        ∀ base : Heap, (K w.params).In base → base.Ns mainGlobals mg → (∀ p ∈ tabs, LamX.TabB base mg p.1 p.2) → FnG l.prog w (K w.params) mg base CX0 12 fa fd ["_law_script"] (spLawTs (K w.params) tabs)) :
    PySem.W.WalkO q loose XP YP l.row.toRowW d [] (fun f vs => PySem.call f vs) :=
  walkGT (n := 63) (k := 12) (x := "_law_script") (CX := fun _ => CX0) (sp := fun w tabs => spLawTs (K w.params) tabs) ["_law_lists_right", "_law_single_right"] hn (by decide) hdf ⟨rfl, by decide, by decide⟩ hY hrec F (fun _ _ _ a ns hl hT hS => ⟨a, ns, rfl, hS, hl, hT, fun _ => rfl⟩) fun _ _ _ _ _ z => z
end My
open PySem PySem.W PyProof.Rows in
set_option maxRecDepth 100000 in
set_option maxHeartbeats 0 in
theorem PySem.Challenge.cw_equalunlike_k03_members_and_entries_refu_holds : PySem.Challenge.rw_equalunlike_k03_members_and_entries_refu.Holds := by
  w_on; o_law; k_head; (case hw => w_witness2)
  k_fill
  refine My.walk (l := PySem.Challenge.rw_equalunlike_k03_members_and_entries_refu) rfl rfl ?hrec (fun w h Y => PySem.W.km_in_of Y) ?F
  case hrec =>
    intro y hy
    simp only [List.mem_cons, List.not_mem_nil, or_false] at hy
    rcases hy with rfl | rfl <;> kernel_rfl
  case F =>
    intro w mg fa h KX G hmg
    refine' My.all_mk KX G hmg ?aC ?pg ?hd ?po ?sa ?nF ?top1 ?kc1 ?kg1 ?kt1 ?aCd ?pgd ?hdd ?pod ?sad ?nFd ?top1d ?kc1d ?aB ?lB ?saB ?exB ?tyB ?kB ?nvB ?e1B ?e2B ?e3B ?e4B ?e5B ?e6B ?e7B ?xmB ?k2B ?aBK ?aBR ?kkB ?a0 ?l0 ?c0 ?k0 ?a1 ?l1 ?c1 ?k1 ?a2 ?l2 ?c2 ?k2 ?a3 ?l3 ?c3 ?k3 ?a4 ?l4 ?c4 ?k4 ?a5 ?l5 ?c5 ?k5 ?a6 ?i6 ?ty6 ?l6 ?c6 ?k6 ?a7 ?l7 ?c7 ?k7 ?a8 ?i8 ?l8 ?y8 ?x8 ?c8 ?k8 ?a9 ?i9 ?l9 ?c9 ?k9 ?a10 ?i10 ?l10 ?c10 ?k10 ?a11 ?i11 ?l11 ?c11 ?k11 ?a12 ?l12 ?c12 ?k12 ?a13 ?i13 ?l13 ?y13 ?x13 ?c13 ?k13 ?a14 ?i14 ?l14 ?c14 ?k14 ?a15 ?i15 ?l15 ?c15 ?k15 ?a16 ?i16 ?l16 ?c16 ?k16 ?a17 ?i17 ?l17 ?c17 ?k17 ?a18 ?i18 ?l18 ?c18 ?k18 ?kn18_replace ?a19 ?l19 ?c19 ?k19 ?a20 ?l20 ?c20 ?k20 ?a21 ?l21 ?c21 ?k21 ?a22 ?l22 ?c22 ?k22 ?a23 ?l23 ?c23 ?k23 ?a24 ?l24 ?c24 ?k24 ?a25 ?l25 ?c25 ?k25 ?a26 ?l26 ?c26 ?k26 ?tl26 ?tv26 ?tn26 ?a27 ?l27 ?c27 ?k27 ?tl27 ?tv27 ?tn27 ?a28 ?l28 ?c28 ?k28 ?mk_FormSet ?kp_FormSet ?mk_FormDict ?kp_FormDict ?nPT ?z_ValueError ?z_abs ?z_all ?z_bool ?z_int ?z_isinstance ?z_len ?z_list ?z_max ?z_min ?z_range ?z_repr ?z_set ?z_sorted ?z_str ?z_tuple ?z_LETTERS ?z_MOST_LETTERS ?z_RESERVED ?y_RESERVED ?z_HIGHEST_KEY ?z_VALUE_LIMIT
    (case aC => k_is)
    (case pg => k_is)
    (case hd => k_is)
    (case po => k_is)
    (case sa => k_is)
    (case nF => k_is)
    (case top1 => k_is)
    (case kc1 => k_is)
    (case kg1 => k_is)
    (case kt1 => k_is)
    (case aCd => k_is)
    (case pgd => k_is)
    (case hdd => k_is)
    (case pod => k_is)
    (case sad => k_is)
    (case nFd => k_is)
    (case top1d => k_is)
    (case kc1d => k_is)
    (case aB => k_is)
    (case lB => k_is)
    (case saB => k_is)
    (case exB => k_is)
    (case tyB => k_is)
    (case kB => k_is)
    (case nvB => k_is)
    (case e1B => k_is)
    (case e2B => k_is)
    (case e3B => k_is)
    (case e4B => k_is)
    (case e5B => k_is)
    (case e6B => k_is)
    (case e7B => k_is)
    (case xmB => first | kernel_rfl | decide)
    (case k2B => first | kernel_rfl | decide)
    (case aBK => k_is)
    (case aBR => k_is)
    (case kkB => first | kernel_rfl | decide)
    (case a0 => k_is)
    (case l0 => k_is)
    (case c0 => k_is)
    (case k0 => k_is)
    (case a1 => k_is)
    (case l1 => k_is)
    (case c1 => k_is)
    (case k1 => k_is)
    (case a2 => k_is)
    (case l2 => k_is)
    (case c2 => k_is)
    (case k2 => k_is)
    (case a3 => k_is)
    (case l3 => k_is)
    (case c3 => k_is)
    (case k3 => k_is)
    (case a4 => k_is)
    (case l4 => k_is)
    (case c4 => k_is)
    (case k4 => k_is)
    (case a5 => k_is)
    (case l5 => k_is)
    (case c5 => k_is)
    (case k5 => k_is)
    (case a6 => k_is)
    (case i6 => k_is)
    (case ty6 => k_is)
    (case l6 => k_is)
    (case c6 => k_is)
    (case k6 => k_is)
    (case a7 => k_is)
    (case l7 => k_is)
    (case c7 => k_is)
    (case k7 => k_is)
    (case a8 => k_is)
    (case i8 => k_is)
    (case l8 => k_is)
    (case y8 => k_is)
    (case x8 => k_is)
    (case c8 => k_is)
    (case k8 => k_is)
    (case a9 => k_is)
    (case i9 => k_is)
    (case l9 => k_is)
    (case c9 => k_is)
    (case k9 => k_is)
    (case a10 => k_is)
    (case i10 => k_is)
    (case l10 => k_is)
    (case c10 => k_is)
    (case k10 => k_is)
    (case a11 => k_is)
    (case i11 => k_is)
    (case l11 => k_is)
    (case c11 => k_is)
    (case k11 => k_is)
    (case a12 => k_is)
    (case l12 => k_is)
    (case c12 => k_is)
    (case k12 => k_is)
    (case a13 => k_is)
    (case i13 => k_is)
    (case l13 => k_is)
    (case y13 => k_is)
    (case x13 => k_is)
    (case c13 => k_is)
    (case k13 => k_is)
    (case a14 => k_is)
    (case i14 => k_is)
    (case l14 => k_is)
    (case c14 => k_is)
    (case k14 => k_is)
    (case a15 => k_is)
    (case i15 => k_is)
    (case l15 => k_is)
    (case c15 => k_is)
    (case k15 => k_is)
    (case a16 => k_is)
    (case i16 => k_is)
    (case l16 => k_is)
    (case c16 => k_is)
    (case k16 => k_is)
    (case a17 => k_is)
    (case i17 => k_is)
    (case l17 => k_is)
    (case c17 => k_is)
    (case k17 => k_is)
    (case a18 => k_is)
    (case i18 => k_is)
    (case l18 => k_is)
    (case c18 => k_is)
    (case k18 => k_is)
    (case kn18_replace => k_is)
    (case a19 => k_is)
    (case l19 => k_is)
    (case c19 => k_is)
    (case k19 => k_is)
    (case a20 => k_is)
    (case l20 => k_is)
    (case c20 => k_is)
    (case k20 => k_is)
    (case a21 => k_is)
    (case l21 => k_is)
    (case c21 => k_is)
    (case k21 => k_is)
    (case a22 => k_is)
    (case l22 => k_is)
    (case c22 => k_is)
    (case k22 => k_is)
    (case a23 => k_is)
    (case l23 => k_is)
    (case c23 => k_is)
    (case k23 => k_is)
    (case a24 => k_is)
    (case l24 => k_is)
    (case c24 => k_is)
    (case k24 => k_is)
    (case a25 => k_is)
    (case l25 => k_is)
    (case c25 => k_is)
    (case k25 => k_is)
    (case a26 => k_is)
    (case l26 => k_is)
    (case c26 => k_is)
    (case k26 => k_is)
    (case tl26 => k_is)
    (case tv26 => rfl)
    (case tn26 => first | kernel_rfl | rfl | decide)
    (case a27 => k_is)
    (case l27 => k_is)
    (case c27 => k_is)
    (case k27 => k_is)
    (case tl27 => k_is)
    (case tv27 => rfl)
    (case tn27 => first | kernel_rfl | rfl | decide)
    (case a28 => k_is)
    (case l28 => k_is)
    (case c28 => k_is)
    (case k28 => k_is)
    (case mk_FormSet => k_is)
    (case kp_FormSet => k_is)
    (case mk_FormDict => k_is)
    (case kp_FormDict => k_is)
    (case nPT => first | decide | kernel_rfl)
    (case z_ValueError => k_is)
    (case z_abs => k_is)
    (case z_all => k_is)
    (case z_bool => k_is)
    (case z_int => k_is)
    (case z_isinstance => k_is)
    (case z_len => k_is)
    (case z_list => k_is)
    (case z_max => k_is)
    (case z_min => k_is)
    (case z_range => k_is)
    (case z_repr => k_is)
    (case z_set => k_is)
    (case z_sorted => k_is)
    (case z_str => k_is)
    (case z_tuple => k_is)
    (case z_LETTERS => k_is)
    (case z_MOST_LETTERS => k_is)
    (case z_RESERVED => k_is)
    (case y_RESERVED => k_is)
    (case z_HIGHEST_KEY => k_is)
    (case z_VALUE_LIMIT => k_is)
