import PyProof.Rows.All
import Wide.All
import OpenK.AllK
import Wide.FinOn
import HandS.ForMost
import HandS.IsInst
import HandS.TupAny
import HandS.RaiseMore
import HandS.DictComp
import HandS.SetKeys
import HandS.Star
import HandS.Defaults
import HandS.SetFor
import PyProof.SeqIndex
import HandS.SortOrd
import HandS.DictTup
import KE.OsSort
import HandS.Style
import HandS.ListItems
import PySem.Challenge.RW_equalunlike_k04_operations_on_sets
set_option Elab.async false
set_option maxRecDepth 100000
set_option maxHeartbeats 4000000
namespace My
open PySem PySem.Spec PyProof.Rows L2


section
variable {P : Program} {w : World} {K : PySem.W.Frag} {mg : Str → Option Value} {base : Heap} {CX : CXT}
structure FnG (P : Program) (w : World) (K : PySem.W.Frag) (mg : Str → Option Value) (base : Heap)
    (CX : CXT) (k : Nat) (f : Addr) (fd : FuncData) (ps : List Str) (sp : Sp) : Prop where
  len : ∀ vs H Q E, sp vs H Q E → vs.length = ps.length
  run : ∀ (A : Around) (outer : List Env) (s : Shared) (H : Hp) (args : Args) (us : List Value)
    (vs : List V) (Q : VK) (E : XK), A.guards = some [] → Room k A →
    Env0 P w K mg base A outer s H → BindsTo s fd args (ps.zip us) → Vals vs us →
    sp vs H Q E → codeAny (model P w) A (.call (.ref f) args) (CR CX outer P w H s Q E) s
theorem FnG.of {k : Nat} {f : Addr} {fd : FuncData} {ps : List Str} {sp : Sp}
    (F : FnOk P w K mg base CX k f fd ps sp) : FnG P w K mg base CX k f fd ps sp :=
  ⟨F.len, fun A outer s H args us vs Q E _ hr he hb hv hs => F.run A outer s H args us vs Q E hr he hb hv hs⟩
theorem deeper_guards (A : Around) (env : Env) (h : A.guards = some []) : (A.deeper env).guards = some [] := by
  first
  | exact h
  | (simp [Around.deeper]; exact h)


theorem okGX {x qual : Str} {st : Stmt} {f : Addr} {fd : FuncData} {N ps : List Str} {k : Nat} {sp : Sp}
    (F : Fun K x qual st f fd) (S : FnScope N ps (defScope st))
    (len : ∀ vs H Q E, sp vs H Q E → vs.length = ps.length)
    (body : ∀ (cdv : Value) (A : Around) (outer : List Env) (s : Shared) (H : Hp) (vs : List V) (Q : VK) (E : XK),
      (A.deeper (envOfC qual (defScope st) s.heap.objs.size f cdv)).guards = some [] →
      Room k (A.deeper (envOfC qual (defScope st) s.heap.objs.size f cdv)) → sp vs H Q E →
      ∃ t, PSs (cxOf CX P w K mg base N qual (defScope st) f cdv A outer s H E) (defBody st) t ∧
        t { nx := fun _ H' => Q .non H', rt := Q } (start N vs) H) :
    FnG P w K mg base CX (k + 1) f fd ps sp := by
  obtain ⟨oc, od, kV, doc, pm, an, cdv, ct, osl, rfl, lk, hcd⟩ := F.ex
  refine ⟨len, ?_⟩
  intro A outer s H args us vs Q E hg hr e0 hb r hsp
  have ln := len _ _ _ _ hsp
  have kin : K.In s.heap := e0.mod.kin.keeps fun b o e =>
    (e0.bs b o e).1
  have lim : s.heap.NoLimit := e0.mod.nolimit.keeps fun b o e =>
    (e0.bs b o e).1
  have kinds : ∀ y ∈ ps.zip us, (defScope st).names.lookup y.1 = some .local ∨
      ((defScope st).names.lookup y.1 = some .cell ∧
        ((cellsFrom (s.heap.objs.size + 1) (defScope st).names []).lookup y.1).isSome = true) := by
    rintro ⟨n, v⟩ hy
    rcases S.par n (List.of_mem_zip hy).1 with q | q
    · left; exact q
    · right; exact ⟨q, PySem.W.cellsFrom_some _ _ _ (.inl q)⟩
  refine codeAny_call_function hr.depth (kin _ _ lk) rfl S.co S.gen
    rfl (PySem.W.codeRec_of kin hcd) (hb _ _ _ _ ?_)
  refine wpAny_newFunctionEnv_cells S.kind kinds ?_
  intro env he s1 x
  subst he
  refine ⟨lim.keeps x.toInCall.keep, codeAny_func ?_⟩
  obtain ⟨t, ht, hq⟩ := body cdv A outer s H vs Q E
    (deeper_guards A _ hg) (hr.deeper _) hsp
  have I := inv_start (CX := CX) (P := P) (mg := mg) (base := base) (E := E) S hr.hd e0 ln r x
  refine wpAny_mono (ht.run [] s1 (start N vs) H _ I hq) ?_ (fun e s' hs => hs)
  intro fl s' hs
  cases fl with
  | ret u =>
    obtain ⟨v, σ', H', J, rv, q⟩ := hs
    exact ⟨v, H', J.os, J.bare, J.base, J.hok, rv, q⟩
  | next =>
    obtain ⟨σ', H', J, q⟩ := hs
    exact ⟨V.non, H', J.os, J.bare, J.base, J.hok, rfl, q⟩
  | brk => obtain ⟨_, _, _, z⟩ := hs; exact z.elim
  | cont => obtain ⟨_, _, _, z⟩ := hs; exact z.elim

theorem okG {x qual : Str} {st : Stmt} {f : Addr} {fd : FuncData} {N ps : List Str} {k : Nat} {sp : Sp}
    (F : Fun K x qual st f fd) (S : FnScope N ps (defScope st))
    (len : ∀ vs H Q E, sp vs H Q E → vs.length = ps.length)
    (body : ∀ (cdv : Value) (A : Around) (outer : List Env) (s : Shared) (H : Hp) (vs : List V) (Q : VK) (E : XK),
      (A.deeper (envOfC qual (defScope st) s.heap.objs.size f cdv)).guards = some [] →
      Room k (A.deeper (envOfC qual (defScope st) s.heap.objs.size f cdv)) → sp vs H Q E →
      ∃ t, PSs (cxOf CX P w K mg base N qual (defScope st) f cdv A outer s H E).nox (defBody st) t ∧
        t { nx := fun _ H' => Q .non H', rt := Q } (start N vs) H) :
    FnG P w K mg base CX (k + 1) f fd ps sp := by
  refine okGX F S len ?_
  intro cdv A outer s H vs Q E hg hr hsp
  obtain ⟨t, h, q⟩ := body cdv A outer s H vs Q E hg hr hsp
  exact ⟨t, h.nox, q⟩
end

section
variable {X : Cx} {CX : CXT} {k : Nat} {f : Addr} {fd : FuncData} {ps : List Str} {sp : Sp}
  {dvs : List V} {ds : List Value} {E : XK} {x : Str} {p pos : Pos} {e : Expr} {es : List Expr} {t : TA}
theorem run_fnG {pins : List (Addr × Obj)} {σ : L2.St} {H : Hp} {s : Shared} {Q : VK} {us : List Value} {vs : List V}
    (F : FnG X.prog X.w X.K X.mg X.base CX k f fd ps sp) (g : X.A.guards = some []) (hr : Room k X.A)
    (hb : Binds X.K fd ps ds) (hd : Vals dvs ds) (hx : Passes CX X E) (I : Inv X pins σ H s) (r : Vals vs us)
    (h : sp (vs ++ dvs) H Q E) :
    wpAny (model X.prog X.w) X.A (call (.ref f) us) (EP X pins σ Q) X.xe s := by
  have r2 := r.append hd
  have hl : (us ++ ds).length = ps.length :=
    r2.length.symm.trans (F.len _ _ _ _ h)
  have z := F.run X.A X.stack s H ⟨us, []⟩ (us ++ ds)
    (vs ++ dvs) Q E g hr I.env0 (hb s us I.kIn hl) r2 h
  refine wpAny_call (codeAny_mono z ?_)
  intro r s' hq
  match r, hq with
  | .error e, hq => exact hx pins σ H s e s' I hq
  | .ok (.ret u), hq => exact I.after hq
  | .ok .next, hq => exact hq.elim
  | .ok .brk, hq => exact hq.elim
  | .ok .cont, hq => exact hq.elim

theorem pe_callG (F : FnG X.prog X.w X.K X.mg X.base CX k f fd ps sp) (g : X.A.guards = some []) (hr : Room k X.A)
    (hg : Gl X x) (hm : X.mg x = some (.ref f)) (hk : PySem.W.keepIn X.K (.ref f) = true)
    (hb : Binds X.K fd ps ds) (hd : Vals dvs ds) (hx : Passes CX X E) (ha : PA X (e :: es) t)
    (hdb : (x == ("__debug__" : Str)) = false := by decide)
    (he : starEach (e :: es) X.env = (false, eval e X.env) :: starEach es X.env := by rfl)
    (hpl : (backTo pos (starEach es X.env)).any (·.1) = false := by rfl) :
    PE X (.Call (.Name x p) (e :: es) [] pos) (tCall sp dvs E t) := by
  constructor
  intro pins s σ H Q I h
  refine wpAny_Call_Name_kw (ld_glob I hg hm ?_ hdb)
  have a1 := ha.run pos pins s σ H _ I h
  refine PySem.W.callWith_K (h₀ := X.base) I.ok.mod.kin hk
    (thn a1 ?_) he hpl
  rintro us s1 ⟨vs, H1, I1, r, q⟩
  exact ⟨I1.kIn, run_fnG F g hr hb hd hx I1 r q⟩
end


section
variable {P : Program} {w : World} {K : PySem.W.Frag}

def only1 (a : Addr) (o : Obj) (u : HO) : Hp := fun b => if b = a then some (.frz o u) else none
theorem only1_at {a : Addr} {o : Obj} {u : HO} : only1 a o u a = some (.frz o u) := if_pos rfl
theorem only1_ne {a b : Addr} {o : Obj} {u : HO} (h : b ≠ a) : only1 a o u b = none := if_neg h
theorem callG {mg mb : Str → Option Value} {CX : CXT} {k : Nat} {fa a : Addr} {fd : FuncData} {x : Str} {sp : Sp}
    {s : Shared} {vs : List Value} {ns : List Int}
    (KX : K.In s.heap) (h1 : s.heap.Ns mainGlobals mg) (h2 : s.heap.Ns builtinsNs mb)
    (h3 : ∀ x : Str, x ≠ "__name__" → mb x = bootBuiltins x) (h4 : s.heap.NoLimit) (h5 : s.gens = #[])
    (ha : s.heap.get? a = some { cls := .type "list", data := .seq vs.toArray }) (hi : IntsAre vs ns)
    (hl : ns.length ≤ sizeLine) (hr : Room k callerA)
    (F : ∀ base : Heap, K.In base → base.Ns mainGlobals mg → FnG P w K mg base CX k fa fd [x] sp)
    (hb : ∀ (s : Shared) (u : Value), BindsTo s fd ⟨[u], []⟩ [(x, u)])
    (hsp : ∀ H : Hp, Only H → SqL K H a (ns.map V.int) → sp [.ref a] H (fun v _ => v = .bl true) fun _ _ _ => False)
    (hCX : ∀ H e s', CX [] H s (fun _ _ _ => False) e s' → False) :
    codeAny (model P w) callerA (.call (.ref fa) ⟨[.ref a], []⟩)
      (fun r s' => r = .ok (.ret (.bool true)) ∧ OldK s.heap s'.heap ∧ s'.os = s.os ∧ AllBare s'.gens) s := by
  have rv := vals_ints hi
  have main : ∀ H : Hp, Only H → SqL K H a (ns.map V.int) → HOk P w H s.heap →
      (∀ b u, H b = some u → b = a ∧ K.lookup a = none) →
      codeAny (model P w) callerA (.call (.ref fa) ⟨[.ref a], []⟩)
        (fun r s' => r = .ok (.ret (.bool true)) ∧ OldK s.heap s'.heap ∧ s'.os = s.os ∧ AllBare s'.gens) s := by
    intro H hO hS hok hA
    have isL : ∀ {b : Addr} {o : Obj} {u : HO}, s.heap.get? b = some o → H b = some u →
        o = { cls := .type "list", data := .seq vs.toArray } := by
      intro b o u e q
      obtain rfl := (hA b u q).1
      exact Option.some.inj (e.symm.trans ha)
    have up : ∀ {b : Addr} {o : Obj} {es : Array DictEntry} {n : Nat}, s.heap.get? b = some o →
        o.data = .dict es n → (hidT s.heap H).get? b = some o := by
      intro b o es n e d
      refine hidT_get e ?_
      cases q : H b with
      | none => rfl
      | some u => rw [isL e q] at d; cases d
    have upN : ∀ {b : Addr} {m : Str → Option Value}, s.heap.Ns b m → (hidT s.heap H).Ns b m := by
      rintro b m ⟨o, es, n, e, d, r⟩
      exact ⟨o, es, n, up e d, d, r⟩
    have KH : K.In (hidT s.heap H) := by
      intro b o e
      refine hidT_get (KX b o e) ?_
      cases q : H b with
      | none => rfl
      | some u =>
        obtain ⟨rfl, z⟩ := hA b u q
        rw [z] at e; cases e
    have M : Mod K mg (hidT s.heap H) := by
      refine ⟨KH, upN h1, ⟨mb, upN h2, h3⟩, ?_⟩
      obtain ⟨mc, l1, l2⟩ := h4
      exact ⟨mc, upN l1, l2⟩
    have e0 : Env0 P w K mg (hidT s.heap H) callerA [] s H :=
      { frames := rfl, mod := M, bs := fun b o e => of_hidT e, bsz := Nat.le_of_eq (hidT_size _ _)
        funs := trivial, frf := fun b z => absurd z (List.not_mem_nil), hok := hok, bare := .of_eq h5 }
    have run := (F _ KH (upN h1)).run callerA [] s H ⟨[.ref a], []⟩ [.ref a] [.ref a] _ _
      rfl hr e0 (hb s (.ref a)) (.cons rfl .nil) (hsp H hO hS)
    refine codeAny_mono run ?_
    intro r s' h
    match r, h with
    | .error e, h => exact (hCX H e s' h).elim
    | .ok .next, h => exact h.elim
    | .ok .brk, h => exact h.elim
    | .ok .cont, h => exact h.elim
    | .ok (.ret u), h =>
      obtain ⟨v, H', os, bare, un, hok', r', q⟩ := h
      obtain rfl : v = .bl true := q
      obtain rfl : u = Value.bool true := r'
      refine ⟨rfl, OldK.of_keep ?_, os, bare⟩
      intro b o e
      cases q : H b with
      | none => exact un.keep b o e q (fun z => absurd z (List.not_mem_nil)) (List.not_mem_nil)
      | some u =>
        rcases hO b with z | ⟨ob, xs, z⟩
        · rw [q] at z; cases z
        · obtain ⟨g1, _⟩ := hok b _ z
          obtain ⟨g2, _⟩ := hok' b _ (un.frzs b ob _ z)
          rw [e] at g1; cases g1
          exact g2
  cases hk : K.lookup a with
  | some o =>
    obtain rfl := Option.some.inj ((KX a o hk).symm.trans ha)
    refine main (fun _ => none) (fun _ => Or.inl rfl) (Or.inr ?_) (fun b u z => ?_) fun b u z => ?_
    · exact ⟨_, vs.toArray, _, hk, rfl, rfl, rfl, by rw [List.size_toArray, hi.length]; exact hl, by simpa using rv⟩
    · cases (show (none : Option HO) = some u from z)
    · cases (show (none : Option HO) = some u from z)
  | none =>
    refine main (only1 a { cls := .type "list", data := .seq vs.toArray } (.lst (ns.map V.int))) (fun b => ?_)
      (Or.inl (Or.inr ⟨_, only1_at⟩)) (fun b u z => ?_) fun b u z => ?_
    · by_cases e : b = a
      · subst e; exact Or.inr ⟨_, _, only1_at⟩
      · exact Or.inl (only1_ne e)
    · by_cases e : b = a
      · subst e
        obtain rfl := Option.some.inj (only1_at.symm.trans z)
        exact ⟨ha, by rw [List.length_map]; exact hl, vs, _, rv, ha⟩
      · rw [only1_ne e] at z; cases z
    · by_cases e : b = a
      · exact ⟨e, hk⟩
      · rw [only1_ne e] at z; cases z
end

theorem walkG {l : PySem.W.OpenLaw} {n k : Nat} {q : Program} {loose : List Str}
    {XP : (Str → Option Value) → Heap → Prop} {YP : World → Heap → Prop} {d : DefRec} {K : Params → PySem.W.Frag}
    {CX : World → CXT} {sp : World → Sp} {x : Str} (hn : l.most = some n) (hn2 : n ≤ sizeLine)
    (hdf : d.params.defaults = []) (hr : Room k callerA) (hY : ∀ (w : World) (h : Heap), YP w h → (K w.params).In h)
    (F : ∀ (w : World) (mg : Str → Option Value) (fa : Addr) (h : Heap), (K w.params).In h → h.Ns mainGlobals mg →
      mg d.name = some (.ref fa) → ∃ fd : FuncData, (∀ (s : Shared) (u : Value), BindsTo s fd ⟨[u], []⟩ [(x, u)]) ∧
        ∀ base : Heap, (K w.params).In base → base.Ns mainGlobals mg →
          FnG l.prog w (K w.params) mg base (CX w) k fa fd [x] (sp w))
    (hsp : ∀ (w : World) (H : Hp) (a : Addr) (ns : List Int), ns.length ≤ n → Only H →
      SqL (K w.params) H a (ns.map V.int) → sp w [.ref a] H (fun v _ => v = .bl true) fun _ _ _ => False)
    (hCX : ∀ (w : World) (H : Hp) (s : Shared) (e : Value) (s' : Shared),
      CX w [] H s (fun _ _ _ => False) e s' → False) :
    PySem.W.WalkO q loose XP YP l.row.toRowW d [] (fun f vs => PySem.call f vs) := by
  refine Att.attach_call hn hdf ?_
  intro w s₀ s₁ mg mb fa o pm cd doc a vs ns G Y ho hd hcd hmg hobj hints hlen hg
  have KX := hY w _ Y
  obtain ⟨fd, hb, hF⟩ := F w mg fa _ KX G.T.g hmg
  exact callG KX G.T.g G.T.b G.T.builtins G.T.nolimit hg hobj hints
    (Nat.le_trans hlen hn2) hr hF hb (fun H hO hS => hsp w H a ns hlen hO hS) fun H e s' => hCX w H s₁ e s'
end My
set_option Elab.async false
set_option maxRecDepth 100000
set_option maxHeartbeats 4000000
namespace My
open PySem PySem.Spec PyProof.Rows L2


def flatD : V → Option PyData
  | .non => some .none
  | .bl b => some (.bool b)
  | .int i => some (.int i)
  | .str x => some (.str x)
  | _ => none
def keyD : Key → PyData
  | .inl i => .int i
  | .inr x => .str x
inductive FlatKv : List (Key × V) → List (PyData × PyData) → Prop
  | nil : FlatKv [] []
  | cons {k : Key} {v : V} {d : PyData} {r : List (Key × V)} {ds : List (PyData × PyData)} :
      flatD v = some d → FlatKv r ds → FlatKv ((k, v) :: r) ((keyD k, d) :: ds)
inductive Dx (K : PySem.W.Frag) (H : Hp) : V → PyData → Prop
  | of {v : V} {d : PyData} : Dp K H v d → Dx K H v d
  | dict {a : Addr} {kvs : List (Key × V)} {ds : List (PyData × PyData)} :
      H a = some (.dK kvs) → FlatKv kvs ds → Dx K H (.ref a) (.dict ds)

theorem same_seqT {K : PySem.W.Frag} {H H' : Hp} {a : Addr} {xs : List V} (s : Same H H') (h : SqT K H a xs) : SqT K H' a xs := by
  rcases h with (h | ⟨o, h⟩) | h
  · exact Or.inl (Or.inl (s _ _ h))
  · exact Or.inl (Or.inr ⟨o, s _ _ h⟩)
  · exact Or.inr h
mutual
theorem dp_same {K : PySem.W.Frag} {H H' : Hp} (s : Same H H') : ∀ (d : PyData) (v : V), Dp K H v d → Dp K H' v d
  | .none, _, h => by cases h; exact .non
  | .bool b, _, h => by cases h; exact .bl b
  | .int i, _, h => by cases h; exact .int i
  | .str x, _, h => by cases h; exact .str x
  | .list ds, _, h => by
    cases h with
    | lst hs ha => exact .lst (s.seq hs) (dpAll_same s ds _ ha)
  | .tuple ds, _, h => by
    cases h with
    | tup hs ha =>
      refine .tup ?_ (dpAll_same s ds _ ha)
      exact same_seqT s hs
  | .dict _, _, h => by cases h
theorem dpAll_same {K : PySem.W.Frag} {H H' : Hp} (s : Same H H') : ∀ (ds : List PyData) (vs : List V), DpAll K H vs ds → DpAll K H' vs ds
  | [], _, h => by cases h; exact .nil
  | d :: ds, _, h => by
    cases h with
    | cons h1 h2 => exact .cons (dp_same s d _ h1) (dpAll_same s ds _ h2)
end
theorem Dx.same {K : PySem.W.Frag} {H H' : Hp} {v : V} {d : PyData} (h : Dx K H v d) (s : Same H H') : Dx K H' v d := by
  cases h with
  | of h => exact .of (dp_same s _ _ h)
  | dict h f => exact .dict (s _ _ h) f

section
variable {X : Cx} {pins : List (Addr × Obj)} {σ : L2.St} {H : Hp} {s : Shared}
theorem flat_reads {h : Heap} {v : V} {d : PyData} {u : Value} (e : flatD v = some d) (r : RelV v u) : Reads h u d [] := by
  cases v with
  | non => cases e; cases r; exact .none
  | bl b => cases e; cases r; exact .bool b
  | int i => cases e; obtain ⟨t, rfl⟩ := r; exact .int i t
  | str x => cases e; obtain ⟨t, rfl⟩ := r; exact .str x t
  | byt b => cases e
  | flt b => cases e
  | ref a => cases e
  | ty n => cases e
theorem key_reads {h : Heap} {prog : Program} {w : World} {k : Key} {u : Value} (e : (mixKind prog w).is k u = true) : Reads h u (keyD k) [] := by
  rw [mixKind_is] at e
  rcases keyIs_shape e with ⟨i, t, rfl, rfl⟩ | ⟨x, t, rfl, rfl⟩
  · exact .int i t
  · exact .str x t
theorem readsAll_flat {h : Heap} {prog : Program} {w : World} : ∀ {es : List DictEntry} {vs : List (Key × Value)}
    {kvs : List (Key × V)} {ds : List (PyData × PyData)}, Pairs (mixKind prog w) es vs → KV kvs vs → FlatKv kvs ds →
    ReadsAll h (es.map (·.key)) (ds.map (·.1)) [] ∧ ReadsAll h (es.map (·.val)) (ds.map (·.2)) []
  | _, _, _, _, .nil, r, f => by
    cases r; cases f
    exact ⟨.nil, .nil⟩
  | _, _, _, _, .cons h1 h2 p, r, f => by
    cases r with
    | cons r1 r2 =>
      cases f with
      | cons f1 f2 =>
        obtain ⟨z1, z2⟩ := readsAll_flat (h := h) p r2 f2
        obtain ⟨e1, e2⟩ := r1
        rw [← e1] at h1
        rw [← h2] at e2
        exact ⟨.cons (as := []) (bs := []) (key_reads h1) z1, .cons (as := []) (bs := []) (flat_reads f1 e2) z2⟩
theorem dp_noDict {K : PySem.W.Frag} {H : Hp} : ∀ (d : PyData) (v : V), Dp K H v d → d.hasDict = false
  | .none, _, _ => by simp only [PyData.hasDict]
  | .bool _, _, _ => by simp only [PyData.hasDict]
  | .int _, _, _ => by simp only [PyData.hasDict]
  | .str _, _, _ => by simp only [PyData.hasDict]
  | .list ds, _, h => by
    cases h with
    | lst hs ha => simp only [PyData.hasDict]; exact all ds _ ha
  | .tuple ds, _, h => by
    cases h with
    | tup hs ha => simp only [PyData.hasDict]; exact all ds _ ha
  | .dict _, _, h => by cases h
where all {K : PySem.W.Frag} {H : Hp} : ∀ (ds : List PyData) (vs : List V), DpAll K H vs ds → PyData.hasDictAll ds = false
  | [], _, _ => by simp only [PyData.hasDictAll]
  | d :: ds, _, h => by
    cases h with
    | cons h1 h2 => simp only [PyData.hasDictAll, dp_noDict d _ h1, all ds _ h2, Bool.or_self]

def rRepr (K : PySem.W.Frag) : List V → Hp → VK → Prop := fun xs H Q => ∃ x d, xs = [x] ∧ Dx K H x d ∧
  d.showable = true ∧ d.depth ≤ 60 ∧ d.shown.length ≤ sizeLine ∧ Q (.str d.shown) H
theorem call_repr (g : X.A.guards = some []) (hu : X.A.units + 64 < cLine) : CallR X (.builtin "repr") (rRepr X.K) := by
  intro pins s σ H xs us Q I r h
  obtain ⟨x, d, rfl, hx, hs, hd, hz, q⟩ := h
  obtain ⟨u, rfl, ru⟩ := vals1 r
  have fin : ∀ h' t tk, (∀ b o, s.heap.get? b = some o → h'.get? b = some o) →
      EP X pins σ Q (.str d.shown t) { s with heap := h', toks := tk } :=
    fun h' t tk k => ⟨.str d.shown, H, I.kept k, ⟨t, rfl⟩, q⟩
  have ref : ∀ {a : Addr} {as : List Addr}, Reads s.heap (.ref a) d as → (d.hasDict = true → sysModules ∉ as) →
      wpAny (model X.prog X.w) X.A (call (.builtin "repr") [.ref a]) (EP X pins σ Q) X.xe s := by
    intro a as rd nm
    exact repr_of_reads' rd hs nm g (by omega) (fun _ _ e => e) fin hz
  cases hx with
  | of hp =>
    have nd := dp_noDict d x hp
    obtain ⟨as, rd⟩ := Dp.reads I d x u hp ru
    cases hp with
    | non => cases ru; exact PySem.P.repr_of_none (by simpa [PyData.shown] using fin s.heap s.toks (s.toks + 1) fun _ _ e => e)
    | bl b => cases ru; exact PySem.P.repr_of_bool (by simpa [PyData.shown] using fin s.heap s.toks (s.toks + 1) fun _ _ e => e)
    | int i =>
      obtain ⟨t, rfl⟩ := ru
      exact PySem.P.repr_of_int (by simpa [PyData.showable] using hs) (by simpa [PyData.shown] using fin s.heap s.toks (s.toks + 1) fun _ _ e => e)
    | str y =>
      obtain ⟨t, rfl⟩ := ru
      exact PySem.P.repr_of_str (by simpa [PyData.shown] using fin s.heap s.toks (s.toks + 1) fun _ _ e => e) (by simpa [PyData.shown] using hz)
    | lst h1 h2 => cases ru; exact ref rd fun z => by rw [nd] at z; cases z
    | tup h1 h2 => cases ru; exact ref rd fun z => by rw [nd] at z; cases z
  | @dict a kvs ds ha f =>
    cases ru
    obtain ⟨_, ne, vs, kv, o, es, ep, e1, e2, e3, _, p, _⟩ := I.hok a _ ha
    obtain ⟨z1, z2⟩ := readsAll_flat (h := s.heap) p kv f
    refine ref (Reads.dict e1 e2.1 e3 z1 z2) fun _ m => ?_
    have m2 : sysModules ∈ [a] := by simpa using m
    rw [List.mem_singleton] at m2
    subst m2
    simp at ne
end


def repS (x : Str) (n : Nat) : Str := ⟨(List.replicate n x.cps).foldl (· ++ ·) #[]⟩
theorem repS_one (x : Str) : repS x 1 = x := by
  unfold repS
  simp
theorem repFold : ∀ (n : Nat) (x a : Array Nat), ((List.replicate n x).foldl (· ++ ·) a).size = a.size + n * x.size
  | 0, x, a => by simp
  | n + 1, x, a => by
    rw [List.replicate_succ, List.foldl_cons, repFold n x (a ++ x), Array.size_append, Nat.succ_mul]
    omega
theorem repS_len (x : Str) (n : Nat) : (repS x n).length = n * x.length := by
  show ((List.replicate n x.cps).foldl (· ++ ·) #[]).size = n * x.cps.size
  rw [repFold]
  simp
theorem op_mul_str {X : Cx} : OpR X (binaryOp .Mult) (fun x y H Q => ∃ z n, x = .str z ∧ y = .int n ∧ 1 ≤ n ∧ n ≤ 1000 ∧
    0 < z.length ∧ z.length ≤ 1000 ∧ Q (.str (repS z n.toNat)) H) := by
  intro pins s σ H x y v u Q I rx ry h
  obtain ⟨z, n, rfl, rfl, h1, h2, h3, h4, q⟩ := h
  obtain ⟨t, rfl⟩ := rx
  obtain ⟨t', rfl⟩ := ry
  refine PySem.P.mul_str ?_ ?_ ?_ ?_
  · have a1 : ¬ n < -(2 ^ 63 : Int) := by omega
    have a2 : ¬ n ≥ 2 ^ 63 := by omega
    rw [decide_eq_false a1, decide_eq_false a2]; rfl
  · intro _ _ hgt
    have : (1000 : Int) ≤ (2 ^ 63 - 1) / n := (Int.le_ediv_iff_mul_le (by omega)).mpr (by
      have := Int.mul_le_mul_of_nonneg_left h2 (show (0 : Int) ≤ 1000 by decide)
      omega)
    omega
  · intro _ _
    unfold Builtin.Str.tooLong
    refine decide_eq_false ?_
    have a : z.length * n.toNat ≤ 1000 * 1000 := Nat.mul_le_mul h4 (by omega)
    have b : (1000 * 1000 : Nat) ≤ sizeLine := by decide
    omega
  · rw [if_neg (by omega)]
    by_cases e : n = 1
    · subst e
      rw [if_pos (by simp)]
      exact ⟨.str z, H, I, ⟨t, rfl⟩, by rw [← repS_one z]; exact q⟩
    · rw [if_neg (by simp; omega)]
      have sz : (repS z n.toNat).length ≤ sizeLine := by
        have a : (repS z n.toNat).length = n.toNat * z.length := repS_len z n.toNat
        have b : n.toNat * z.length ≤ 1000 * 1000 := Nat.mul_le_mul (by omega) h4
        have c : (1000 * 1000 : Nat) ≤ sizeLine := by decide
        omega
      exact ⟨sz, .str (repS z n.toNat), H, I.tok _, ⟨_, rfl⟩, q⟩
end My
set_option Elab.async false
set_option maxRecDepth 100000
set_option maxHeartbeats 4000000
namespace My
open PySem PySem.Spec PyProof.Rows L2

def Fn (P : Program) (w : World) (K : PySem.W.Frag) (mg : Str → Option Value) (base : Heap) (k : Nat) (x : Str) (ps : List Str) (sp : Sp) : Prop :=
  ∃ f fd, mg x = some (.ref f) ∧ FnOk P w K mg base CX0 k f fd ps sp ∧ PySem.W.keepIn K (.ref f) = true ∧ Binds K fd ps []
def FnGr (P : Program) (w : World) (K : PySem.W.Frag) (mg : Str → Option Value) (base : Heap) (k : Nat) (x : Str) (ps : List Str) (sp : Sp) : Prop :=
  ∃ f fd, mg x = some (.ref f) ∧ FnG P w K mg base CX0 k f fd ps sp ∧ PySem.W.keepIn K (.ref f) = true ∧ Binds K fd ps []
section
variable {X : Cx} {k : Nat} {ps : List Str} {sp : Sp} {x : Str} {p pos : Pos} {e : Expr} {es : List Expr} {t : TA}
theorem pe_fn (D : Fn X.prog X.w X.K X.mg X.base k x ps sp) (hr : Room k X.A) (hg : Gl X x) (ha : PA X (e :: es) t)
    (hdb : (x == ("__debug__" : Str)) = false := by decide)
    (he : starEach (e :: es) X.env = (false, eval e X.env) :: starEach es X.env := by rfl)
    (hpl : (backTo pos (starEach es X.env)).any (·.1) = false := by rfl) :
    PE X (.Call (.Name x p) (e :: es) [] pos) (tCall sp [] E0 t) := by
  obtain ⟨f, fd, hm, F, kp, b⟩ := D
  exact pe_call F hr hg hm kp b .nil pass0 ha hdb he hpl
theorem pe_fnG (D : FnGr X.prog X.w X.K X.mg X.base k x ps sp) (g : X.A.guards = some []) (hr : Room k X.A) (hg : Gl X x) (ha : PA X (e :: es) t)
    (hdb : (x == ("__debug__" : Str)) = false := by decide)
    (he : starEach (e :: es) X.env = (false, eval e X.env) :: starEach es X.env := by rfl)
    (hpl : (backTo pos (starEach es X.env)).any (·.1) = false := by rfl) :
    PE X (.Call (.Name x p) (e :: es) [] pos) (tCall sp [] E0 t) := by
  obtain ⟨f, fd, hm, F, kp, b⟩ := D
  exact pe_callG F g hr hg hm kp b .nil pass0 ha hdb he hpl
end

def Bag (H : Hp) (a : Addr) (n : Nat) : Prop := ∃ x y z : Int, H a = some (.lst [.int x, .int y, .int z]) ∧ 0 ≤ y ∧ y < 2305843009213693951 ∧ 0 ≤ z ∧ z ≤ n

def But (a : Addr) (H H' : Hp) : Prop := ∀ b, b ≠ a → H' b = H b
theorem But.refl (a : Addr) (H : Hp) : But a H H := fun _ _ => rfl
theorem But.upd {a : Addr} {H : Hp} {o : HO} : But a H (upd H a o) := fun _ h => upd_ne h
theorem But.trans {a : Addr} {H H1 H2 : Hp} (x : But a H H1) (y : But a H1 H2) : But a H H2 := fun b h => (y b h).trans (x b h)
def spBag (K : PySem.W.Frag) : Sp := fun vs H Q _ => ∃ (p : Addr) (ns : List Int) (i : Nat), vs = [.ref p, .int (i : Int)] ∧ SqL K H p (ns.map V.int) ∧ i < 64 ∧
  ∀ (a : Addr) (o : HO), H a = none → Bag (upd H a o) a 0 → Q (.ref a) (upd H a o)
def spTake : Sp := fun vs H Q _ => ∃ (a : Addr) (m : Int) (n : Nat), vs = [.ref a, .int m] ∧ Bag H a n ∧ n < 1000000 ∧ 0 < m ∧ m < 1073741824 ∧
  ∀ (i : Int) (H' : Hp), 0 ≤ i → i < m → But a H H' → Bag H' a (n + 1) → Q (.int i) H'
end My
set_option Elab.async false
set_option maxRecDepth 100000
set_option maxHeartbeats 4000000
namespace My
open PySem PySem.Spec PyProof.Rows L2

theorem same_new {H : Hp} {p : Addr} {o : HO} (h : H p = none) : Same H (upd H p o) := fun _ _ e => (upd_ne (ne_of_none e h)).trans e
theorem new_same {H H1 : Hp} {p : Addr} {o : HO} (e : upd H p o = H1) (h : H p = none) : Same H H1 := e ▸ same_new h
theorem new_at {H H1 : Hp} {p : Addr} {o : HO} (e : upd H p o = H1) : H1 p = some o := e ▸ upd_same
theorem new_ne {H H1 : Hp} {p b : Addr} {o : HO} (e : upd H p o = H1) (n : b ≠ p) : H1 b = H b := e ▸ upd_ne n

def Ext (a : Addr) (H H' : Hp) : Prop := ∀ b o, b ≠ a → H b = some o → H' b = some o
theorem Ext.of {a : Addr} {H H' : Hp} (s : Same H H') : Ext a H H' := fun b o _ e => s b o e
theorem Ext.but {a : Addr} {H H' : Hp} (s : But a H H') : Ext a H H' := fun b o n e => (s b n).trans e
theorem Ext.trans {a : Addr} {H H1 H2 : Hp} (x : Ext a H H1) (y : Ext a H1 H2) : Ext a H H2 := fun b o n e => y b o n (x b o n e)

def del (a : Addr) (H : Hp) : Hp := fun b => if b = a then none else H b
theorem del_but {a : Addr} {H H' : Hp} (h : But a H H') : del a H' = del a H := by
  funext b
  unfold del
  by_cases e : b = a
  · rw [if_pos e, if_pos e]
  · rw [if_neg e, if_neg e, h b e]
theorem del_same {a : Addr} {H H' : Hp} (h : Same H H') : Same (del a H) (del a H') := by
  intro b o e
  unfold del at e ⊢
  by_cases q : b = a
  · rw [if_pos q] at e; cases e
  · rw [if_neg q] at e ⊢; exact h b o e
theorem del_ext {a : Addr} {H H' : Hp} (h : Ext a H H') : Same (del a H) (del a H') := by
  intro b o e
  unfold del at e ⊢
  by_cases q : b = a
  · rw [if_pos q] at e; cases e
  · rw [if_neg q] at e ⊢; exact h b o q e
theorem del_sub {a : Addr} {H : Hp} : Same (del a H) H := by
  intro b o e
  unfold del at e
  by_cases q : b = a
  · rw [if_pos q] at e; cases e
  · rw [if_neg q] at e; exact e
theorem del_at {a b : Addr} {H : Hp} (h : b ≠ a) : del a H b = H b := if_neg h
theorem del_none {a b : Addr} {H : Hp} (h : H b = none) : del a H b = none := by
  unfold del
  by_cases q : b = a
  · rw [if_pos q]
  · rw [if_neg q, h]
theorem Bag.ne {H : Hp} {a b : Addr} {n : Nat} (h : Bag H a n) (e : H b = none) : b ≠ a := by
  rintro rfl
  obtain ⟨x, y, z, h, _⟩ := h
  rw [h] at e; cases e
theorem Bag.same {H H' : Hp} {a : Addr} {n : Nat} (h : Bag H a n) (s : Same H H') : Bag H' a n := by
  obtain ⟨x, y, z, h, r⟩ := h
  exact ⟨x, y, z, s _ _ h, r⟩
theorem Bag.mono {H : Hp} {a : Addr} {n m : Nat} (h : Bag H a n) (l : n ≤ m) : Bag H a m := by
  obtain ⟨x, y, z, h, r1, r2, r3, r4⟩ := h
  exact ⟨x, y, z, h, r1, r2, r3, by omega⟩

theorem at_all {xs : List V} {i : Int} {Pr : V → Prop} (h0 : 0 ≤ i) (h1 : i < xs.length) (h : ∀ v, v ∈ xs → Pr v) : ∃ v, atI xs i = some v ∧ Pr v := by
  have hlt : i.toNat < xs.length := by omega
  refine ⟨xs[i.toNat], ?_, h _ (List.getElem_mem hlt)⟩
  unfold atI ixN
  rw [if_pos h0, if_pos h1]
  simp [hlt]

theorem lc_text {x : Str} {g : TG} {tt : TT} {te : TE} {vs : List Nat} {σ : L2.St} {H1 : Hp} {D : Addr} {Qd : Hp → Prop}
    (Pv : Nat → Hp → Prop) (h0 : Pv 0 (upd H1 D (.lst [])))
    (hs : ∀ i c H, x.cps[i]? = some c → Pv i H → g (.str ⟨#[c]⟩) (wipe σ vs) H fun σ2 H2 =>
      wipe σ2 vs = wipe σ vs ∧ tt σ2 H2 fun b H3 => if b = true then te σ2 H3 fun y H4 =>
        ∃ acc, H4 D = some (.lst acc) ∧ acc.length < sizeLine ∧ Pv (i + 1) (upd H4 D (.lst (acc ++ [y])))
      else Pv (i + 1) H3)
    (hd : ∀ H, Pv x.cps.size H → Qd H) :
    ∃ W : Nat → Nat → Hp → Prop, (∃ m, W 0 m (upd H1 D (.lst []))) ∧ ∀ i m H, W i m H →
      ((Its x).stop i H ∧ Qd H) ∨ ((Its x).go i H ∧ ∃ Nx : Hp → Prop, (∀ H', Nx H' → ∃ m', m' < m ∧ W (i + 1) m' H') ∧
        ∀ v H', (Its x).yld i H v H' → g v (wipe σ vs) H' fun σ2 H2 => wipe σ2 vs = wipe σ vs ∧ tt σ2 H2 fun b H3 =>
          if b = true then te σ2 H3 fun y H4 => ∃ acc, H4 D = some (.lst acc) ∧ acc.length < sizeLine ∧
            Nx (upd H4 D (.lst (acc ++ [y]))) else Nx H3) := by
  refine ⟨fun i m H => i ≤ x.cps.size ∧ m + i = x.cps.size ∧ Pv i H, ⟨x.cps.size, Nat.zero_le _, rfl, h0⟩, ?_⟩
  rintro i m H ⟨hi, hm, p⟩
  by_cases l : i < x.cps.size
  · right
    refine ⟨l, Pv (i + 1), fun H' z => ⟨m - 1, by omega, by omega, by omega, z⟩, ?_⟩
    rintro v H' ⟨rfl, c, hc, rfl⟩
    exact hs i c H' hc p
  · left
    obtain rfl : i = x.cps.size := by omega
    exact ⟨Nat.le_refl _, hd H p⟩

def tyD : PyData → String
  | .none => "NoneType"
  | .bool _ => "bool"
  | .int _ => "int"
  | .str _ => "str"
  | .list _ => "list"
  | .tuple _ => "tuple"
  | .dict _ => "dict"
theorem ty_of {K : PySem.W.Frag} {H : Hp} {v : V} {d : PyData} (h : Dx K H v d) : TyX K H v (.type (tyD d)) := by
  cases h with
  | of h =>
    cases h with
    | non => exact .base .non
    | bl b => exact .base (.bl b)
    | int i => exact .base (.int i)
    | str x => exact .base (.str x)
    | lst hs _ =>
      rcases hs with (h | ⟨o, h⟩) | ⟨o, its, n, h, c, _⟩
      · exact .base (.lst h)
      · exact .base (.frz h)
      · exact .kList h c
    | tup hs _ =>
      rcases hs with (h | ⟨o, h⟩) | ⟨o, its, n, h, c, _⟩
      · exact .base (.tup h)
      · exact .fTuple h
      · exact .kTuple h c
  | dict h f => exact .base (.dK h)
def isD (T : String) (d : PyData) : Bool := (kitB (tyD d) T).getD false
theorem kit_all : ∀ S ∈ ["NoneType", "bool", "int", "str", "list", "tuple", "dict"], ∀ T ∈ ["int", "bool", "str", "tuple", "list", "dict"],
    (kitB S T).isSome = true := by decide +kernel
theorem isD_some {T : String} {d : PyData} (h : T = "int" ∨ T = "bool" ∨ T = "str" ∨ T = "tuple" ∨ T = "list" ∨ T = "dict") : kitB (tyD d) T = some (isD T d) := by
  have e : (kitB (tyD d) T).isSome = true := by
    refine kit_all (tyD d) ?_ T ?_
    · cases d <;> simp [tyD]
    · simpa using h
  unfold isD
  cases q : kitB (tyD d) T with
  | none => rw [q] at e; cases e
  | some b => rfl
theorem isi_of {K : PySem.W.Frag} {H : Hp} {v : V} {d : PyData} {T : String} {Q : VK} (h : Dx K H v d)
    (hT : T = "int" ∨ T = "bool" ∨ T = "str" ∨ T = "tuple" ∨ T = "list" ∨ T = "dict") (q : Q (.bl (isD T d)) H) : rIsi K [v, .ty T] H Q :=
  ⟨v, .ty T, _, _, _, rfl, .ty T, ty_of h, kit_ty (isD_some hT), q⟩
def isS (S T : String) : Bool := (kitB S T).getD false
theorem isD_int (d : PyData) : isD "int" d = (match d with | .int _ => true | .bool _ => true | _ => false) := by
  cases d with
  | none => exact (by decide +kernel : isS "NoneType" "int" = false)
  | bool b => exact (by decide +kernel : isS "bool" "int" = true)
  | int i => exact (by decide +kernel : isS "int" "int" = true)
  | str x => exact (by decide +kernel : isS "str" "int" = false)
  | list xs => exact (by decide +kernel : isS "list" "int" = false)
  | tuple xs => exact (by decide +kernel : isS "tuple" "int" = false)
  | dict kvs => exact (by decide +kernel : isS "dict" "int" = false)
theorem isD_bool (d : PyData) : isD "bool" d = (match d with | .bool _ => true | _ => false) := by
  cases d with
  | none => exact (by decide +kernel : isS "NoneType" "bool" = false)
  | bool b => exact (by decide +kernel : isS "bool" "bool" = true)
  | int i => exact (by decide +kernel : isS "int" "bool" = false)
  | str x => exact (by decide +kernel : isS "str" "bool" = false)
  | list xs => exact (by decide +kernel : isS "list" "bool" = false)
  | tuple xs => exact (by decide +kernel : isS "tuple" "bool" = false)
  | dict kvs => exact (by decide +kernel : isS "dict" "bool" = false)
theorem isD_str (d : PyData) : isD "str" d = (match d with | .str _ => true | _ => false) := by
  cases d with
  | none => exact (by decide +kernel : isS "NoneType" "str" = false)
  | bool b => exact (by decide +kernel : isS "bool" "str" = false)
  | int i => exact (by decide +kernel : isS "int" "str" = false)
  | str x => exact (by decide +kernel : isS "str" "str" = true)
  | list xs => exact (by decide +kernel : isS "list" "str" = false)
  | tuple xs => exact (by decide +kernel : isS "tuple" "str" = false)
  | dict kvs => exact (by decide +kernel : isS "dict" "str" = false)
theorem isD_tuple (d : PyData) : isD "tuple" d = (match d with | .tuple _ => true | _ => false) := by
  cases d with
  | none => exact (by decide +kernel : isS "NoneType" "tuple" = false)
  | bool b => exact (by decide +kernel : isS "bool" "tuple" = false)
  | int i => exact (by decide +kernel : isS "int" "tuple" = false)
  | str x => exact (by decide +kernel : isS "str" "tuple" = false)
  | list xs => exact (by decide +kernel : isS "list" "tuple" = false)
  | tuple xs => exact (by decide +kernel : isS "tuple" "tuple" = true)
  | dict kvs => exact (by decide +kernel : isS "dict" "tuple" = false)
theorem isD_list (d : PyData) : isD "list" d = (match d with | .list _ => true | _ => false) := by
  cases d with
  | none => exact (by decide +kernel : isS "NoneType" "list" = false)
  | bool b => exact (by decide +kernel : isS "bool" "list" = false)
  | int i => exact (by decide +kernel : isS "int" "list" = false)
  | str x => exact (by decide +kernel : isS "str" "list" = false)
  | list xs => exact (by decide +kernel : isS "list" "list" = true)
  | tuple xs => exact (by decide +kernel : isS "tuple" "list" = false)
  | dict kvs => exact (by decide +kernel : isS "dict" "list" = false)
end My
set_option Elab.async false
set_option maxRecDepth 100000
set_option maxHeartbeats 4000000
namespace My
open PySem PySem.Spec PyProof.Rows L2

section
variable {X : Cx} {pins : List (Addr × Obj)} {σ : L2.St} {H : Hp} {s : Shared}
theorem fr_of (I : Inv X pins σ H s) : ∃ m, Fr X.base X.env.locals s.heap m := by
  obtain ⟨m, n, _⟩ := I.loc
  exact ⟨m, n, fun b o e => (I.bs b o e).1, Nat.le_trans I.ok.bsz I.ok.above⟩
theorem inst_of {a C dx : Addr} {fs : List (Str × V)} (I : Inv X pins σ H s) (e : H a = some (.ins C dx fs)) :
    ∃ ox od, PySem.W.InstAt s.heap a ox C (some od) := by
  obtain ⟨mA, O, _⟩ := ins_get I.hok e
  obtain ⟨od, J, _⟩ := O.look
  exact ⟨_, od, J⟩
theorem cmp_back {Q : VK} {u : Value} {s' : Shared} (h : EP X pins σ Q u s') : PySem.W.CmpBack (EP X pins σ Q) u s' := by
  obtain ⟨v, H', I', r, q⟩ := h
  cases u with
  | notImplemented =>
    cases v with
    | int i => obtain ⟨t, z⟩ := r; cases z
    | str x => obtain ⟨t, z⟩ := r; cases z
    | byt x => obtain ⟨t, z⟩ := r; cases z
    | flt x => obtain ⟨t, z⟩ := r; cases z
    | non => cases r
    | bl b => cases r
    | ref a => cases r
    | ty n => cases r
  | _ => exact ⟨v, H', I', r, q⟩

structure OwnOp (X : Cx) (C : Addr) (name : Str) (k : Nat) (ps : List Str) (sp : Sp) : Prop where
  ex : ∃ f fd, PySem.W.findIn X.K (.ref C) name = some (some (.ref f)) ∧ PySem.W.isFn X.K (.ref f) = true ∧
    FnOk X.prog X.w X.K X.mg X.base CX0 k f fd ps sp ∧ Binds X.K fd ps []
def rBin (C : Addr) (sp : Sp) : R2 := fun x y H Q => ∃ a b dx fs dy gs, x = .ref a ∧ y = .ref b ∧ H a = some (.ins C dx fs) ∧
  H b = some (.ins C dy gs) ∧ sp [x, y] H Q E0
theorem op_own2 {op : Operator} {C : Addr} {k : Nat} {ps : List Str} {sp : Sp} (O : OwnOp X C (PySem.dunder op.info.2) k ps sp)
    (hr : Room k X.A) (hc : PySem.W.selfFirst X.K C = true) : OpR X (binaryOp op) (rBin C sp) := by
  intro pins s σ H x y v u Q I rx ry h
  obtain ⟨a, b, dx, fs, dy, gs, rfl, rfl, ha, hb, q⟩ := h
  cases rx; cases ry
  obtain ⟨f, fd, hs, hf, F, bd⟩ := O.ex
  obtain ⟨m, Fr⟩ := fr_of I
  obtain ⟨ox, od, J⟩ := inst_of I ha
  obtain ⟨oy, oe, J2⟩ := inst_of I hb
  refine PySem.W.binop_K Fr I.ok.mod.kin J J2.type hc hs hf ?_
  refine thn (run_fn (us := [.ref a, .ref b]) (vs := [.ref a, .ref b]) F hr bd .nil pass0 I (.cons rfl (.cons rfl .nil)) q) ?_
  intro u s' z
  exact cmp_back z
def rIn1 (C : Addr) (sp : Sp) (neg : Bool) : R2 := fun x y H Q => ∃ b dy gs, y = .ref b ∧ H b = some (.ins C dy gs) ∧
  sp [y, x] H (fun v H' => ∃ c, v = .bl c ∧ Q (.bl (if neg = true then !c else c)) H') E0
theorem truthy_bool {M : Model} {A : Around} {E : Value → Shared → Prop} {s : Shared} {b : Bool} {Q : Bool → Shared → Prop} (h : Q b s) :
    wpAny M A (truthy (.bool b)) Q E s := by
  unfold truthy
  exact wpAny_pure h
theorem op_ownIn {C : Addr} {k : Nat} {ps : List Str} {sp : Sp} (O : OwnOp X C "__contains__" k ps sp) (hr : Room k X.A) :
    OpR X (compareOp .In) (rIn1 C sp false) := by
  intro pins s σ H x y v u Q I rx ry h
  obtain ⟨b, dy, gs, rfl, hb, q⟩ := h
  cases ry
  obtain ⟨f, fd, hs, hf, F, bd⟩ := O.ex
  obtain ⟨m, Fr⟩ := fr_of I
  obtain ⟨ox, od, J⟩ := inst_of I hb
  refine PySem.W.in_K Fr I.ok.mod.kin J hs hf ?_
  refine thn (run_fn (us := [.ref b, v]) (vs := [.ref b, x]) F hr bd .nil pass0 I (.cons rfl (.cons rx .nil)) q) ?_
  rintro u s' ⟨_, H', I', r, c, rfl, z⟩
  cases r
  exact truthy_bool ⟨.bl c, H', I', rfl, z⟩
theorem op_ownNotIn {C : Addr} {k : Nat} {ps : List Str} {sp : Sp} (O : OwnOp X C "__contains__" k ps sp) (hr : Room k X.A) :
    OpR X (compareOp .NotIn) (rIn1 C sp true) := by
  intro pins s σ H x y v u Q I rx ry h
  obtain ⟨b, dy, gs, rfl, hb, q⟩ := h
  cases ry
  obtain ⟨f, fd, hs, hf, F, bd⟩ := O.ex
  obtain ⟨m, Fr⟩ := fr_of I
  obtain ⟨ox, od, J⟩ := inst_of I hb
  refine PySem.W.notIn_K Fr I.ok.mod.kin J hs hf ?_
  refine thn (run_fn (us := [.ref b, v]) (vs := [.ref b, x]) F hr bd .nil pass0 I (.cons rfl (.cons rx .nil)) q) ?_
  rintro u s' ⟨_, H', I', r, c, rfl, z⟩
  cases r
  exact truthy_bool ⟨.bl (!c), H', I', rfl, z⟩

theorem run_in1 {k : Nat} {f : Addr} {fd : FuncData} {ps : List Str} {sp : Sp} {Q : VK} {us : List Value} {vs : List V}
    (F : FnOk X.prog X.w X.K X.mg X.base CX0 k f fd ps sp) (hr : Room (k + 1) X.A) (hb : Binds X.K fd ps []) (I : Inv X pins σ H s)
    (r : Vals vs us) (h : sp vs H Q E0) {E : Value → Shared → Prop} :
    wpAny (model X.prog X.w) X.A.in1 (call (.ref f) us) (EP X pins σ Q) E s := by
  have hl : us.length = ps.length := r.length.symm.trans (F.len _ _ _ _ h)
  have b0 : BindsTo s fd ⟨us, []⟩ (ps.zip us) := by
    have := hb s us I.kIn (by simpa using hl)
    simpa using this
  have z := F.run X.A.in1 X.stack s H ⟨us, []⟩ us vs Q E0 hr.in1 I.env0.in1 b0 r h
  refine wpAny_call (codeAny_mono z ?_)
  intro r s' hq
  match r, hq with
  | .error e, hq => exact hq.elim
  | .ok (.ret u), hq => exact I.after hq
  | .ok .next, hq => exact hq.elim
  | .ok .brk, hq => exact hq.elim
  | .ok .cont, hq => exact hq.elim
def rLen1 (C : Addr) (sp : Sp) : List V → Hp → VK → Prop := fun vs H Q => ∃ b dy gs, vs = [.ref b] ∧ H b = some (.ins C dy gs) ∧
  sp [.ref b] H (fun v H' => ∃ n : Int, v = .int n ∧ 0 ≤ n ∧ n < 2 ^ 63 ∧ Q (.int n) H') E0
theorem call_ownLen {C : Addr} {k : Nat} {ps : List Str} {sp : Sp} (O : OwnOp X C "__len__" k ps sp) (hr : Room (k + 1) X.A) :
    CallR X (.builtin "len") (rLen1 C sp) := by
  intro pins s σ H vs us Q I r h
  obtain ⟨b, dy, gs, rfl, hb, q⟩ := h
  obtain ⟨u, rfl, ru⟩ := vals1 r
  cases ru
  obtain ⟨f, fd, hs, hf, F, bd⟩ := O.ex
  obtain ⟨m, Fr⟩ := fr_of I
  obtain ⟨ox, od, J⟩ := inst_of I hb
  refine PySem.W.len_K Fr I.ok.mod.kin J hs hf ?_
  refine thn (run_in1 (us := [.ref b]) (vs := [.ref b]) F hr bd I (.cons rfl .nil) q) ?_
  rintro u s' ⟨_, H', I', r, n, rfl, n0, n1, z⟩
  obtain ⟨t, rfl⟩ := r
  exact ⟨⟨n0, n1⟩, .int n, H', I'.tok _, ⟨_, rfl⟩, z⟩
end
end My
set_option Elab.async false
set_option maxRecDepth 100000
set_option maxHeartbeats 4000000
namespace My
open PySem PySem.Spec PyProof.Rows L2

theorem lock_same {H H' : Hp} {d : Addr} {od : Obj} {u : HO} (s : Same (upd H d (.frz od u)) H') (e : H d = some u) : Same H (upd H' d u) := by
  intro b o q
  by_cases hb : b = d
  · subst hb
    rw [e] at q
    cases q
    exact upd_same
  · rw [upd_ne hb]
    exact s b o ((upd_ne hb).trans q)
theorem for_items {d : Addr} {od : Obj} {kvs : List (Key × V)} {g : TG} {tb : TS} {D : Ends} {σ : L2.St} {H : Hp} (Pv : Nat → L2.St → Hp → Prop)
    (h0 : Pv 0 σ H) (hl : ∀ i σ H, i ≤ kvs.length → Pv i σ H → H d = some (.frz od (.dK kvs)))
    (hs : ∀ i k v T σ H, kvs[i]? = some (k, v) → Pv i σ H → H T = none → g (.ref T) σ (upd H T (.tup [kV k, v])) fun σ2 H2 =>
      tb { D with nx := Pv (i + 1), ct := Pv (i + 1), bk := D.nx } σ2 H2)
    (hd : ∀ σ H, Pv kvs.length σ H → D.nx σ H) :
    ∃ W : Nat → Nat → L2.St → Hp → Prop, (∃ m, W 0 m σ H) ∧ ∀ i m σ H, W i m σ H → ((Iti d od kvs).stop i H ∧ D.nx σ H) ∨
      ((Iti d od kvs).go i H ∧ ∃ N : L2.St → Hp → Prop, (∀ σ' H', N σ' H' → ∃ m', m' < m ∧ W (i + 1) m' σ' H') ∧
        ∀ x H', (Iti d od kvs).yld i H x H' → g x σ H' fun σ2 H2 => tb { D with nx := N, ct := N, bk := D.nx } σ2 H2) := by
  refine ⟨fun i m σ H => i ≤ kvs.length ∧ m + i = kvs.length ∧ Pv i σ H, ⟨kvs.length, Nat.zero_le _, rfl, h0⟩, ?_⟩
  rintro i m σ H ⟨hi, hm, p⟩
  have q := hl i σ H hi p
  by_cases l : i < kvs.length
  · right
    refine ⟨⟨q, l⟩, Pv (i + 1), fun σ' H' z => ⟨m - 1, by omega, by omega, by omega, z⟩, ?_⟩
    rintro x H' ⟨T, k, v, e, rfl, hT, rfl⟩
    exact hs i k v T σ H e p hT
  · left
    obtain rfl : i = kvs.length := by omega
    exact ⟨⟨q, Nat.le_refl _⟩, hd σ H p⟩
theorem dc_items {d : Addr} {od : Obj} {kvs : List (Key × V)} {g : TG} {tt : TT} {tk tv : TE} {vs : List Nat} {σ : L2.St} {H1 : Hp} {D : Addr} {Qd : Hp → Prop}
    (Pv : Nat → Hp → Prop) (h0 : Pv 0 (upd H1 D (.dK []))) (hl : ∀ i H, i ≤ kvs.length → Pv i H → H d = some (.frz od (.dK kvs)))
    (hs : ∀ i k v T H, kvs[i]? = some (k, v) → Pv i H → H T = none → g (.ref T) (wipe σ vs) (upd H T (.tup [kV k, v])) fun σ2 H2 =>
      wipe σ2 vs = wipe σ vs ∧ tt σ2 H2 fun b H3 => if b = true then tk σ2 H3 fun y H4 => tv σ2 H4 fun z H5 => ∃ kvs k, y = kV k ∧
        H5 D = some (.dK kvs) ∧ kvs.length < sizeLine ∧ Pv (i + 1) (upd H5 D (.dK (putK kvs k z))) else Pv (i + 1) H3)
    (hd : ∀ H, Pv kvs.length H → Qd H) :
    ∃ W : Nat → Nat → Hp → Prop, (∃ m, W 0 m (upd H1 D (.dK []))) ∧ ∀ i m H, W i m H → ((Iti d od kvs).stop i H ∧ Qd H) ∨
      ((Iti d od kvs).go i H ∧ ∃ Nx : Hp → Prop, (∀ H', Nx H' → ∃ m', m' < m ∧ W (i + 1) m' H') ∧
        ∀ x H', (Iti d od kvs).yld i H x H' → g x (wipe σ vs) H' fun σ2 H2 => wipe σ2 vs = wipe σ vs ∧ tt σ2 H2 fun b H3 =>
          if b = true then tk σ2 H3 fun y H4 => tv σ2 H4 fun z H5 => ∃ kvs k, y = kV k ∧ H5 D = some (.dK kvs) ∧ kvs.length < sizeLine ∧
            Nx (upd H5 D (.dK (putK kvs k z))) else Nx H3) := by
  refine ⟨fun i m H => i ≤ kvs.length ∧ m + i = kvs.length ∧ Pv i H, ⟨kvs.length, Nat.zero_le _, rfl, h0⟩, ?_⟩
  rintro i m H ⟨hi, hm, p⟩
  have q := hl i H hi p
  by_cases l : i < kvs.length
  · right
    refine ⟨⟨q, l⟩, Pv (i + 1), fun H' z => ⟨m - 1, by omega, by omega, by omega, z⟩, ?_⟩
    rintro x H' ⟨T, k, v, e, rfl, hT, rfl⟩
    exact hs i k v T H e p hT
  · left
    obtain rfl : i = kvs.length := by omega
    exact ⟨⟨q, Nat.le_refl _⟩, hd H p⟩

def ents (es : List (Int × Str)) : List (Key × V) := es.map fun p => (Sum.inl p.1, V.str p.2)
def keys (es : List (Int × Str)) : List Int := es.map (·.1)
theorem ents_len (es : List (Int × Str)) : (ents es).length = es.length := List.length_map _
theorem ents_app (xs ys : List (Int × Str)) : ents (xs ++ ys) = ents xs ++ ents ys := List.map_append
theorem ents_at {es : List (Int × Str)} {i : Nat} {k : Key} {v : V} (h : (ents es)[i]? = some (k, v)) : ∃ n x, es[i]? = some (n, x) ∧ k = .inl n ∧ v = .str x := by
  unfold ents at h
  rw [List.getElem?_map] at h
  cases e : es[i]? with
  | none => rw [e] at h; cases h
  | some p =>
    rw [e] at h
    cases h
    exact ⟨p.1, p.2, rfl, rfl, rfl⟩
def look (es : List (Int × Str)) (k : Int) : Option Str := (es.find? fun p => decide (p.1 = k)).map (·.2)
theorem look_nil (k : Int) : look [] k = none := rfl
theorem look_cons (p : Int × Str) (es : List (Int × Str)) (k : Int) : look (p :: es) k = if p.1 = k then some p.2 else look es k := by
  unfold look
  rw [List.find?_cons]
  by_cases e : p.1 = k
  · rw [if_pos e, decide_eq_true e]; rfl
  · rw [if_neg e, decide_eq_false e]
theorem valV_ents (k : Int) : ∀ es : List (Int × Str), valV (ents es) (.inl k) = (look es k).map V.str
  | [] => rfl
  | p :: es => by
    rw [look_cons]
    show valV ((Sum.inl p.1, V.str p.2) :: ents es) (.inl k) = _
    by_cases e : p.1 = k
    · rw [valV_pos (show (Sum.inl p.1 : Key) = .inl k by rw [e]), if_pos e]; rfl
    · rw [valV_neg (show ¬ (Sum.inl p.1 : Key) = .inl k from fun z => e (Sum.inl.inj z)), if_neg e, valV_ents k es]
theorem look_none {es : List (Int × Str)} {k : Int} : look es k = none ↔ k ∉ keys es := by
  induction es with
  | nil => exact ⟨fun _ => List.not_mem_nil, fun _ => rfl⟩
  | cons p es ih =>
    rw [look_cons]
    unfold keys at ih ⊢
    rw [List.map_cons, List.mem_cons, not_or]
    by_cases e : p.1 = k
    · rw [if_pos e]
      exact ⟨fun z => (nomatch z), fun z => absurd e.symm z.1⟩
    · rw [if_neg e, ih]
      exact ⟨fun z => ⟨fun q => e q.symm, z⟩, fun z => z.2⟩
theorem look_some {es : List (Int × Str)} {k : Int} : (look es k).isSome = true ↔ k ∈ keys es := by
  cases e : look es k with
  | none =>
    refine ⟨fun z => ?_, fun z => absurd z (look_none.mp e)⟩
    cases z
  | some x =>
    refine ⟨fun _ => Decidable.byContradiction fun n => ?_, fun _ => rfl⟩
    rw [look_none.mpr n] at e
    cases e
theorem put_new {es : List (Int × Str)} {k : Int} {x : Str} (h : k ∉ keys es) : putK (ents es) (.inl k) (.str x) = ents (es ++ [(k, x)]) := by
  unfold putK
  rw [valV_any, valV_ents, look_none.mpr h, if_neg (by simp), ents_app]
  rfl
end My
set_option Elab.async false
set_option maxRecDepth 100000
set_option maxHeartbeats 4000000
namespace My
open PySem PySem.Spec PyProof.Rows L2

section
open PySem.W
variable {prog : Program} {w : World} {A : Around} {E : Value → Shared → Prop} {s : Shared} {K : Frag} {x C f : Addr} {ox : Obj} {od : Option Obj} {b : Value}
theorem one_bool {M : Model} {A : Around} {E : Value → Shared → Prop} {Q : Fin → Shared → Prop} {c : Bool} {s : Shared} (h : Q (.done (.ret (.bool (!c)))) s) :
    wpAny M A (do ret (.bool (!(← truthy (.bool c))))) Q E s := by
  unfold truthy
  refine wpAny_bind (wpAny_pure ?_)
  exact wpAny_pure h
theorem one_ne (X : K.In s.heap) (I : InstAt s.heap x ox C od) (hs : findIn K (.ref C) "__eq__" = some (some (.ref f))) (hf : isFn K (.ref f) = true) (hu : A.units < cLine) {Q : Fin → Shared → Prop}
    (h : wpAny (model prog w) A (call (.ref f) [.ref x, b]) (fun v s' => ∃ c, v = .bool c ∧ Q (.done (.ret (.bool (!c)))) s') E s) :
    wpAny (model prog w) A (Builtin.«object.__ne__» ⟨[.ref x, b], []⟩) Q E s := by
  unfold Builtin.«object.__ne__»
  show wpAny _ _ (cRoomFor "comparison" [.ref x, b] >>= fun _ => callSpecialIfBound? (.ref x) "__eq__" [b] >>= _) _ _ _
  refine wpAny_bind (wpAny_cRoomFor hu ?_)
  refine wpAny_bind (ifBound_K X I hs hf (wpAny_mono h (fun v s' hv => ?_) fun _ _ e => e))
  obtain ⟨c, rfl, q⟩ := hv
  exact one_bool q
theorem ne_own (hu : A.units + 1 < cLine) (X : K.In s.heap) (I : InstAt s.heap x ox C od) {tb : Value} (hb : Looks (model prog w) s.heap (typeOf b) tb) (hn : notFirst K C tb = true)
    (ht : mroIn K C (.type "object") = some true)
    (hd : findIn K (.ref C) "__ne__" = some (some (.builtin "object.__ne__"))) (hs : findIn K (.ref C) "__eq__" = some (some (.ref f))) (hf : isFn K (.ref f) = true) {Q : Value → Shared → Prop}
    (h : wpAny (model prog w) A.in1 (call (.ref f) [.ref x, b]) (fun v s' => ∃ c, v = .bool c ∧ Q (.bool (!c)) s') E s) :
    wpAny (model prog w) A (compareOp .NotEq (.ref x) b) Q E s := by
  have one : wpAny (model prog w) A (tryCompare (.ref x) "__ne__" b) (fun r s' => ∃ v, r = some v ∧ Q v s') E s := by
    unfold tryCompare
    refine wpAny_bind ?_
    simp only [callSpecialIfBound?, bindSpecialIfBound?]
    refine wpAny_holding (wpAny_bind (wpAny_bind (wpAny_bind (I.type.here ((looks_findIn X hd).here ?_)))))
    refine wpAny_bind (wpAny_askSetting (wpAny_ite ?_))
    have L : Looks (model prog w) s.heap (isInstance (.ref x) (.type "object")) true := I.type.andThen (looks_mroIn X ht)
    have bnd := PySem.F.cmp_object.ne.bind (.ref x)
    split
    rotate_left
    refine wpAny_tryCatch ?_
    all_goals
      refine wpAny_bind ?_
      rw [bnd]
      refine wpAny_pure (wpAny_pure (wpAny_bind (wpAny_call (codeAny_call_builtin PySem.F.cmp_object.ne.plain F.cmpEntry_ne
        (@PySem.W.check_slot (model prog w) _ _ _ "object.__ne__" "object" "__ne__" (.ref x) [b] [] _ F.cmpKind_ne F.cmpSplit_ne L (F.cmpArgs_ne _ _) ?_)))))
      refine one_ne (A := A.in1) X I hs hf hu (wpAny_mono h (fun y s' hy => ?_) fun _ _ z => z)
      obtain ⟨c, rfl, q⟩ := hy
      exact ⟨c, rfl, wpAny_pure (wpAny_pure ⟨_, rfl, q⟩)⟩
  show wpAny _ _ (richCompare .NotEq (.ref x) b) _ _ _
  unfold richCompare
  simp only [oneThing_ref]
  refine wpAny_holding (wpAny_bind (wpAny_cRoomFor (Nat.lt_of_succ_lt hu) ?_))
  refine wpAny_bind (I.type.here ?_)
  refine wpAny_bind (hb.here ?_)
  rw [PySem.cmpInfo_NotEq]
  dsimp only
  have last : ∀ {f : Option Value → Sem Value}, (∀ v, f (some v) = pure v) → wpAny (model prog w) A (tryCompare (.ref x) "__ne__" b >>= f) Q E s := by
    intro f hf2
    refine wpAny_bind (wpAny_mono one (fun y s' hy => ?_) fun _ _ z => z)
    obtain ⟨v, rfl, q⟩ := hy
    rw [hf2]
    exact wpAny_pure q
  split
  · rename_i q
    have no : subIn K tb (.ref C) = some false := by
      cases hq : tb == .ref C with
      | true => rw [beq_iff_eq.mp hq] at q; simp at q
      | false =>
        unfold notFirst at hn
        rw [hq, Bool.false_or] at hn
        exact beq_iff_eq.mp hn
    refine wpAny_bind ((looks_subIn X no).here ?_)
    rw [if_neg (by simp)]
    exact last fun _ => rfl
  · refine wpAny_bind (wpAny_pure (a := false) ?_)
    rw [if_neg (by simp)]
    exact last fun _ => rfl
end
section
variable {X : Cx}

def rEq1 (C : Addr) (sp : Sp) (neg : Bool) : R2 := fun x y H Q => ∃ a b dx fs dy gs, x = .ref a ∧ y = .ref b ∧ H a = some (.ins C dx fs) ∧
  H b = some (.ins C dy gs) ∧ sp [x, y] H (fun v H' => ∃ c, v = .bl c ∧ Q (.bl (if neg = true then !c else c)) H') E0
theorem op_ownEq {C : Addr} {k : Nat} {ps : List Str} {sp : Sp} (O : OwnOp X C "__eq__" k ps sp) (hr : Room k X.A) (hu : X.A.units < cLine) :
    OpR X (compareOp .Eq) (rEq1 C sp false) := by
  intro pins s σ H x y v u Q I rx ry h
  obtain ⟨a, b, dx, fs, dy, gs, rfl, rfl, ha, hb, q⟩ := h
  cases rx; cases ry
  obtain ⟨f, fd, hs, hf, F, bd⟩ := O.ex
  obtain ⟨m, Fr⟩ := fr_of I
  obtain ⟨ox, od, J⟩ := inst_of I ha
  obtain ⟨oy, oe, J2⟩ := inst_of I hb
  show wpAny _ _ (richCompare .Eq _ _) _ _ _
  refine PySem.W.cmp_K hu Fr I.ok.mod.kin J J2.type (by unfold PySem.W.notFirst; simp) hs hf ?_
  refine thn (run_fn (us := [.ref a, .ref b]) (vs := [.ref a, .ref b]) F hr bd .nil pass0 I (.cons rfl (.cons rfl .nil)) q) ?_
  rintro u s' ⟨_, H', I', r, c, rfl, z⟩
  cases r
  exact ⟨.bl c, H', I', rfl, z⟩
theorem op_ownNe {C : Addr} {k : Nat} {ps : List Str} {sp : Sp} (O : OwnOp X C "__eq__" k ps sp) (hr : Room (k + 1) X.A) (hu : X.A.units + 1 < cLine)
    (ht : PySem.W.mroIn X.K C (.type "object") = some true)
    (hd : PySem.W.findIn X.K (.ref C) "__ne__" = some (some (.builtin "object.__ne__"))) :
    OpR X (compareOp .NotEq) (rEq1 C sp true) := by
  intro pins s σ H x y v u Q I rx ry h
  obtain ⟨a, b, dx, fs, dy, gs, rfl, rfl, ha, hb, q⟩ := h
  cases rx; cases ry
  obtain ⟨f, fd, hs, hf, F, bd⟩ := O.ex
  obtain ⟨m, Fr⟩ := fr_of I
  obtain ⟨ox, od, J⟩ := inst_of I ha
  obtain ⟨oy, oe, J2⟩ := inst_of I hb
  refine ne_own hu I.kIn J J2.type (by unfold PySem.W.notFirst; simp) ht hd hs hf ?_
  refine thn (run_in1 (us := [.ref a, .ref b]) (vs := [.ref a, .ref b]) F hr bd I (.cons rfl (.cons rfl .nil)) q) ?_
  rintro u s' ⟨_, H', I', r, c, rfl, z⟩
  cases r
  exact ⟨c, rfl, .bl (!c), H', I', rfl, z⟩
end
end My
set_option Elab.async false
set_option maxRecDepth 100000
set_option maxHeartbeats 4000000
namespace My
open PySem PySem.Spec PyProof.Rows L2



def laid (d : PyData) : Prop := d.canLay0 = true ∨ ∃ kvs, d = .dict kvs
def sm (d : PyData) : Prop := d.weight ≤ 100000 ∧ laid d
def mWhole : PyData → Bool
  | .int _ => true
  | _ => false
def between (a b : Int) : PyData → Bool
  | .int i => decide (a ≤ i) && decide (i ≤ b)
  | _ => false
def mKey (d : PyData) : Bool := between 0 999999 d
def mVal (d : PyData) : Bool := between (1 - 10 ^ 40) (10 ^ 40 - 1) d
def abc : Str := "abcdefghijklmnopqrstuvwxyz"
def nameOk (x : Str) : Bool := decide (1 ≤ x.length ∧ x.length ≤ 4) && !(inV (.str x) [.str "keys", .str "look", .str "self"]) &&
  x.cps.toList.all fun c => decide (c ∈ abc.cps.toList)
def mName : PyData → Bool
  | .str x => nameOk x
  | _ => false
def mEl : PyData → Bool
  | .tuple [k, f] => mKey k && mName f
  | _ => false
def mEnt : PyData → Bool
  | .tuple [k, f, v] => mKey k && (mName f && mVal v)
  | _ => false

def spIs (K : PySem.W.Frag) (m : PyData → Bool) : Sp := fun vs H Q _ => ∃ v d, vs = [v] ∧ Dx K H v d ∧ sm d ∧ ∀ H', Same H H' → Q (.bl (m d)) H'
def spBetween (K : PySem.W.Frag) : Sp := fun vs H Q _ => ∃ v d a b, vs = [v, .int a, .int b] ∧ Dx K H v d ∧ Q (.bl (between a b d)) H
def okB (d : PyData) : Bool := d.showable && (d.leavesShort 100 && (decide (d.weight ≤ 1000) && (decide (d.depth ≤ 10) && d.canLay0)))
def okT (d : PyData) : Prop := d.showable = true ∧ d.leavesShort 100 = true ∧ d.weight ≤ 10000 ∧ d.depth ≤ 30 ∧ laid d
def okD (d : PyData) : Prop := d.showable = true ∧ d.leavesShort 100 = true ∧ d.weight ≤ 1000 ∧ d.depth ≤ 10
def spWord : Sp := fun vs H Q _ => ∃ (a : Addr) (n : Nat), vs = [.ref a] ∧ Bag H a n ∧ n < 10000 ∧
  ∀ (x : Str) (H' : Hp), okB (.str x) = true → Same (del a H) (del a H') → Bag H' a (n + 2) → Q (.str x) H'
def spNumber (K : PySem.W.Frag) : Sp := fun vs H Q _ => ∃ (a : Addr) (n : Nat), vs = [.ref a] ∧ Bag H a n ∧ n < 10000 ∧
  ∀ (v : V) (d : PyData) (H' : Hp), Dp K (del a H') v d → okB d = true → Same (del a H) (del a H') → Bag H' a (n + 2) → Q v H'
def spThing (K : PySem.W.Frag) : Sp := fun vs H Q _ => ∃ (a : Addr) (n : Nat), vs = [.ref a] ∧ Bag H a n ∧ n < 9000 ∧
  ∀ (v : V) (d : PyData) (H' : Hp), Dx K H' v d → okT d → Same (del a H) (del a H') → Bag H' a (n + 8) → Q v H'
def spLaw (K : PySem.W.Frag) : Sp := fun vs H Q _ => ∃ (a : Addr) (ns : List Int), vs = [.ref a] ∧ SqL K H a (ns.map V.int) ∧ ns.length ≤ 63 ∧ ∀ H', Q (.bl true) H'
theorem sqT_len {K : PySem.W.Frag} {H : Hp} : ∀ {vs : List V} {ds : List PyData}, DpAll K H vs ds → vs.length = ds.length
  | _, _, .nil => rfl
  | _, _, .cons _ r => by rw [List.length_cons, List.length_cons, sqT_len r]
theorem dx_tuple {K : PySem.W.Frag} {H : Hp} {v : V} {ds : List PyData} (h : Dx K H v (.tuple ds)) : ∃ a vs, v = .ref a ∧ SqT K H a vs ∧ DpAll K H vs ds := by
  cases h with
  | of h => cases h with | tup h1 h2 => exact ⟨_, _, rfl, h1, h2⟩
theorem dx_str {K : PySem.W.Frag} {H : Hp} {v : V} {x : Str} (h : Dx K H v (.str x)) : v = .str x := by
  cases h with
  | of h => cases h; rfl
theorem dx_int {K : PySem.W.Frag} {H : Hp} {v : V} {i : Int} (h : Dx K H v (.int i)) : v = .int i := by
  cases h with
  | of h => cases h; rfl
theorem rd_isi {K : PySem.W.Frag} {i : Nat} {σ : L2.St} {H : Hp} {v : V} {d : PyData} {T : String} {Q : VK} (hσ : σ[i]? = some (some v)) (hx : Dx K H v d)
    (hT : T = "int" ∨ T = "bool" ∨ T = "str" ∨ T = "tuple" ∨ T = "list" ∨ T = "dict") (q : Q (.bl (isD T d)) H) :
    tCB (rIsi K) (tCons (tVar i) (tCons (tC (.ty T)) tNil)) σ H Q := ⟨v, hσ, isi_of hx hT q⟩
theorem isNot (b : Bool) : (if (!b) = true then true else false) = !b := by cases b <;> rfl

theorem take_snoc {xs : Array Nat} {i c : Nat} (h : xs[i]? = some c) : xs.toList.take (i + 1) = xs.toList.take i ++ [c] := by
  rw [List.take_add_one]
  have e : xs.toList[i]? = some c := by rw [Array.getElem?_toList]; exact h
  rw [e]
  rfl
def inAbc (c : Nat) : Bool := decide (c ∈ abc.cps.toList)
theorem len_le {x : Str} (h : sm (.str x)) : x.length ≤ 100000 := h.1
theorem laid_str {x : Str} (h : laid (.str x)) : ∀ c ∈ x.cps.toList, c < 0x110000 := by
  rcases h with h | ⟨_, h⟩
  · intro c hc
    have h2 : x.cps.all (· < 0x110000) = true := h
    rw [Array.all_eq_true'] at h2
    simpa using h2 c (by simpa using hc)
  · cases h
theorem laid_tup {ds : List PyData} (h : laid (.tuple ds)) : ∀ d ∈ ds, laid d := by
  rcases h with h | ⟨_, h⟩
  · have h2 : PyData.canLayAll0 ds = true := h
    intro d hd
    left
    induction ds with
    | nil => cases hd
    | cons a r ih =>
      rw [PyData.canLayAll0, Bool.and_eq_true] at h2
      rcases List.mem_cons.mp hd with rfl | hd
      · exact h2.1
      · exact ih h2.2 h2.2 hd
  · cases h
theorem size_ok {n : Nat} (h : n ≤ 1000000) : n ≤ sizeLine := Nat.le_trans h (by decide)
theorem size_lt {n : Nat} (h : n ≤ 1000000) : n < sizeLine := Nat.lt_of_le_of_lt h (by decide)
theorem all_ids (l : List Nat) (p : Nat → Bool) : (l.map p).all id = l.all p := by
  induction l with
  | nil => rfl
  | cons a r ih => rw [List.map_cons, List.all_cons, List.all_cons, ih]; rfl

theorem inV_14 (n : Nat) : inV (.int n) [.int 1, .int 2, .int 3, .int 4] = decide (1 ≤ n ∧ n ≤ 4) := by
  match n with
  | 0 => rfl
  | 1 => rfl
  | 2 => rfl
  | 3 => rfl
  | 4 => rfl
  | k + 5 =>
    rw [decide_eq_false (by omega)]
    simp only [inV, eqV, List.any_cons, List.any_nil, Bool.or_false, Bool.or_eq_false_iff, beq_eq_false_iff_ne, ne_eq]
    omega
def chars (l : List Nat) : List PyData := l.map fun c => .str ⟨#[c]⟩
theorem dp_chars {K : PySem.W.Frag} {H : Hp} : ∀ l : List Nat, DpAll K H (l.map fun c => V.str ⟨#[c]⟩) (chars l)
  | [] => .nil
  | c :: r => .cons (.str _) (dp_chars r)
theorem lay_chars : ∀ l : List Nat, (∀ c ∈ l, c < 0x110000) → PyData.canLayAll0 (chars l) = true
  | [], _ => rfl
  | c :: r, h => by
    show (PyData.canLay0 (.str ⟨#[c]⟩) && PyData.canLayAll0 (chars r)) = true
    rw [lay_chars r fun x hx => h x (List.mem_cons_of_mem _ hx), Bool.and_true]
    show (#[c].all fun x => decide (x < 0x110000)) = true
    simpa using h c List.mem_cons_self
theorem deep_chars : ∀ l : List Nat, PyData.depthAll (chars l) = 0
  | [] => rfl
  | c :: r => by
    show max (PyData.depth (.str ⟨#[c]⟩)) (PyData.depthAll (chars r)) = 0
    rw [deep_chars r]
    rfl
theorem shaped_chars (l : List Nat) (h : ∀ c ∈ l, c < 0x110000) : SeqAt.shaped (.list (chars l)) = true := by
  show (PyData.canLayAll0 (chars l) && decide (PyData.depthAll (chars l) + 1 ≤ 64)) = true
  rw [lay_chars l h, deep_chars]
  rfl
theorem eqv_nil (l : List Nat) : PyData.eqv (.list (chars l)) (.list []) = l.isEmpty := by
  cases l with
  | nil => rfl
  | cons c r => rfl
theorem filter_empty (l : List Nat) (p : Nat → Bool) : (l.filter fun c => !p c).isEmpty = l.all p := by
  induction l with
  | nil => rfl
  | cons a r ih =>
    rw [List.filter_cons, List.all_cons]
    cases p a with
    | true => simpa using ih
    | false => rfl

theorem okD_of {d : PyData} (h : okB d = true) : okD d ∧ d.canLay0 = true := by
  unfold okB at h
  simp only [Bool.and_eq_true, decide_eq_true_eq] at h
  exact ⟨⟨h.1, h.2.1, h.2.2.1, h.2.2.2.1⟩, h.2.2.2.2⟩
def words : List Str := ["a", "z", "ab", "keyz", "key", "look", "keys", "self", "seld", "looks", "abcde", "", "A", "aB", "a1", "a b", "a\n", " a", "a_", "loo", "zzzz"]
theorem words_ok : words.all (fun x => okB (.str x)) = true := by decide +kernel
theorem xs_ok : ∀ n, n < 7 → okB (.str (repS "x" n)) = true := by decide +kernel
def nums : List V := [.int 0, .int 1, .int 999999, .int 1000000, .int (-1), .bl true, .bl false, .non, .str "1", .int (10 ^ Int.toNat 40 - 1), .int (1 - 10 ^ Int.toNat 40), .int 999998]
theorem nums_ok : nums.all (fun v => match flatD v with | some d => okB d | none => false) = true := by decide +kernel
theorem dp_flat {K : PySem.W.Frag} {H : Hp} {v : V} {d : PyData} (h : flatD v = some d) : Dp K H v d := by
  cases v with
  | non => cases h; exact .non
  | bl b => cases h; exact .bl b
  | int i => cases h; exact .int i
  | str x => cases h; exact .str x
  | byt b => cases h
  | flt b => cases h
  | ref a => cases h
  | ty n => cases h
theorem small_int {i : Int} (h0 : 0 ≤ i) (h1 : i < 1000000) : okB (.int i) = true := by
  unfold okB
  have a1 : i.natAbs < 10 ^ 12 := by omega
  have a2 : i.natAbs.log2 < 1920 := log2_small (by
    have : (1000000 : Nat) < 2 ^ 1920 := by decide
    omega)
  have a3 := PyData.shown_int_le a1
  have a4 : (PyData.int i).weight ≤ 1000 := by
    show (if i == 0 then 0 else i.natAbs.log2 + 1) ≤ 1000
    have : i.natAbs.log2 < 20 := by
      by_cases e : i.natAbs = 0
      · rw [e]; decide
      · exact (Nat.log2_lt e).mpr (by omega)
    split <;> omega
  have b1 : (PyData.int i).showable = true := by simp only [PyData.showable]; exact decide_eq_true a2
  have b2 : (PyData.int i).leavesShort 100 = true := by simp only [PyData.leavesShort]; exact decide_eq_true (by omega)
  rw [b1, b2, decide_eq_true a4]
  rfl

def okP (W D : Nat) (d : PyData) : Prop := d.showable = true ∧ d.leavesShort 100 = true ∧ d.weight ≤ W ∧ d.depth ≤ D ∧ d.canLay0 = true
theorem okP_of {d : PyData} (h : okB d = true) : okP 1000 10 d :=
  let ⟨⟨h1, h2, h3, h4⟩, h5⟩ := okD_of h
  ⟨h1, h2, h3, h4, h5⟩
theorem okP_all {W D : Nat} : ∀ {ds : List PyData}, (∀ d ∈ ds, okP W D d) → PyData.showableAll ds = true ∧ PyData.leavesShortAll 100 ds = true ∧
    PyData.weightAll ds ≤ ds.length * (W + 1) ∧ PyData.depthAll ds ≤ D ∧ PyData.canLayAll0 ds = true
  | [], _ => ⟨rfl, rfl, Nat.zero_le _, Nat.zero_le _, rfl⟩
  | d :: r, h => by
    obtain ⟨a1, a2, a3, a4, a5⟩ := h d List.mem_cons_self
    obtain ⟨b1, b2, b3, b4, b5⟩ := okP_all (W := W) (D := D) fun x hx => h x (List.mem_cons_of_mem _ hx)
    refine ⟨?_, ?_, ?_, ?_, ?_⟩
    · rw [PyData.showableAll, a1, b1]; rfl
    · rw [PyData.leavesShortAll, a2, b2]; rfl
    · rw [PyData.weightAll, List.length_cons, Nat.succ_mul]; omega
    · rw [PyData.depthAll]; exact Nat.max_le.mpr ⟨a4, b4⟩
    · rw [PyData.canLayAll0, a5, b5]; rfl
theorem okP_list {W D W' D' : Nat} {ds : List PyData} (h : ∀ d ∈ ds, okP W D d) (hw : ds.length * (W + 1) ≤ W') (hd : D + 1 ≤ D') : okP W' D' (.list ds) := by
  obtain ⟨b1, b2, b3, b4, b5⟩ := okP_all h
  refine ⟨?_, ?_, Nat.le_trans b3 hw, ?_, b5⟩
  · rw [PyData.showable]; exact b1
  · rw [PyData.leavesShort]; exact b2
  · rw [PyData.depth]; omega
theorem okP_tup {W D W' D' : Nat} {ds : List PyData} (h : ∀ d ∈ ds, okP W D d) (hw : ds.length * (W + 1) ≤ W') (hd : D + 1 ≤ D') : okP W' D' (.tuple ds) := by
  obtain ⟨b1, b2, b3, b4, b5⟩ := okP_all h
  refine ⟨?_, ?_, Nat.le_trans b3 hw, ?_, b5⟩
  · rw [PyData.showable]; exact b1
  · rw [PyData.leavesShort]; exact b2
  · rw [PyData.depth]; omega
theorem okT_of {d : PyData} (h : okP 10000 30 d) : okT d := ⟨h.1, h.2.1, h.2.2.1, h.2.2.2.1, .inl h.2.2.2.2⟩
theorem okP_mono {W D W' D' : Nat} {d : PyData} (h : okP W D d) (hw : W ≤ W') (hd : D ≤ D') : okP W' D' d :=
  ⟨h.1, h.2.1, Nat.le_trans h.2.2.1 hw, Nat.le_trans h.2.2.2.1 hd, h.2.2.2.2⟩
theorem okT_dict {w : Str} (h : okB (.str w) = true) : okT (.dict [(.int 0, .str w)]) := by
  obtain ⟨a1, a2, a3, a4, a5⟩ := okP_of h
  refine ⟨?_, ?_, ?_, ?_, .inr ⟨_, rfl⟩⟩
  · rw [PyData.showable, PyData.showableKv, a1]
    rw [show PyData.showable (.int 0) = true by decide +kernel]
    rfl
  · rw [PyData.leavesShort, PyData.leavesShortKv, a2]
    rw [show PyData.leavesShort 100 (.int 0) = true by decide +kernel]
    rfl
  · rw [PyData.weight, PyData.weightKv, show PyData.weight (.int 0) = 0 from rfl, PyData.weightKv]; omega
  · rw [PyData.depth, PyData.depthKv, show PyData.depth (.int 0) = 0 from rfl, PyData.depthKv, show PyData.depth (.str w) = 0 from rfl]; decide
theorem okP_int0 : okP 1000 10 (.int 0) := okP_of (by decide +kernel)

theorem okT_len {d : PyData} (h : okT d) : d.shown.length ≤ sizeLine := by
  have a := PyData.shown_le 100 (by decide) d h.2.1
  have b : (100 + 2) * d.weight + 100 ≤ 102 * 10000 + 100 := by have := h.2.2.1; omega
  exact Nat.le_trans a (Nat.le_trans b (by decide))
theorem okT_sm {d : PyData} (h : okT d) : sm d := ⟨by have := h.2.2.1; omega, h.2.2.2.2⟩
theorem ok_bools (a b c : Bool) : okT (.list [.bool a, .bool b, .bool c]) := okT_of (okP_list (W := 1000) (D := 10) (by
  intro d hd
  simp only [List.mem_cons, List.not_mem_nil, or_false] at hd
  rcases hd with rfl | rfl | rfl
  · cases a <;> exact okP_of (by decide +kernel)
  · cases b <;> exact okP_of (by decide +kernel)
  · cases c <;> exact okP_of (by decide +kernel)) (by simp) (by decide))

end My
set_option Elab.async false
set_option maxRecDepth 100000
set_option maxHeartbeats 4000000
namespace My
open PySem PySem.Spec PyProof.Rows L2

structure FunV (K : PySem.W.Frag) (x qual : Str) (st : Stmt) (dV : Value) (f : Addr) (fd : FuncData) : Prop where
  ex : ∃ (oc : Value) (od : Option Addr) (kV doc pm : Value) (an : Option Addr) (cdv ct : Value) (osl : Array (Option Value)),
    fd = PySem.W.fnOf x qual (defArgs st) (defBody st) (defScope st) dV kV doc pm an cdv ct ∧ K.lookup f = some ⟨oc, od, .func fd, osl⟩ ∧ PySem.W.codeIn K cdv qual = true
section
variable {P : Program} {w : World} {K : PySem.W.Frag} {mg : Str → Option Value} {base : Heap} {x qual : Str} {st : Stmt} {f : Addr} {fd : FuncData} {dV : Value}
theorem funV_mk {oc : Value} {od an : Option Addr} {osl : Array (Option Value)} {kV doc pm cdv ct : Value}
    (l : K.lookup f = some ⟨oc, od, .func (PySem.W.fnOf x qual (defArgs st) (defBody st) (defScope st) dV kV doc pm an cdv ct), osl⟩) (c : PySem.W.codeIn K cdv qual = true) :
    FunV K x qual st dV f (PySem.W.fnOf x qual (defArgs st) (defBody st) (defScope st) dV kV doc pm an cdv ct) := ⟨⟨oc, od, kV, doc, pm, an, cdv, ct, osl, rfl, l, c⟩⟩
theorem FunV.ok {N ps : List Str} {k : Nat} {sp : Sp} (F : FunV K x qual st dV f fd) (S : FnScope N ps (defScope st))
    (len : ∀ vs H Q E, sp vs H Q E → vs.length = ps.length)
    (hbody : ∀ (cdv : Value) (A : Around) (outer : List Env) (s : Shared) (H : Hp) (vs : List V) (Q : VK) (E : XK), Room k (A.deeper (envOfC qual (defScope st) s.heap.objs.size f cdv)) → sp vs H Q E →
      ∃ t, PSs (cxOf CX0 P w K mg base N qual (defScope st) f cdv A outer s H E).nox (defBody st) t ∧ t { nx := fun _ H' => Q .non H', rt := Q } (start N vs) H) : FnOk P w K mg base CX0 (k + 1) f fd ps sp := by
  obtain ⟨oc, od, kV, doc, pm, an, cdv, ct, osl, rfl, lk, hcd⟩ := F.ex
  refine fn_of lk hcd S len fun A outer s H vs Q E hr hsp => ?_
  obtain ⟨t, h, q⟩ := hbody cdv A outer s H vs Q E hr hsp
  exact ⟨t, h.nox, q⟩

theorem FunV.binds1 {t : Addr} {o : Obj} {v : Value} {m : Nat} {ps : List Str} {n : Nat} (F : FunV K x qual st (.ref t) f fd) (lt : K.lookup t = some o) (ot : o.data = .seq #[v] m) (hn : n + 1 = ps.length)
    (h : ∀ (kV doc pm : Value) (an : Option Addr) (cdv ct : Value) (us : List Value), us.length = n →
      ∃ k, bindArgs (PySem.W.fnOf x qual (defArgs st) (defBody st) (defScope st) (.ref t) kV doc pm an cdv ct) ⟨us, []⟩ = seqItems? (.ref t) >>= k ∧ k (some #[v]) = pure (ps.zip (us ++ [v]))) : Binds K fd ps [v] := by
  obtain ⟨oc, od, kV, doc, pm, an, cdv, ct, osl, rfl, lk, hcd⟩ := F.ex
  intro s us X hlen
  have l2 : us.length = n := by
    rw [List.length_append, List.length_singleton] at hlen
    omega
  obtain ⟨k, e1, e2⟩ := h kV doc pm an cdv ct us l2
  refine BindsTo.of_looks fun M => ?_
  rw [e1]
  exact looks_items X lt ot (.of_pure e2)
theorem FunV.bindsAll {ps : List Str} (F : FunV K x qual st dV f fd)
    (h : ∀ (kV doc pm : Value) (an : Option Addr) (cdv ct : Value) (us : List Value), us.length = ps.length →
      bindArgs (PySem.W.fnOf x qual (defArgs st) (defBody st) (defScope st) dV kV doc pm an cdv ct) ⟨us, []⟩ = pure (ps.zip us)) : Binds K fd ps [] := by
  obtain ⟨oc, od, kV, doc, pm, an, cdv, ct, osl, rfl, lk, hcd⟩ := F.ex
  exact .all (h kV doc pm an cdv ct)

def spStar (ps : List Str) (sp : Sp) : Sp := fun vs H Q E => ∃ ws rest, vs = ws ++ rest ∧ ws.length = ps.length ∧ rest.length ≤ sizeLine ∧
  ∀ p, H p = Option.none → sp (ws ++ [V.ref p]) (upd H p (.tup rest)) Q E
theorem Fun.star {N ps : List Str} {pv : Str} {k : Nat} {sp : Sp} (F : Fun K x qual st f fd) (S : FnScope N (ps ++ [pv]) (defScope st))
    (hb : ∀ (kV doc pm : Value) (an : Option Addr) (cdv ct : Value) (us rest : List Value), us.length = ps.length →
      bindArgs (PySem.W.fnOf x qual (defArgs st) (defBody st) (defScope st) .none kV doc pm an cdv ct) ⟨us ++ rest, []⟩ = (newTuple rest >>= fun t => pure (ps.zip us ++ [(pv, t)])))
    (hbody : ∀ (cdv : Value) (A : Around) (outer : List Env) (s : Shared) (H : Hp) (vs : List V) (Q : VK) (E : XK), Room k (A.deeper (envOfC qual (defScope st) s.heap.objs.size f cdv)) → sp vs H Q E →
      ∃ t, PSs (cxOf CX0 P w K mg base N qual (defScope st) f cdv A outer s H E).nox (defBody st) t ∧ t { nx := fun _ H' => Q .non H', rt := Q } (start N vs) H) :
    FnR P w K mg base CX0 (k + 1) f (spStar ps sp) := by
  obtain ⟨oc, od, kV, doc, pm, an, cdv, ct, osl, rfl, lk, hcd⟩ := F.ex
  refine StX.fn_star lk hcd S StX.cxUp_none (hb kV doc pm an cdv ct) fun A outer s H vs Q E hr hsp => ?_
  obtain ⟨t, h, q⟩ := hbody cdv A outer s H vs Q E hr hsp
  exact ⟨t, h.nox, q⟩
end

def Mt (P : Program) (w : World) (K : PySem.W.Frag) (mg : Str → Option Value) (base : Heap) (C : Addr) (m : Str) (k : Nat) (ps : List Str) (sp : Sp) : Prop :=
  ∃ f fd, PySem.W.findIn K (.ref C) m = some (some (.ref f)) ∧ PySem.W.isFn K (.ref f) = true ∧ PySem.W.keepIn K (.ref f) = true ∧
    FnOk P w K mg base CX0 k f fd ps sp ∧ Binds K fd ps []

def MtR (P : Program) (w : World) (K : PySem.W.Frag) (mg : Str → Option Value) (base : Heap) (C : Addr) (m : Str) (k : Nat) (ps : List Str) (sp : Sp) : Prop :=
  ∃ f, PySem.W.findIn K (.ref C) m = some (some (.ref f)) ∧ PySem.W.isFn K (.ref f) = true ∧ PySem.W.keepIn K (.ref f) = true ∧
    FnR P w K mg base CX0 k f (spStar ps sp)

def MkFn (P : Program) (w : World) (K : PySem.W.Frag) (mg : Str → Option Value) (base : Heap) (C : Addr) (k : Nat) (ps : List Str) (sp : Sp) : Prop :=
  ∃ f fd, Mk K C f ∧ FnOk P w K mg base CX0 k f fd ps sp ∧ Binds K fd ps [] ∧ ∃ t ds, Vals [V.ref t] ds ∧ Binds K fd ps ds ∧ ∀ H, SqT K H t []
section
variable {X : Cx} {k : Nat} {C : Addr} {ps : List Str} {sp : Sp} {x m : Str} {p pos apos : Pos} {e o : Expr} {es : List Expr} {ta : TE} {t : TA}
theorem Mt.op (D : Mt X.prog X.w X.K X.mg X.base C m k ps sp) : OwnOp X C m k ps sp := by
  obtain ⟨f, fd, h1, h2, _, h4, h5⟩ := D
  exact ⟨f, fd, h1, h2, h4, h5⟩
theorem op_own {op : Operator} {nm : Str} (D : Mt X.prog X.w X.K X.mg X.base C nm k ps sp) (hr : Room k X.A) (hc : PySem.W.selfFirst X.K C = true) (hn : PySem.dunder op.info.2 = nm) : OpR X (binaryOp op) (rBin C sp) := by
  subst hn
  exact op_own2 D.op hr hc
theorem pe_mt {pl : Sem Bool} (D : Mt X.prog X.w X.K X.mg X.base C m k ps sp) (hr : Room k X.A) (c : Cls X.K C) (he : PE X o ta) (ha : PA X (e :: es) t)
    (hst : starEach (e :: es) X.env = (false, eval e X.env) :: starEach es X.env := by rfl) (hpl : (backTo pos (starEach es X.env)).any (·.1) = false := by rfl)
    (ht : eval (.Call (.Attribute o m apos) (e :: es) [] pos) X.env = (do
      let ov ← eval o X.env
      standAt apos.atName
      let (f, first) ← holding [ov] (getMethod ov m pl)
      callWith pos f first (backTo pos (starEach (e :: es) X.env)) (backToKw pos (keywordEach [] X.env))) := by rfl) :
    PE X (.Call (.Attribute o m apos) (e :: es) [] pos) (tMeth C m sp [] E0 ta t) := by
  obtain ⟨f, fd, h1, h2, h3, F, b⟩ := D
  exact pe_meth (ds := []) he c ⟨h1, h2, h3⟩ F hr b .nil pass0 ha hst hpl ht
theorem pe_mt0 {pl : Sem Bool} (D : Mt X.prog X.w X.K X.mg X.base C m k ps sp) (hr : Room k X.A) (c : Cls X.K C) (he : PE X o ta)
    (ht : eval (.Call (.Attribute o m apos) [] [] pos) X.env = (do
      let ov ← eval o X.env
      standAt apos.atName
      let (f, first) ← holding [ov] (getMethod ov m pl)
      callWith pos f first (backTo pos (starEach [] X.env)) (backToKw pos (keywordEach [] X.env))) := by rfl) :
    PE X (.Call (.Attribute o m apos) [] [] pos) (tMeth C m sp [] E0 ta tNil) := by
  obtain ⟨f, fd, h1, h2, h3, F, b⟩ := D
  exact pe_meth0 (ds := []) he c ⟨h1, h2, h3⟩ F hr b .nil pass0 ht
theorem pe_mk (D : MkFn X.prog X.w X.K X.mg X.base C k ps sp) (hr : Room (k + 1) X.A) (hg : Gl X x) (hm : X.mg x = some (.ref C)) (ha : PA X (e :: es) t)
    (hdb : (x == ("__debug__" : Str)) = false := by decide) (he : starEach (e :: es) X.env = (false, eval e X.env) :: starEach es X.env := by rfl) (hpl : (backTo pos (starEach es X.env)).any (·.1) = false := by rfl) :
    PE X (.Call (.Name x p) (e :: es) [] pos) (tMake C sp [] E0 t) := by
  obtain ⟨f, fd, M, F, b, _⟩ := D
  exact pe_make (ds := []) M F hr hg hm b .nil pass0 ha hdb he hpl
def tMk0 (K : PySem.W.Frag) (C : Addr) (sp : Sp) : TE := fun σ H Q => ∀ t, (∀ H, SqT K H t []) → tMake C sp [V.ref t] E0 tNil σ H Q
theorem pe_mk0 (D : MkFn X.prog X.w X.K X.mg X.base C k ps sp) (hr : Room (k + 1) X.A) (hg : Gl X x) (hm : X.mg x = some (.ref C))
    (hdb : (x == ("__debug__" : Str)) = false := by decide) : PE X (.Call (.Name x p) [] [] pos) (tMk0 X.K C sp) := by
  obtain ⟨f, fd, M, F, _, t, ds, hv, b, hT⟩ := D
  refine ⟨fun pins s σ H Q I h => ?_⟩
  exact (pe_make0 M F hr hg hm b hv pass0 hdb).run pins s σ H Q I (h t hT)
end

def Good (U : List Int) (es : List (Int × Str)) : Prop := (keys es).Nodup ∧ (∀ k ∈ keys es, k ∈ U) ∧ U.length ≤ 1000
def FD (U : List Int) (H : Hp) (d : Addr) (es : List (Int × Str)) : Prop := H d = some (.dK (ents es)) ∧ Good U es
def FS (C : Addr) (U : List Int) (H : Hp) (x : Addr) (es : List (Int × Str)) : Prop := ∃ dx d, H x = some (.ins C dx [("_forms", .ref d)]) ∧ FD U H d es
theorem FD.same {U : List Int} {H H' : Hp} {d : Addr} {es : List (Int × Str)} (h : FD U H d es) (s : Same H H') : FD U H' d es := ⟨s _ _ h.1, h.2⟩
theorem FS.same {C : Addr} {U : List Int} {H H' : Hp} {d : Addr} {es : List (Int × Str)} (h : FS C U H d es) (s : Same H H') : FS C U H' d es := by
  obtain ⟨dx, d, h1, h2⟩ := h
  exact ⟨dx, d, s _ _ h1, h2.same s⟩
theorem nodup_sub : ∀ {l U : List Int}, l.Nodup → (∀ k ∈ l, k ∈ U) → l.length ≤ U.length
  | [], U, _, _ => Nat.zero_le _
  | a :: r, U, nd, h => by
    have ha : a ∈ U := h a List.mem_cons_self
    have := nodup_sub (l := r) (U := U.erase a) (List.nodup_cons.mp nd).2 fun k hk =>
      (List.mem_erase_of_ne (fun e : k = a => (List.nodup_cons.mp nd).1 (by rw [← e]; exact hk))).mpr (h k (List.mem_cons_of_mem _ hk))
    rw [List.length_erase_of_mem ha] at this
    have p := List.length_pos_of_mem ha
    rw [List.length_cons]
    omega
theorem Good.len {U : List Int} {es : List (Int × Str)} (g : Good U es) : es.length ≤ 1000 := by
  have := nodup_sub g.1 g.2.1
  unfold keys at this
  rw [List.length_map] at this
  exact Nat.le_trans this g.2.2
def has (es : List (Int × Str)) (k : Int) : Bool := (look es k).isSome
theorem has_iff {es : List (Int × Str)} {k : Int} : has es k = true ↔ k ∈ keys es := look_some
def united (es fs : List (Int × Str)) : List (Int × Str) := es ++ fs.filter fun p => !has es p.1
def common (es fs : List (Int × Str)) : List (Int × Str) := es.filter fun p => has fs p.1
def rest (es fs : List (Int × Str)) : List (Int × Str) := es.filter fun p => !has fs p.1
theorem look_app (es gs : List (Int × Str)) (k : Int) : look (es ++ gs) k = (look es k).or (look gs k) := by
  induction es with
  | nil => rfl
  | cons p r ih =>
    rw [List.cons_append, look_cons, look_cons]
    by_cases e : p.1 = k
    · rw [if_pos e, if_pos e]; rfl
    · rw [if_neg e, if_neg e, ih]
theorem look_filter (c : Int → Bool) (es : List (Int × Str)) (k : Int) : look (es.filter fun p => c p.1) k = if c k = true then look es k else none := by
  induction es with
  | nil => rw [List.filter_nil, look_nil, ite_self]
  | cons p r ih =>
    rw [List.filter_cons]
    by_cases e : p.1 = k
    · rw [e]
      by_cases q : c k = true
      · rw [if_pos q, if_pos q, look_cons, look_cons, if_pos e, if_pos e]
      · rw [if_neg q, if_neg q, ih, if_neg q]
    · by_cases q : c p.1 = true
      · rw [if_pos q, look_cons, if_neg e, ih, look_cons, if_neg e]
      · rw [if_neg q, ih, look_cons, if_neg e]
theorem look_united (es fs : List (Int × Str)) (k : Int) : look (united es fs) k = (look es k).or (look fs k) := by
  unfold united
  rw [look_app, look_filter fun k => !has es k]
  unfold has
  cases look es k <;> rfl
theorem look_common (es fs : List (Int × Str)) (k : Int) : look (common es fs) k = if (look fs k).isSome = true then look es k else none :=
  look_filter (fun k => has fs k) es k
theorem look_rest (es fs : List (Int × Str)) (k : Int) : look (rest es fs) k = if (look fs k).isSome = true then none else look es k := by
  refine (look_filter (fun k => !has fs k) es k).trans ?_
  unfold has
  cases look fs k <;> rfl
theorem keys_filter_sub (c : Int × Str → Bool) (es : List (Int × Str)) : (keys (es.filter c)).Sublist (keys es) := List.Sublist.map _ List.filter_sublist
theorem Good.filter {U : List Int} {es : List (Int × Str)} (g : Good U es) (c : Int × Str → Bool) : Good U (es.filter c) :=
  ⟨g.1.sublist (keys_filter_sub c es), fun k hk => g.2.1 k ((keys_filter_sub c es).subset hk), g.2.2⟩
theorem Good.common {U : List Int} {es : List (Int × Str)} (g : Good U es) (fs : List (Int × Str)) : Good U (common es fs) := g.filter _
theorem Good.rest {U : List Int} {es : List (Int × Str)} (g : Good U es) (fs : List (Int × Str)) : Good U (rest es fs) := g.filter _
theorem mem_keys_filter {c : Int → Bool} {es : List (Int × Str)} {k : Int} : k ∈ keys (es.filter fun p => c p.1) ↔ k ∈ keys es ∧ c k = true := by
  unfold keys
  simp only [List.mem_map, List.mem_filter]
  constructor
  · rintro ⟨p, ⟨h1, h2⟩, rfl⟩; exact ⟨⟨p, h1, rfl⟩, h2⟩
  · rintro ⟨⟨p, h1, rfl⟩, h2⟩; exact ⟨p, ⟨h1, h2⟩, rfl⟩
theorem keys_app (es fs : List (Int × Str)) : keys (es ++ fs) = keys es ++ keys fs := List.map_append
theorem Good.united {U : List Int} {es fs : List (Int × Str)} (g : Good U es) (h : Good U fs) : Good U (united es fs) := by
  refine ⟨?_, ?_, g.2.2⟩
  · unfold My.united
    rw [keys_app]
    refine List.nodup_append.mpr ⟨g.1, (h.filter _).1, fun a ha b hb e => ?_⟩
    subst e
    have := (mem_keys_filter (c := fun k => !has es k)).mp hb
    have q := this.2
    rw [has_iff.mpr ha] at q
    cases q
  · intro k hk
    unfold My.united at hk
    rw [keys_app] at hk
    rcases List.mem_append.mp hk with hk | hk
    · exact g.2.1 k hk
    · exact (h.filter _).2.1 k hk

def spRaw (f : List (Int × Str) → List (Int × Str) → List (Int × Str)) : Sp := fun vs H Q _ => ∃ U a b es fs, vs = [.ref a, .ref b] ∧ FD U H a es ∧ FD U H b fs ∧
  ∀ d H', Same H H' → FD U H' d (f es fs) → Q (.ref d) H'
def spSetOf (C : Addr) : Sp := fun vs H Q _ => ∃ U d es, vs = [.ref d] ∧ FD U H d es ∧ ∀ x H', Same H H' → FS C U H' x es → Q (.ref x) H'
def spOp (C : Addr) (f : List (Int × Str) → List (Int × Str) → List (Int × Str)) : Sp := fun vs H Q _ => ∃ U a b es fs, vs = [.ref a, .ref b] ∧ FS C U H a es ∧ FS C U H b fs ∧
  ∀ d H', Same H H' → FS C U H' d (f es fs) → Q (.ref d) H'
def spLen (C : Addr) : Sp := fun vs H Q _ => ∃ U a es, vs = [.ref a] ∧ FS C U H a es ∧ Q (.int (es.length : Nat)) H
def alike (es fs : List (Int × Str)) : Prop := es.length = fs.length ∧ ∀ p ∈ es, look fs p.1 = some p.2
def spEqT (C : Addr) : Sp := fun vs H Q _ => ∃ U a b es fs, vs = [.ref a, .ref b] ∧ FS C U H a es ∧ FS C U H b fs ∧ alike es fs ∧ Q (.bl true) H
def smaller (es fs : List (Int × Str)) : List (Int × Str) := if es.length < fs.length then common es fs else common fs es
def apart (es fs : List (Int × Str)) : List (Int × Str) := united (rest es fs) (rest fs es)
theorem look_ents {es : List (Int × Str)} {p : Int × Str} (nd : (keys es).Nodup) (h : p ∈ es) : look es p.1 = some p.2 := by
  induction es with
  | nil => cases h
  | cons q r ih =>
    rw [look_cons]
    have nd2 : q.1 ∉ keys r ∧ (keys r).Nodup := List.nodup_cons.mp nd
    rcases List.mem_cons.mp h with rfl | h
    · rw [if_pos rfl]
    · rw [if_neg (fun e : q.1 = p.1 => nd2.1 (by rw [e]; exact List.mem_map_of_mem h)), ih nd2.2 h]

inductive ElAll (K : PySem.W.Frag) (H : Hp) : List V → List (Int × Str) → Prop
  | nil : ElAll K H [] []
  | cons {t : Addr} {k : Int} {x : Str} {vs : List V} {es : List (Int × Str)} (h : SqT K H t [.int k, .str x]) (hk : 0 ≤ k ∧ k ≤ 999999) (hx : nameOk x = true) (r : ElAll K H vs es) : ElAll K H (.ref t :: vs) ((k, x) :: es)
theorem sqT_same {K : PySem.W.Frag} {H H' : Hp} {a : Addr} {xs : List V} (e : Same H H') (h : SqT K H a xs) : SqT K H' a xs := by
  rcases h with h | h
  · rcases h with h | ⟨o, h⟩
    · exact .inl (.inl (e _ _ h))
    · exact .inl (.inr ⟨o, e _ _ h⟩)
  · exact .inr h
theorem ElAll.same {K : PySem.W.Frag} {H H' : Hp} (s : Same H H') : ∀ {vs : List V} {es : List (Int × Str)}, ElAll K H vs es → ElAll K H' vs es
  | _, _, .nil => .nil
  | _, _, .cons h hk hx r => .cons (sqT_same s h) hk hx (ElAll.same s r)
theorem ElAll.len {K : PySem.W.Frag} {H : Hp} : ∀ {vs : List V} {es : List (Int × Str)}, ElAll K H vs es → vs.length = es.length
  | _, _, .nil => rfl
  | _, _, .cons _ _ _ r => by rw [List.length_cons, List.length_cons, r.len]
theorem ElAll.at {K : PySem.W.Frag} {H : Hp} : ∀ {vs : List V} {es : List (Int × Str)} {i : Nat} {v : V}, ElAll K H vs es → vs[i]? = some v →
    ∃ t k x, v = .ref t ∧ es[i]? = some (k, x) ∧ SqT K H t [.int k, .str x] ∧ (0 ≤ k ∧ k ≤ 999999) ∧ nameOk x = true
  | _, _, i, v, .nil, h => by simp at h
  | _, _, 0, v, .cons h1 hk hx r, h => by
    cases Option.some.inj h
    exact ⟨_, _, _, rfl, rfl, h1, hk, hx⟩
  | _, _, i + 1, v, .cons h1 hk hx r, h => r.at h
def firsts (l : List (Int × Str)) : List (Int × Str) := l.foldl (fun acc p => if has acc p.1 = true then acc else acc ++ [p]) []
end My
set_option Elab.async false
set_option maxRecDepth 100000
set_option maxHeartbeats 4000000
namespace My
open PySem PySem.Spec PyProof.Rows L2
section
variable {X : Cx} {k : Nat} {C : Addr} {ps : List Str} {sp : Sp} {x m : Str} {p pos apos : Pos} {e o : Expr} {es : List Expr} {ta : TE} {t : TA}
theorem pe_mtR {pl : Sem Bool} (D : MtR X.prog X.w X.K X.mg X.base C m k ps sp) (hr : Room k X.A) (c : Cls X.K C) (he : PE X o ta) (ha : PA X (e :: es) t)
    (hst : starEach (e :: es) X.env = (false, eval e X.env) :: starEach es X.env := by rfl) (hpl : (backTo pos (starEach es X.env)).any (·.1) = false := by rfl)
    (ht : eval (.Call (.Attribute o m apos) (e :: es) [] pos) X.env = (do
      let ov ← eval o X.env
      standAt apos.atName
      let (f, first) ← holding [ov] (getMethod ov m pl)
      callWith pos f first (backTo pos (starEach (e :: es) X.env)) (backToKw pos (keywordEach [] X.env))) := by rfl) :
    PE X (.Call (.Attribute o m apos) (e :: es) [] pos) (tMethR C m (spStar ps sp) E0 ta t) := by
  obtain ⟨f, h1, h2, h3, F⟩ := D
  exact pe_methR he c ⟨h1, h2, h3⟩ F hr pass0 ha hst hpl ht
end

def spFirst (K : PySem.W.Frag) : Sp := fun vs H Q _ => ∃ (a : Addr) (xs : List V) (l : List (Int × Str)), vs = [.ref a] ∧ (H a = some (.lst xs) ∨ SqT K H a xs) ∧ ElAll K H xs l ∧ l.length ≤ 1000 ∧
  ∀ d H', Same H H' → H' d = some (.dK (ents (firsts l))) → Q (.ref d) H'
def spInit (K : PySem.W.Frag) (C : Addr) : Sp := fun vs H Q _ => ∃ (x dx a : Addr) (xs : List V) (l : List (Int × Str)), vs = [.ref x, .ref a] ∧ H x = some (.ins C dx []) ∧
  (H a = some (.lst xs) ∨ SqT K H a xs) ∧ ElAll K H xs l ∧ l.length ≤ 1000 ∧
  ∀ d H', Same (del x H) (del x H') → H' x = some (.ins C dx [("_forms", .ref d)]) → H' d = some (.dK (ents (firsts l))) → Q .non H'
def joinAll (es : List (Int × Str)) (ls : List (List (Int × Str))) : List (Int × Str) := ls.foldl united es
inductive FSs (C : Addr) (U : List Int) (H : Hp) : List V → List (List (Int × Str)) → Prop
  | nil : FSs C U H [] []
  | cons {x : Addr} {es : List (Int × Str)} {vs : List V} {ls : List (List (Int × Str))} (h : FS C U H x es) (r : FSs C U H vs ls) : FSs C U H (.ref x :: vs) (es :: ls)
theorem FSs.same {C : Addr} {U : List Int} {H H' : Hp} (s : Same H H') : ∀ {vs : List V} {ls : List (List (Int × Str))}, FSs C U H vs ls → FSs C U H' vs ls
  | _, _, .nil => .nil
  | _, _, .cons h r => .cons (h.same s) (FSs.same s r)
theorem FSs.len {C : Addr} {U : List Int} {H : Hp} : ∀ {vs : List V} {ls : List (List (Int × Str))}, FSs C U H vs ls → vs.length = ls.length
  | _, _, .nil => rfl
  | _, _, .cons _ r => by rw [List.length_cons, List.length_cons, r.len]
theorem FSs.at {C : Addr} {U : List Int} {H : Hp} : ∀ {vs : List V} {ls : List (List (Int × Str))} {i : Nat} {v : V}, FSs C U H vs ls → vs[i]? = some v → ∃ x es, v = .ref x ∧ ls[i]? = some es ∧ FS C U H x es
  | _, _, i, v, .nil, h => by simp at h
  | _, _, 0, v, .cons h1 r, h => by
    cases Option.some.inj h
    exact ⟨_, _, rfl, rfl, h1⟩
  | _, _, i + 1, v, .cons h1 r, h => r.at h
def spJoin (K : PySem.W.Frag) (C : Addr) : Sp := fun vs H Q _ => ∃ U a p es xs ls, vs = [.ref a, .ref p] ∧ FS C U H a es ∧ SqT K H p xs ∧ FSs C U H xs ls ∧
  ∀ d H', Same H H' → FS C U H' d (joinAll es ls) → Q (.ref d) H'
def likeKeys (es fs : List (Int × Str)) : Prop := ∀ k, has es k = has fs k
def spEqK (C : Addr) : Sp := fun vs H Q _ => ∃ U a b es fs, vs = [.ref a, .ref b] ∧ FS C U H a es ∧ FS C U H b fs ∧ likeKeys es fs ∧ ∀ H', Same H H' → Q (.bl true) H'
def spAll3 (C : Addr) : Sp := fun vs H Q _ => ∃ U a b c es fs gs, vs = [.ref a, .ref b, .ref c] ∧ FS C U H a es ∧ FS C U H b fs ∧ FS C U H c gs ∧ ∀ H', Same H H' → Q (.bl true) H'
def spAll2 (C : Addr) : Sp := fun vs H Q _ => ∃ U a b es fs, vs = [.ref a, .ref b] ∧ FS C U H a es ∧ FS C U H b fs ∧ ∀ H', Same H H' → Q (.bl true) H'
def below (m : Nat) : List Int := (List.range m).map fun i : Nat => (i : Int)
def spSet (C : Addr) : Sp := fun vs H Q _ => ∃ (a : Addr) (n m : Nat) (x : Str), vs = [.ref a, .int m, .str x] ∧ Bag H a n ∧ n < 1000 ∧ 1 ≤ m ∧ m ≤ 20 ∧ (x = "p" ∨ x = "q" ∨ x = "r") ∧
  ∀ z es H', Same (del a H) (del a H') → Bag H' a (n + 100) → FS C (below m) H' z es → Q (.ref z) H'
theorem FD.app {U : List Int} {es fs : List (Int × Str)} (g : Good U es) (h : Good U fs) (i : Nat) : (ents (es ++ (fs.take i).filter fun p => !has es p.1)).length < sizeLine := by
  rw [ents_len, List.length_append]
  have h1 := g.len
  have h2 := h.len
  have h3 : ((fs.take i).filter fun p => !has es p.1).length ≤ fs.length := Nat.le_trans (List.length_filter_le _ _) (by rw [List.length_take]; omega)
  exact Nat.lt_of_le_of_lt (Nat.le_trans (Nat.add_le_add h1 (Nat.le_trans h3 h2)) (by decide : 1000 + 1000 ≤ 2000)) (by decide)
theorem take_one {α : Type} {l : List α} {i : Nat} {x : α} (h : l[i]? = some x) : l.take (i + 1) = l.take i ++ [x] := by
  rw [List.take_add_one, h]
  rfl
theorem look_part {fs : List (Int × Str)} {i : Nat} {n : Int} {x : Str} (nd : (keys fs).Nodup) (h : fs[i]? = some (n, x)) : look (fs.take i) n = none := by
  refine look_none.mpr fun z => ?_
  have e := List.take_append_drop i fs
  have q : keys fs = keys (fs.take i) ++ keys (fs.drop i) := by rw [← keys_app, e]
  rw [q] at nd
  have := (List.nodup_append.mp nd).2.2 n z n ?_
  · exact this rfl
  · obtain ⟨hi, e2⟩ := List.getElem?_eq_some_iff.mp h
    have : (n, x) ∈ fs.drop i := by
      rw [List.mem_iff_getElem?]
      exact ⟨0, by rw [List.getElem?_drop]; exact h⟩
    exact List.mem_map_of_mem this
theorem united_old {es fs : List (Int × Str)} {i : Nat} {n : Int} {x : Str} {v : V} (nd : (keys fs).Nodup) (h : fs[i]? = some (n, x))
    (e : valV (ents (es ++ (fs.take i).filter fun q => !has es q.1)) (.inl n) = some v) :
    (es ++ (fs.take (i + 1)).filter fun q => !has es q.1) = es ++ (fs.take i).filter fun q => !has es q.1 := by
  rw [take_one h, List.filter_append]
  rw [valV_ents, look_app, look_filter fun k => !has es k, look_part nd h, ite_self, Option.or_none] at e
  have : has es n = true := by
    unfold has
    cases q : look es n with
    | none => rw [q] at e; cases e
    | some y => rfl
  rw [List.filter_cons, this]
  simp
theorem united_new {es fs : List (Int × Str)} {i : Nat} {n : Int} {x : Str} (nd : (keys fs).Nodup) (h : fs[i]? = some (n, x))
    (e : valV (ents (es ++ (fs.take i).filter fun q => !has es q.1)) (.inl n) = none) :
    putK (ents (es ++ (fs.take i).filter fun q => !has es q.1)) (.inl n) (.str x) = ents (es ++ (fs.take (i + 1)).filter fun q => !has es q.1) := by
  have e0 := e
  rw [valV_ents, look_app, look_filter fun k => !has es k, look_part nd h, ite_self, Option.or_none] at e
  have h0 : look es n = none := by
    cases q : look es n with
    | none => rfl
    | some y => rw [q] at e; cases e
  have : has es n = false := by unfold has; rw [h0]; rfl
  rw [take_one h, List.filter_append, List.filter_cons, this, ← List.append_assoc]
  refine put_new ?_
  refine look_none.mp ?_
  rw [valV_ents] at e0
  cases q : look (es ++ (fs.take i).filter fun q => !has es q.1) n with
  | none => rfl
  | some y => rw [q] at e0; cases e0

def iOr (w1 w2 : TI) : TI := fun σ H R => w1 σ H R ∨ w2 σ H R
theorem pi_or {X : Cx} {tg e : Expr} {w1 w2 : TI} (h1 : PI X tg e w1) (h2 : PI X tg e w2) : PI X tg e (iOr w1 w2) := by
  refine ⟨fun pins s σ H R I h => ?_⟩
  rcases h with h | h
  · exact h1.run pins s σ H R I h
  · exact h2.run pins s σ H R I h
theorem for_either {K : PySem.W.Frag} {a : Addr} {xs : List V} {g : TG} {tb : TS} {D : Ends} {σ : L2.St} {H : Hp} {tl : TE} {L : Hp → Prop} (hv : ∀ Q : VK, Q (.ref a) H → tl σ H Q)
    (hL : (∀ H, L H → SqL K H a xs) ∨ (∀ H, L H → SqT K H a xs)) (Pv : Nat → L2.St → Hp → Prop) (h0 : Pv 0 σ H) (hl : ∀ i σ H, i ≤ xs.length → Pv i σ H → L H)
    (hs : ∀ i x σ H, xs[i]? = some x → Pv i σ H → g x σ H fun σ2 H2 => tb { D with nx := Pv (i + 1), ct := Pv (i + 1), bk := D.nx } σ2 H2) (hd : ∀ σ H, Pv xs.length σ H → D.nx σ H) :
    tFor (iOr (iList K tl) (iTup K tl)) g tb D σ H := by
  rcases hL with h | h
  · exact .inl (hv _ ⟨a, rfl, ⟨xs, h _ (hl 0 _ _ (Nat.zero_le _) h0)⟩, for_list Pv h0 (fun i σ H hi p => h _ (hl i σ H hi p)) hs hd⟩)
  · exact .inr (hv _ ⟨a, rfl, ⟨xs, h _ (hl 0 _ _ (Nat.zero_le _) h0)⟩, for_tup Pv h0 (fun i σ H hi p => h _ (hl i σ H hi p)) hs hd⟩)
theorem kit_list (K : PySem.W.Frag) : PySem.W.kitAny K (.type "list") [.type "list", .type "tuple"] = some true :=
  kitAny_cons (b := true) (kit_ty (by decide +kernel)) (fun z => (nomatch z)) (fun _ => rfl)
theorem kit_tuple (K : PySem.W.Frag) : PySem.W.kitAny K (.type "tuple") [.type "list", .type "tuple"] = some true :=
  kitAny_cons (b := false) (kit_ty (by decide +kernel)) (fun _ => kitAny_cons (b := true) (kit_ty (by decide +kernel)) (fun z => (nomatch z)) (fun _ => rfl)) (fun z => (nomatch z))
theorem lt_ty {K : PySem.W.Frag} {H : Hp} {a : Addr} {xs : List V} (h : H a = some (.lst xs) ∨ SqT K H a xs) :
    ∃ t, TyX K H (.ref a) t ∧ PySem.W.kitAny K t [.type "list", .type "tuple"] = some true := by
  rcases h with h | (h | ⟨o, h⟩) | ⟨o, its, n, h1, h2, _⟩
  · exact ⟨_, .base (.lst h), kit_list K⟩
  · exact ⟨_, .base (.tup h), kit_tuple K⟩
  · exact ⟨_, .fTuple h, kit_tuple K⟩
  · exact ⟨_, .kTuple h1 h2, kit_tuple K⟩
theorem sqT_ext {K : PySem.W.Frag} {H H' : Hp} {a p : Addr} {xs : List V} (hp : H p = none) (e : Ext p H H') (h : SqT K H a xs) : SqT K H' a xs := by
  rcases h with (h | ⟨o, h⟩) | h
  · exact .inl (.inl (e _ _ (ne_of_none h hp) h))
  · exact .inl (.inr ⟨o, e _ _ (ne_of_none h hp) h⟩)
  · exact .inr h
theorem firsts_app (l : List (Int × Str)) (q : Int × Str) : firsts (l ++ [q]) = if has (firsts l) q.1 = true then firsts l else firsts l ++ [q] := by
  unfold firsts
  rw [List.foldl_append]
  rfl
theorem firsts_len (l : List (Int × Str)) : ∀ i, (firsts (l.take i)).length ≤ i
  | 0 => by rw [List.take_zero]; exact Nat.le_refl _
  | i + 1 => by
    have ih := firsts_len l i
    rw [List.take_add_one]
    cases h : l[i]? with
    | none => rw [Option.toList_none, List.append_nil]; omega
    | some q =>
      show (firsts (l.take i ++ [q])).length ≤ i + 1
      rw [firsts_app]
      split
      · omega
      · rw [List.length_append, List.length_singleton]; omega
theorem name_sm {x : Str} (h : nameOk x = true) : sm (.str x) := by
  unfold nameOk at h
  rw [Bool.and_eq_true, Bool.and_eq_true] at h
  have h1 := of_decide_eq_true h.1.1
  refine ⟨?_, .inl ?_⟩
  · show x.length ≤ 100000
    omega
  · show x.cps.all (· < 0x110000) = true
    rw [Array.all_eq_true']
    intro c hc
    have := List.all_eq_true.mp h.2 c (by simpa using hc)
    have m := of_decide_eq_true this
    have : ∀ c ∈ abc.cps.toList, c < 0x110000 := by decide
    exact decide_eq_true (this c m)
theorem el_sm {k : Int} {x : Str} (hk : 0 ≤ k ∧ k ≤ 999999) (h : nameOk x = true) : sm (.tuple [.int k, .str x]) := by
  have s := name_sm h
  unfold nameOk at h
  rw [Bool.and_eq_true, Bool.and_eq_true] at h
  have h1 := of_decide_eq_true h.1.1
  refine ⟨?_, .inl ?_⟩
  · show PyData.weightAll [.int k, .str x] ≤ 100000
    have e : x.cps.size = x.length := rfl
    have b : (if (k == 0) = true then 0 else k.natAbs.log2 + 1) ≤ 21 := by
      split
      · omega
      · rename_i z
        have nz : k.natAbs ≠ 0 := by
          intro q
          apply z
          rw [Int.natAbs_eq_zero.mp q]
          rfl
        have := (Nat.log2_lt nz (k := 20)).mpr (by omega)
        omega
    simp only [PyData.weightAll, PyData.weight]
    omega
  · rcases s.2 with q | ⟨_, q⟩
    · show (PyData.canLay0 (.int k) && (PyData.canLay0 (.str x) && true)) = true
      rw [q]; rfl
    · cases q
theorem el_ok {k : Int} {x : Str} (hk : 0 ≤ k ∧ k ≤ 999999) (h : nameOk x = true) : mEl (.tuple [.int k, .str x]) = true := by
  show ((decide (0 ≤ k) && decide (k ≤ 999999)) && nameOk x) = true
  rw [h, decide_eq_true hk.1, decide_eq_true hk.2]
  rfl
theorem el_dx {K : PySem.W.Frag} {H : Hp} {t : Addr} {k : Int} {x : Str} (h : SqT K H t [.int k, .str x]) : Dx K H (.ref t) (.tuple [.int k, .str x]) :=
  .of (.tup h (.cons (.int k) (.cons (.str x) .nil)))
end My
set_option Elab.async false
set_option maxRecDepth 100000
set_option maxHeartbeats 4000000
set_option linter.unusedVariables false
namespace My
open PySem PySem.Spec PyProof.Rows L2

def Den (C : Addr) (U : List Int) (σ : L2.St) (F : Hp → Prop) (t : TE) (es : List (Int × Str)) : Prop :=
  ∀ (H : Hp) (Q : VK), F H → (∀ y H', Same H H' → FS C U H' y es → Q (.ref y) H') → t σ H Q
def Stable (F : Hp → Prop) : Prop := ∀ H H', Same H H' → F H → F H'
section
variable {C : Addr} {U : List Int} {σ : L2.St} {F : Hp → Prop} {ta tb tc : TE} {es fs gs : List (Int × Str)} {f : List (Int × Str) → List (Int × Str) → List (Int × Str)} {K : PySem.W.Frag}
theorem den_var {i : Nat} {a : Addr} (e : σ[i]? = some (some (.ref a))) (h : ∀ H, F H → FS C U H a es) : Den C U σ F (tVar i) es :=
  fun H Q hf k => ⟨_, e, k a H (Same.refl H) (h H hf)⟩
theorem den_op (hF : Stable F) (ha : Den C U σ F ta es) (hb : Den C U σ F tb fs) : Den C U σ F (tOp (rBin C (spOp C f)) ta tb) (f es fs) := by
  intro H Q hf k
  refine ha H _ hf fun x H1 s1 hx => hb H1 _ (hF _ _ s1 hf) fun y H2 s2 hy => ?_
  have hx2 := hx.same s2
  have hy2 := hy
  obtain ⟨dx, d, e1, _⟩ := hx2
  obtain ⟨dy, d', e2, _⟩ := hy2
  exact ⟨x, y, _, _, _, _, rfl, rfl, e1, e2, U, x, y, es, fs, rfl, hx.same s2, hy, fun d H3 s3 hd => k d H3 ((s1.trans s2).trans s3) hd⟩
theorem den_meth {m : Str} (hm : ∀ v : V, List.lookup m [(("_forms" : Str), v)] = none) (hF : Stable F) (ha : Den C U σ F ta es) (hb : Den C U σ F tb fs) :
    Den C U σ F (tMeth C m (spOp C f) [] E0 ta (tCons tb tNil)) (f es fs) := by
  intro H Q hf k
  refine ha H _ hf fun x H1 s1 hx => ?_
  have hx1 := hx
  obtain ⟨dx, d, e1, _⟩ := hx1
  refine ⟨x, _, _, rfl, e1, hm _, hb H1 _ (hF _ _ s1 hf) fun y H2 s2 hy => ?_⟩
  exact ⟨U, x, y, es, fs, rfl, hx.same s2, hy, fun d H3 s3 hd => k d H3 ((s1.trans s2).trans s3) hd⟩
theorem den_join2 {m : Str} (hm : ∀ v : V, List.lookup m [(("_forms" : Str), v)] = none) (hF : Stable F) (ha : Den C U σ F ta es) (hb : Den C U σ F tb fs) (hc : Den C U σ F tc gs) :
    Den C U σ F (tMethR C m (spStar ["self"] (spJoin K C)) E0 ta (tCons tb (tCons tc tNil))) (united (united es fs) gs) := by
  intro H Q hf k
  refine ha H _ hf fun x H1 s1 hx => ?_
  have hx1 := hx
  obtain ⟨dx, d, e1, _⟩ := hx1
  refine ⟨x, _, _, rfl, e1, hm _, hb H1 _ (hF _ _ s1 hf) fun y H2 s2 hy => hc H2 _ (hF _ _ s2 (hF _ _ s1 hf)) fun z H3 s3 hz => ?_⟩
  refine ⟨[.ref x], [.ref y, .ref z], rfl, rfl, size_ok (by simp), fun p hp => ?_⟩
  have s4 := same_new hp (o := .tup [.ref y, .ref z])
  refine ⟨U, x, p, es, [.ref y, .ref z], [fs, gs], rfl, ((hx.same s2).same s3).same s4, .inl (.inl upd_same), .cons ((hy.same s3).same s4) (.cons (hz.same s4) .nil), fun d H5 s5 hd => ?_⟩
  exact k d H5 ((((s1.trans s2).trans s3).trans s4).trans s5) hd
theorem good_nil (hU : U.length ≤ 1000) : Good U [] := ⟨List.nodup_nil, fun _ h => (nomatch h), hU⟩
theorem den_mk0 (hU : U.length ≤ 1000) : Den C U σ F (tMk0 K C (spInit K C)) [] := by
  intro H Q hf k t ht x dx hx hdx hne
  refine ⟨x, dx, t, [], [], rfl, upd_same, .inr (ht _), .nil, by decide, fun d H' s hx' hd => ⟨rfl, k x H' ?_ ⟨dx, d, hx', hd, good_nil hU⟩⟩⟩
  intro b o e
  have n1 := ne_of_none e hx
  have n2 := ne_of_none e hdx
  have q := s b o ((del_at n1).trans ((upd_ne n1).trans ((upd_ne n2).trans e)))
  rw [del_at n1] at q
  exact q

theorem den_if {c1 c2 t1 t2 : TE} {es1 es2 : List (Int × Str)} {g1 g2 : List (Int × Str)} (hF : Stable F) (h1 : Den C U σ F c1 es1) (h2 : Den C U σ F c2 es2) (ht : Den C U σ F t1 g1) (he : Den C U σ F t2 g2) :
    Den C U σ F (tIf (tB (tOp (rI0 fun i j => V.bl (decide (i < j))) (tCB (rLen1 C (spLen C)) (tCons c1 tNil)) (tCB (rLen1 C (spLen C)) (tCons c2 tNil)))) t1 t2)
      (if es1.length < es2.length then g1 else g2) := by
  intro H Q hf k
  refine h1 H _ hf fun x H1 s1 hx => ?_
  have hx1 := hx
  obtain ⟨dx, d, e1, hd⟩ := hx1
  have l1 := hd.2.len
  refine ⟨x, _, _, rfl, e1, U, x, es1, rfl, hx, _, rfl, by omega, by omega, ?_⟩
  refine h2 H1 _ (hF _ _ s1 hf) fun y H2 s2 hy => ?_
  have hy1 := hy
  obtain ⟨dy, d2, e2, hd2⟩ := hy1
  have l2 := hd2.2.len
  refine ⟨y, _, _, rfl, e2, U, y, es2, rfl, hy, _, rfl, by omega, by omega, ?_⟩
  refine ⟨_, _, rfl, rfl, _, rfl, ?_⟩
  have hf2 := hF _ _ s2 (hF _ _ s1 hf)
  by_cases c : es1.length < es2.length
  · have c2 : ((es1.length : Nat) : Int) < ((es2.length : Nat) : Int) := by omega
    rw [if_pos c] at k
    rw [decide_eq_true c2]
    exact ht H2 _ hf2 fun z H3 s3 hz => k z H3 ((s1.trans s2).trans s3) hz
  · have c2 : ¬ ((es1.length : Nat) : Int) < ((es2.length : Nat) : Int) := by omega
    rw [if_neg c] at k
    rw [decide_eq_false c2]
    exact he H2 _ hf2 fun z H3 s3 hz => k z H3 ((s1.trans s2).trans s3) hz
end

abbrev Rl := List (Int × Str) → List (Int × Str) → Prop
def Pairs (C : Addr) (U : List Int) (R : Rl) (H : Hp) (ps : List V) : Prop := ∀ v ∈ ps, ∃ t x y es fs, v = V.ref t ∧ H t = some (.tup [.ref x, .ref y]) ∧ FS C U H x es ∧ FS C U H y fs ∧ R es fs
theorem Pairs.same {C : Addr} {U : List Int} {R : Rl} {H H' : Hp} {ps : List V} (h : Pairs C U R H ps) (s : Same H H') : Pairs C U R H' ps := fun v hv => by
  obtain ⟨t, x, y, es, fs, h1, h2, h3, h4, h5⟩ := h v hv
  exact ⟨t, x, y, es, fs, h1, s _ _ h2, h3.same s, h4.same s, h5⟩
theorem FS.upd {C : Addr} {U : List Int} {H : Hp} {D x : Addr} {ls : List V} {o : HO} {es : List (Int × Str)} (h : FS C U H x es) (e : H D = some (.lst ls)) : FS C U (upd H D o) x es := by
  obtain ⟨dx, d, h1, h2, h3⟩ := h
  refine ⟨dx, d, (upd_ne fun z => ?_).trans h1, (upd_ne fun z => ?_).trans h2, h3⟩
  · rw [z, e] at h1; cases h1
  · rw [z, e] at h2; cases h2
theorem Pairs.upd {C : Addr} {U : List Int} {R : Rl} {H : Hp} {D : Addr} {ls : List V} {o : HO} {ps : List V} (h : Pairs C U R H ps) (e : H D = some (.lst ls)) : Pairs C U R (L2.upd H D o) ps := fun v hv => by
  obtain ⟨t, x, y, es, fs, h1, h2, h3, h4, h5⟩ := h v hv
  exact ⟨t, x, y, es, fs, h1, (upd_ne fun z => by rw [z, e] at h2; cases h2).trans h2, h3.upd e, h4.upd e, h5⟩
theorem Pairs.app {C : Addr} {U : List Int} {R : Rl} {H : Hp} {ps qs : List V} (h : Pairs C U R H ps) (g : Pairs C U R H qs) : Pairs C U R H (ps ++ qs) := fun v hv => by
  rcases List.mem_append.mp hv with hv | hv
  · exact h v hv
  · exact g v hv

def DenL (C : Addr) (U : List Int) (R : Rl) (σ : L2.St) (F : Hp → Prop) (t : TA) (n : Nat) : Prop :=
  ∀ (H : Hp) (Q : List V → Hp → Prop), F H → (∀ qs H', Same H H' → qs.length = n → Pairs C U R H' qs → Q qs H') → t σ H Q
section
variable {C : Addr} {U : List Int} {R : Rl} {σ : L2.St} {F : Hp → Prop} {t1 t2 : TE} {t : TA} {es fs : List (Int × Str)} {n : Nat} {K : PySem.W.Frag}
theorem denl_nil : DenL C U R σ F tNil 0 := fun H Q _ k => k [] H (Same.refl H) rfl fun _ h => (nomatch h)
theorem denl_cons (hF : Stable F) (h1 : Den C U σ F t1 es) (h2 : Den C U σ F t2 fs) (r : R es fs) (ht : DenL C U R σ F t n) :
    DenL C U R σ F (tCons (tTup (tCons t1 (tCons t2 tNil))) t) (n + 1) := by
  intro H Q hf k
  refine h1 H _ hf fun x H1 s1 hx => h2 H1 _ (hF _ _ s1 hf) fun y H2 s2 hy => ⟨size_ok (by simp), fun p hp => ?_⟩
  have s3 := same_new hp (o := .tup [.ref x, .ref y])
  refine ht _ _ (hF _ _ s3 (hF _ _ s2 (hF _ _ s1 hf))) fun qs H4 s4 hl hp4 => ?_
  refine k _ H4 (((s1.trans s2).trans s3).trans s4) (by rw [List.length_cons, hl]) fun v hv => ?_
  rcases List.mem_cons.mp hv with rfl | hv
  · exact ⟨p, x, y, es, fs, rfl, s4 _ _ upd_same, ((hx.same s2).same s3).same s4, (hy.same s3).same s4, r⟩
  · exact hp4 v hv

structure Du (C : Addr) (U : List Int) (R : Rl) (vars : List (Addr × List (Int × Str))) (H0 : Hp) (D : Addr) (ps : List V) (H : Hp) : Prop where
  vs : ∀ p ∈ vars, FS C U H p.1 p.2
  here : H D = some (.lst ps)
  pr : Pairs C U R H ps
  fresh : H0 D = none
  ext : Ext D H0 H
def Vs (C : Addr) (U : List Int) (vars : List (Addr × List (Int × Str))) (H : Hp) : Prop := ∀ p ∈ vars, FS C U H p.1 p.2
theorem Vs.stable {vars : List (Addr × List (Int × Str))} : Stable (Vs C U vars) := fun H H' s h p hp => (h p hp).same s
theorem Du.stable {vars : List (Addr × List (Int × Str))} {H0 : Hp} {D : Addr} {ps : List V} : Stable (Du C U R vars H0 D ps) := fun H H' s h =>
  ⟨fun p hp => (h.vs p hp).same s, s _ _ h.here, h.pr.same s, h.fresh, h.ext.trans (Ext.of s)⟩
theorem du_start {vars : List (Addr × List (Int × Str))} {i : Nat} {D' : Ends} {H : Hp} (ht : DenL C U R σ (Vs C U vars) t n) (hn : n ≤ 1000) (h : Vs C U vars H)
    (k : ∀ D ps H', ps.length = n → Du C U R vars H D ps H' → D'.nx (σ.set i (some (.ref D))) H') : tAsg (tLst t) (gName i) D' σ H := by
  refine ht H _ h fun qs H1 s1 hl hq => ⟨size_ok (by omega), fun D hD => ?_⟩
  refine k D qs _ hl ⟨fun p hp => ((h p hp).same s1).same (same_new hD), upd_same, hq.same (same_new hD), s1.free hD, fun b o n e => (upd_ne n).trans (s1 _ _ e)⟩
theorem du_append {vars : List (Addr × List (Int × Str))} {H0 : Hp} {D : Addr} {ps : List V} {i : Nat} {D' : Ends} {H : Hp} (hσ : σ[i]? = some (some (.ref D)))
    (ht : DenL C U R σ (Du C U R vars H0 D ps) t 1) (hl : ps.length ≤ 1000) (h : Du C U R vars H0 D ps H)
    (k : ∀ qs H', qs.length = ps.length + 1 → Du C U R vars H0 D qs H' → D'.nx σ H') : tDrop (tBM K "list" rAppend (tVar i) t) D' σ H := by
  refine ⟨_, hσ, .inl ⟨rfl, ps, SqL.of h.here⟩, ?_⟩
  refine ht H _ h fun qs H1 s1 hq hp => ?_
  match qs, hq with
  | [y], _ =>
    have h1 := Du.stable H H1 s1 h
    refine ⟨D, ps, y, rfl, rfl, h1.here, Nat.lt_of_le_of_lt hl (by decide), ?_⟩
    refine k _ _ (by rw [List.length_append]; rfl) ⟨fun p hp => (h1.vs p hp).upd h1.here, upd_same, (h1.pr.app hp).upd h1.here, h1.fresh, fun b o n e => (upd_ne n).trans (h1.ext b o n e)⟩
theorem du_cat {vars : List (Addr × List (Int × Str))} {H0 : Hp} {D : Addr} {ps : List V} {i : Nat} {D' : Ends} {H : Hp} (hσ : σ[i]? = some (some (.ref D)))
    (ht : DenL C U R σ (Du C U R vars H0 D ps) t n) (hl : ps.length + n ≤ 1000) (h : Du C U R vars H0 D ps H)
    (k : ∀ D2 qs H', qs.length = ps.length + n → H' D2 = some (.lst qs) → Pairs C U R H' qs → Same H0 H' → D'.nx (σ.set i (some (.ref D2))) H') : tAsg (tOp rCat (tVar i) (tLst t)) (gName i) D' σ H := by
  refine ⟨_, hσ, ?_⟩
  refine ht H _ h fun qs H1 s1 hq hp => ⟨size_ok (by omega), fun p hp2 => ?_⟩
  have h1 := Du.stable H H1 s1 h
  have s2 := same_new hp2 (o := .lst qs)
  have h2 := Du.stable _ _ s2 h1
  refine ⟨D, p, ps, qs, rfl, rfl, h2.here, upd_same, size_ok (by omega), fun D2 hD2 => ?_⟩
  have s3 := same_new hD2 (o := .lst (ps ++ qs))
  have h3 := Du.stable _ _ s3 h2
  refine k D2 _ _ (by rw [List.length_append, hq]) upd_same (h3.pr.app ((hp.same s2).same s3)) fun b o e => h3.ext b o (ne_of_none e h3.fresh) e
end
end My
set_option Elab.async false
set_option maxRecDepth 100000
set_option maxHeartbeats 4000000
set_option linter.unusedVariables false
namespace My
open PySem PySem.Spec PyProof.Rows L2
theorem allB (n : Nat) : (List.replicate n true).all id = true := by
  rw [List.all_eq_true]
  intro b hb
  rw [(List.mem_replicate.mp hb).2]
  rfl

theorem pairs_all {C : Addr} {U : List Int} {R : Rl} {K : PySem.W.Frag} {σ : L2.St} {H : Hp} {D' : Ends} {i j l : Nat} {D : Addr} {qs : List V} {te : TE} (hσ : σ[i]? = some (some (.ref D))) (hD : H D = some (.lst qs)) (hp : Pairs C U R H qs) (hl : qs.length ≤ 1000)
    (hw : ∀ x y, wipe (((wipe σ [j, l]).set j x).set l y) [j, l] = wipe σ [j, l])
    (hte : ∀ x y es fs H1 (Q : VK), FS C U H1 x es → FS C U H1 y fs → R es fs → (∀ H2, Same H1 H2 → Q (.bl true) H2) → te (((wipe σ [j, l]).set j (some (.ref x))).set l (some (.ref y))) H1 Q)
    (k : ∀ H', Same H H' → D'.rt (.bl true) H') :
    tRet (tCB (rAll K) (tCons (tLc (iList K (tVar i)) (gTup K 2 (gCons (gName j) (gCons (gName l) gNil))) tYes te [j, l]) tNil)) D' σ H := by
  refine ⟨_, hσ, D, rfl, ⟨qs, SqL.of hD⟩, fun E hE => ?_⟩
  refine lc_list (xs := qs) (fun i H' => Ext E H H' ∧ H' E = some (.lst ((List.replicate i true).map V.bl))) ?_ ?_ ?_ ?_
  · exact ⟨fun b o n e => (upd_ne n).trans e, upd_same⟩
  · rintro i H' hi ⟨x, _⟩
    exact SqL.of (x _ _ (ne_of_none hD hE) hD)
  · rintro i v H' hv ⟨x, hd⟩
    obtain ⟨t, y, z, es, fs, rfl, h2, h3, h4, h5⟩ := hp v (List.mem_of_getElem? hv)
    refine ⟨t, _, rfl, .inl (.inl (x _ _ (ne_of_none h2 hE) h2)), rfl, _, _, rfl, _, _, rfl, rfl, hw _ _, ?_⟩
    have hd2 : ∀ {y es}, FS C U H y es → FS C U H' y es := by
      rintro y es ⟨dx, d, q1, q2, q3⟩
      exact ⟨dx, d, x _ _ (ne_of_none q1 hE) q1, x _ _ (ne_of_none q2 hE) q2, q3⟩
    refine hte y z es fs H' _ (hd2 h3) (hd2 h4) h5 fun H2 s2 => ?_
    refine ⟨_, s2 _ _ hd, ?_, ?_, upd_same.trans ?_⟩
    · rw [List.length_map, List.length_replicate]
      have := (List.getElem?_eq_some_iff.mp hv).1
      exact small1000 (by omega)
    · exact fun b o n e => (upd_ne n).trans (s2 _ _ (x b o n e))
    · rw [List.replicate_succ', List.map_append]
      rfl
  · rintro H' ⟨x, hd⟩
    refine ⟨E, _, rfl, SqL.of hd, ?_⟩
    rw [allB]
    exact k _ fun b o e => x b o (ne_of_none e hE) e

theorem look_mem {es : List (Int × Str)} {k : Int} {x : Str} (h : look es k = some x) : (k, x) ∈ es := by
  induction es with
  | nil => cases h
  | cons p r ih =>
    rw [look_cons] at h
    by_cases e : p.1 = k
    · rw [if_pos e] at h
      cases h
      subst e
      exact List.mem_cons_self
    · rw [if_neg e] at h
      exact List.mem_cons_of_mem _ (ih h)
theorem keys_len (es : List (Int × Str)) : (keys es).length = es.length := List.length_map _
theorem len_of_has {U V : List Int} {es fs : List (Int × Str)} (g : Good U es) (h : Good V fs) (e : ∀ k, has es k = has fs k) : es.length = fs.length := by
  rw [← keys_len, ← keys_len]
  refine Nat.le_antisymm (nodup_sub g.1 fun k hk => ?_) (nodup_sub h.1 fun k hk => ?_)
  · rw [← has_iff] at hk ⊢
    rw [← e]; exact hk
  · rw [← has_iff] at hk ⊢
    rw [e]; exact hk
theorem alike_of {U V : List Int} {es fs : List (Int × Str)} (g : Good U es) (h : Good V fs) (e : ∀ k, look es k = look fs k) : alike es fs :=
  ⟨len_of_has g h fun k => by unfold has; rw [e], fun p hp => by rw [← e]; exact look_ents g.1 hp⟩
theorem alike_same {U : List Int} {es : List (Int × Str)} (g : Good U es) : alike es es := alike_of g g fun _ => rfl
theorem Good.smaller {U : List Int} {es fs : List (Int × Str)} (g : Good U es) (h : Good U fs) : Good U (smaller es fs) := by
  unfold My.smaller
  split
  · exact g.common fs
  · exact h.common es
theorem Good.apart {U : List Int} {es fs : List (Int × Str)} (g : Good U es) (h : Good U fs) : Good U (apart es fs) := (g.rest fs).united (h.rest es)
theorem look_apart (es fs : List (Int × Str)) (k : Int) : look (apart es fs) k = (if (look fs k).isSome = true then none else look es k).or (if (look es k).isSome = true then none else look fs k) := by
  unfold apart
  rw [look_united, look_rest, look_rest]
theorem has_united (es fs : List (Int × Str)) (k : Int) : has (united es fs) k = (has es k || has fs k) := by
  unfold has; rw [look_united]; cases look es k <;> rfl
theorem has_common (es fs : List (Int × Str)) (k : Int) : has (common es fs) k = (has es k && has fs k) := by
  unfold has; rw [look_common]; cases look es k <;> cases look fs k <;> rfl
theorem has_rest (es fs : List (Int × Str)) (k : Int) : has (rest es fs) k = (has es k && !has fs k) := by
  unfold has; rw [look_rest]; cases look es k <;> cases look fs k <;> rfl
theorem has_apart (es fs : List (Int × Str)) (k : Int) : has (apart es fs) k = ((has es k && !has fs k) || (has fs k && !has es k)) := by
  unfold apart; rw [has_united, has_rest, has_rest]
theorem has_smaller (es fs : List (Int × Str)) (k : Int) : has (smaller es fs) k = (has es k && has fs k) := by
  unfold smaller
  split
  · exact has_common es fs k
  · rw [has_common, Bool.and_comm]
theorem good_if {U : List Int} {c : Prop} [Decidable c] {es fs : List (Int × Str)} (g : Good U es) (h : Good U fs) : Good U (if c then es else fs) := by
  split
  · exact g
  · exact h
def likeK : Rl := fun es fs => likeKeys es fs ∧ es.length = fs.length
theorem likeK_of {U V : List Int} {es fs : List (Int × Str)} (g : Good U es) (h : Good V fs) (e : ∀ k, has es k = has fs k) : likeK es fs := ⟨e, len_of_has g h e⟩
end My
set_option Elab.async false
set_option maxRecDepth 100000
set_option maxHeartbeats 4000000
set_option linter.unusedVariables false
namespace My
open PySem PySem.Spec PyProof.Rows L2
theorem sqT_chg {K : PySem.W.Frag} {H H' : Hp} {a t : Addr} {ls xs : List V} (e : H a = some (.lst ls)) (x : Ext a H H') (h : SqT K H t xs) : SqT K H' t xs := by
  rcases h with (h | ⟨o, h⟩) | h
  · exact .inl (.inl (x _ _ (fun z => by rw [z, e] at h; cases h) h))
  · exact .inl (.inr ⟨o, x _ _ (fun z => by rw [z, e] at h; cases h) h⟩)
  · exact .inr h
theorem ElAll.chg {K : PySem.W.Frag} {H H' : Hp} {a : Addr} {ls : List V} (e : H a = some (.lst ls)) (x : Ext a H H') : ∀ {vs : List V} {es : List (Int × Str)}, ElAll K H vs es → ElAll K H' vs es
  | _, _, .nil => .nil
  | _, _, .cons h hk hx r => .cons (sqT_chg e x h) hk hx (ElAll.chg e x r)
theorem ElAll.app {K : PySem.W.Frag} {H : Hp} {t : Addr} {k : Int} {x : Str} (h : SqT K H t [.int k, .str x]) (hk : 0 ≤ k ∧ k ≤ 999999) (hx : nameOk x = true) :
    ∀ {vs : List V} {es : List (Int × Str)}, ElAll K H vs es → ElAll K H (vs ++ [.ref t]) (es ++ [(k, x)])
  | _, _, .nil => .cons h hk hx .nil
  | _, _, .cons h1 hk1 hx1 r => .cons h1 hk1 hx1 (ElAll.app h hk hx r)
theorem firsts_from : ∀ (l acc : List (Int × Str)), (keys acc).Nodup →
    (keys (l.foldl (fun acc p => if has acc p.1 = true then acc else acc ++ [p]) acc)).Nodup ∧
    ∀ k ∈ keys (l.foldl (fun acc p => if has acc p.1 = true then acc else acc ++ [p]) acc), k ∈ keys acc ∨ k ∈ keys l
  | [], acc, nd => ⟨nd, fun k h => .inl h⟩
  | p :: r, acc, nd => by
    rw [List.foldl_cons]
    by_cases h : has acc p.1 = true
    · rw [if_pos h]
      obtain ⟨h1, h2⟩ := firsts_from r acc nd
      exact ⟨h1, fun k hk => (h2 k hk).imp id (List.mem_cons_of_mem _)⟩
    · rw [if_neg h]
      have nd2 : (keys (acc ++ [p])).Nodup := by
        rw [keys_app]
        refine List.nodup_append.mpr ⟨nd, List.nodup_cons.mpr ⟨List.not_mem_nil, List.nodup_nil⟩, fun a ha b hb e => ?_⟩
        have : b = p.1 := by simpa [keys] using hb
        subst this
        subst e
        exact h (has_iff.mpr ha)
      obtain ⟨h1, h2⟩ := firsts_from r _ nd2
      refine ⟨h1, fun k hk => ?_⟩
      rcases h2 k hk with q | q
      · rw [keys_app] at q
        rcases List.mem_append.mp q with q | q
        · exact .inl q
        · exact .inr (by simp [keys] at q ⊢; exact .inl q)
      · exact .inr (List.mem_cons_of_mem _ q)
theorem good_firsts {U : List Int} {l : List (Int × Str)} (h : ∀ p ∈ l, p.1 ∈ U) (hU : U.length ≤ 1000) : Good U (firsts l) := by
  obtain ⟨h1, h2⟩ := firsts_from l [] List.nodup_nil
  refine ⟨h1, fun k hk => ?_, hU⟩
  rcases h2 k hk with q | q
  · cases q
  · obtain ⟨p, hp, rfl⟩ := List.mem_map.mp q
    exact h p hp
theorem below_len (m : Nat) : (below m).length = m := by unfold below; rw [List.length_map, List.length_range]
theorem below_mem {m : Nat} {k : Int} (h0 : 0 ≤ k) (h1 : k < m) : k ∈ below m := by
  unfold below
  refine List.mem_map.mpr ⟨k.toNat, List.mem_range.mpr (by omega), by omega⟩
theorem name_two : ∀ x : Str, (x = "p" ∨ x = "q" ∨ x = "r") → ∀ y : Str, (y = "x" ∨ y = "y") → nameOk (x ++ y) = true := by
  rintro x (rfl | rfl | rfl) y (rfl | rfl) <;> decide +kernel
theorem made_same {H : Hp} {x dx C : Addr} {fs : List (Str × V)} (hx : H x = none) (hdx : H dx = none) (hne : dx ≠ x) : Same H (upd (upd H dx (.own x)) x (.ins C dx fs)) :=
  (same_new hdx).trans (same_new ((upd_ne (Ne.symm hne)).trans hx))
theorem FS.chg {C : Addr} {U : List Int} {H H' : Hp} {g x : Addr} {ls : List V} {es : List (Int × Str)} (e : H g = some (.lst ls)) (s : Ext g H H') (h : FS C U H x es) : FS C U H' x es := by
  obtain ⟨dx, d, h1, h2, h3⟩ := h
  exact ⟨dx, d, s _ _ (fun z => by rw [z, e] at h1; cases h1) h1, s _ _ (fun z => by rw [z, e] at h2; cases h2) h2, h3⟩
theorem FSs.chg {C : Addr} {U : List Int} {H H' : Hp} {g : Addr} {ls : List V} (e : H g = some (.lst ls)) (s : Ext g H H') : ∀ {vs : List V} {es : List (List (Int × Str))}, FSs C U H vs es → FSs C U H' vs es
  | _, _, .nil => .nil
  | _, _, .cons h r => .cons (h.chg e s) (FSs.chg e s r)
theorem FSs.app {C : Addr} {U : List Int} {H : Hp} {x : Addr} {es : List (Int × Str)} (h : FS C U H x es) : ∀ {vs : List V} {ls : List (List (Int × Str))}, FSs C U H vs ls → FSs C U H (vs ++ [.ref x]) (ls ++ [es])
  | _, _, .nil => .cons h .nil
  | _, _, .cons h1 r => .cons h1 (FSs.app h r)
theorem ext_del {g : Addr} {H H' : Hp} (s : Same (del g H) (del g H')) : Ext g H H' := fun b o n e => by
  have q := s b o ((del_at n).trans e)
  rw [del_at n] at q
  exact q
theorem FSs.pick {C : Addr} {U : List Int} {H : Hp} {vs : List V} {ls : List (List (Int × Str))} (h : FSs C U H vs ls) {i : Int} (h0 : 0 ≤ i) (h1 : i < vs.length) : ∃ x es, atI vs i = some (.ref x) ∧ FS C U H x es := by
  have hlt : i.toNat < vs.length := by omega
  obtain ⟨x, es, e, _, f⟩ := h.at (List.getElem?_eq_getElem hlt)
  refine ⟨x, es, ?_, f⟩
  rw [← e]
  unfold atI ixN
  rw [if_pos h0, if_pos h1]
  simp [hlt]
end My
set_option Elab.async false
set_option maxRecDepth 100000
set_option maxHeartbeats 4000000
set_option linter.unusedVariables false
namespace My
open PySem PySem.Spec PyProof.Rows L2

theorem above_go (n : Nat) : ∀ fuel size, SetTable.sizeAbove.go n fuel size ≤ max size (2 * n)
  | 0, size => by unfold SetTable.sizeAbove.go; exact Nat.le_max_left _ _
  | fuel + 1, size => by
    unfold SetTable.sizeAbove.go
    split
    · have := above_go n fuel (size * 2)
      omega
    · exact Nat.le_max_left _ _
theorem above_le {n : Nat} (h : n ≤ 100000) : ¬ SetTable.sizeAbove n > sizeLine := by
  have := above_go n 64 8
  have e : SetTable.sizeAbove n = SetTable.sizeAbove.go n 64 8 := rfl
  rw [e]
  have z : (200000 : Nat) ≤ sizeLine := by decide
  omega
theorem clean_nil (m : Nat) : SetTable.layClean m #[] = some (Array.replicate (m + 1) none) := rfl
theorem none_all (m j : Nat) : (Array.replicate m (none : Option Nat)).getD j none = none := by
  simp [Array.getD]
theorem live_nil (m : Nat) : ((List.range (m + 1)).filterMap fun j => ((Array.replicate (m + 1) (none : Option Nat)).getD j none).map (j, ·)) = [] := by
  rw [List.filterMap_eq_nil_iff]
  intro j _
  rw [none_all]
  rfl
theorem relaid_nil (t : SetTable) (wanted : Nat) : ∃ t', t.relaid #[] wanted = some (t', #[]) ∧ t'.place = #[] ∧ t'.dummies = #[] ∧ t'.led = t.led := by
  unfold SetTable.relaid SetTable.laid
  rw [clean_nil]
  refine ⟨⟨SetTable.sizeAbove wanted - 1, #[], #[], t.finger, t.led, t.movedTo (SetTable.sizeAbove wanted - 1), t.plain⟩, ?_, rfl, rfl, rfl⟩
  show some _ = some _
  rw [live_nil]
  rfl
section
variable {P : Program} {w : World} {s : Shared} {A : Around} {E : Value → Shared → Prop}
theorem room_for {a : Addr} {n ep : Nat} {o : Obj} {t : SetTable} {Q : Unit → Shared → Prop} (hn : n ≤ 1000) (ho : s.heap.get? a = some o) (hx : o.ExactSet) (hd : o.data = .set #[] ep t) (hp : t.place = #[]) (hdm : t.dummies = #[])
    (hl : w.params.followText "set-order" = true ∨ t.led = true)
    (h : ∀ h', Heap.SameBut a s.heap h' → SetR w h' a (fun _ => false) 0 → Q () { s with heap := h' }) : wpAny (model P w) A (setRoomFor a n) Q E s := by
  have hf : t.fits (#[] : Array (Int × Value)).size = true := by
    unfold SetTable.fits SetTable.fill
    rw [hp, hdm]
    rfl
  unfold setRoomFor
  refine wpAny_bind (wpAny_setState_of ho hd hf ?_)
  dsimp only
  have stay : SetR w s.heap a (fun _ => false) 0 := ⟨o, #[], ep, t, ho, hx, hd, (fun e he => by simp at he), (by simp), (fun k => by simp), (by decide), hf, rfl, by rw [hp]; exact List.Pairwise.nil, hl⟩
  cases hr : t.roomFor n with
  | none =>
    dsimp only
    exact wpAny_pure (h _ (Heap.SameBut.refl a s.heap) stay)
  | some wanted =>
    dsimp only
    have hw : wanted ≤ 100000 := by
      unfold SetTable.roomFor at hr
      split at hr
      · cases hr
        rw [hp]
        show (0 + n) * 2 ≤ 100000
        omega
      · cases hr
    obtain ⟨t', e1, e2, e3, e4⟩ := relaid_nil t wanted
    unfold setRelay
    refine wpAny_bind (wpAny_setState_of ho hd hf ?_)
    dsimp only
    refine wp_if_neg (above_le hw) ?_
    have er : (#[] : Array (Int × Value)).map (·.1) = #[] := by simp
    rw [er, e1]
    refine wpAny_bind (wpAny_pure (M := model P w) (A := A) (E := E) (s := s) (a := ((#[] : Array (Int × Value)), t')) ?_)
    refine wpAny_storeSet_of ho hd (h _ (Heap.SameBut.update s.heap a (Obj.putSet #[] t')) ?_) (by show 0 ≤ sizeLine; exact Nat.zero_le _)
    refine ⟨_, #[], _, t', store_at ho hd, hx, rfl, (fun e he => by simp at he), (by simp), (fun k => by simp), (by decide), ?_, rfl, by rw [e2]; exact List.Pairwise.nil, hl.imp id fun z => by rw [e4]; exact z⟩
    unfold SetTable.fits SetTable.fill
    rw [e2, e3]
    rfl

def IntKeys (es : Array DictEntry) (ns : List Int) : Prop := es.size = ns.length ∧ ∀ (i : Nat) (n : Int), ns[i]? = some n → ∃ (e : DictEntry) (tk : Tok), es[i]? = some e ∧ e.key = Value.int n tk ∧ e.hash = hashInt n

abbrev bare (w : World) : Obj := { cls := .type "set", dict := none, data := .set #[] 0 (.fresh 0 0 (!w.params.followText "set-order")) }
theorem bare_led (w : World) : w.params.followText "set-order" = true ∨ (SetTable.fresh 0 0 (!w.params.followText "set-order")).led = true := by
  show w.params.followText "set-order" = true ∨ (!w.params.followText "set-order") = true
  cases q : w.params.followText "set-order" <;> simp
theorem not_before {ns : List Int} {i : Nat} (nd : ns.Nodup) (h : i < ns.length) : ns[i] ∉ ns.take i := by
  intro z
  have e := List.take_append_drop i ns
  rw [← e] at nd
  refine (List.nodup_append.mp nd).2.2 _ z _ ?_ rfl
  rw [List.mem_iff_getElem?]
  exact ⟨0, by rw [List.getElem?_drop]; exact List.getElem?_eq_getElem h⟩
set_option maxHeartbeats 3200000 in
theorem call_set_dict {l : Addr} {od : Obj} {es : Array DictEntry} {ep : Nat} (ns : List Int) {Q : Value → Shared → Prop} (hl : s.heap.get? l = some od) (hcd : od.cls = .type "dict") (hod : od.data = .dict es ep)
    (hsm : (l == sysModules) = false) (hk : IntKeys es ns) (nd : ns.Nodup) (hb : ns.length ≤ 1000)
    (done : ∀ h' : Heap, SetR w h' s.heap.objs.size (fun j => decide (j ∈ ns)) ns.length → (∀ b o, s.heap.get? b = some o → h'.get? b = some o) → Q (.ref s.heap.objs.size) { s with heap := h' }) :
    wpAny (model P w) A (call (.type "set") [.ref l]) Q E s := by
  obtain ⟨_, _, m1⟩ := F.called_set.mro
  have m2 := F.called_set.made; have m3 := F.called_set.sub; have m4 := F.called_set.notType; have m5 := F.called_set.canCreate
  have m6 := F.typeCall_set_1 (.ref l)
  refine wpAny_call (codeAny_of_tree (show wpAny _ _ (callAny (.type "set") _) _ _ _ from wpAny_pure ⟨Code.quiet_builtin _ (by decide +kernel), codeAny_builtin F.entry_type_call ?_⟩))
  rw [Around.under_plain (weight_type_call_type "set" [Value.ref l] []) rfl]
  repeat any_goals first | assumption | wp_step
  refine codeAny_mono (code_set_led1 (.ref l) (E := E) (Q₁ := fun x s₁ => x = .ref s.heap.objs.size ∧ s₁ = { s with heap := s.heap.push (bare w) }) ⟨rfl, rfl⟩) ?_
  rintro (e | fl) s₁ hr
  · exact hr
  cases fl with
  | next | brk | cont => exact hr.elim
  | ret obj =>
    obtain ⟨rfl, rfl⟩ := hr
    have at0 : (s.heap.push (bare w)).get? s.heap.objs.size = some (bare w) := Heap.get?_push_size _ rfl
    have ty : Shared.TypeIs { s with heap := s.heap.push (bare w) } (.ref s.heap.objs.size) "set" := ⟨_, at0, rfl⟩
    have m7 := F.called_set.init.lookup; have m8 := F.called_set.init.bind (.ref s.heap.objs.size)
    repeat any_goals first | assumption | wp_step
    refine codeAny_mono (codeAny_call_builtin (R := wants (fun r s₂ => r = .none ∧ ∃ h', s₂ = { s with heap := h' } ∧ SetR w h' s.heap.objs.size (fun j => decide (j ∈ ns)) ns.length ∧
        ∀ b o, s.heap.get? b = some o → h'.get? b = some o) E) F.called_set.init.plain F.entry_set_init (check_set_init_1 ty ?body)) ?back
    case back =>
      rintro (e | fl) s₂ hr
      · exact hr
      cases fl with
      | next | brk | cont => exact hr.elim
      | ret r =>
        obtain ⟨rfl, h', rfl, hS, hK⟩ := hr
        repeat any_goals first | assumption | wp_step
        exact done _ hS hK
    case body =>
      obtain ⟨oc, odi, oda, osl⟩ := od
      simp only at hcd hod
      subst hcd hod
      have lt : l < s.heap.objs.size := Heap.lt_size hl
      have at1 : (s.heap.push (bare w)).get? l = some { cls := .type "dict", dict := odi, data := .dict es ep, slots := osl } := Heap.get?_push_of_some _ hl
      have n1 := F.sub_dict_set; have n2 := F.sub_dict_frozenset
      have n3 : (Value.type "dict" == Value.type "dict") = true := by decide
      unfold Builtin.«set.__init__»; unfold noKeywords Builtin.Frozenset.updateFrom
      generalize hRF : setRoomFor = RF
      wp_walk
      subst hRF
      have size : es.size = ns.length := hk.1
      refine room_for (t := .fresh 0 0 (!w.params.followText "set-order")) (by omega) at0 ⟨rfl, rfl, rfl⟩ rfl rfl rfl (bare_led w) fun h1 b1 r1 => ?_
      have ne : l ≠ s.heap.objs.size := Nat.ne_of_lt lt
      have at2 : ∀ h2 : Heap, Heap.SameBut s.heap.objs.size h1 h2 → h2.get? l = some { cls := .type "dict", dict := odi, data := .dict es ep, slots := osl } := by
        intro h2 b2
        rw [b2.2 l ne, b1.2 l ne]
        exact at1
      refine wpAny_bind (wpAny_dictEntries (at2 h1 (Heap.SameBut.refl _ h1)) rfl ?_)
      refine wpAny_bind (PySem.SeqAt.wpAny_forIn_span 0 es.size _ (fun i _ s' => ∃ h', s' = { s with heap := h' } ∧ Heap.SameBut s.heap.objs.size h1 h' ∧ SetR w h' s.heap.objs.size (fun j => decide (j ∈ ns.take i)) i) _ ?turn ?out _ ?start)
      case start => exact ⟨h1, rfl, Heap.SameBut.refl _ h1, by simpa using r1⟩
      case out =>
        rintro _ _ ⟨h2, rfl, b2, r2⟩
        rw [Nat.zero_max, size, List.take_length] at r2
        refine wpAny_pure ?_
        show wpAny _ _ (ret .none) _ _ _
        refine wpAny_pure ⟨rfl, h2, rfl, r2, fun b o e => ?_⟩
        have nb : b ≠ s.heap.objs.size := Nat.ne_of_lt (Heap.lt_size e)
        rw [b2.2 b nb, b1.2 b nb]
        exact (Heap.get?_push_of_some _ e)
      case turn =>
        rintro i _ _ _ hi ⟨h2, rfl, b2, r2⟩
        have hlt : i < ns.length := by omega
        obtain ⟨e, tk, e1, e2, e3⟩ := hk.2 i ns[i] (List.getElem?_eq_getElem hlt)
        refine wpAny_bind (wpAny_dictEntries (at2 h2 b2) rfl ?_)
        rw [e1]
        dsimp only
        rw [e2, e3]
        have fresh := not_before nd hlt
        refine wpAny_bind (wpAny_holding (setR_add_hashed (s := { s with heap := h2 }) r2 (by rw [show scanBound = 4096 from rfl]; omega) fun h3 b3 r3 => ?_))
        refine wpAny_bind (wpAny_dictEpoch (at2 h3 (b2.trans b3)) rfl ?_)
        rw [bne_self_eq_false]
        refine wpAny_pure ⟨h3, rfl, b2.trans b3, ?_⟩
        rw [decide_eq_false fresh, if_neg (by simp)] at r3
        refine r3.congr fun j => ?_
        rw [take_one (List.getElem?_eq_getElem hlt), ← Bool.decide_or]
        exact decide_eq_decide.mpr (by rw [List.mem_append, List.mem_singleton])
end
end My
set_option Elab.async false
set_option maxRecDepth 100000
set_option maxHeartbeats 4000000
set_option linter.unusedVariables false
namespace My
open PySem PySem.Spec PyProof.Rows L2
theorem slot_set_eq : Slot "set" (cmpInfo .Eq).2.1 "set.__eq__" :=
  .of (owner := "set") (n := "__eq__") (by rw [typeLookup_type, builtinLookup_eq_fast]; kernel_rfl) (by decide +kernel) (by decide +kernel) (by decide +kernel) (by first | exact .inl (by decide +kernel) | exact .inr (by decide +kernel)) (by rw [isSubtype_type]; kernel_rfl)
theorem entry_set_eq : entryFor table "set.__eq__" = some Builtin.«frozenset.__eq__» :=
  entryFor_alias (id' := "frozenset.__eq__") (by kernel_rfl) rfl (by decide +kernel) (by kernel_rfl)
theorem args_set_eq_2 (a b : Value) : argsOk "set.__eq__" ⟨[a, b], []⟩ := by unfold argsOk; kernel_rfl
section
variable {P : Program} {w : World} {A : Around} {E : Value → Shared → Prop} {s : Shared}
theorem quiet_int {k : Int} {tk : Tok} {A' : Around} {Q : Bool → Shared → Prop} (h : Q true s) : wpAny (model P w) A' (Builtin.Frozenset.quietEq (.int k tk)) Q E s := wpAny_pure h
theorem is_int {k : Int} {v : Value} (h : (intKind P w).is k v = true) : ∃ tk, v = .int k tk := Value.isInt_shape h
theorem walk_quiet {a b : Addr} {oa ob : Obj} {ea eb : Array (Int × Value)} {epa epb : Nat} {ta tb : SetTable} {A' : Around} {Q : List (Int × Value) → Shared → Prop} (hoa : s.heap.get? a = some oa) (hda : oa.data = .set ea epa ta) (hfa : ta.fits ea.size = true)
    (hob : s.heap.get? b = some ob) (hdb : ob.data = .set eb epb tb) (hfb : tb.fits eb.size = true) (ga : ElemsOf (intKind P w) ea.toList) (gb : ElemsOf (intKind P w) eb.toList) (h : Q ea.toList s) :
    wpAny (model P w) A' (Builtin.Frozenset.walkUnseen a b) Q E s := by
  have se : ∀ {c : Addr} {o : Obj} {es : Array (Int × Value)} {ep : Nat} {t : SetTable} {Q' : Array (Int × Value) → Shared → Prop}, s.heap.get? c = some o → o.data = .set es ep t → t.fits es.size = true → Q' es s →
      wpAny (model P w) A' (setEntries c) Q' E s := by
    intro c o es ep t Q' ho hd hf h
    unfold setEntries
    exact wpAny_bind (wpAny_setState_of ho hd hf (wpAny_pure h))
  unfold Builtin.Frozenset.walkUnseen
  refine wpAny_bind (se hoa hda hfa ?_)
  refine wpAny_bind (se hob hdb hfb ?_)
  refine wpAny_bind (wpAny_forIn_list _ (fun rest r s' => r.1 = none ∧ s' = s ∧ ∀ e ∈ rest, ∃ k tk, e.2 = Value.int k tk) _ ?_ ?_ _ _ ?_)
  · rintro ⟨hh, x⟩ rest r s' ⟨hr, rfl, hi⟩
    obtain ⟨k, tk, e⟩ := hi _ List.mem_cons_self
    dsimp only at e
    subst e
    refine wpAny_bind (quiet_int ?_)
    simp only [Bool.not_true, Bool.false_eq_true, if_false]
    exact wpAny_pure ⟨rfl, rfl, fun e he => hi e (List.mem_cons_of_mem _ he)⟩
  · rintro ⟨r, u⟩ s' ⟨hr, rfl, _⟩
    dsimp only at hr
    subst hr
    exact wpAny_pure h
  · refine ⟨rfl, rfl, fun e he => ?_⟩
    rcases List.mem_append.mp he with he | he
    · obtain ⟨⟨k, hk, _⟩, _⟩ := ga e he
      obtain ⟨tk, q⟩ := is_int hk
      exact ⟨k, tk, q⟩
    · obtain ⟨⟨k, hk, _⟩, _⟩ := gb e he
      obtain ⟨tk, q⟩ := is_int hk
      exact ⟨k, tk, q⟩
theorem subset_true {a b : Addr} {S : Int → Bool} {n : Nat} {nm : String} {A' : Around} {Q : Bool → Shared → Prop} (ha : s.heap.SetOf (intKind P w) a S n) (hb : s.heap.SetOf (intKind P w) b S n) (h : Q true s) :
    wpAny (model P w) A' (Builtin.Frozenset.subsetOf nm a b) Q E s := by
  obtain ⟨oa, ea, epa, ta, hoa, hxa, hda, hela, hma, hba, hfa, hna⟩ := id ha
  obtain ⟨ob, eb, epb, tb, hob, hxb, hdb, helb, hmb, hbb, hfb, hnb⟩ := id hb
  have sz : ∀ {c : Addr} {o : Obj} {es : Array (Int × Value)} {ep : Nat} {t : SetTable} {Q' : Nat → Shared → Prop} {A' : Around}, s.heap.get? c = some o → o.data = .set es ep t → t.fits es.size = true → Q' es.size s →
      wpAny (model P w) A' (Builtin.Frozenset.sizeOf c) Q' E s := by
    intro c o es ep t Q' A' ho hd hf h
    unfold Builtin.Frozenset.sizeOf setEntries
    exact wpAny_bind (wpAny_bind (wpAny_setState_of ho hd hf (wpAny_pure (wpAny_pure h))))
  unfold Builtin.Frozenset.subsetOf
  refine wpAny_bind (sz hoa hda hfa ?_)
  refine wpAny_bind (sz hob hdb hfb ?_)
  rw [hna, hnb, if_neg (by omega)]
  refine wpAny_bind (wpAny_setEpoch_of hoa hda hfa ?_)
  refine wpAny_bind (walk_quiet hoa hda hfa hob hdb hfb hela helb ?_)
  refine wpAny_bind (wpAny_forIn_list _ (fun rest r s' => r.1 = none ∧ s' = s ∧ ∀ e ∈ rest, e ∈ ea.toList) _ ?_ ?_ _ _ ?_)
  · rintro ⟨hh, x⟩ rest r s' ⟨hr, rfl, hi⟩
    have hm := hi _ List.mem_cons_self
    obtain ⟨⟨k, hk, hq⟩, hsc⟩ := hela _ hm
    dsimp only at hk hq hsc
    subst hq
    have hS : S k = true := (hma k).2 ⟨_, hm, hk⟩
    refine wpAny_bind (wpAny_holding (wpAny_setFind_of (knd := intKind P w) hk hsc hb fun r hr => ?_))
    cases r with
    | none => rw [hS] at hr; cases hr
    | some j =>
      simp only [Option.isNone_some, Bool.false_eq_true, if_false]
      unfold Builtin.Frozenset.unchanged
      refine wpAny_bind (wpAny_bind (wpAny_setEpoch_of hoa hda hfa ?_))
      rw [bne_self_eq_false]
      simp only [Bool.false_eq_true, if_false]
      exact wpAny_pure (wpAny_pure ⟨rfl, rfl, fun e he => hi e (List.mem_cons_of_mem _ he)⟩)
  · rintro ⟨r, u⟩ s' ⟨hr, rfl, _⟩
    dsimp only at hr
    subst hr
    exact wpAny_pure h
  · exact ⟨rfl, rfl, fun e he => he⟩
theorem set_eq {a b : Addr} {S : Int → Bool} {n : Nat} {Q : Value → Shared → Prop} (ha : s.heap.SetOf (intKind P w) a S n) (hb : s.heap.SetOf (intKind P w) b S n) (hu : A.units < cLine) (h : Q (.bool true) s) :
    wpAny (model P w) A (compareOp .Eq (.ref a) (.ref b)) Q E s := by
  refine wpAny_richCompare_same_room (op := .Eq) ha.typeIs hb.typeIs slot_set_eq (wpAny_call_entry slot_set_eq ha.typeIs entry_set_eq ?_ (args_set_eq_2 _ _)) hu
  have f1 := F.sub_set_set
  obtain ⟨oa, ea, epa, ta, hoa, hxa, hda, hela, hma, hba, hfa, hna⟩ := id ha
  obtain ⟨ob, eb, epb, tb, hob, hxb, hdb, helb, hmb, hbb, hfb, hnb⟩ := id hb
  obtain ⟨ac, ad, adt, asl⟩ := oa
  obtain ⟨bc, bd, bdt, bsl⟩ := ob
  simp only at hda hdb
  have hca : ac = .type "set" := hxa.1
  have hcb : bc = .type "set" := hxb.1
  subst hda hdb hca hcb
  have f2 := F.sub_set_frozenset
  have sz : ∀ {c : Addr} {o : Obj} {es : Array (Int × Value)} {ep : Nat} {t : SetTable} {Q' : Nat → Shared → Prop} {A' : Around}, s.heap.get? c = some o → o.data = .set es ep t → t.fits es.size = true → Q' es.size s →
      wpAny (model P w) A' (Builtin.Frozenset.sizeOf c) Q' E s := by
    intro c o es ep t Q' A' ho hd hf h
    unfold Builtin.Frozenset.sizeOf setEntries
    exact wpAny_bind (wpAny_bind (wpAny_setState_of ho hd hf (wpAny_pure (wpAny_pure h))))
  unfold Builtin.«frozenset.__eq__»
  refine wpAny_bind ?_
  generalize hSZ : Builtin.Frozenset.sizeOf = SZ
  generalize hSB : Builtin.Frozenset.subsetOf = SB
  wp_walk
  subst hSZ
  refine sz hoa rfl hfa ?_
  refine wpAny_bind (sz hob rfl hfb ?_)
  rw [hna, hnb, bne_self_eq_false]
  wp_walk
  subst hSB
  refine subset_true ha hb ?_
  exact wpAny_pure ⟨_, rfl, fun z => (nomatch z), h⟩
end
end My
set_option Elab.async false
set_option maxRecDepth 100000
set_option maxHeartbeats 4000000
set_option linter.unusedVariables false
namespace My
open PySem PySem.Spec PyProof.Rows L2
theorem FunV.bindsFull {K : PySem.W.Frag} {x qual : Str} {st : Stmt} {f t : Addr} {fd : FuncData} {o : Obj} {v : Value} {m : Nat} {ps : List Str} (F : FunV K x qual st (.ref t) f fd) (lt : K.lookup t = some o) (ot : o.data = .seq #[v] m)
    (h : ∀ (kV doc pm : Value) (an : Option Addr) (cdv ct : Value) (us : List Value), us.length = ps.length →
      ∃ k, bindArgs (PySem.W.fnOf x qual (defArgs st) (defBody st) (defScope st) (.ref t) kV doc pm an cdv ct) ⟨us, []⟩ = seqItems? (.ref t) >>= k ∧ k (some #[v]) = pure (ps.zip us)) : Binds K fd ps [] := by
  obtain ⟨oc, od, kV, doc, pm, an, cdv, ct, osl, rfl, lk, hcd⟩ := F.ex
  intro s us X hlen
  rw [List.append_nil] at hlen ⊢
  obtain ⟨k, e1, e2⟩ := h kV doc pm an cdv ct us hlen
  refine BindsTo.of_looks fun M => ?_
  rw [e1]
  exact looks_items X lt ot (.of_pure e2)
section
variable {X : Cx}
def rSetD : List V → Hp → VK → Prop := fun xs H Q => ∃ (d : Addr) (es : List (Int × Str)), xs = [.ref d] ∧ H d = some (.dK (ents es)) ∧ (keys es).Nodup ∧ es.length ≤ 1000 ∧
  ∀ p, H p = none → Q (.ref p) (upd H p (.set (has es) es.length))
theorem KV.at_key {kvs : List (Key × V)} {vs : List (Key × Value)} (r : KV kvs vs) : ∀ {i : Nat} {k : Key} {v : V}, kvs[i]? = some (k, v) → ∃ u, vs[i]? = some (k, u) := by
  unfold KV at r
  induction r with
  | nil => intro i k v h; simp at h
  | cons h r ih =>
    intro i k v e
    cases i with
    | zero =>
      cases Option.some.inj e
      obtain ⟨h1, _⟩ := h
      dsimp only at h1
      subst h1
      exact ⟨_, rfl⟩
    | succ i => exact ih e
theorem pairs_at {P : Program} {w : World} {l : List DictEntry} {vs : List (Key × Value)} (r : PySem.Pairs (mixKind P w) l vs) : ∀ {i : Nat} {k : Key} {u : Value}, vs[i]? = some (k, u) → ∃ e, l[i]? = some e ∧ (mixKind P w).is k e.key = true := by
  induction r with
  | nil => intro i k v h; simp at h
  | cons h1 h2 r ih =>
    intro i k v e
    cases i with
    | zero =>
      cases Option.some.inj e
      exact ⟨_, rfl, h1⟩
    | succ i => exact ih e
theorem pairs_len {P : Program} {w : World} {l : List DictEntry} {vs : List (Key × Value)} (r : PySem.Pairs (mixKind P w) l vs) : l.length = vs.length := by
  induction r with
  | nil => rfl
  | cons h1 h2 r ih => rw [List.length_cons, List.length_cons, ih]
theorem kv_len {kvs : List (Key × V)} {vs : List (Key × Value)} (r : KV kvs vs) : kvs.length = vs.length := by
  unfold KV at r
  induction r with
  | nil => rfl
  | cons h r ih => rw [List.length_cons, List.length_cons, ih]
theorem int_keys {P : Program} {w : World} {es : List (Int × Str)} {vs : List (Key × Value)} {ed : Array DictEntry} (kv : KV (ents es) vs) (ks : KeysOf (mixKind P w) ed) (pr : PySem.Pairs (mixKind P w) ed.toList vs) : IntKeys ed (keys es) := by
  refine ⟨?_, fun i n h => ?_⟩
  · rw [← Array.length_toList, pairs_len pr, ← kv_len kv, ents_len, keys_len]
  · unfold keys at h
    rw [List.getElem?_map] at h
    cases q : es[i]? with
    | none => rw [q] at h; cases h
    | some p =>
      rw [q] at h
      cases h
      have e1 : (ents es)[i]? = some (.inl p.1, .str p.2) := by unfold ents; rw [List.getElem?_map, q]; rfl
      obtain ⟨u, e2⟩ := KV.at_key kv e1
      obtain ⟨e, e3, e4⟩ := pairs_at pr e2
      rw [Array.getElem?_toList] at e3
      obtain ⟨k, hk1, hk2⟩ := ks e (Array.mem_of_getElem? e3)
      have : k = .inl p.1 := (mixKind P w).inj _ _ _ hk1 e4
      subst this
      rcases keyIs_shape (k := .inl p.1) (v := e.key) e4 with ⟨j, t, z, e5⟩ | ⟨x, t, z, e5⟩
      · cases z
        exact ⟨e, t, e3, e5, hk2⟩
      · cases z
theorem call_setD (hc : X.calm = true) : CallR X (.type "set") rSetD := by
  intro pins s σ H xs us Q I r h
  obtain ⟨d, es, rfl, hd, nd, hl, q⟩ := h
  obtain ⟨u, rfl, ru⟩ := vals1 r
  obtain rfl : u = Value.ref d := ru
  obtain ⟨_, hs, vs, kv, o, ed, ep, ho, hx, hdt, ks, pr, _⟩ := dk_of I.hok hd
  refine call_set_dict (keys es) ho hx.1 hdt hs (int_keys kv ks pr) nd (by rw [keys_len]; exact hl) fun h' R k => ?_
  have R2 : SetR X.w h' s.heap.objs.size (has es) es.length := by
    rw [keys_len] at R
    refine R.congr fun j => ?_
    cases q : has es j with
    | true => rw [decide_eq_true (has_iff.mp q)]
    | false => rw [decide_eq_false fun z => by rw [has_iff.mpr z] at q; cases q]
  exact ⟨.ref _, upd H s.heap.objs.size (.set (has es) es.length), I.laid (t' := s.toks) k (Nat.le_refl _) R2.setOf, rfl, q _ (I.hok.fresh (Nat.le_refl _))⟩
def rEqSet : R2 := fun x y H Q => ∃ a b S n, x = .ref a ∧ y = .ref b ∧ H a = some (.set S n) ∧ H b = some (.set S n) ∧ Q (.bl true) H
theorem op_eqSet (hu : X.A.units + 1 < cLine) : OpR X (compareOp .Eq) rEqSet := by
  intro pins s σ H x y v u Q I rx ry h
  obtain ⟨a, b, S, n, rfl, rfl, ha, hb, q⟩ := h
  cases rx; cases ry
  exact set_eq (I.hok a _ ha) (I.hok b _ hb) (Nat.lt_of_succ_lt hu) ⟨.bl true, H, I, rfl, q⟩
end
end My
set_option Elab.async false
set_option maxRecDepth 100000
set_option maxHeartbeats 4000000
set_option linter.unusedVariables false
namespace My
open PySem PySem.Spec PyProof.Rows L2


def Ent (h : Heap) (v : Value) (x : Int) (y : Str) : Prop := ∃ a o t u n, v = .ref a ∧ h.get? a = some o ∧ o.cls = .type "tuple" ∧ o.data = .seq #[.int x t, .str y u] n
theorem Ent.keeps {h h' : Heap} {v : Value} {x : Int} {y : Str} (p : Ent h v x y) (k : ∀ b o, h.get? b = some o → o.cls = .type "tuple" → h'.get? b = some o) : Ent h' v x y := by
  obtain ⟨a, o, t, u, n, e, ho, hc, hd⟩ := p
  exact ⟨a, o, t, u, n, e, k a o ho hc, hc, hd⟩
theorem ent_firsts {h : Heap} : ∀ {vs : List Value}, (∀ v ∈ vs, ∃ x y, Ent h v x y) → ∃ fs : List Value, PySem.W.KatTups h vs fs ∧ fs.length = vs.length ∧ ∀ f ∈ fs, ∃ x t, f = Value.int x t
  | [], _ => ⟨[], .nil, rfl, fun _ hm => (nomatch hm)⟩
  | v :: vs, hp => by
    obtain ⟨fs, h1, h2, h3⟩ := ent_firsts (vs := vs) fun z hz => hp z (List.mem_cons_of_mem _ hz)
    obtain ⟨x, y, a, o, t, u, n, rfl, ho, hc, hd⟩ := hp v List.mem_cons_self
    refine ⟨Value.int x t :: fs, .cons ho hc hd rfl h1, congrArg Nat.succ h2, ?_⟩
    intro f hf
    rcases List.mem_cons.mp hf with e | hf
    · exact ⟨x, t, e⟩
    · exact h3 f hf
section
variable {P : Program} {w : World} {A : Around} {E : Value → Shared → Prop} {s : Shared}
theorem ent_cmp {vs : List Value} {k : Value → Int} {y : Value → Str} (hp : ∀ v ∈ vs, Ent s.heap v (k v) (y v)) (one : ∀ v ∈ vs, ∀ u ∈ vs, k v = k u → y v = y u) :
    SrtO.Cmp P w A s (tuples' true) (fun p => p.1 ∈ vs) (SrtO.lt2 fun v u => decide (k v < k u)) := by
  intro p q hm hm'
  have h1 := hp _ hm
  have h2 := hp _ hm'
  have h3 := one _ hm _ hm'
  show wpAny (model P w) A (keyLt' (tuples' true) p.1 q.1) (fun r s' => s' = s ∧ r = decide (k p.1 < k q.1)) (fun _ _ => False) s
  generalize k p.1 = x1 at h1 h3 ⊢
  generalize k q.1 = x2 at h2 h3 ⊢
  generalize y p.1 = y1 at h1 h3
  generalize y q.1 = y2 at h2 h3
  obtain ⟨a, o, t, u, n, e, ho, hc, hd⟩ := h1
  obtain ⟨b, o', t', u', n', e', ho', hc', hd'⟩ := h2
  rw [e, e']
  refine PySem.W.kat_lt ho hd ho' hd' ?_
  show PySem.W.KatLex P w A true (decide (2 < 2)) _ [(.int x1 t, .int x2 t'), (.str y1 u, .str y2 u')] 0 s
  refine PySem.W.kat_cons (SeqAt.EqAt.int_int x1 t x2 t' P w _ _ (PySem.W.kat_go (fun e1 => ?_) fun e1 => ?_))
  · have ex : x1 = x2 := by simpa using e1
    have ey := h3 ex
    subst ex
    subst ey
    refine PySem.W.kat_yes (PySem.W.kat_cons (SeqAt.EqAt.str_str y1 u y1 u' P w _ _ (PySem.W.kat_go (fun _ => ?_) fun e2 => ?_)))
    · exact PySem.W.kat_yes (PySem.W.kat_nil ⟨rfl, (decide_eq_false (Int.lt_irrefl _)).symm⟩)
    · simp at e2
  · exact PySem.W.kat_no (oneLt_int ⟨rfl, rfl⟩)
theorem swo_key (k : Value → Int) : SrtO.Swo fun v u => decide (k v < k u) := by
  refine ⟨fun x y h => ?_, fun x y z h1 h2 => ?_⟩
  · have := of_decide_eq_true h
    exact decide_eq_false (by omega)
  · have a := of_decide_eq_false h1
    have b := of_decide_eq_false h2
    exact decide_eq_false (by omega)
theorem ent_sortable {a : Addr} {vs : List Value} {k : Value → Int} {y : Value → Str} (h0 : 0 < vs.length) (hp : ∀ v ∈ vs, Ent s.heap v (k v) (y v)) (one : ∀ v ∈ vs, ∀ u ∈ vs, k v = k u → y v = y u)
    (ha : ∀ o, s.heap.get? a = some o → o.cls ≠ .type "tuple") : SrtO.SortableO P w A s a vs fun v u => decide (k v < k u) := by
  intro h' keep
  have hp2 : ∀ v ∈ vs, Ent h' v (k v) (y v) := fun v hm => (hp v hm).keeps fun b o e c => keep b o (fun z => by rw [z] at e; exact ha o e c) e
  obtain ⟨fs, h1, h2, h3⟩ := ent_firsts fun v hm => ⟨_, _, hp2 v hm⟩
  refine ⟨tuples' true, fun Q E hq => ?_, ent_cmp hp2 one⟩
  refine PySem.W.kat_kind (T := .type "int") h1 (by omega) (fun f hm => ?_) rfl ?_
  · obtain ⟨x, t, rfl⟩ := h3 f hm
    exact PySem.W.Looks.now
  · rw [show (Value.type "int" != Value.type "tuple") = true by decide]
    exact hq
end
end My
set_option Elab.async false
set_option maxRecDepth 100000
set_option maxHeartbeats 4000000
set_option linter.unusedVariables false
namespace My
open PySem PySem.Spec PyProof.Rows L2 L2.DX

def rItemsK : V → List V → Hp → VK → Prop := fun x xs H Q => ∃ (a : Addr) (kvs : List (Key × V)), x = .ref a ∧ xs = [] ∧ H a = some (.dK kvs) ∧ ∀ p, H p = none → Q (.ref p) (upd H p (itemsO p a))
inductive TupS (H : Hp) : List V → List (Int × Str) → Prop
  | nil : TupS H [] []
  | cons {a : Addr} {k : Int} {x : Str} {vs : List V} {es : List (Int × Str)} (h : H a = some (.tup [.int k, .str x])) (r : TupS H vs es) : TupS H (.ref a :: vs) ((k, x) :: es)
def rSortE : List V → Hp → VK → Prop := fun vs H Q => ∃ (p d : Addr) (es : List (Int × Str)), vs = [.ref p] ∧ H p = some (itemsO p d) ∧ H d = some (.dK (ents es)) ∧ (keys es).Nodup ∧ es.length ≤ 1000 ∧
  ∀ (H' : Hp) (l : Addr) (ts : List V) (es' : List (Int × Str)), Same H H' → H' l = some (.lst ts) → TupS H' ts es' → es'.Perm es → es'.Pairwise (fun p q => p.1 < q.1) → Q (.ref l) H'
theorem perm_map {α β : Type} (f : α → β) {l : List α} {out : List β} (h : out.Perm (l.map f)) : ∃ zs : List α, zs.Perm l ∧ zs.map f = out := by
  generalize e : l.map f = m at h
  induction h generalizing l with
  | nil => exact ⟨[], by rw [List.map_eq_nil_iff.mp e], rfl⟩
  | cons x _ ih =>
    match l, e with
    | a :: r, e =>
      rw [List.map_cons] at e
      injection e with e1 e2
      obtain ⟨zs, h1, h2⟩ := ih e2
      exact ⟨a :: zs, h1.cons a, by rw [List.map_cons, h2, e1]⟩
  | swap x y t =>
    match l, e with
    | a :: b :: r, e =>
      rw [List.map_cons, List.map_cons] at e
      injection e with e1 e2
      injection e2 with e2 e3
      exact ⟨b :: a :: r, List.Perm.swap _ _ _, by rw [List.map_cons, List.map_cons, e1, e2, e3]⟩
  | trans _ _ ih1 ih2 =>
    obtain ⟨z2, h1, h2⟩ := ih2 e
    obtain ⟨z1, h3, h4⟩ := ih1 h2
    exact ⟨z1, h3.trans h1, h4⟩
def keyIn (h : Heap) (v : Value) : Int := match v with
  | .ref a => (match h.get? a with
    | some o => (match o.data with
      | .seq its _ => (match (its[0]? : Option Value) with
        | some (Value.int x _) => x
        | _ => 0)
      | _ => 0)
    | none => 0)
  | _ => 0
def txtIn (h : Heap) (v : Value) : Str := match v with
  | .ref a => (match h.get? a with
    | some o => (match o.data with
      | .seq its _ => (match (its[1]? : Option Value) with
        | some (Value.str x _) => x
        | _ => Str.empty)
      | _ => Str.empty)
    | none => Str.empty)
  | _ => Str.empty
theorem tupS_of {H : Hp} : ∀ zs : List (Addr × Int × Str), (∀ z ∈ zs, H z.1 = some (.tup [.int z.2.1, .str z.2.2])) → TupS H (zs.map fun z => V.ref z.1) (zs.map (·.2))
  | [], _ => .nil
  | z :: zs, h => .cons (h z List.mem_cons_self) (tupS_of zs fun y hy => h y (List.mem_cons_of_mem _ hy))
theorem ent_of {P : Program} {w : World} {es : List (Int × Str)} {vs : List (Key × Value)} {ed : Array DictEntry} (kv : KV (ents es) vs) (pr : PySem.Pairs (mixKind P w) ed.toList vs) {i : Nat} {n : Int} {x : Str} (h : es[i]? = some (n, x)) :
    ∃ (e : DictEntry) (t u : Tok), ed[i]? = some e ∧ e.key = Value.int n t ∧ e.val = Value.str x u := by
  have e1 : (ents es)[i]? = some (.inl n, .str x) := by unfold ents; rw [List.getElem?_map, h]; rfl
  have kv2 : ∀ {kvs : List (Key × V)} {vs : List (Key × Value)}, KV kvs vs → ∀ {i : Nat} {k : Key} {x : Str}, kvs[i]? = some (k, .str x) → ∃ u, vs[i]? = some (k, .str x u) := by
    intro kvs vs r
    unfold KV at r
    induction r with
    | nil => intro i k x h; simp at h
    | cons h r ih =>
      intro i k x e
      cases i with
      | zero =>
        cases Option.some.inj e
        rename_i b _ _
        obtain ⟨b1, b2⟩ := b
        obtain ⟨h1, u, h2⟩ := h
        dsimp only at h1 h2
        subst h1 h2
        exact ⟨u, rfl⟩
      | succ i => exact ih e
  have pr2 : ∀ {l : List DictEntry} {vs : List (Key × Value)}, PySem.Pairs (mixKind P w) l vs → ∀ {i : Nat} {k : Key} {u : Value}, vs[i]? = some (k, u) → ∃ e, l[i]? = some e ∧ (mixKind P w).is k e.key = true ∧ e.val = u := by
    intro l vs r
    induction r with
    | nil => intro i k v h; simp at h
    | cons h1 h2 r ih =>
      intro i k v e
      cases i with
      | zero =>
        cases Option.some.inj e
        exact ⟨_, rfl, h1, h2⟩
      | succ i => exact ih e
  obtain ⟨u, e2⟩ := kv2 kv e1
  obtain ⟨e, e3, e4, e5⟩ := pr2 pr e2
  rw [Array.getElem?_toList] at e3
  rcases keyIs_shape (k := .inl n) (v := e.key) e4 with ⟨j, t, z, e6⟩ | ⟨_, _, z, _⟩
  · cases z
    exact ⟨e, t, u, e3, e6, e5⟩
  · cases z
section
variable {X : Cx}
theorem mt_itemsK : L2.MtR X "dict.items" rItemsK := by
  intro pins s σ H x xs v us Q I rx rxs h
  obtain ⟨a, kvs, rfl, rfl, ha, q⟩ := h
  cases rx
  cases rxs
  obtain ⟨_, hd, _, _, o, ed, ep, ho, hx, hdt, _⟩ := dk_of I.hok ha
  refine DT.callItems (es := ed) (ep := ep) hd ⟨o, ho, hx, hdt⟩ ?_
  have free : H s.heap.objs.size = none := I.hok.fresh (Nat.le_refl _)
  refine ⟨.ref s.heap.objs.size, _, I.laid (t' := s.toks) (fun b u e => Heap.get?_push_of_some _ e) (Nat.le_refl _) (itemsO_ok (d := a) (Heap.get?_push_size _ rfl)), rfl, q _ free⟩
theorem cr_sortedE (hc : X.calm = true) : CallR X (.builtin "sorted") rSortE := by
  intro pins s σ H xs us Q I r h
  obtain ⟨p, d, es, rfl, hp, hd, nd, hlen, q⟩ := h
  obtain rfl := Vals.ref1 r
  have view : s.heap.IsItemsView p d := (show ObjOk X.prog X.w H s.heap p (itemsO p d) from I.hok p _ hp).1
  obtain ⟨_, hs, vs, kv, o, ed, ep, ho, hx, hdt, ks, pr, _⟩ := dk_of I.hok hd
  have size : ed.size = es.length := by rw [← Array.length_toList, pairs_len pr, ← kv_len kv, ents_len]
  refine DT.sortedI (es := ed) (ep := ep) (I.ok.hd hc) view ⟨o, ho, hx, hdt⟩ (by rw [size]; exact size_ok (by omega)) fun h' tk as hk hlt hl hG => ?_
  have la : as.length = es.length := hl.trans size
  have nda : as.Nodup := List.Pairwise.imp (fun h => Nat.ne_of_lt h) hG.rise
  have made : ∀ (j : Nat) (b : Addr), as[j]? = some b → ∃ n x t u, es[j]? = some (n, x) ∧ h'.get? b = some { cls := .type "tuple", data := .seq #[Value.int n t, Value.str x u] } := by
    intro j b hj
    obtain ⟨e, he, hb⟩ := hG.pairs j b hj
    have hj2 : j < es.length := by rw [← la]; exact (List.getElem?_eq_some_iff.mp hj).1
    have hj3 : es[j]? = some (es[j].1, es[j].2) := List.getElem?_eq_getElem hj2
    obtain ⟨e2, t, u, h1, h2, h3⟩ := ent_of kv pr hj3
    obtain rfl := Option.some.inj (he.symm.trans h1)
    exact ⟨_, _, t, u, hj3, by rw [hb, h2, h3]⟩
  have hget : ∀ (b : Addr), b ∈ as → ∃ (j : Nat) (n : Int) (x : Str) (t u : Tok), as[j]? = some b ∧ es[j]? = some (n, x) ∧ h'.get? b = some { cls := .type "tuple", data := .seq #[Value.int n t, Value.str x u] } := by
    intro b hb
    obtain ⟨j, hj⟩ := List.mem_iff_getElem?.mp hb
    obtain ⟨n, x, t, u, h1, h2⟩ := made j b hj
    exact ⟨j, n, x, t, u, hj, h1, h2⟩
  have kk : ∀ {b : Addr} {n : Int} {x : Str} {t u : Tok}, h'.get? b = some { cls := .type "tuple", data := .seq #[Value.int n t, Value.str x u] } → keyIn h' (.ref b) = n ∧ txtIn h' (.ref b) = x := by
    intro b n x t u e
    unfold keyIn txtIn
    dsimp only
    rw [e]
    exact ⟨rfl, rfl⟩
  have old : ∀ b o, h'.get? b = some o → b ≠ h'.objs.size := fun b o e => Nat.ne_of_lt (Heap.lt_size e)
  have hob : (h'.push { cls := .type "list", data := .seq (as.map Value.ref).toArray }).get? h'.objs.size = some (seqObj "list" (as.map Value.ref).toArray 0) := Heap.get?_push_size _ rfl
  have ka : ∀ b o, h'.get? b = some o → (h'.push { cls := .type "list", data := .seq (as.map Value.ref).toArray }).get? b = some o := fun b o e => Heap.get?_push_of_some _ e
  generalize h'.push { cls := .type "list", data := .seq (as.map Value.ref).toArray } = h2 at hob ka ⊢
  have hz : (as.map Value.ref).length ≤ sizeLine := by rw [List.length_map, la]; exact size_ok (by omega)
  have ents2 : ∀ v ∈ as.map Value.ref, Ent h2 v (keyIn h' v) (txtIn h' v) := by
    intro v hv
    obtain ⟨b, hb, rfl⟩ := List.mem_map.mp hv
    obtain ⟨j, n, x, t, u, _, _, e⟩ := hget b hb
    rw [(kk e).1, (kk e).2]
    exact ⟨b, _, t, u, _, rfl, ka _ _ e, rfl, rfl⟩
  have one : ∀ v ∈ as.map Value.ref, ∀ u ∈ as.map Value.ref, keyIn h' v = keyIn h' u → txtIn h' v = txtIn h' u := by
    intro v hv u hu e
    obtain ⟨b, hb, rfl⟩ := List.mem_map.mp hv
    obtain ⟨c, hc2, rfl⟩ := List.mem_map.mp hu
    obtain ⟨j, n, x, t1, u1, _, e1, g1⟩ := hget b hb
    obtain ⟨i, m, y, t2, u2, _, e2, g2⟩ := hget c hc2
    rw [(kk g1).1, (kk g2).1] at e
    subst e
    rw [(kk g1).2, (kk g2).2]
    have l1 := look_ents nd (List.mem_of_getElem? e1)
    have l2 := look_ents nd (List.mem_of_getElem? e2)
    dsimp only at l1 l2
    rw [l1] at l2
    exact Option.some.inj l2
  refine wpAny_call_entry PyProof.Rows.slot_list_sort ⟨_, hob, rfl⟩ PyProof.Rows.entry_list_sort
    (SrtO.list_sort_ord (s := { s with heap := h2, toks := tk }) (swo_key (keyIn h')) hob hz (fun n2 => ent_sortable (by omega) ents2 one fun o e => ?_) fun out o1 o2 => ⟨.none, rfl, ?_⟩) (PyProof.Rows.args_list_sort _)
  · cases hob.symm.trans e
    intro z
    injection z with z
    revert z
    decide
  · show EP X pins σ Q (.ref h'.objs.size) { s with heap := sortedHeap h2 h'.objs.size (as.map Value.ref) out.toArray, toks := tk }
    have ez : (as.zip es).map (fun z => Value.ref z.1) = as.map Value.ref := by
      have q : (as.zip es).map (·.1) = as := List.map_fst_zip (by omega)
      rw [show (fun z : Addr × Int × Str => Value.ref z.1) = Value.ref ∘ (·.1) from rfl, ← List.map_map, q]
    obtain ⟨zs, pz, eo⟩ := perm_map (fun z : Addr × Int × Str => Value.ref z.1) (l := as.zip es) (out := out) (by rw [ez]; exact o2.perm)
    have at_ : ∀ z ∈ zs, ∃ j : Nat, as[j]? = some z.1 ∧ es[j]? = some z.2 := by
      intro z hz
      obtain ⟨j, hj⟩ := List.mem_iff_getElem?.mp (pz.mem_iff.mp hz)
      exact ⟨j, List.getElem?_zip_eq_some.mp hj⟩
    have pes : (zs.map (·.2)).Perm es := by
      have e := pz.map (·.2)
      rw [List.map_snd_zip (by omega)] at e
      exact e
    have key : ∀ z ∈ zs, keyIn h' (.ref z.1) = z.2.1 := by
      intro z hz
      obtain ⟨j, j1, j2⟩ := at_ z hz
      obtain ⟨n, x, t, u, e1, e2⟩ := made j z.1 j1
      rw [(kk e2).1]
      rw [j2] at e1
      rw [Option.some.inj e1]
    have srt : (zs.map (·.2)).Pairwise (fun p q => p.1 < q.1) := by
      have le : (zs.map (·.2)).Pairwise (fun p q => p.1 ≤ q.1) := by
        rw [← eo] at o1
        rw [List.pairwise_map]
        refine List.Pairwise.imp_of_mem (fun {a b} ha hb h => ?_) (List.pairwise_map.mp o1)
        have := of_decide_eq_false h
        rw [key a ha, key b hb] at this
        omega
      have nd2 : ((zs.map (·.2)).map (fun p : Int × Str => p.1)).Nodup := ((pes.map (fun p : Int × Str => p.1)).nodup_iff).mpr nd
      have ne : (zs.map (·.2)).Pairwise (fun p q => p.1 ≠ q.1) := List.pairwise_map.mp nd2
      exact (List.Pairwise.and le ne).imp fun h => by have := h.1; have := h.2; omega
    have kF : ∀ b o, b ≠ h'.objs.size → h2.get? b = some o → (sortedHeap h2 h'.objs.size (as.map Value.ref) out.toArray).get? b = some o :=
      fun b o nb e => (PyProof.Rows.sortedHeap_old nb (Heap.lt_size e)).trans e
    obtain ⟨eF, heF⟩ := PyProof.Rows.sortedHeap_at (vs := as.map Value.ref) (out := out.toArray) hob
    have I1 : Inv X pins σ H { s with heap := sortedHeap h2 h'.objs.size (as.map Value.ref) out.toArray, toks := tk } :=
      I.kept (t' := tk) fun b o e => kF b o (old _ _ (hk b o e)) (ka b o (hk b o e))
    have hn : H h'.objs.size = none := I.hok.fresh (Nat.le_of_lt hlt)
    have lz : zs.length = es.length := by
      have := pes.length_eq
      rw [List.length_map] at this
      exact this
    have rv : Vals (zs.map fun z => V.ref z.1) out := by
      rw [← eo]
      exact vals_maps (fun z : Addr × Int × Str => V.ref z.1) (fun z => Value.ref z.1) zs fun _ _ => rfl
    have I2 : Inv X pins σ (upd H h'.objs.size (.lst (zs.map fun z => V.ref z.1))) { s with heap := sortedHeap h2 h'.objs.size (as.map Value.ref) out.toArray, toks := tk } :=
      I1.take (h' := sortedHeap h2 h'.objs.size (as.map Value.ref) out.toArray) (t' := tk) (fun b ob _ e => e) (I.fpOk (Nat.le_of_lt hlt) hn)
        ⟨by rw [List.length_map, lz]; exact size_ok (by omega), out, eF, rv, by simpa using heF⟩
    obtain ⟨H2, I3, g, qt⟩ := takeT (P := fun b vs => ∃ (j : Nat) (n : Int) (x : Str), as[j]? = some b ∧ es[j]? = some (n, x) ∧ vs = [.int n, .str x]) I as _ I2 nda fun b hb => by
      obtain ⟨j, n, x, t, u, j1, j2, e⟩ := hget b hb
      have lb : s.heap.objs.size ≤ b := Nat.le_of_lt (hG.above b hb)
      refine ⟨lb, ?_, [.int n, .str x], ⟨j, n, x, j1, j2, rfl⟩, fun H3 => ⟨size_ok (by simp), [Value.int n t, Value.str x u], .cons ⟨_, rfl⟩ (.cons ⟨_, rfl⟩ .nil), ⟨_, kF _ _ (old _ _ e) (ka _ _ e), rfl, 0, rfl⟩⟩⟩
      rw [upd_ne (old _ _ e)]
      exact I.hok.fresh lb
    have gr : Same H H2 := fun b o e => g b o ((upd_ne (ne_of_none e hn)).trans e)
    refine ⟨.ref h'.objs.size, H2, I3, rfl, q H2 h'.objs.size _ _ gr (g _ _ upd_same) (tupS_of zs fun z hz => ?_) pes srt⟩
    obtain ⟨i, i1, i2⟩ := at_ z hz
    obtain ⟨vs, ⟨j, n, x, j1, j2, rfl⟩, hH⟩ := qt z.1 (List.mem_of_getElem? i1)
    have eij : i = j := (List.getElem?_inj (List.getElem?_eq_some_iff.mp i1).1 nda).mp (i1.trans j1.symm)
    subst eij
    rw [i2] at j2
    rw [Option.some.inj j2]
    exact hH
end
end My
set_option Elab.async false
set_option maxRecDepth 100000
set_option maxHeartbeats 4000000
set_option linter.unusedVariables false
namespace My
open PySem PySem.Spec PyProof.Rows L2 L2.DX

theorem int_small {n : Int} (h : 0 ≤ n ∧ n ≤ 999999) : (PyData.int n).weight ≤ 100000 := by
  have b : (if (n == 0) = true then 0 else n.natAbs.log2 + 1) ≤ 21 := by
    split
    · omega
    · rename_i z
      have nz : n.natAbs ≠ 0 := by
        intro q
        apply z
        rw [Int.natAbs_eq_zero.mp q]
        rfl
      have := (Nat.log2_lt nz (k := 20)).mpr (by omega)
      omega
  exact Nat.le_trans b (by decide)
def without (es : List (Int × Str)) (k : Int) : List (Int × Str) := es.filter fun p => !decide (p.1 = k)
def spMem (C : Addr) : Sp := fun vs H Q _ => ∃ U a es, vs = [.ref a] ∧ FS C U H a es ∧
  ∀ (H' : Hp) (l : Addr) (ts : List V) (es' : List (Int × Str)), Same H H' → H' l = some (.lst ts) → TupS H' ts es' → es'.Perm es → es'.Pairwise (fun p q => p.1 < q.1) → Q (.ref l) H'
def spHas (C : Addr) : Sp := fun vs H Q _ => ∃ U a es n, vs = [.ref a, .int n] ∧ FS C U H a es ∧ (0 ≤ n ∧ n ≤ 999999) ∧ ∀ H', Same H H' → Q (.bl (has es n)) H'
def spWith (K : PySem.W.Frag) (C : Addr) : Sp := fun vs H Q _ => ∃ U a t es n x, vs = [.ref a, .ref t] ∧ FS C U H a es ∧ SqT K H t [.int n, .str x] ∧ (0 ≤ n ∧ n ≤ 999999) ∧ nameOk x = true ∧ n ∈ U ∧
  ∀ d H', Same H H' → FS C U H' d (united es [(n, x)]) → Q (.ref d) H'
def spLess (C : Addr) : Sp := fun vs H Q _ => ∃ U a es n, vs = [.ref a, .int n] ∧ FS C U H a es ∧ (0 ≤ n ∧ n ≤ 999999) ∧
  ∀ d H', Same H H' → FS C U H' d (without es n) → Q (.ref d) H'
theorem drop_ents (es : List (Int × Str)) (k : Int) : dropK (ents es) (.inl k) = ents (without es k) := by
  unfold dropK ents without
  rw [List.filter_map]
  congr 1
  refine List.filter_congr fun p _ => ?_
  show decide ((Sum.inl p.1 : Key) ≠ .inl k) = !decide (p.1 = k)
  by_cases e : p.1 = k
  · rw [e]; simp
  · rw [decide_eq_false e]
    exact decide_eq_true fun z => e (Sum.inl.inj z)
theorem without_id {es : List (Int × Str)} {k : Int} (h : has es k = false) : without es k = es := by
  unfold without
  rw [List.filter_eq_self]
  intro p hp
  have : p.1 ≠ k := fun e => by
    have q : k ∈ keys es := by rw [← e]; exact List.mem_map_of_mem hp
    rw [← has_iff] at q
    rw [h] at q
    cases q
  rw [decide_eq_false this]; rfl
theorem look_without (es : List (Int × Str)) (k n : Int) : look (without es k) n = if n = k then none else look es n := by
  unfold without
  rw [look_filter fun q => !decide (q = k)]
  by_cases e : n = k
  · rw [if_pos e, e]; simp
  · rw [if_neg e, decide_eq_false e]; rfl

def tupD (p : Int × Str) : PyData := .tuple [.int p.1, .str p.2]
theorem tupS_dp {K : PySem.W.Frag} {H : Hp} : ∀ {ts : List V} {es : List (Int × Str)}, TupS H ts es → DpAll K H ts (es.map tupD)
  | _, _, .nil => .nil
  | _, _, .cons h r => .cons (.tup (.inl (.inl h)) (.cons (.int _) (.cons (.str _) .nil))) (tupS_dp r)
theorem tupS_same {H H' : Hp} (s : Same H H') : ∀ {ts : List V} {es : List (Int × Str)}, TupS H ts es → TupS H' ts es
  | _, _, .nil => .nil
  | _, _, .cons h r => .cons (s _ _ h) (tupS_same s r)
theorem tupS_chg {H H' : Hp} {a : Addr} {ls : List V} (e : H a = some (.lst ls)) (x : Ext a H H') : ∀ {ts : List V} {es : List (Int × Str)}, TupS H ts es → TupS H' ts es
  | _, _, .nil => .nil
  | _, _, .cons h r => .cons (x _ _ (fun z => by rw [z, e] at h; cases h) h) (tupS_chg e x r)
theorem tupS_app {H : Hp} {t : Addr} {k : Int} {x : Str} (h : H t = some (.tup [.int k, .str x])) : ∀ {ts : List V} {es : List (Int × Str)}, TupS H ts es → TupS H (ts ++ [.ref t]) (es ++ [(k, x)])
  | _, _, .nil => .cons h .nil
  | _, _, .cons h1 r => .cons h1 (tupS_app h r)
theorem name_lay {x : Str} (h : nameOk x = true) : PyData.canLay0 (.str x) = true := by
  rcases (name_sm h).2 with q | ⟨_, q⟩
  · exact q
  · cases q
def NE (es : List (Int × Str)) : Prop := ∀ p ∈ es, nameOk p.2 = true
theorem lay_tups : ∀ {es : List (Int × Str)}, NE es → PyData.canLayAll0 (es.map tupD) = true
  | [], _ => rfl
  | p :: r, h => by
    show ((PyData.canLay0 (.int p.1) && (PyData.canLay0 (.str p.2) && true)) && PyData.canLayAll0 (r.map tupD)) = true
    rw [lay_tups fun q hq => h q (List.mem_cons_of_mem _ hq), name_lay (h p List.mem_cons_self)]
    rfl
theorem deep_tups : ∀ es : List (Int × Str), PyData.depthAll (es.map tupD) ≤ 1
  | [] => by decide
  | p :: r => by
    show max (PyData.depth (tupD p)) (PyData.depthAll (r.map tupD)) ≤ 1
    exact Nat.max_le.mpr ⟨Nat.le_of_eq rfl, deep_tups r⟩
theorem shaped_tups {es : List (Int × Str)} (h : NE es) : SeqAt.shaped (.list (es.map tupD)) = true := by
  show (PyData.canLayAll0 (es.map tupD) && decide (PyData.depthAll (es.map tupD) + 1 ≤ 64)) = true
  have := deep_tups es
  rw [lay_tups h, decide_eq_true (by omega)]
  rfl
theorem eqv_tups {es : List (Int × Str)} (h : NE es) : PyData.eqv (.list (es.map tupD)) (.list (es.map tupD)) = true :=
  PySem.SeqAt.eqv_refl _ (lay_tups h)

theorem sorted_eq {es ds es' : List (Int × Str)} {ks : List Int} (ne : (keys es).Nodup) (nd : (keys ds).Nodup) (hl : ∀ k, look es k = look ds k) (p1 : es'.Perm es) (s1 : es'.Pairwise (fun p q => p.1 < q.1))
    (p2 : ks.Perm (keys ds)) (s2 : ks.Pairwise (· ≤ ·)) : es' = ks.map fun k => (k, (look ds k).getD Str.empty) := by
  have hk : (keys es).Perm (keys ds) := by
    refine (List.perm_ext_iff_of_nodup ne nd).mpr fun k => ?_
    rw [← has_iff, ← has_iff]
    unfold has
    rw [hl]
  have e1 : (keys es').Perm ks := ((p1.map (fun p : Int × Str => p.1)).trans hk).trans p2.symm
  have s3 : (keys es').Pairwise (· ≤ ·) := List.pairwise_map.mpr (s1.imp fun h => Int.le_of_lt h)
  have e2 : keys es' = ks := PySem.W.os_sorted_one e1 s3 s2
  rw [← e2]
  unfold keys
  rw [List.map_map]
  have : ∀ p ∈ es', p = (p.1, (look ds p.1).getD Str.empty) := by
    intro p hp
    have l := look_ents ne (p1.mem_iff.mp hp)
    rw [← hl, l]
    rfl
  exact (List.map_id _).symm.trans (List.map_congr_left this)

def spIsIt (C : Addr) : Sp := fun vs H Q _ => ∃ U V2 x d es ds, vs = [.ref x, .ref d] ∧ FS C U H x es ∧ FD V2 H d ds ∧ ds.length < 64 ∧ NE ds ∧ (∀ k, look es k = look ds k) ∧ ∀ H', Same H H' → Q (.bl true) H'
def spPart : Sp := fun vs H Q _ => ∃ U V2 a b c es fs, vs = [.ref a, .ref b, .bl c] ∧ FD U H a es ∧ FD V2 H b fs ∧ ∀ d H', H d = none → Same H H' → FD U H' d (if c = true then common es fs else rest es fs) → Q (.ref d) H'
inductive FDs (U : List Int) (H : Hp) : List V → List (List (Int × Str)) → Prop
  | nil : FDs U H [] []
  | cons {x : Addr} {es : List (Int × Str)} {vs : List V} {ls : List (List (Int × Str))} (h : FD U H x es) (r : FDs U H vs ls) : FDs U H (.ref x :: vs) (es :: ls)
theorem FDs.same {U : List Int} {H H' : Hp} (s : Same H H') : ∀ {vs : List V} {ls : List (List (Int × Str))}, FDs U H vs ls → FDs U H' vs ls
  | _, _, .nil => .nil
  | _, _, .cons h r => .cons (h.same s) (FDs.same s r)
theorem FDs.len {U : List Int} {H : Hp} : ∀ {vs : List V} {ls : List (List (Int × Str))}, FDs U H vs ls → vs.length = ls.length
  | _, _, .nil => rfl
  | _, _, .cons _ r => by rw [List.length_cons, List.length_cons, r.len]
theorem FDs.at {U : List Int} {H : Hp} : ∀ {vs : List V} {ls : List (List (Int × Str))} {i : Nat} {v : V}, FDs U H vs ls → vs[i]? = some v → ∃ x es, v = .ref x ∧ ls[i]? = some es ∧ FD U H x es
  | _, _, i, v, .nil, h => by simp at h
  | _, _, 0, v, .cons h1 r, h => by
    cases Option.some.inj h
    exact ⟨_, _, rfl, rfl, h1⟩
  | _, _, i + 1, v, .cons h1 r, h => r.at h
def spJoined (K : PySem.W.Frag) : Sp := fun vs H Q _ => ∃ U l xs ess, vs = [.ref l] ∧ SqL K H l xs ∧ FDs U H xs ess ∧ U.length ≤ 1000 ∧ ∀ d H', Same H H' → FD U H' d (joinAll [] ess) → Q (.ref d) H'
def spRow (K : PySem.W.Frag) : Sp := fun vs H Q _ => ∃ (a b : Addr) (n m : Nat) (fl : List Str), vs = [.ref a, .int m, .ref b] ∧ Bag H a n ∧ n < 5000 ∧ 1 ≤ m ∧ m ≤ 20 ∧ H b = some (.lst (fl.map V.str)) ∧ 1 ≤ fl.length ∧ fl.length ≤ 10 ∧ (∀ x ∈ fl, nameOk x = true) ∧
  ∀ d es H', Same (del a H) (del a H') → Bag H' a (n + 100) → FD (below m) H' d es → NE es → Q (.ref d) H'
def spRows : Sp := fun vs H Q _ => ∃ (a : Addr) (n : Nat), vs = [.ref a] ∧ Bag H a n ∧ n < 1000 ∧
  ∀ l xs ess H', Same (del a H) (del a H') → Bag H' a (n + 1000) → H' l = some (.lst xs) → FDs (below 14) H' xs ess → (∀ es ∈ ess, NE es) → 2 ≤ xs.length → xs.length ≤ 5 → Q (.ref l) H'
def spJR (K : PySem.W.Frag) (C : Addr) : Sp := fun vs H Q _ => ∃ (l r : Addr) (xs ys : List V) (ess uss : List (List (Int × Str))), vs = [.ref l, .ref r] ∧ H l = some (.lst xs) ∧ FDs (below 14) H xs ess ∧ H r = some (.lst ys) ∧ FSs C (below 14) H ys uss ∧
  xs.length = ys.length ∧ 2 ≤ xs.length ∧ xs.length ≤ 5 ∧ (∀ es ∈ ess, NE es) ∧ (∀ (i : Nat) (e u : List (Int × Str)), ess[i]? = some e → uss[i]? = some u → ∀ j, look u j = look e j) ∧ ∀ H', Same H H' → Q (.bl true) H'
def spPR (C : Addr) : Sp := fun vs H Q _ => ∃ (a b x y : Addr) (es fs us ws : List (Int × Str)), vs = [.ref a, .ref b, .ref x, .ref y] ∧ FD (below 14) H a es ∧ FD (below 14) H b fs ∧ FS C (below 14) H x us ∧ FS C (below 14) H y ws ∧
  NE es ∧ NE fs ∧ (∀ k, look us k = look es k) ∧ (∀ k, look ws k = look fs k) ∧ ∀ H', Same H H' → Q (.bl true) H'
def spSR (C : Addr) : Sp := fun vs H Q _ => ∃ (a : Addr) (n : Nat) (d x : Addr) (es us : List (Int × Str)), vs = [.ref a, .ref d, .ref x] ∧ Bag H a n ∧ n < 5000 ∧ FD (below 14) H d es ∧ FS C (below 14) H x us ∧ NE es ∧ (∀ k, look us k = look es k) ∧
  ∀ H', Same (del a H) (del a H') → Bag H' a (n + 10) → Q (.bl true) H'
end My
set_option Elab.async false
set_option maxRecDepth 100000
set_option maxHeartbeats 4000000
set_option linter.unusedVariables false
namespace My
open PySem PySem.Spec PyProof.Rows L2 L2.DX

theorem for_keys {d : Addr} {od : Obj} {kvs : List (Key × V)} {g : TG} {tb : TS} {D : Ends} {σ : L2.St} {H : Hp} (Pv : Nat → L2.St → Hp → Prop)
    (h0 : Pv 0 σ H) (hl : ∀ i σ H, i ≤ kvs.length → Pv i σ H → H d = some (.frz od (.dK kvs)))
    (hs : ∀ i k v σ H, kvs[i]? = some (k, v) → Pv i σ H → g (kV k) σ H fun σ2 H2 => tb { D with nx := Pv (i + 1), ct := Pv (i + 1), bk := D.nx } σ2 H2)
    (hd : ∀ σ H, Pv kvs.length σ H → D.nx σ H) :
    ∃ W : Nat → Nat → L2.St → Hp → Prop, (∃ m, W 0 m σ H) ∧ ∀ i m σ H, W i m σ H → ((Itk d od kvs).stop i H ∧ D.nx σ H) ∨
      ((Itk d od kvs).go i H ∧ ∃ N : L2.St → Hp → Prop, (∀ σ' H', N σ' H' → ∃ m', m' < m ∧ W (i + 1) m' σ' H') ∧
        ∀ x H', (Itk d od kvs).yld i H x H' → g x σ H' fun σ2 H2 => tb { D with nx := N, ct := N, bk := D.nx } σ2 H2) := by
  refine ⟨fun i m σ H => i ≤ kvs.length ∧ m + i = kvs.length ∧ Pv i σ H, ⟨kvs.length, Nat.zero_le _, rfl, h0⟩, ?_⟩
  rintro i m σ H ⟨hi, hm, p⟩
  have q := hl i σ H hi p
  by_cases l : i < kvs.length
  · right
    refine ⟨⟨q, l⟩, Pv (i + 1), fun σ' H' z => ⟨m - 1, by omega, by omega, by omega, z⟩, ?_⟩
    rintro x H' ⟨rfl, k, v, e, rfl⟩
    exact hs i k v σ _ e p
  · left
    obtain rfl : i = kvs.length := by omega
    exact ⟨⟨q, Nat.le_refl _⟩, hd σ H p⟩
theorem lc_keys {d : Addr} {od : Obj} {kvs : List (Key × V)} {g : TG} {tt : TT} {te : TE} {vs : List Nat} {σ : L2.St} {H1 : Hp} {D : Addr} {Qd : Hp → Prop}
    (Pv : Nat → Hp → Prop) (h0 : Pv 0 (upd H1 D (.lst []))) (hl : ∀ i H, i ≤ kvs.length → Pv i H → H d = some (.frz od (.dK kvs)))
    (hs : ∀ i k v H, kvs[i]? = some (k, v) → Pv i H → g (kV k) (wipe σ vs) H fun σ2 H2 => wipe σ2 vs = wipe σ vs ∧ tt σ2 H2 fun b H3 =>
      if b = true then te σ2 H3 fun y H4 => ∃ acc, H4 D = some (.lst acc) ∧ acc.length < sizeLine ∧ Pv (i + 1) (upd H4 D (.lst (acc ++ [y]))) else Pv (i + 1) H3)
    (hd : ∀ H, Pv kvs.length H → Qd H) :
    ∃ W : Nat → Nat → Hp → Prop, (∃ m, W 0 m (upd H1 D (.lst []))) ∧ ∀ i m H, W i m H → ((Itk d od kvs).stop i H ∧ Qd H) ∨
      ((Itk d od kvs).go i H ∧ ∃ Nx : Hp → Prop, (∀ H', Nx H' → ∃ m', m' < m ∧ W (i + 1) m' H') ∧
        ∀ x H', (Itk d od kvs).yld i H x H' → g x (wipe σ vs) H' fun σ2 H2 => wipe σ2 vs = wipe σ vs ∧ tt σ2 H2 fun b H3 =>
          if b = true then te σ2 H3 fun y H4 => ∃ acc, H4 D = some (.lst acc) ∧ acc.length < sizeLine ∧ Nx (upd H4 D (.lst (acc ++ [y]))) else Nx H3) := by
  refine ⟨fun i m H => i ≤ kvs.length ∧ m + i = kvs.length ∧ Pv i H, ⟨kvs.length, Nat.zero_le _, rfl, h0⟩, ?_⟩
  rintro i m H ⟨hi, hm, p⟩
  have q := hl i H hi p
  by_cases l : i < kvs.length
  · right
    refine ⟨⟨q, l⟩, Pv (i + 1), fun H' z => ⟨m - 1, by omega, by omega, by omega, z⟩, ?_⟩
    rintro x H' ⟨rfl, k, v, e, rfl⟩
    exact hs i k v _ e p
  · left
    obtain rfl : i = kvs.length := by omega
    exact ⟨⟨q, Nat.le_refl _⟩, hd H p⟩
theorem tupS_refs {K : PySem.W.Frag} {H : Hp} : ∀ {ts : List V} {es : List (Int × Str)}, TupS H ts es → ∃ ps : List Addr, ts = ps.map V.ref ∧ Paired (fun p (kv : Key × V) => SqT K H p [kV kv.1, kv.2]) ps (ents es)
  | _, _, .nil => ⟨[], rfl, .nil⟩
  | _, _, .cons (a := a) h r => by
    obtain ⟨ps, rfl, h2⟩ := tupS_refs (K := K) r
    exact ⟨a :: ps, rfl, .cons (.inl (.inl h)) h2⟩
theorem merge_from : ∀ (es acc : List (Int × Str)), (keys (acc ++ es)).Nodup → mergeK (ents acc) (ents es) = ents (acc ++ es)
  | [], acc, _ => by rw [List.append_nil]; rfl
  | (k, x) :: r, acc, nd => by
    have e : acc ++ (k, x) :: r = (acc ++ [(k, x)]) ++ r := by simp
    have hk : k ∉ keys acc := by
      rw [keys_app] at nd
      intro z
      exact (List.nodup_append.mp nd).2.2 k z k List.mem_cons_self rfl
    have step : mergeK (ents acc) (ents ((k, x) :: r)) = mergeK (putK (ents acc) (.inl k) (.str x)) (ents r) := rfl
    rw [step, put_new hk, e]
    exact merge_from r _ (by rw [← e]; exact nd)
theorem merge_ents {es : List (Int × Str)} (nd : (keys es).Nodup) : mergeK [] (ents es) = ents es := merge_from es [] nd
theorem tupS_at {H : Hp} {a : Addr} {od : Obj} {u o : HO} (e : H a = some (.frz od u)) : ∀ {ts : List V} {es : List (Int × Str)}, TupS H ts es → TupS (upd H a o) ts es
  | _, _, .nil => .nil
  | _, _, .cons h r => .cons ((upd_ne fun z => by rw [z, e] at h; cases h).trans h) (tupS_at e r)
theorem sqL_ext {K : PySem.W.Frag} {H H' : Hp} {a p : Addr} {xs : List V} (hp : H p = none) (e : Ext p H H') (h : SqL K H a xs) : SqL K H' a xs := by
  rcases h with (h | ⟨o, h⟩) | h
  · exact .inl (.inl (e _ _ (ne_of_none h hp) h))
  · exact .inl (.inr ⟨o, e _ _ (ne_of_none h hp) h⟩)
  · exact .inr h
theorem join_good {U : List Int} (hU : U.length ≤ 1000) {ls : List (List (Int × Str))} (h : ∀ es ∈ ls, Good U es) : Good U (joinAll [] ls) := by
  have : ∀ (ls : List (List (Int × Str))) (acc : List (Int × Str)), Good U acc → (∀ es ∈ ls, Good U es) → Good U (ls.foldl united acc) := by
    intro ls
    induction ls with
    | nil => exact fun acc g _ => g
    | cons x r ih => exact fun acc g h => ih _ (g.united (h x List.mem_cons_self)) fun y hy => h y (List.mem_cons_of_mem _ hy)
  exact this ls [] (good_nil hU) h
theorem FDs.good {U : List Int} {H : Hp} : ∀ {vs : List V} {ls : List (List (Int × Str))}, FDs U H vs ls → ∀ es ∈ ls, Good U es
  | _, _, .nil => fun _ h => (nomatch h)
  | _, _, .cons h r => fun es hm => by
    rcases List.mem_cons.mp hm with rfl | hm
    · exact h.2
    · exact r.good es hm
theorem join_step (es : List (Int × Str)) (ls : List (List (Int × Str))) (fs : List (Int × Str)) : joinAll es (ls ++ [fs]) = united (joinAll es ls) fs := by
  unfold joinAll
  rw [List.foldl_append]
  rfl

def putE (es : List (Int × Str)) (k : Int) (x : Str) : List (Int × Str) := if has es k = true then es.map fun p => if p.1 = k then (p.1, x) else p else es ++ [(k, x)]
theorem put_ents (es : List (Int × Str)) (k : Int) (x : Str) : putK (ents es) (.inl k) (.str x) = ents (putE es k x) := by
  unfold putE
  by_cases h : has es k = true
  · rw [if_pos h]
    unfold putK
    have hv : (valV (ents es) (.inl k)).isSome = true := by
      rw [valV_ents]
      unfold has at h
      cases q : look es k with
      | none => rw [q] at h; cases h
      | some y => rfl
    rw [valV_any, hv, if_pos rfl]
    unfold ents
    rw [List.map_map, List.map_map]
    refine List.map_congr_left fun p _ => ?_
    show (if (Sum.inl p.1 : Key) = .inl k then _ else _) = _
    by_cases e : p.1 = k
    · rw [if_pos (by rw [e])]
      show _ = ((Sum.inl (if p.1 = k then (p.1, x) else p).1 : Key), V.str (if p.1 = k then (p.1, x) else p).2)
      rw [if_pos e]
    · rw [if_neg (fun z => e (Sum.inl.inj z))]
      show _ = ((Sum.inl (if p.1 = k then (p.1, x) else p).1 : Key), V.str (if p.1 = k then (p.1, x) else p).2)
      rw [if_neg e]
  · rw [if_neg h]
    exact put_new fun z => h (has_iff.mpr z)
theorem keys_put (es : List (Int × Str)) (k : Int) (x : Str) : keys (putE es k x) = if has es k = true then keys es else keys es ++ [k] := by
  unfold putE
  by_cases h : has es k = true
  · rw [if_pos h, if_pos h]
    unfold keys
    rw [List.map_map]
    refine List.map_congr_left fun p _ => ?_
    show (if p.1 = k then (p.1, x) else p).1 = p.1
    split <;> rfl
  · rw [if_neg h, if_neg h, keys_app]
    rfl
theorem Good.put {U : List Int} {es : List (Int × Str)} (g : Good U es) {k : Int} (x : Str) (hk : k ∈ U) : Good U (putE es k x) := by
  unfold Good
  rw [keys_put]
  by_cases h : has es k = true
  · rw [if_pos h]; exact g
  · rw [if_neg h]
    refine ⟨List.nodup_append.mpr ⟨g.1, List.nodup_cons.mpr ⟨List.not_mem_nil, List.nodup_nil⟩, fun a ha b hb e => ?_⟩, fun q hq => ?_, g.2.2⟩
    · rw [List.mem_singleton.mp hb] at e
      rw [e] at ha
      exact h (has_iff.mpr ha)
    · rcases List.mem_append.mp hq with hq | hq
      · exact g.2.1 q hq
      · rw [List.mem_singleton.mp hq]; exact hk
theorem NE.put {es : List (Int × Str)} (g : NE es) (k : Int) {x : Str} (hx : nameOk x = true) : NE (putE es k x) := by
  unfold putE
  intro p hp
  by_cases h : has es k = true
  · rw [if_pos h] at hp
    obtain ⟨q, hq, rfl⟩ := List.mem_map.mp hp
    split
    · exact hx
    · exact g q hq
  · rw [if_neg h] at hp
    rcases List.mem_append.mp hp with hp | hp
    · exact g p hp
    · rw [List.mem_singleton.mp hp]; exact hx
theorem look_put (es : List (Int × Str)) (k : Int) (x : Str) (n : Int) : look (putE es k x) n = if n = k then some x else look es n := by
  unfold putE
  by_cases h : has es k = true
  · rw [if_pos h]
    have : ∀ es : List (Int × Str), look (es.map fun p => if p.1 = k then (p.1, x) else p) n = if n = k then (if has es k = true then some x else none) else look es n := by
      intro es
      induction es with
      | nil => show none = _; split <;> rfl
      | cons p r ih =>
        rw [List.map_cons, look_cons, ih]
        by_cases e : p.1 = k
        · rw [if_pos e]
          by_cases q : n = k
          · have hh : has (p :: r) k = true := by unfold has; rw [look_cons, if_pos e]; rfl
            rw [if_pos (show p.1 = n by rw [e, q]), hh, if_pos rfl, if_pos q]
          · rw [if_neg q, look_cons]
            have : ¬ p.1 = n := fun z => q (by rw [← z, e])
            rw [if_neg this, if_neg this, if_neg q]
        · rw [if_neg e]
          by_cases q : n = k
          · have : ¬ p.1 = n := fun z => e (by rw [z, q])
            have hh : has (p :: r) k = has r k := by unfold has; rw [look_cons, if_neg e]
            rw [if_neg this, hh, if_pos q, if_pos q]
          · rw [if_neg q, look_cons, if_neg q]
    rw [this, h]
    rfl
  · rw [if_neg h, look_app, look_cons, look_nil]
    have hk : look es k = none := by
      cases q : look es k with
      | none => rfl
      | some y => exact absurd (by unfold has; rw [q]; rfl) h
    by_cases e : n = k
    · rw [if_pos e, e, hk, if_pos rfl]; rfl
    · rw [if_neg e, if_neg (fun z => e z.symm), Option.or_none]
end My
set_option Elab.async false
set_option maxRecDepth 100000
set_option maxHeartbeats 4000000
set_option linter.unusedVariables false
namespace My
open PySem PySem.Spec PyProof.Rows L2 L2.DX
section
variable {X : Cx}
def rUpdK : V → List V → Hp → VK → Prop := fun x xs H Q => ∃ (a b : Addr) (ks ls : List (Key × V)), x = .ref a ∧ xs = [.ref b] ∧ a ≠ b ∧ H a = some (.dK ks) ∧ H b = some (.dK ls) ∧ ks.length + ls.length ≤ 100000 ∧ Q .non (upd H a (.dK (mergeK ks ls)))
theorem merge_len : ∀ (ls ks : List (Key × V)), (mergeK ks ls).length ≤ ks.length + ls.length
  | [], ks => Nat.le_refl _
  | p :: r, ks => by
    have h := merge_len r (putK ks p.1 p.2)
    have e : mergeK ks (p :: r) = mergeK (putK ks p.1 p.2) r := rfl
    have h2 : (putK ks p.1 p.2).length ≤ ks.length + 1 := by
      unfold putK
      split
      · rw [List.length_map]; omega
      · rw [List.length_append]; exact Nat.le_refl _
    rw [e, List.length_cons]
    omega
theorem mt_updateK : MtM X "dict.update" rUpdK := by
  intro pins s σ H x xs v us Q I rx rxs h
  obtain ⟨a, b, ks, ls, rfl, rfl, nab, ha, hb, hz, q⟩ := h
  cases rx
  obtain ⟨u, rfl, ru⟩ := vals1 rxs
  cases ru
  obtain ⟨_, sa, va, kva, da⟩ := dk_of I.hok ha
  obtain ⟨_, sb, vb, kvb, db⟩ := dk_of I.hok hb
  have l1 := kv_len kva
  have l2 := kv_len kvb
  have big : (200000 : Nat) ≤ sizeLine := by decide
  refine call_meetsIn PySem.F.slot_dict_update da.typeIs PySem.F.entry_dict_update (PySem.F.args_dict_update_2 _ _) (meets_dict_update (mixKind X.prog X.w) a b nab sb)
    ⟨va, vb, da, db, by omega, fun h' hm _ hs => ?_⟩
  have hm2 := hm
  obtain ⟨o', _, _, ho', _⟩ := hm2
  have ml := merge_len ls ks
  exact ⟨.non, _, d_write (t' := s.toks) I (by rw [ha]; exact True.intro) hs ⟨o', ho'⟩ (dk_new (by omega) sa (KV.merge kvb kva) hm), rfl, q⟩
end

theorem merge_apart {es fs : List (Int × Str)} (nd : (keys (es ++ fs)).Nodup) : mergeK (ents es) (ents fs) = ents (es ++ fs) := merge_from fs es nd
theorem good_apart {U : List Int} {es fs : List (Int × Str)} (g : Good U es) (h : Good U fs) : Good U (rest es fs ++ rest fs es) := by
  refine ⟨?_, fun k hk => ?_, g.2.2⟩
  · rw [keys_app]
    refine List.nodup_append.mpr ⟨(g.rest fs).1, (h.rest es).1, fun a ha b hb e => ?_⟩
    subst e
    have h1 := has_iff.mpr ha
    have h2 := has_iff.mpr hb
    rw [has_rest] at h1 h2
    cases p : has es a <;> cases q : has fs a <;> rw [p, q] at h1 h2 <;> simp at h1 h2
  · rw [keys_app] at hk
    rcases List.mem_append.mp hk with hk | hk
    · exact (g.rest fs).2.1 k hk
    · exact (h.rest es).2.1 k hk
theorem FD.chg {U : List Int} {H H' : Hp} {g d : Addr} {ls : List V} {es : List (Int × Str)} (e : H g = some (.lst ls)) (s : Ext g H H') (h : FD U H d es) : FD U H' d es :=
  ⟨s _ _ (fun z => by have := h.1; rw [z, e] at this; cases this) h.1, h.2⟩
theorem FDs.chg {U : List Int} {H H' : Hp} {g : Addr} {ls : List V} (e : H g = some (.lst ls)) (s : Ext g H H') : ∀ {vs : List V} {es : List (List (Int × Str))}, FDs U H vs es → FDs U H' vs es
  | _, _, .nil => .nil
  | _, _, .cons h r => .cons (h.chg e s) (FDs.chg e s r)
theorem FDs.app {U : List Int} {H : Hp} {x : Addr} {es : List (Int × Str)} (h : FD U H x es) : ∀ {vs : List V} {ls : List (List (Int × Str))}, FDs U H vs ls → FDs U H (vs ++ [.ref x]) (ls ++ [es])
  | _, _, .nil => .cons h .nil
  | _, _, .cons h1 r => .cons h1 (FDs.app h r)
theorem FDs.set {U : List Int} {H : Hp} {x : Addr} {es : List (Int × Str)} (h : FD U H x es) : ∀ {vs : List V} {ls : List (List (Int × Str))} (i : Nat), FDs U H vs ls → FDs U H (vs.set i (.ref x)) (ls.set i es)
  | _, _, _, .nil => .nil
  | _, _, 0, .cons h1 r => .cons h r
  | _, _, i + 1, .cons h1 r => .cons h1 (FDs.set h i r)
theorem Good.widen {m : Nat} {es : List (Int × Str)} (g : Good (below m) es) (h : m ≤ 14) : Good (below 14) es := by
  refine ⟨g.1, fun k hk => ?_, by rw [below_len]; omega⟩
  have := g.2.1 k hk
  unfold below at this ⊢
  obtain ⟨i, hi, rfl⟩ := List.mem_map.mp this
  exact List.mem_map.mpr ⟨i, List.mem_range.mpr (by have := List.mem_range.mp hi; omega), rfl⟩
theorem FD.widen {m : Nat} {H : Hp} {d : Addr} {es : List (Int × Str)} (g : FD (below m) H d es) (h : m ≤ 14) : FD (below 14) H d es := ⟨g.1, g.2.widen h⟩
theorem keys_same (es : List (Int × Str)) (x : Str) : keys (es.map fun p => (p.1, x)) = keys es := by
  unfold keys
  rw [List.map_map]
  rfl
theorem at_zero (v : V) (r : List V) : atI (v :: r) 0 = some v := by
  unfold atI ixN
  rw [if_pos (by decide), if_pos (by rw [List.length_cons]; omega)]
  rfl
theorem ix_one {n : Nat} (h : 2 ≤ n) : ixN n 1 = some 1 := by
  unfold ixN
  rw [if_pos (by decide), if_pos (by omega)]
  rfl
section
variable {X : Cx} {k : Nat} {C : Addr} {ps : List Str} {sp : Sp} {m : Str} {pos apos : Pos} {o : Expr} {ta : TE}
theorem pe_mtR0 {pl : Sem Bool} (D : MtR X.prog X.w X.K X.mg X.base C m k ps sp) (hr : Room k X.A) (c : Cls X.K C) (he : PE X o ta)
    (ht : eval (.Call (.Attribute o m apos) [] [] pos) X.env = (do
      let ov ← eval o X.env
      standAt apos.atName
      let (f, first) ← holding [ov] (getMethod ov m pl)
      callWith pos f first (backTo pos (starEach [] X.env)) (backToKw pos (keywordEach [] X.env))) := by rfl) :
    PE X (.Call (.Attribute o m apos) [] [] pos) (tMethR C m (spStar ps sp) E0 ta tNil) := by
  obtain ⟨f, h1, h2, h3, F⟩ := D
  refine ⟨fun pins s σ H Q I h => ?_⟩
  refine PySem.W.methodCall_KW (pl := pl) (thn (he.run pins s σ H _ I h) fun u s1 ⟨x, H1, I1, rx, a, dx, fs, ex, ea, l, q⟩ => ?_) ht
  subst ex
  cases rx
  refine getmeth_ok I1 ea c (⟨h1, h2, h3⟩ : Meth X.K C m f) l ?_
  exact PySem.W.callWith_K0 (first := [.ref a]) I1.kIn h3 (wpAny_call (run_fnR (us := [.ref a]) (vs := [.ref a]) F hr pass0 I1 (.cons rfl .nil) q))
end

theorem range_all {K : PySem.W.Frag} {σ : L2.St} {H : Hp} {D' : Ends} {j : Nat} {n : Nat} {ta te : TE} (hta : ∀ R : VK, R (.int n) H → ta σ H R) (hn : n ≤ 1000)
    (hw : ∀ x, wipe ((wipe σ [j]).set j x) [j] = wipe σ [j])
    (hte : ∀ (i : Nat) (H1 : Hp) (Q : VK), i < n → Same H H1 → (∀ H2, Same H1 H2 → Q (.bl true) H2) → te ((wipe σ [j]).set j (some (.int (0 + i)))) H1 Q)
    (k : ∀ H', Same H H' → D'.rt (.bl true) H') :
    tRet (tCB (rAll K) (tCons (tLc (iRng1 (tCons ta tNil)) (gName j) tYes te [j]) tNil)) D' σ H := by
  refine hta _ ⟨n, rfl, by omega, by omega, fun E hE => ?_⟩
  refine lc_range (lo := 0) (fun i H' => Ext E H H' ∧ H' E = some (.lst ((List.replicate i true).map V.bl))) ?_ ?_ ?_
  · exact ⟨fun b o n e => (upd_ne n).trans e, upd_same⟩
  · rintro i H' hi ⟨x, hd⟩
    have hi2 : i < n := by omega
    refine ⟨hw _, hte i H' _ hi2 (fun b o e => x b o (ne_of_none e hE) e) fun H2 s2 => ?_⟩
    refine ⟨_, s2 _ _ hd, ?_, ?_, upd_same.trans ?_⟩
    · rw [List.length_map, List.length_replicate]
      exact small1000 (by omega)
    · exact fun b o nb e => (upd_ne nb).trans (s2 _ _ (x b o nb e))
    · rw [List.replicate_succ', List.map_append]
      rfl
  · rintro H' ⟨x, hd⟩
    refine ⟨E, _, rfl, SqL.of hd, ?_⟩
    rw [allB]
    exact k _ fun b o e => x b o (ne_of_none e hE) e

theorem sl_listK {X : Cx} {K : PySem.W.Frag} (h : X.K = K) : SlR X (rSlL K) := by
  subst h
  exact sl_list
theorem ix_listK {X : Cx} {K : PySem.W.Frag} (h : X.K = K) : IxR X (rIxL K) := by
  subst h
  exact ix_list
theorem look_join (ls : List (List (Int × Str))) : ∀ (es : List (Int × Str)) (k : Int), look (joinAll es ls) k = ls.foldl (fun acc l => acc.or (look l k)) (look es k) := by
  unfold joinAll
  induction ls with
  | nil => exact fun _ _ => rfl
  | cons l r ih =>
    intro es k
    rw [List.foldl_cons, List.foldl_cons, ih, look_united]
theorem look_join_like : ∀ (us ws : List (List (Int × Str))) (k : Int) (a : Option Str), us.length = ws.length → (∀ (i : Nat) (u w : List (Int × Str)), us[i]? = some u → ws[i]? = some w → look u k = look w k) →
    us.foldl (fun acc l => acc.or (look l k)) a = ws.foldl (fun acc l => acc.or (look l k)) a
  | [], [], _, _, _, _ => rfl
  | u :: us, w :: ws, k, a, hl, h => by
    rw [List.foldl_cons, List.foldl_cons, h 0 u w rfl rfl]
    exact look_join_like us ws k _ (by simpa using hl) fun i x y e1 e2 => h (i + 1) x y e1 e2
theorem NE.join {ls : List (List (Int × Str))} (h : ∀ es ∈ ls, NE es) : NE (joinAll [] ls) := by
  have : ∀ (ls : List (List (Int × Str))) (acc : List (Int × Str)), NE acc → (∀ es ∈ ls, NE es) → NE (ls.foldl united acc) := by
    intro ls
    induction ls with
    | nil => exact fun acc g _ => g
    | cons x r ih =>
      refine fun acc g h => ih _ (fun p hp => ?_) fun y hy => h y (List.mem_cons_of_mem _ hy)
      unfold united at hp
      rcases List.mem_append.mp hp with hp | hp
      · exact g p hp
      · exact h x List.mem_cons_self p (List.mem_filter.mp hp).1
  exact this ls [] (fun p hp => (nomatch hp)) h
theorem FDs.take {U : List Int} {H : Hp} : ∀ {vs : List V} {ls : List (List (Int × Str))} (i : Nat), FDs U H vs ls → FDs U H (vs.take i) (ls.take i)
  | _, _, 0, _ => by rw [List.take_zero, List.take_zero]; exact .nil
  | _, _, i + 1, .nil => .nil
  | _, _, i + 1, .cons h r => .cons h (FDs.take i r)
theorem cut_to (xs : List V) (i : Nat) (h : i ≤ xs.length) : cutV xs none (some (i : Int)) = xs.take i := by
  have e : HT.sIx xs.length xs.length (some (i : Int)) = i := by
    rw [HT.sIx_nat]
    omega
  unfold cutV
  rw [e]
  rfl
theorem range_allE {K : PySem.W.Frag} {σ : L2.St} {H : Hp} {Q : VK} {j : Nat} {n : Nat} {ta te : TE} (hta : ∀ R : VK, R (.int n) H → ta σ H R) (hn : n ≤ 1000)
    (hw : ∀ x, wipe ((wipe σ [j]).set j x) [j] = wipe σ [j])
    (hte : ∀ (i : Nat) (H1 : Hp) (Q : VK), i < n → Same H H1 → (∀ H2, Same H1 H2 → Q (.bl true) H2) → te ((wipe σ [j]).set j (some (.int (0 + i)))) H1 Q)
    (k : ∀ H', Same H H' → Q (.bl true) H') :
    tCB (rAll K) (tCons (tLc (iRng1 (tCons ta tNil)) (gName j) tYes te [j]) tNil) σ H Q :=
  range_all (D' := { nx := fun _ _ => True, rt := Q }) hta hn hw hte k
theorem firsts_self {es : List (Int × Str)} (nd : (keys es).Nodup) : firsts es = es := by
  have : ∀ (r acc : List (Int × Str)), (keys (acc ++ r)).Nodup → r.foldl (fun acc p => if has acc p.1 = true then acc else acc ++ [p]) acc = acc ++ r := by
    intro r
    induction r with
    | nil => intro acc _; rw [List.append_nil]; rfl
    | cons p r ih =>
      intro acc h
      rw [List.foldl_cons]
      have e : acc ++ p :: r = (acc ++ [p]) ++ r := by simp
      have hk : has acc p.1 = false := by
        cases q : has acc p.1 with
        | false => rfl
        | true =>
          rw [keys_app] at h
          exact absurd rfl ((List.nodup_append.mp h).2.2 p.1 (has_iff.mp q) p.1 List.mem_cons_self)
      rw [hk, if_neg (by simp), ih _ (by rw [← e]; exact h), e]
  exact this es [] nd
theorem elAll_of {K : PySem.W.Frag} {H : Hp} : ∀ {ts : List Addr} {es : List (Int × Str)}, Paired (fun (t : Addr) (q : Key × V) => H t = some (.tup [kV q.1, q.2])) ts (ents es) → Good (below 14) es → NE es → ElAll K H (ts.map V.ref) es
  | _, [], h, _, _ => by
    cases h
    exact .nil
  | _, (k, x) :: r, h, g, ne => by
    cases h with
    | cons h1 h2 =>
      have hk := g.2.1 k List.mem_cons_self
      unfold below at hk
      obtain ⟨i, hi, rfl⟩ := List.mem_map.mp hk
      have := List.mem_range.mp hi
      exact .cons (.inl (.inl h1)) ⟨by omega, by omega⟩ (ne _ List.mem_cons_self) (elAll_of h2 ⟨(List.nodup_cons.mp g.1).2, fun q hq => g.2.1 q (List.mem_cons_of_mem _ hq), g.2.2⟩ fun q hq => ne q (List.mem_cons_of_mem _ hq))
end My
set_option Elab.async false
set_option linter.all false
set_option maxRecDepth 100000
set_option maxHeartbeats 4000000
namespace My
open PySem PySem.Spec PyProof.Rows L2
def top (i : Nat) : Stmt := PySem.Challenge.pw_equalunlike_k04_operations_on_sets.main.body.getD i (.Pass ⟨0, 0, 0, 0⟩)
abbrev s_is_whole : Stmt := top 6
abbrev s_is_name : Stmt := top 7
abbrev s_is_key : Stmt := top 8
abbrev s_is_element : Stmt := top 9
abbrev s_p_first_forms : Stmt := top 14
abbrev s_FormSet_init : Stmt := inClass (top 13) 0
abbrev s_p_set_of : Stmt := top 15
abbrev s_p_united : Stmt := top 16
abbrev s_p_common : Stmt := top 17
abbrev s_p_rest : Stmt := top 18
abbrev s_FormSet_or : Stmt := inClass (top 13) 5
abbrev s_FormSet_len : Stmt := inClass (top 13) 15
abbrev s_FormSet_and : Stmt := inClass (top 13) 6
abbrev s_FormSet_sub : Stmt := inClass (top 13) 7
abbrev s_FormSet_xor : Stmt := inClass (top 13) 8
abbrev s_FormSet_joined : Stmt := inClass (top 13) 9
abbrev s_FormSet_kept : Stmt := inClass (top 13) 10
abbrev s_FormSet_members : Stmt := inClass (top 13) 1
abbrev s_FormSet_contains : Stmt := inClass (top 13) 3
abbrev s_FormSet_with_element : Stmt := inClass (top 13) 11
abbrev s_FormSet_without_key : Stmt := inClass (top 13) 12
abbrev s_l_bag : Stmt := top 20
abbrev s_l_take : Stmt := top 21
abbrev s_l_set : Stmt := top 22
abbrev s_l_sets : Stmt := top 23
abbrev s_l_is : Stmt := top 24
abbrev s_l_part : Stmt := top 25
abbrev s_l_joined : Stmt := top 26
abbrev s_l_joins_right : Stmt := top 27
abbrev s_l_pair_right : Stmt := top 28
abbrev s_l_single_right : Stmt := top 29
abbrev s_law : Stmt := top 30
structure Txt (K : PySem.W.Frag) (mg : Str → Option Value) (C_FormSet : Addr) : Prop where
  n_abs : mg "abs" = none
  n_all : mg "all" = none
  n_bool : mg "bool" = none
  n_dict : mg "dict" = none
  n_int : mg "int" = none
  n_isinstance : mg "isinstance" = none
  n_len : mg "len" = none
  n_list : mg "list" = none
  n_max : mg "max" = none
  n_min : mg "min" = none
  n_range : mg "range" = none
  n_sorted : mg "sorted" = none
  n_str : mg "str" = none
  n_tuple : mg "tuple" = none
  g_LETTERS : ∃ t, mg "LETTERS" = some (.str "abcdefghijklmnopqrstuvwxyz" t)
  g_MOST_LETTERS : ∃ t, mg "MOST_LETTERS" = some (.int 4 t)
  g_RESERVED : ∃ r, mg "RESERVED" = some (.ref r) ∧ ∀ H, SqT K H r [.str "keys", .str "look", .str "self"]
  g_HIGHEST_KEY : ∃ t, mg "HIGHEST_KEY" = some (.int 999999 t)
  g_FormSet : mg "FormSet" = some (.ref C_FormSet)
  cl_FormSet : Cls K C_FormSet
  nF : NoAttr K C_FormSet "_forms"
  sf_FormSet : PySem.W.selfFirst K C_FormSet = true

section
variable {P : Program} {w : World} {K : PySem.W.Frag} {mg : Str → Option Value} {base : Heap} {C_FormSet : Addr}
theorem sc_is_whole : FnScope ["thing"] ["thing"] (defScope s_is_whole) := ⟨rfl, rfl, rfl, by decide +kernel, rfl, by decide +kernel, by decide +kernel⟩
theorem ok_is_whole {f : Addr} {fd : FuncData} (F : Fun K "is_whole" "is_whole" s_is_whole f fd) (T : Txt K mg C_FormSet)
    : FnOk P w K mg base CX0 1 f fd ["thing"] (spIs K mWhole) := by
  refine F.ok sc_is_whole (fun vs H Q E h => ?_) (fun cdv A outer s H vs Q E hr h => ?_)
  · obtain ⟨v, d, rfl, _⟩ := h; rfl
  · obtain ⟨v, d, rfl, hx, hs, k⟩ := h
    have hu := hu_of hr
    have hu64 := hr.units
    refine ⟨_, (pss_one (ps_ret (pe_and (pe_callB call_isi (by rfl) T.n_isinstance (by decide +kernel) (pa_cons (pv 0) (pa_cons (pe_bltn (v := .ty "int") (u := .type "int") (by rfl) T.n_int (by decide +kernel) rfl) pa_nil))) (pe_one (pe_not (pe_callB call_isi (by rfl) T.n_isinstance (by decide +kernel) (pa_cons (pv 0) (pa_cons (pe_bltn (v := .ty "bool") (u := .type "bool") (by rfl) T.n_bool (by decide +kernel) rfl) pa_nil)))))))), ?_⟩
    refine rd_isi rfl hx (by simp) ⟨_, rfl, ?_⟩
    rw [isD_int]
    have k := k H (Same.refl H)
    cases d with
    | int i => refine iteT (rd_isi rfl hx (by simp) ⟨_, rfl, ?_⟩); rw [isD_bool]; exact k
    | bool b => refine iteT (rd_isi rfl hx (by simp) ⟨_, rfl, ?_⟩); rw [isD_bool]; exact k
    | none => exact iteF k
    | str x => exact iteF k
    | list xs => exact iteF k
    | tuple xs => exact iteF k
    | dict kvs => exact iteF k
theorem sc_is_name : FnScope ["thing", "letter"] ["thing"] (defScope s_is_name) := ⟨rfl, rfl, rfl, by decide +kernel, rfl, by decide +kernel, by decide +kernel⟩
theorem ok_is_name {f : Addr} {fd : FuncData} (F : Fun K "is_name" "is_name" s_is_name f fd) (T : Txt K mg C_FormSet)
    : FnOk P w K mg base CX0 1 f fd ["thing"] (spIs K mName) := by
  obtain ⟨t_LETTERS, g_LETTERS⟩ := T.g_LETTERS
  obtain ⟨t_MOST_LETTERS, g_MOST_LETTERS⟩ := T.g_MOST_LETTERS
  obtain ⟨t_RESERVED, g_RESERVED, s_RESERVED⟩ := T.g_RESERVED
  refine F.ok sc_is_name (fun vs H Q E h => ?_) (fun cdv A outer s H vs Q E hr h => ?_)
  · obtain ⟨v, d, rfl, _⟩ := h; rfl
  · obtain ⟨v, d, rfl, hx, hs, k⟩ := h
    have hu := hu_of hr
    have hu64 := hr.units
    refine ⟨_, (pss_cons (ps_if (PW.pt (pw_or (pt_not (pt_val (pe_callB call_isi (by rfl) T.n_isinstance (by decide +kernel) (pa_cons (pv 0) (pa_cons (pe_bltn (v := .ty "str") (u := .type "str") (by rfl) T.n_str (by decide +kernel) rfl) pa_nil))))) (pw_or1 (pt_not (pt_chain op_le op_le pe_int (pe_callB call_len_str (by rfl) T.n_len PySem.boot_len (pa_cons (pv 0) pa_nil)) (pe_glob (v := .int 4) rfl g_MOST_LETTERS ⟨_, rfl⟩))))))
    (pss_one (ps_ret pe_bl))
    pss_nil)
  (pss_cons (ps_if (pt_cmpR op_in_seq (pv 0) (pe_glob (v := .ref t_RESERVED) rfl g_RESERVED rfl) (by rfl))
    (pss_one (ps_ret pe_bl))
    pss_nil)
  (pss_one (ps_ret (pe_callB (cr_all rfl) (by rfl) T.n_all (by decide +kernel) (pa_cons (pe_lc (own := [("letter", 1)]) (g := gName 1) (tt := tYes) rfl sc_is_name.nd (pi_str (pv 0)) (blkOk_by (own := [("letter", 1)]) (N := ["thing", "letter"]) (sc := defScope s_is_name) (by decide +kernel)) (fun _ _ _ _ _ => (pg_name (i := 1) sc_is_name.nd rfl (Or.inl rfl))) (fun _ _ _ _ _ => pts_nil) (fun _ _ _ _ _ => (pe_cmpR op_in_sign (pv 1) (pe_glob (v := .str "abcdefghijklmnopqrstuvwxyz") rfl g_LETTERS ⟨_, rfl⟩) (by rfl)))) pa_nil)))))), ?_⟩
    refine rd_isi rfl hx (by simp) ⟨_, rfl, ?_⟩
    rw [isD_str]
    cases d with
    | int i => exact iteT (iteT (k H (Same.refl H)))
    | bool b => exact iteT (iteT (k H (Same.refl H)))
    | none => exact iteT (iteT (k H (Same.refl H)))
    | list xs => exact iteT (iteT (k H (Same.refl H)))
    | tuple xs => exact iteT (iteT (k H (Same.refl H)))
    | dict kvs => exact iteT (iteT (k H (Same.refl H)))
    | str x =>
      obtain rfl := dx_str hx
      have hl := len_le hs
      have k : ∀ H', Same H H' → Q (.bl (nameOk x)) H' := k
      refine iteF ⟨_, rfl, _, rfl, size_ok (by omega), _, _, rfl, rfl, _, rfl, ?_⟩
      by_cases h1 : (1 : Int) ≤ x.length
      · rw [decide_eq_true h1]
        refine iteT ⟨_, _, rfl, rfl, _, rfl, ?_⟩
        by_cases h4 : (x.length : Int) ≤ 4
        · rw [decide_eq_true h4]
          refine iteF ⟨_, rfl, _, _, rfl, Or.inr (s_RESERVED _), rfl, rfl, inV (.str x) [.str "keys", .str "look", .str "self"], rfl, ?_⟩
          cases e : inV (.str x) [.str "keys", .str "look", .str "self"] with
          | true =>
            refine iteT ?_
            have := k H (Same.refl H)
            have e2 : nameOk x = false := by unfold nameOk; rw [e]; simp
            rw [e2] at this
            exact this
          | false =>
            refine iteF ⟨_, rfl, _, rfl, fun D hD => lc_text (fun i H' => H' = upd H D (.lst ((x.cps.toList.take i).map fun c => V.bl (inAbc c)))) rfl ?_ ?_⟩
            · rintro i c H' hc rfl
              refine ⟨rfl, _, rfl, _, _, rfl, rfl, _, upd_same, ?_, ?_⟩
              · refine size_lt ?_
                rw [List.length_map, List.length_take]
                have : x.cps.toList.length = x.length := rfl
                omega
              · show upd (upd _ _ _) _ _ = _
                rw [upd_upd, take_snoc hc, List.map_append]
                rfl
            · rintro H' rfl
              refine ⟨D, x.cps.toList.map inAbc, rfl, SqL.of (upd_same.trans ?_), ?_⟩
              · rw [List.map_map]
                congr 2
                have : x.cps.toList.take x.cps.size = x.cps.toList := List.take_of_length_le (Nat.le_of_eq Array.length_toList)
                rw [this]
                rfl
              · rw [all_ids]
                have := k _ (same_new hD (o := .lst ((x.cps.toList.take x.cps.size).map fun c => V.bl (inAbc c))))
                unfold nameOk at this
                rw [e, decide_eq_true (show 1 ≤ x.length ∧ x.length ≤ 4 by omega)] at this
                exact this
        · rw [decide_eq_false h4]
          have := k H (Same.refl H)
          unfold nameOk at this
          rw [decide_eq_false (show ¬ (1 ≤ x.length ∧ x.length ≤ 4) by omega)] at this
          exact this
      · rw [decide_eq_false h1]
        have := k H (Same.refl H)
        unfold nameOk at this
        rw [decide_eq_false (show ¬ (1 ≤ x.length ∧ x.length ≤ 4) by omega)] at this
        exact ⟨_, rfl, this⟩
theorem sc_is_key : FnScope ["thing"] ["thing"] (defScope s_is_key) := ⟨rfl, rfl, rfl, by decide +kernel, rfl, by decide +kernel, by decide +kernel⟩
theorem ok_is_key {f : Addr} {fd : FuncData} (F : Fun K "is_key" "is_key" s_is_key f fd) (T : Txt K mg C_FormSet)
    (D_is_whole : Fn P w K mg base 1 "is_whole" ["thing"] (spIs K mWhole))
    : FnOk P w K mg base CX0 2 f fd ["thing"] (spIs K mKey) := by
  obtain ⟨t_HIGHEST_KEY, g_HIGHEST_KEY⟩ := T.g_HIGHEST_KEY
  refine F.ok sc_is_key (fun vs H Q E h => ?_) (fun cdv A outer s H vs Q E hr h => ?_)
  · obtain ⟨v, d, rfl, _⟩ := h; rfl
  · obtain ⟨v, d, rfl, hx, hs, k⟩ := h
    have hu := hu_of hr
    have hu64 := hr.units
    refine ⟨_, (pss_one (ps_ret (pe_and (pe_fn D_is_whole (hr.mono (by decide)) rfl (pa_cons (pv 0) pa_nil)) (pe_one (pe_chain op_le op_le pe_int (pv 0) (pe_glob (v := .int 999999) rfl g_HIGHEST_KEY ⟨_, rfl⟩)))))), ?_⟩
    refine ⟨_, rfl, _, _, rfl, hx, hs, fun H1 s1 => ⟨_, rfl, ?_⟩⟩
    have k := k H1 s1
    cases d with
    | int i =>
      have k : Q (.bl (decide ((0 : Int) ≤ i) && decide (i ≤ 999999))) H1 := k
      obtain rfl := dx_int hx
      refine iteT ⟨_, rfl, _, _, rfl, rfl, _, rfl, ?_⟩
      by_cases h1 : (0 : Int) ≤ i
      · rw [decide_eq_true h1]
        refine iteT ⟨_, _, rfl, rfl, ?_⟩
        rw [decide_eq_true h1] at k
        exact k
      · rw [decide_eq_false h1]
        refine iteF ?_
        rw [decide_eq_false h1] at k
        exact k
    | bool b => exact iteF k
    | none => exact iteF k
    | str x => exact iteF k
    | list xs => exact iteF k
    | tuple xs => exact iteF k
    | dict kvs => exact iteF k
theorem sc_is_element : FnScope ["thing", "key", "form"] ["thing"] (defScope s_is_element) := ⟨rfl, rfl, rfl, by decide +kernel, rfl, by decide +kernel, by decide +kernel⟩
theorem ok_is_element {f : Addr} {fd : FuncData} (F : Fun K "is_element" "is_element" s_is_element f fd) (T : Txt K mg C_FormSet)
    (D_is_name : Fn P w K mg base 1 "is_name" ["thing"] (spIs K mName))
    (D_is_key : Fn P w K mg base 2 "is_key" ["thing"] (spIs K mKey))
    : FnOk P w K mg base CX0 3 f fd ["thing"] (spIs K mEl) := by
  refine F.ok sc_is_element (fun vs H Q E h => ?_) (fun cdv A outer s H vs Q E hr h => ?_)
  · obtain ⟨v, d, rfl, _⟩ := h; rfl
  · obtain ⟨v, d, rfl, hx, hs, k⟩ := h
    have hu := hu_of hr
    have hu64 := hr.units
    refine ⟨_, (pss_cons (ps_if (PW.pt (pw_or (pt_not (pt_val (pe_callB call_isi (by rfl) T.n_isinstance (by decide +kernel) (pa_cons (pv 0) (pa_cons (pe_bltn (v := .ty "tuple") (u := .type "tuple") (by rfl) T.n_tuple (by decide +kernel) rfl) pa_nil))))) (pw_or1 (pt_cmpR op_ne (pe_callB call_len_seq (by rfl) T.n_len PySem.boot_len (pa_cons (pv 0) pa_nil)) pe_int (nomark _)))))
    (pss_one (ps_ret pe_bl))
    pss_nil)
  (pss_cons (ps_asg (pv 0) (pg_tup rfl (pgs_cons (pg_name (i := 1) sc_is_element.nd rfl (Or.inl rfl)) (pgs_cons (pg_name (i := 2) sc_is_element.nd rfl (Or.inl rfl)) pgs_nil))))
  (pss_one (ps_ret (pe_and (pe_fn D_is_key (hr.mono (by decide)) rfl (pa_cons (pv 1) pa_nil)) (pe_one (pe_fn D_is_name (hr.mono (by decide)) rfl (pa_cons (pv 2) pa_nil)))))))), ?_⟩
    refine rd_isi rfl hx (by simp) ⟨_, rfl, ?_⟩
    rw [isD_tuple]
    cases d with
    | int i => exact iteT (iteT (k H (Same.refl H)))
    | bool b => exact iteT (iteT (k H (Same.refl H)))
    | none => exact iteT (iteT (k H (Same.refl H)))
    | str x => exact iteT (iteT (k H (Same.refl H)))
    | list xs => exact iteT (iteT (k H (Same.refl H)))
    | dict kvs => exact iteT (iteT (k H (Same.refl H)))
    | tuple ds =>
      obtain ⟨a, vs, rfl, ht, hd⟩ := dx_tuple hx
      have hlen := sqT_len hd
      refine iteF ⟨_, rfl, _, _, rfl, Or.inr ht, rfl, _, rfl, ?_⟩
      match vs, ds, hd, hlen with
      | [], [], _, _ => exact iteT (k H (Same.refl H))
      | [_], [_], _, _ => exact iteT (k H (Same.refl H))
      | _ :: _ :: _ :: r, _ :: _ :: _ :: _, _, _ =>
        have e : (!decide (V.int ((r.length + 1 + 1 + 1 : Nat) : Int) = V.int 2)) = true := by
          rw [decide_eq_false]
          · rfl
          · intro z
            injection z with z
            omega
        show (if (!decide (V.int ((r.length + 1 + 1 + 1 : Nat) : Int) = V.int 2)) = true then _ else _)
        rw [e]
        exact iteT (k H (Same.refl H))
      | [kv, fv], [kd, fd'], .cons h1 (.cons h2 .nil), _ =>
        have w0 : kd.weight + 1 + (fd'.weight + 1 + 0) ≤ 100000 := by simpa [PyData.weight, PyData.weightAll] using hs.1
        refine iteF ⟨_, rfl, _, _, rfl, ht, rfl, _, _, rfl, _, _, rfl, rfl, ?_⟩
        refine ⟨_, rfl, _, _, rfl, .of h1, ⟨by omega, laid_tup hs.2 _ (by simp)⟩, fun H1 s1 => ⟨_, rfl, ?_⟩⟩
        have k2 : ∀ H', Same H H' → Q (.bl (mKey kd && mName fd')) H' := k
        cases e : mKey kd with
        | false =>
          refine iteF ?_
          have := k2 H1 s1
          rw [e] at this
          exact this
        | true =>
          refine iteT ⟨_, rfl, _, _, rfl, .of (dp_same s1 _ _ h2), ⟨by omega, laid_tup hs.2 _ (by simp)⟩, fun H2 s2 => ?_⟩
          have := k2 H2 (s1.trans s2)
          rw [e] at this
          exact this
theorem sc_p_first_forms : FnScope ["given", "forms", "item", "key", "form"] ["given"] (defScope s_p_first_forms) := ⟨rfl, rfl, rfl, by decide +kernel, rfl, by decide +kernel, by decide +kernel⟩
theorem ok_p_first_forms {f : Addr} {fd : FuncData} (F : Fun K "_first_forms" "_first_forms" s_p_first_forms f fd) (T : Txt K mg C_FormSet)
    (D_is_element : Fn P w K mg base 3 "is_element" ["thing"] (spIs K mEl))
    : FnOk P w K mg base CX0 4 f fd ["given"] (spFirst K) := by
  refine F.ok sc_p_first_forms (fun vs H Q E h => ?_) (fun cdv A outer s H vs Q E hr h => ?_)
  · obtain ⟨a, xs, l, rfl, _⟩ := h; rfl
  · obtain ⟨a, xs, l, rfl, ha, he, hl, k⟩ := h
    have hu := hu_of hr
    have hu64 := hr.units
    refine ⟨_, (pss_cons (ps_if (pt_not (pt_val (pe_callB call_isiT (by rfl) T.n_isinstance (by decide +kernel) (pa_cons (pv 0) (pa_cons (pe_tup (pa_cons (pe_bltn (v := .ty "list") (u := .type "list") (by rfl) T.n_list (by decide +kernel) rfl) (pa_cons (pe_bltn (v := .ty "tuple") (u := .type "tuple") (by rfl) T.n_tuple (by decide +kernel) rfl) pa_nil))) pa_nil)))))
    (pss_one ps_never)
    pss_nil)
  (pss_cons (ps_set (i := 1) sc_p_first_forms.nd rfl (Or.inl rfl) pe_dnewK)
  (pss_cons (ps_for PassesOwn.never rfl (pi_or (pi_list (pv 0)) (pi_tup (pv 0))) (pg_name (i := 2) sc_p_first_forms.nd rfl (Or.inl rfl))
    (pss_cons (ps_if (pt_not (pt_val (pe_fn D_is_element (hr.mono (by decide)) rfl (pa_cons (pv 2) pa_nil))))
        (pss_one ps_never)
        pss_nil)
      (pss_cons (ps_asg (pv 2) (pg_tup rfl (pgs_cons (pg_name (i := 3) sc_p_first_forms.nd rfl (Or.inl rfl)) (pgs_cons (pg_name (i := 4) sc_p_first_forms.nd rfl (Or.inl rfl)) pgs_nil))))
      (pss_one (ps_expr (pe_dsetd (pv 1) (pv 3) (pv 4) ⟨rfl, rfl, rfl, rfl⟩))))))
  (pss_one (ps_ret (pv 1)))))), ?_⟩
    refine ⟨_, rfl, size_ok (by simp), fun tp htp => ?_⟩
    generalize e_tp : upd H tp _ = H1
    have s_tp := new_same e_tp htp
    have h_tp := new_at e_tp
    have ha1 : H1 a = some (.lst xs) ∨ SqT K H1 a xs := ha.imp (fun e => s_tp _ _ e) (sqT_same s_tp)
    obtain ⟨ty, hty, hk⟩ := lt_ty ha1
    refine ⟨_, _, _, _, _, _, rfl, h_tp, .cons (.ty _) (.cons (.ty _) .nil), hty, hk, _, rfl, iteF ?_⟩
    intro p hp
    generalize e_p : upd H1 p _ = H2
    have s_p := new_same e_p hp
    have h_p := new_at e_p
    have he2 := (he.same s_tp).same s_p
    have hn : ∀ {t : Addr} {ys : List V} {H' : Hp}, Ext p H2 H' → SqT K H2 t ys → SqT K H' t ys := by
      intro t ys H' x h
      rcases h with (h | ⟨o, h⟩) | h
      · exact .inl (.inl (x _ _ (fun z => by rw [z, h_p] at h; cases h) h))
      · exact .inl (.inr ⟨o, x _ _ (fun z => by rw [z, h_p] at h; cases h) h⟩)
      · exact .inr h
    refine for_either (a := a) (xs := xs) (L := Ext p H2) (fun Q q => ⟨_, rfl, q⟩) ?_
      (fun i σ H' => ∃ v2 v3 v4, σ = [some (.ref a), some (.ref p), v2, v3, v4] ∧ Ext p H2 H' ∧ H' p = some (.dK (ents (firsts (l.take i))))) ?_ ?_ ?_ ?_
    · rcases ha1 with q | q
      · exact .inl fun H' x => .inl (.inl (x _ _ (ne_of_none q hp) (s_p _ _ q)))
      · exact .inr fun H' x => hn x (sqT_same s_p q)
    · exact ⟨_, _, _, rfl, fun _ _ _ e => e, by rw [h_p, List.take_zero]; rfl⟩
    · rintro i σ H' hi ⟨v2, v3, v4, rfl, x, _⟩
      exact x
    · rintro i v σ H' hv ⟨v2, v3, v4, rfl, x, hd⟩
      obtain ⟨t, n, y, rfl, e1, ht, hk2, hy⟩ := he2.at hv
      have ht2 := hn x ht
      refine ⟨_, rfl, _, _, rfl, el_dx ht2, el_sm hk2 hy, fun H3 s3 => ?_⟩
      have hd3 := s3 _ _ hd
      rw [el_ok hk2 hy]
      refine ⟨_, rfl, iteF ?_⟩
      refine ⟨_, rfl, t, _, rfl, sqT_same s3 ht2, rfl, _, _, rfl, _, _, rfl, rfl, ?_⟩
      have x3 : Ext p H2 H3 := x.trans (Ext.of s3)
      refine ⟨_, rfl, p, rfl, .inl ⟨_, .inl hd3⟩, _, rfl, _, rfl, _, .inl n, hd3, rfl, ?_, ?_, ?_⟩
      · rw [ents_len]
        have := firsts_len l i
        have := List.getElem?_eq_some_iff.mp e1
        obtain ⟨hi, _⟩ := this
        exact small1000 (by omega)
      · intro v e
        refine ⟨_, _, _, rfl, x3, hd3.trans ?_⟩
        rw [take_one e1, firsts_app]
        rw [valV_ents] at e
        have : has (firsts (l.take i)) n = true := by
          unfold has
          cases q : look (firsts (l.take i)) n with
          | none => rw [q] at e; cases e
          | some y => rfl
        rw [if_pos this]
      · intro e
        refine ⟨_, _, _, rfl, fun b o nb e => (upd_ne nb).trans (x3 b o nb e), upd_same.trans ?_⟩
        rw [take_one e1, firsts_app]
        rw [valV_ents] at e
        have e0 : look (firsts (l.take i)) n = none := by
          cases q : look (firsts (l.take i)) n with
          | none => rfl
          | some y => rw [q] at e; cases e
        have : ¬ has (firsts (l.take i)) n = true := by unfold has; rw [e0]; exact fun z => nomatch z
        rw [if_neg this, put_new (look_none.mp e0)]
    · rintro σ H' ⟨v2, v3, v4, rfl, x, hd⟩
      rw [he2.len, List.take_length] at hd
      refine ⟨_, rfl, k p H' ?_ hd⟩
      intro b o e
      have e2 := s_p _ _ (s_tp _ _ e)
      exact x b o (ne_of_none (s_tp _ _ e) hp) e2
theorem sc_FormSet_init : FnScope ["self", "given"] ["self", "given"] (defScope s_FormSet_init) := ⟨rfl, rfl, rfl, by decide +kernel, rfl, by decide +kernel, by decide +kernel⟩
theorem ok_FormSet_init {f : Addr} {fd : FuncData} {dV : Value} (F : FunV K "__init__" "FormSet.__init__" s_FormSet_init dV f fd) (T : Txt K mg C_FormSet)
    (D_p_first_forms : Fn P w K mg base 4 "_first_forms" ["given"] (spFirst K))
    : FnOk P w K mg base CX0 5 f fd ["self", "given"] (spInit K C_FormSet) := by
  refine F.ok sc_FormSet_init (fun vs H Q E h => ?_) (fun cdv A outer s H vs Q E hr h => ?_)
  · obtain ⟨x, dx, a, xs, l, rfl, _⟩ := h; rfl
  · obtain ⟨x, dx, a, xs, l, rfl, hx, ha, he, hl, k⟩ := h
    have hu := hu_of hr
    have hu64 := hr.units
    refine ⟨_, (pss_one (ps_fld (pv 0) (pe_fn D_p_first_forms (hr.mono (by decide)) rfl (pa_cons (pv 1) pa_nil)) rfl)), ?_⟩
    refine ⟨_, rfl, a, xs, l, rfl, ha, he, hl, fun d H' s hd => ⟨_, rfl, x, C_FormSet, dx, [], rfl, s _ _ hx, T.cl_FormSet, T.nF, by decide, ?_⟩⟩
    have hdx : d ≠ x := fun e => by rw [e, s _ _ hx] at hd; cases hd
    refine k d _ ?_ upd_same ((upd_ne hdx).trans hd)
    intro b o e
    by_cases hb : b = x
    · subst hb
      unfold del at e
      rw [if_pos rfl] at e
      cases e
    · rw [del_at hb] at e ⊢
      exact (upd_ne hb).trans (s _ _ e)
theorem sc_p_set_of : FnScope ["forms", "made"] ["forms"] (defScope s_p_set_of) := ⟨rfl, rfl, rfl, by decide +kernel, rfl, by decide +kernel, by decide +kernel⟩
theorem ok_p_set_of {f : Addr} {fd : FuncData} (F : Fun K "_set_of" "_set_of" s_p_set_of f fd) (T : Txt K mg C_FormSet)
    (D_FormSet_init : MkFn P w K mg base C_FormSet 5 ["self", "given"] (spInit K C_FormSet))
    : FnOk P w K mg base CX0 7 f fd ["forms"] (spSetOf C_FormSet) := by
  refine F.ok sc_p_set_of (fun vs H Q E h => ?_) (fun cdv A outer s H vs Q E hr h => ?_)
  · obtain ⟨U, d, es, rfl, _⟩ := h; rfl
  · obtain ⟨U, d, es, rfl, hd, k⟩ := h
    have hu := hu_of hr
    have hu64 := hr.units
    refine ⟨_, (pss_cons (ps_set (i := 1) sc_p_set_of.nd rfl (Or.inl rfl) (pe_mk0 D_FormSet_init (hr.mono (by decide)) rfl T.g_FormSet))
  (pss_cons (ps_fld (pv 1) (pv 0) rfl)
  (pss_one (ps_ret (pv 1))))), ?_⟩
    intro t ht x dx hx hdx hne
    refine ⟨x, dx, t, [], [], rfl, upd_same, .inr (ht _), .nil, by decide, fun d2 H' s hx' hd2 => ⟨rfl, ?_⟩⟩
    have s2 : ∀ b o, H b = some o → b ≠ x ∧ H' b = some o := by
      intro b o e
      have n1 := ne_of_none e hx
      have n2 := ne_of_none e hdx
      have q := s b o ((del_at n1).trans ((upd_ne n1).trans ((upd_ne n2).trans e)))
      rw [del_at n1] at q
      exact ⟨n1, q⟩
    refine ⟨_, rfl, _, rfl, x, C_FormSet, dx, _, rfl, hx', T.cl_FormSet, T.nF, (by show 1 < 1000; decide), _, rfl, ?_⟩
    refine k x _ (fun b o e => (upd_ne (s2 b o e).1).trans (s2 b o e).2) ⟨dx, d, upd_same, ?_, hd.2⟩
    exact (upd_ne (s2 d _ hd.1).1).trans (s2 d _ hd.1).2
theorem sc_p_united : FnScope ["first", "second", "forms", "key", "form"] ["first", "second"] (defScope s_p_united) := ⟨rfl, rfl, rfl, by decide +kernel, rfl, by decide +kernel, by decide +kernel⟩
theorem ok_p_united {f : Addr} {fd : FuncData} (F : Fun K "_united" "_united" s_p_united f fd) (T : Txt K mg C_FormSet)
    : FnOk P w K mg base CX0 1 f fd ["first", "second"] (spRaw united) := by
  refine F.ok sc_p_united (fun vs H Q E h => ?_) (fun cdv A outer s H vs Q E hr h => ?_)
  · obtain ⟨U, a, b, es, fs, rfl, _⟩ := h; rfl
  · obtain ⟨U, a, b, es, fs, rfl, h1, h2, k⟩ := h
    have hu := hu_of hr
    have hu64 := hr.units
    refine ⟨_, (pss_cons (ps_set (i := 2) sc_p_united.nd rfl (Or.inl rfl) (pe_callTy call_dictD (by rfl) T.n_dict (by decide +kernel) (pa_cons (pv 0) pa_nil)))
  (pss_cons (ps_lock (ps_for PassesOwn.never rfl (pi_items (pv 1)) (pg_tup rfl (pgs_cons (pg_name (i := 3) sc_p_united.nd rfl (Or.inl rfl)) (pgs_cons (pg_name (i := 4) sc_p_united.nd rfl (Or.inl rfl)) pgs_nil)))
    (pss_one (ps_expr (pe_dsetd (pv 2) (pv 3) (pv 4) ⟨rfl, rfl, rfl, rfl⟩)))))
  (pss_one (ps_ret (pv 2))))), ?_⟩
    refine ⟨_, rfl, _, _, rfl, .inl h1.1, fun p hp => ?_⟩
    generalize e_p : upd H p _ = H1
    have s_p := new_same e_p hp
    have h_p := new_at e_p
    have q2 := h2.same s_p
    have npb : b ≠ p := ne_of_none h2.1 hp
    refine ⟨b, .dK (ents fs), q2.1, trivial, fun od => ⟨_, rfl, _, _, _, rfl, upd_same, ?_⟩⟩
    refine for_items (fun i σ H' => ∃ v3 v4, σ = [some (.ref a), some (.ref b), some (.ref p), v3, v4] ∧ Ext p (upd H1 b (.frz od (.dK (ents fs)))) H' ∧
      H' p = some (.dK (ents (es ++ (fs.take i).filter fun q => !has es q.1)))) ?_ ?_ ?_ ?_
    · refine ⟨_, _, rfl, fun _ _ _ e => e, ?_⟩
      rw [upd_ne npb.symm, h_p, List.take_zero, List.filter_nil, List.append_nil]
    · rintro i σ H' hi ⟨v3, v4, rfl, s2, _⟩
      exact s2 b _ npb upd_same
    · rintro i ky v Tt σ H' he ⟨v3, v4, rfl, s2, hd⟩ hT
      obtain ⟨n, x, e1, rfl, rfl⟩ := ents_at he
      have nT : p ≠ Tt := ne_of_none hd hT
      have hd2 : upd H' Tt (.tup [.int n, .str x]) p = _ := (upd_ne nT).trans hd
      refine ⟨Tt, _, rfl, .inl (.inl upd_same), rfl, _, _, rfl, _, _, rfl, rfl, ?_⟩
      refine ⟨_, rfl, p, rfl, .inl ⟨_, .inl hd2⟩, _, rfl, _, rfl, _, .inl n, hd2, rfl, FD.app h1.2 h2.2 i, ?_, ?_⟩
      · intro v e
        refine ⟨_, _, rfl, fun b o n e => (upd_ne (ne_of_none (s2 b o n e) hT)).trans (s2 b o n e), hd2.trans ?_⟩
        rw [united_old h2.2.1 e1 e]
      · intro e
        refine ⟨_, _, rfl, fun b o nb e => (upd_ne nb).trans ((upd_ne (ne_of_none (s2 b o nb e) hT)).trans (s2 b o nb e)), upd_same.trans ?_⟩
        rw [united_new h2.2.1 e1 e]
    · rintro σ H' ⟨v3, v4, rfl, s2, hd⟩
      refine ⟨s2 b _ npb upd_same, _, rfl, ?_⟩
      rw [ents_len, List.take_length] at hd
      refine k p _ ?_ ⟨(upd_ne npb.symm).trans hd, h1.2.united h2.2⟩
      intro c o e
      by_cases hc : c = b
      · subst hc
        rw [h2.1] at e
        cases e
        exact upd_same
      · exact (upd_ne hc).trans (s2 c o (ne_of_none e hp) ((upd_ne hc).trans (s_p c o e)))
theorem sc_p_common : FnScope ["forms", "others", "key", "form"] ["forms", "others"] (defScope s_p_common) := ⟨rfl, rfl, rfl, by decide +kernel, rfl, by decide +kernel, by decide +kernel⟩
theorem ok_p_common {f : Addr} {fd : FuncData} (F : Fun K "_common" "_common" s_p_common f fd) (T : Txt K mg C_FormSet)
    : FnOk P w K mg base CX0 1 f fd ["forms", "others"] (spRaw common) := by
  refine F.ok sc_p_common (fun vs H Q E h => ?_) (fun cdv A outer s H vs Q E hr h => ?_)
  · obtain ⟨U, a, b, es, fs, rfl, _⟩ := h; rfl
  · obtain ⟨U, a, b, es, fs, rfl, h1, h2, k⟩ := h
    have hu := hu_of hr
    have hu64 := hr.units
    refine ⟨_, (pss_one (ps_ret (pe_lock (pe_dc (own := [("key", 2), ("form", 3)]) (g := gTup K 2 (gCons (gName 2) (gCons (gName 3) gNil))) rfl sc_p_common.nd (pi_items (pv 0)) (blkOk_by (own := [("key", 2), ("form", 3)]) (N := ["forms", "others", "key", "form"]) (sc := defScope s_p_common) (by decide +kernel)) (fun _ _ _ _ _ => (pg_tup rfl (pgs_cons (pg_name (i := 2) sc_p_common.nd rfl (Or.inl rfl)) (pgs_cons (pg_name (i := 3) sc_p_common.nd rfl (Or.inl rfl)) pgs_nil)))) (fun _ _ _ _ _ => (pts_one (pt_cmp (pc_din hu (pv 2) (pv 1))))) (fun _ _ _ _ _ => (pv 2)) (fun _ _ _ _ _ => (pv 3)))))), ?_⟩
    refine ⟨a, .dK (ents es), h1.1, trivial, fun od => ⟨_, rfl, a, od, _, rfl, upd_same, fun D hD => ?_⟩⟩
    have nDa : a ≠ D := fun e => by rw [← e, upd_same] at hD; cases hD
    have hb : ∀ H', Ext D (upd H a (.frz od (.dK (ents es)))) H' → Rd H' b (.dK (ents fs)) := by
      intro H' x
      by_cases e : b = a
      · subst e
        have q := x b _ nDa upd_same
        have z : ents es = ents fs := by
          have z := h1.1.symm.trans h2.1
          injection z with z
          injection z
        exact .inr ⟨od, by rw [q, z]⟩
      · refine .inl (x b _ (fun z => ?_) ((upd_ne e).trans h2.1))
        subst z
        rw [upd_ne e, h2.1] at hD
        cases hD
    refine dc_items (fun i H' => Ext D (upd H a (.frz od (.dK (ents es)))) H' ∧ H' D = some (.dK (ents ((es.take i).filter fun q => has fs q.1)))) ?_ ?_ ?_ ?_
    · exact ⟨fun c o n e => (upd_ne n).trans e, upd_same⟩
    · rintro i H' hi ⟨x, _⟩
      exact x a _ nDa upd_same
    · rintro i ky v Tt H' he ⟨x, hd⟩ hT
      obtain ⟨n, y, e1, rfl, rfl⟩ := ents_at he
      have x2 : Ext D H' (upd H' Tt (.tup [.int n, .str y])) := fun c o _ e => (upd_ne (ne_of_none e hT)).trans e
      have hd2 : upd H' Tt (.tup [.int n, .str y]) D = _ := (upd_ne (ne_of_none hd hT)).trans hd
      refine ⟨Tt, _, rfl, .inl (.inl upd_same), rfl, _, _, rfl, _, _, rfl, rfl, rfl, _, rfl, _, rfl, b, _, rfl, .inl ⟨_, .inl n, hb _ (x.trans x2), rfl, rfl⟩, _, rfl, ?_⟩
      have hh : (valV (ents fs) (.inl n)).isSome = has fs n := by
        rw [valV_ents]
        unfold has
        cases look fs n <;> rfl
      cases q : has fs n with
      | true =>
        rw [hh, q]
        refine iteT ⟨_, rfl, _, rfl, _, .inl n, rfl, hd2, ?_, ?_, ?_⟩
        · rw [ents_len]
          refine small1000 (Nat.le_trans (List.length_filter_le _ _) ?_)
          rw [List.length_take]
          have := h1.2.len
          omega
        · exact fun c o nc e => (upd_ne nc).trans ((x.trans x2) c o nc e)
        · refine upd_same.trans ?_
          rw [take_one e1, List.filter_append, List.filter_cons, q]
          congr 2
          refine put_new fun z => ?_
          exact absurd (look_none.mp (look_part h1.2.1 e1)) fun zz => zz ((keys_filter_sub _ _).subset z)
      | false =>
        rw [hh, q]
        refine iteF ⟨x.trans x2, ?_⟩
        rw [take_one e1, List.filter_append, List.filter_cons, q]
        refine hd2.trans ?_
        simp
    · rintro H' ⟨x, hd⟩
      refine ⟨x a _ nDa upd_same, ?_⟩
      rw [ents_len, List.take_length] at hd
      refine k D _ ?_ ⟨(upd_ne nDa.symm).trans hd, h1.2.common fs⟩
      intro c o e
      by_cases hc : c = a
      · subst hc
        rw [h1.1] at e
        cases e
        exact upd_same
      · refine (upd_ne hc).trans (x c o ?_ ((upd_ne hc).trans e))
        intro z
        subst z
        rw [upd_ne hc, e] at hD
        cases hD
theorem sc_p_rest : FnScope ["forms", "others", "key", "form"] ["forms", "others"] (defScope s_p_rest) := ⟨rfl, rfl, rfl, by decide +kernel, rfl, by decide +kernel, by decide +kernel⟩
theorem ok_p_rest {f : Addr} {fd : FuncData} (F : Fun K "_rest" "_rest" s_p_rest f fd) (T : Txt K mg C_FormSet)
    : FnOk P w K mg base CX0 1 f fd ["forms", "others"] (spRaw rest) := by
  refine F.ok sc_p_rest (fun vs H Q E h => ?_) (fun cdv A outer s H vs Q E hr h => ?_)
  · obtain ⟨U, a, b, es, fs, rfl, _⟩ := h; rfl
  · obtain ⟨U, a, b, es, fs, rfl, h1, h2, k⟩ := h
    have hu := hu_of hr
    have hu64 := hr.units
    refine ⟨_, (pss_one (ps_ret (pe_lock (pe_dc (own := [("key", 2), ("form", 3)]) (g := gTup K 2 (gCons (gName 2) (gCons (gName 3) gNil))) rfl sc_p_rest.nd (pi_items (pv 0)) (blkOk_by (own := [("key", 2), ("form", 3)]) (N := ["forms", "others", "key", "form"]) (sc := defScope s_p_rest) (by decide +kernel)) (fun _ _ _ _ _ => (pg_tup rfl (pgs_cons (pg_name (i := 2) sc_p_rest.nd rfl (Or.inl rfl)) (pgs_cons (pg_name (i := 3) sc_p_rest.nd rfl (Or.inl rfl)) pgs_nil)))) (fun _ _ _ _ _ => (pts_one (pt_cmp (pc_dnotin hu (pv 2) (pv 1))))) (fun _ _ _ _ _ => (pv 2)) (fun _ _ _ _ _ => (pv 3)))))), ?_⟩
    refine ⟨a, .dK (ents es), h1.1, trivial, fun od => ⟨_, rfl, a, od, _, rfl, upd_same, fun D hD => ?_⟩⟩
    have nDa : a ≠ D := fun e => by rw [← e, upd_same] at hD; cases hD
    have hb : ∀ H', Ext D (upd H a (.frz od (.dK (ents es)))) H' → Rd H' b (.dK (ents fs)) := by
      intro H' x
      by_cases e : b = a
      · subst e
        have q := x b _ nDa upd_same
        have z : ents es = ents fs := by
          have z := h1.1.symm.trans h2.1
          injection z with z
          injection z
        exact .inr ⟨od, by rw [q, z]⟩
      · refine .inl (x b _ (fun z => ?_) ((upd_ne e).trans h2.1))
        subst z
        rw [upd_ne e, h2.1] at hD
        cases hD
    refine dc_items (fun i H' => Ext D (upd H a (.frz od (.dK (ents es)))) H' ∧ H' D = some (.dK (ents ((es.take i).filter fun q => !has fs q.1)))) ?_ ?_ ?_ ?_
    · exact ⟨fun c o n e => (upd_ne n).trans e, upd_same⟩
    · rintro i H' hi ⟨x, _⟩
      exact x a _ nDa upd_same
    · rintro i ky v Tt H' he ⟨x, hd⟩ hT
      obtain ⟨n, y, e1, rfl, rfl⟩ := ents_at he
      have x2 : Ext D H' (upd H' Tt (.tup [.int n, .str y])) := fun c o _ e => (upd_ne (ne_of_none e hT)).trans e
      have hd2 : upd H' Tt (.tup [.int n, .str y]) D = _ := (upd_ne (ne_of_none hd hT)).trans hd
      refine ⟨Tt, _, rfl, .inl (.inl upd_same), rfl, _, _, rfl, _, _, rfl, rfl, rfl, _, rfl, _, rfl, b, _, rfl, .inl ⟨_, .inl n, hb _ (x.trans x2), rfl, rfl⟩, _, rfl, ?_⟩
      have hh : (valV (ents fs) (.inl n)).isSome = has fs n := by
        rw [valV_ents]
        unfold has
        cases look fs n <;> rfl
      cases q : has fs n with
      | false =>
        rw [hh, q]
        refine iteT ⟨_, rfl, _, rfl, _, .inl n, rfl, hd2, ?_, ?_, ?_⟩
        · rw [ents_len]
          refine small1000 (Nat.le_trans (List.length_filter_le _ _) ?_)
          rw [List.length_take]
          have := h1.2.len
          omega
        · exact fun c o nc e => (upd_ne nc).trans ((x.trans x2) c o nc e)
        · refine upd_same.trans ?_
          rw [take_one e1, List.filter_append, List.filter_cons, q]
          congr 2
          refine put_new fun z => ?_
          exact absurd (look_none.mp (look_part h1.2.1 e1)) fun zz => zz ((keys_filter_sub _ _).subset z)
      | true =>
        rw [hh, q]
        refine iteF ⟨x.trans x2, ?_⟩
        rw [take_one e1, List.filter_append, List.filter_cons, q]
        refine hd2.trans ?_
        simp
    · rintro H' ⟨x, hd⟩
      refine ⟨x a _ nDa upd_same, ?_⟩
      rw [ents_len, List.take_length] at hd
      refine k D _ ?_ ⟨(upd_ne nDa.symm).trans hd, h1.2.rest fs⟩
      intro c o e
      by_cases hc : c = a
      · subst hc
        rw [h1.1] at e
        cases e
        exact upd_same
      · refine (upd_ne hc).trans (x c o ?_ ((upd_ne hc).trans e))
        intro z
        subst z
        rw [upd_ne hc, e] at hD
        cases hD
theorem sc_FormSet_or : FnScope ["self", "other"] ["self", "other"] (defScope s_FormSet_or) := ⟨rfl, rfl, rfl, by decide +kernel, rfl, by decide +kernel, by decide +kernel⟩
theorem ok_FormSet_or {f : Addr} {fd : FuncData} (F : Fun K "__or__" "FormSet.__or__" s_FormSet_or f fd) (T : Txt K mg C_FormSet)
    (D_p_set_of : Fn P w K mg base 7 "_set_of" ["forms"] (spSetOf C_FormSet))
    (D_p_united : Fn P w K mg base 1 "_united" ["first", "second"] (spRaw united))
    : FnOk P w K mg base CX0 8 f fd ["self", "other"] (spOp C_FormSet united) := by
  refine F.ok sc_FormSet_or (fun vs H Q E h => ?_) (fun cdv A outer s H vs Q E hr h => ?_)
  · obtain ⟨U, a, b, es, fs, rfl, _⟩ := h; rfl
  · obtain ⟨U, a, b, es, fs, rfl, ⟨dxa, da, ha, hda⟩, ⟨dxb, db, hb, hdb⟩, k⟩ := h
    have hu := hu_of hr
    have hu64 := hr.units
    refine ⟨_, (pss_one (ps_ret (pe_fn D_p_set_of (hr.mono (by decide)) rfl (pa_cons (pe_fn D_p_united (hr.mono (by decide)) rfl (pa_cons (pe_fld (pv 0) rfl) (pa_cons (pe_fld (pv 1) rfl) pa_nil))) pa_nil)))), ?_⟩
    refine ⟨_, rfl, a, _, _, _, _, rfl, ha, T.cl_FormSet, T.nF, rfl, _, rfl, b, _, _, _, _, rfl, hb, T.cl_FormSet, T.nF, rfl, ?_⟩
    exact ⟨U, da, db, es, fs, rfl, hda, hdb, fun d H' s hd => ⟨U, d, _, rfl, hd, fun x H2 s2 hx => k x H2 (s.trans s2) hx⟩⟩
theorem sc_FormSet_len : FnScope ["self"] ["self"] (defScope s_FormSet_len) := ⟨rfl, rfl, rfl, by decide +kernel, rfl, by decide +kernel, by decide +kernel⟩
theorem ok_FormSet_len {f : Addr} {fd : FuncData} (F : Fun K "__len__" "FormSet.__len__" s_FormSet_len f fd) (T : Txt K mg C_FormSet)
    : FnOk P w K mg base CX0 1 f fd ["self"] (spLen C_FormSet) := by
  refine F.ok sc_FormSet_len (fun vs H Q E h => ?_) (fun cdv A outer s H vs Q E hr h => ?_)
  · obtain ⟨U, a, es, rfl, _⟩ := h; rfl
  · obtain ⟨U, a, es, rfl, ⟨dxa, da, ha, hda⟩, k⟩ := h
    have hu := hu_of hr
    have hu64 := hr.units
    refine ⟨_, (pss_one (ps_ret (pe_callB call_lenD (by rfl) T.n_len PySem.boot_len (pa_cons (pe_fld (pv 0) rfl) pa_nil)))), ?_⟩
    refine ⟨_, rfl, a, _, _, _, _, rfl, ha, T.cl_FormSet, T.nF, rfl, da, ents es, rfl, hda.1, ?_⟩
    rw [ents_len]
    exact k
theorem sc_FormSet_and : FnScope ["self", "other"] ["self", "other"] (defScope s_FormSet_and) := ⟨rfl, rfl, rfl, by decide +kernel, rfl, by decide +kernel, by decide +kernel⟩
theorem ok_FormSet_and {f : Addr} {fd : FuncData} (F : Fun K "__and__" "FormSet.__and__" s_FormSet_and f fd) (T : Txt K mg C_FormSet)
    (D_p_set_of : Fn P w K mg base 7 "_set_of" ["forms"] (spSetOf C_FormSet))
    (D_p_common : Fn P w K mg base 1 "_common" ["forms", "others"] (spRaw common))
    (D_FormSet_len : Mt P w K mg base C_FormSet "__len__" 1 ["self"] (spLen C_FormSet))
    : FnOk P w K mg base CX0 9 f fd ["self", "other"] (spOp C_FormSet smaller) := by
  refine F.ok sc_FormSet_and (fun vs H Q E h => ?_) (fun cdv A outer s H vs Q E hr h => ?_)
  · obtain ⟨U, a, b, es, fs, rfl, _⟩ := h; rfl
  · obtain ⟨U, a, b, es, fs, rfl, ⟨dxa, da, ha, hda⟩, ⟨dxb, db, hb, hdb⟩, k⟩ := h
    have hu := hu_of hr
    have hu64 := hr.units
    refine ⟨_, (pss_cons (ps_if (pt_cmpR op_lt (pe_callB (call_ownLen D_FormSet_len.op (hr.mono (by decide))) (by rfl) T.n_len PySem.boot_len (pa_cons (pv 0) pa_nil)) (pe_callB (call_ownLen D_FormSet_len.op (hr.mono (by decide))) (by rfl) T.n_len PySem.boot_len (pa_cons (pv 1) pa_nil)) (nomark _))
    (pss_one (ps_ret (pe_fn D_p_set_of (hr.mono (by decide)) rfl (pa_cons (pe_fn D_p_common (hr.mono (by decide)) rfl (pa_cons (pe_fld (pv 0) rfl) (pa_cons (pe_fld (pv 1) rfl) pa_nil))) pa_nil))))
    pss_nil)
  (pss_one (ps_ret (pe_fn D_p_set_of (hr.mono (by decide)) rfl (pa_cons (pe_fn D_p_common (hr.mono (by decide)) rfl (pa_cons (pe_fld (pv 1) rfl) (pa_cons (pe_fld (pv 0) rfl) pa_nil))) pa_nil))))), ?_⟩
    have la := hda.2.len
    have lb := hdb.2.len
    refine ⟨_, rfl, a, _, _, rfl, ha, U, a, es, rfl, ⟨dxa, da, ha, hda⟩, _, rfl, by omega, by omega, ?_⟩
    refine ⟨_, rfl, b, _, _, rfl, hb, U, b, fs, rfl, ⟨dxb, db, hb, hdb⟩, _, rfl, by omega, by omega, ?_⟩
    refine ⟨_, _, rfl, rfl, _, rfl, ite2 (fun c => ?_) (fun c => ?_)⟩
    · have c2 : es.length < fs.length := by simpa using c
      refine ⟨_, rfl, a, _, _, _, _, rfl, ha, T.cl_FormSet, T.nF, rfl, _, rfl, b, _, _, _, _, rfl, hb, T.cl_FormSet, T.nF, rfl, ?_⟩
      refine ⟨U, da, db, es, fs, rfl, hda, hdb, fun d H' s hd => ⟨U, d, _, rfl, hd, fun x H2 s2 hx => k x H2 (s.trans s2) ?_⟩⟩
      unfold smaller
      rw [if_pos c2]
      exact hx
    · have c2 : ¬ es.length < fs.length := by simpa using c
      refine ⟨_, rfl, b, _, _, _, _, rfl, hb, T.cl_FormSet, T.nF, rfl, _, rfl, a, _, _, _, _, rfl, ha, T.cl_FormSet, T.nF, rfl, ?_⟩
      refine ⟨U, db, da, fs, es, rfl, hdb, hda, fun d H' s hd => ⟨U, d, _, rfl, hd, fun x H2 s2 hx => k x H2 (s.trans s2) ?_⟩⟩
      unfold smaller
      rw [if_neg c2]
      exact hx
theorem sc_FormSet_sub : FnScope ["self", "other"] ["self", "other"] (defScope s_FormSet_sub) := ⟨rfl, rfl, rfl, by decide +kernel, rfl, by decide +kernel, by decide +kernel⟩
theorem ok_FormSet_sub {f : Addr} {fd : FuncData} (F : Fun K "__sub__" "FormSet.__sub__" s_FormSet_sub f fd) (T : Txt K mg C_FormSet)
    (D_p_set_of : Fn P w K mg base 7 "_set_of" ["forms"] (spSetOf C_FormSet))
    (D_p_rest : Fn P w K mg base 1 "_rest" ["forms", "others"] (spRaw rest))
    : FnOk P w K mg base CX0 8 f fd ["self", "other"] (spOp C_FormSet rest) := by
  refine F.ok sc_FormSet_sub (fun vs H Q E h => ?_) (fun cdv A outer s H vs Q E hr h => ?_)
  · obtain ⟨U, a, b, es, fs, rfl, _⟩ := h; rfl
  · obtain ⟨U, a, b, es, fs, rfl, ⟨dxa, da, ha, hda⟩, ⟨dxb, db, hb, hdb⟩, k⟩ := h
    have hu := hu_of hr
    have hu64 := hr.units
    refine ⟨_, (pss_one (ps_ret (pe_fn D_p_set_of (hr.mono (by decide)) rfl (pa_cons (pe_fn D_p_rest (hr.mono (by decide)) rfl (pa_cons (pe_fld (pv 0) rfl) (pa_cons (pe_fld (pv 1) rfl) pa_nil))) pa_nil)))), ?_⟩
    refine ⟨_, rfl, a, _, _, _, _, rfl, ha, T.cl_FormSet, T.nF, rfl, _, rfl, b, _, _, _, _, rfl, hb, T.cl_FormSet, T.nF, rfl, ?_⟩
    exact ⟨U, da, db, es, fs, rfl, hda, hdb, fun d H' s hd => ⟨U, d, _, rfl, hd, fun x H2 s2 hx => k x H2 (s.trans s2) hx⟩⟩
theorem sc_FormSet_xor : FnScope ["self", "other", "mine", "theirs"] ["self", "other"] (defScope s_FormSet_xor) := ⟨rfl, rfl, rfl, by decide +kernel, rfl, by decide +kernel, by decide +kernel⟩
theorem ok_FormSet_xor {f : Addr} {fd : FuncData} (F : Fun K "__xor__" "FormSet.__xor__" s_FormSet_xor f fd) (T : Txt K mg C_FormSet)
    (D_p_set_of : Fn P w K mg base 7 "_set_of" ["forms"] (spSetOf C_FormSet))
    (D_p_united : Fn P w K mg base 1 "_united" ["first", "second"] (spRaw united))
    (D_p_rest : Fn P w K mg base 1 "_rest" ["forms", "others"] (spRaw rest))
    : FnOk P w K mg base CX0 8 f fd ["self", "other"] (spOp C_FormSet apart) := by
  refine F.ok sc_FormSet_xor (fun vs H Q E h => ?_) (fun cdv A outer s H vs Q E hr h => ?_)
  · obtain ⟨U, a, b, es, fs, rfl, _⟩ := h; rfl
  · obtain ⟨U, a, b, es, fs, rfl, ⟨dxa, da, ha, hda⟩, ⟨dxb, db, hb, hdb⟩, k⟩ := h
    have hu := hu_of hr
    have hu64 := hr.units
    refine ⟨_, (pss_cons (ps_set (i := 2) sc_FormSet_xor.nd rfl (Or.inl rfl) (pe_fn D_p_rest (hr.mono (by decide)) rfl (pa_cons (pe_fld (pv 0) rfl) (pa_cons (pe_fld (pv 1) rfl) pa_nil))))
  (pss_cons (ps_set (i := 3) sc_FormSet_xor.nd rfl (Or.inl rfl) (pe_fn D_p_rest (hr.mono (by decide)) rfl (pa_cons (pe_fld (pv 1) rfl) (pa_cons (pe_fld (pv 0) rfl) pa_nil))))
  (pss_one (ps_ret (pe_fn D_p_set_of (hr.mono (by decide)) rfl (pa_cons (pe_fn D_p_united (hr.mono (by decide)) rfl (pa_cons (pv 2) (pa_cons (pv 3) pa_nil))) pa_nil)))))), ?_⟩
    refine ⟨_, rfl, a, _, _, _, _, rfl, ha, T.cl_FormSet, T.nF, rfl, _, rfl, b, _, _, _, _, rfl, hb, T.cl_FormSet, T.nF, rfl, ?_⟩
    refine ⟨U, da, db, es, fs, rfl, hda, hdb, fun d1 H1 s1 hd1 => ?_⟩
    refine ⟨_, rfl, b, _, _, _, _, rfl, s1 _ _ hb, T.cl_FormSet, T.nF, rfl, _, rfl, a, _, _, _, _, rfl, s1 _ _ ha, T.cl_FormSet, T.nF, rfl, ?_⟩
    refine ⟨U, db, da, fs, es, rfl, hdb.same s1, hda.same s1, fun d2 H2 s2 hd2 => ?_⟩
    refine ⟨_, rfl, _, rfl, U, d1, d2, _, _, rfl, hd1.same s2, hd2, fun d3 H3 s3 hd3 => ?_⟩
    exact ⟨U, d3, _, rfl, hd3, fun x H4 s4 hx => k x H4 (((s1.trans s2).trans s3).trans s4) hx⟩
theorem sc_FormSet_joined : FnScope ["self", "others", "forms", "other"] ["self", "others"] (defScope s_FormSet_joined) := ⟨rfl, rfl, rfl, by decide +kernel, rfl, by decide +kernel, by decide +kernel⟩
theorem ok_FormSet_joined {f : Addr} {fd : FuncData} (F : Fun K "joined" "FormSet.joined" s_FormSet_joined f fd) (T : Txt K mg C_FormSet)
    (D_p_set_of : Fn P w K mg base 7 "_set_of" ["forms"] (spSetOf C_FormSet))
    (D_p_united : Fn P w K mg base 1 "_united" ["first", "second"] (spRaw united))
    : FnR P w K mg base CX0 8 f (spStar ["self"] (spJoin K C_FormSet)) := by
  refine Fun.star F sc_FormSet_joined (by intro kV doc pm an cdv ct us rest hl; match us, rest, hl with | [_], [], _ => rfl | [_], _ :: _, _ => rfl) (fun cdv A outer s H vs Q E hr h => ?_)
  · obtain ⟨U, a, p, es, xs, ls, rfl, ⟨dxa, da, ha, hda⟩, hp, hs, k⟩ := h
    have hu := hu_of hr
    have hu64 := hr.units
    refine ⟨_, (pss_cons (ps_set (i := 2) sc_FormSet_joined.nd rfl (Or.inl rfl) (pe_callTy call_dictD (by rfl) T.n_dict (by decide +kernel) (pa_cons (pe_fld (pv 0) rfl) pa_nil)))
  (pss_cons (ps_for PassesOwn.never rfl (pi_tup (pv 1)) (pg_name (i := 3) sc_FormSet_joined.nd rfl (Or.inl rfl))
    (pss_one (ps_set (i := 2) sc_FormSet_joined.nd rfl (Or.inl rfl) (pe_fn D_p_united (hr.mono (by decide)) rfl (pa_cons (pv 2) (pa_cons (pe_fld (pv 3) rfl) pa_nil))))))
  (pss_one (ps_ret (pe_fn D_p_set_of (hr.mono (by decide)) rfl (pa_cons (pv 2) pa_nil)))))), ?_⟩
    refine ⟨_, rfl, a, _, _, _, _, rfl, ha, T.cl_FormSet, T.nF, rfl, da, _, rfl, .inl hda.1, fun d hd => ?_⟩
    generalize e_d : upd H d _ = H1
    have s_d := new_same e_d hd
    have h_d := new_at e_d
    refine ⟨_, rfl, p, rfl, ⟨xs, sqT_same s_d hp⟩, ?_⟩
    refine for_tup (xs := xs) (fun i σ H' => ∃ d2 v3, σ = [some (.ref a), some (.ref p), some (.ref d2), v3] ∧ Same H H' ∧ FD U H' d2 (joinAll es (ls.take i))) ?_ ?_ ?_ ?_
    · exact ⟨_, _, rfl, s_d, h_d, hda.2⟩
    · rintro i σ H' hi ⟨d2, v3, rfl, s2, hd2⟩
      exact sqT_same s2 hp
    · rintro i v σ H' hv ⟨d2, v3, rfl, s2, hd2⟩
      obtain ⟨y, fs, rfl, e1, ⟨dxy, dy, hy, hdy⟩⟩ := hs.at hv
      refine ⟨_, rfl, _, rfl, y, _, _, _, _, rfl, s2 _ _ hy, T.cl_FormSet, T.nF, rfl, ?_⟩
      refine ⟨U, d2, dy, _, _, rfl, hd2, hdy.same s2, fun d3 H3 s3 hd3 => ⟨_, _, rfl, s2.trans s3, ?_⟩⟩
      rw [take_one e1]
      unfold joinAll
      rw [List.foldl_append]
      exact hd3
    · rintro σ H' ⟨d2, v3, rfl, s2, hd2⟩
      rw [hs.len, List.take_length] at hd2
      exact ⟨_, rfl, U, d2, _, rfl, hd2, fun x H2 s3 hx => k x H2 (s2.trans s3) hx⟩
theorem sc_FormSet_kept : FnScope ["self", "other"] ["self", "other"] (defScope s_FormSet_kept) := ⟨rfl, rfl, rfl, by decide +kernel, rfl, by decide +kernel, by decide +kernel⟩
theorem ok_FormSet_kept {f : Addr} {fd : FuncData} (F : Fun K "kept" "FormSet.kept" s_FormSet_kept f fd) (T : Txt K mg C_FormSet)
    (D_p_set_of : Fn P w K mg base 7 "_set_of" ["forms"] (spSetOf C_FormSet))
    (D_p_common : Fn P w K mg base 1 "_common" ["forms", "others"] (spRaw common))
    : FnOk P w K mg base CX0 8 f fd ["self", "other"] (spOp C_FormSet common) := by
  refine F.ok sc_FormSet_kept (fun vs H Q E h => ?_) (fun cdv A outer s H vs Q E hr h => ?_)
  · obtain ⟨U, a, b, es, fs, rfl, _⟩ := h; rfl
  · obtain ⟨U, a, b, es, fs, rfl, ⟨dxa, da, ha, hda⟩, ⟨dxb, db, hb, hdb⟩, k⟩ := h
    have hu := hu_of hr
    have hu64 := hr.units
    refine ⟨_, (pss_one (ps_ret (pe_fn D_p_set_of (hr.mono (by decide)) rfl (pa_cons (pe_fn D_p_common (hr.mono (by decide)) rfl (pa_cons (pe_fld (pv 0) rfl) (pa_cons (pe_fld (pv 1) rfl) pa_nil))) pa_nil)))), ?_⟩
    refine ⟨_, rfl, a, _, _, _, _, rfl, ha, T.cl_FormSet, T.nF, rfl, _, rfl, b, _, _, _, _, rfl, hb, T.cl_FormSet, T.nF, rfl, ?_⟩
    exact ⟨U, da, db, es, fs, rfl, hda, hdb, fun d H' s hd => ⟨U, d, _, rfl, hd, fun x H2 s2 hx => k x H2 (s.trans s2) hx⟩⟩
theorem sc_FormSet_members : FnScope ["self"] ["self"] (defScope s_FormSet_members) := ⟨rfl, rfl, rfl, by decide +kernel, rfl, by decide +kernel, by decide +kernel⟩
theorem ok_FormSet_members {f : Addr} {fd : FuncData} (F : Fun K "members" "FormSet.members" s_FormSet_members f fd) (T : Txt K mg C_FormSet)
    : FnOk P w K mg base CX0 1 f fd ["self"] (spMem C_FormSet) := by
  refine F.ok sc_FormSet_members (fun vs H Q E h => ?_) (fun cdv A outer s H vs Q E hr h => ?_)
  · obtain ⟨U, a, es, rfl, _⟩ := h; rfl
  · obtain ⟨U, a, es, rfl, ⟨dxa, da, ha, hda⟩, k⟩ := h
    have hu := hu_of hr
    have hu64 := hr.units
    refine ⟨_, (pss_one (ps_ret (pe_callB (cr_sortedE rfl) (by rfl) T.n_sorted (by decide +kernel) (pa_cons (pe_bm0 PySem.F.plainAttrs_dict PySem.F.slot_dict_items PySem.F.type_dict_items mt_itemsK (pe_fld (pv 0) rfl)) pa_nil)))), ?_⟩
    refine ⟨_, rfl, a, _, _, _, _, rfl, ha, T.cl_FormSet, T.nF, rfl, .inr (.inr (.inl ⟨rfl, .inl ⟨_, hda.1⟩⟩)), ?_⟩
    refine ⟨da, _, rfl, rfl, hda.1, fun p hp => ?_⟩
    generalize e_p : upd H p _ = H1
    have s_p := new_same e_p hp
    have h_p := new_at e_p
    exact ⟨p, da, es, rfl, h_p, s_p _ _ hda.1, hda.2.1, hda.2.len, fun H' l ts es' s hl ht hperm hsort => k H' l ts es' (s_p.trans s) hl ht hperm hsort⟩
theorem sc_FormSet_contains : FnScope ["self", "x"] ["self", "x"] (defScope s_FormSet_contains) := ⟨rfl, rfl, rfl, by decide +kernel, rfl, by decide +kernel, by decide +kernel⟩
theorem ok_FormSet_contains {f : Addr} {fd : FuncData} (F : Fun K "__contains__" "FormSet.__contains__" s_FormSet_contains f fd) (T : Txt K mg C_FormSet)
    (D_is_key : Fn P w K mg base 2 "is_key" ["thing"] (spIs K mKey))
    : FnOk P w K mg base CX0 3 f fd ["self", "x"] (spHas C_FormSet) := by
  refine F.ok sc_FormSet_contains (fun vs H Q E h => ?_) (fun cdv A outer s H vs Q E hr h => ?_)
  · obtain ⟨U, a, es, n, rfl, _⟩ := h; rfl
  · obtain ⟨U, a, es, n, rfl, ⟨dxa, da, ha, hda⟩, hn, k⟩ := h
    have hu := hu_of hr
    have hu64 := hr.units
    refine ⟨_, (pss_one (ps_ret (pe_and (pe_fn D_is_key (hr.mono (by decide)) rfl (pa_cons (pv 1) pa_nil)) (pe_one (pe_cmp (pc_din hu (pv 1) (pe_fld (pv 0) rfl)) rfl))))), ?_⟩
    refine ⟨_, rfl, _, .int n, rfl, .of (.int n), ⟨int_small hn, .inl rfl⟩, fun H1 s1 => ⟨_, rfl, ?_⟩⟩
    have ok : mKey (.int n) = true := by
      show (decide (0 ≤ n) && decide (n ≤ 999999)) = true
      rw [decide_eq_true hn.1, decide_eq_true hn.2]; rfl
    rw [ok]
    refine iteT ⟨_, rfl, _, rfl, a, _, _, _, _, rfl, s1 _ _ ha, T.cl_FormSet, T.nF, rfl, da, _, rfl, .inl ⟨_, .inl n, .inl (s1 _ _ hda.1), rfl, rfl⟩, ?_⟩
    have hh : (valV (ents es) (.inl n)).isSome = has es n := by
      rw [valV_ents]
      unfold has
      cases look es n <;> rfl
    rw [hh]
    exact k H1 s1
theorem sc_FormSet_with_element : FnScope ["self", "element"] ["self", "element"] (defScope s_FormSet_with_element) := ⟨rfl, rfl, rfl, by decide +kernel, rfl, by decide +kernel, by decide +kernel⟩
theorem ok_FormSet_with_element {f : Addr} {fd : FuncData} (F : Fun K "with_element" "FormSet.with_element" s_FormSet_with_element f fd) (T : Txt K mg C_FormSet)
    (D_FormSet_init : MkFn P w K mg base C_FormSet 5 ["self", "given"] (spInit K C_FormSet))
    (D_FormSet_or : Mt P w K mg base C_FormSet "__or__" 8 ["self", "other"] (spOp C_FormSet united))
    : FnOk P w K mg base CX0 10 f fd ["self", "element"] (spWith K C_FormSet) := by
  refine F.ok sc_FormSet_with_element (fun vs H Q E h => ?_) (fun cdv A outer s H vs Q E hr h => ?_)
  · obtain ⟨U, a, t, es, n, x, rfl, _⟩ := h; rfl
  · obtain ⟨U, a, t, es, n, x, rfl, ha, ht, hn, hx, hU, k⟩ := h
    have hu := hu_of hr
    have hu64 := hr.units
    refine ⟨_, (pss_one (ps_ret (pe_op (op_own D_FormSet_or (hr.mono (by decide)) T.sf_FormSet rfl) (pv 0) (pe_mk D_FormSet_init (hr.mono (by decide)) rfl T.g_FormSet (pa_cons (pe_lst (pa_cons (pv 1) pa_nil)) pa_nil))))), ?_⟩
    have hlen : U.length ≤ 1000 := by obtain ⟨_, _, _, _, g⟩ := ha; exact g.2.2
    refine ⟨_, rfl, _, rfl, size_ok (by simp), fun p hp => ?_⟩
    generalize e_p : upd H p _ = H1
    have s_p := new_same e_p hp
    have h_p := new_at e_p
    intro z dz hz hdz hne
    have sm := made_same (C := C_FormSet) (fs := []) hz hdz hne
    refine ⟨z, dz, p, [.ref t], [(n, x)], rfl, upd_same, .inl (sm _ _ h_p), .cons (sqT_same (s_p.trans sm) ht) hn hx .nil, (by show 1 ≤ 1000; decide), fun d2 H6 s6 hz6 hd6 => ⟨rfl, ?_⟩⟩
    have s16 : Same H1 H6 := by
      intro b o e
      have q := s6 b o ((del_at (ne_of_none e hz)).trans (sm _ _ e))
      rw [del_at (ne_of_none e hz)] at q
      exact q
    have hA := ha.same (s_p.trans s16)
    have hA2 := hA
    obtain ⟨dxa, da, ea, _⟩ := hA2
    have hZ : FS C_FormSet U H6 z [(n, x)] := ⟨dz, d2, hz6, hd6, good_firsts (l := [(n, x)]) (by intro q hq; rw [List.mem_singleton.mp hq]; exact hU) hlen⟩
    exact ⟨a, z, _, _, _, _, rfl, rfl, ea, hz6, U, a, z, es, [(n, x)], rfl, hA, hZ, fun d H7 s7 hd => k d H7 ((s_p.trans s16).trans s7) hd⟩
theorem sc_FormSet_without_key : FnScope ["self", "key", "forms"] ["self", "key"] (defScope s_FormSet_without_key) := ⟨rfl, rfl, rfl, by decide +kernel, rfl, by decide +kernel, by decide +kernel⟩
theorem ok_FormSet_without_key {f : Addr} {fd : FuncData} (F : Fun K "without_key" "FormSet.without_key" s_FormSet_without_key f fd) (T : Txt K mg C_FormSet)
    (D_p_set_of : Fn P w K mg base 7 "_set_of" ["forms"] (spSetOf C_FormSet))
    (D_FormSet_contains : Mt P w K mg base C_FormSet "__contains__" 3 ["self", "x"] (spHas C_FormSet))
    : FnOk P w K mg base CX0 8 f fd ["self", "key"] (spLess C_FormSet) := by
  refine F.ok sc_FormSet_without_key (fun vs H Q E h => ?_) (fun cdv A outer s H vs Q E hr h => ?_)
  · obtain ⟨U, a, es, n, rfl, _⟩ := h; rfl
  · obtain ⟨U, a, es, n, rfl, ha, hn, k⟩ := h
    have hu := hu_of hr
    have hu64 := hr.units
    refine ⟨_, (pss_cons (ps_set (i := 2) sc_FormSet_without_key.nd rfl (Or.inl rfl) (pe_callTy call_dictD (by rfl) T.n_dict (by decide +kernel) (pa_cons (pe_fld (pv 0) rfl) pa_nil)))
  (pss_cons (ps_if (pt_cmpR (op_ownIn D_FormSet_contains.op (hr.mono (by decide))) (pv 1) (pv 0) (by rfl))
    (pss_one (ps_ddel (pv 2) (pv 1)))
    pss_nil)
  (pss_one (ps_ret (pe_fn D_p_set_of (hr.mono (by decide)) rfl (pa_cons (pv 2) pa_nil)))))), ?_⟩
    have ha2 := ha
    obtain ⟨dxa, da, ea, hda⟩ := ha2
    refine ⟨_, rfl, a, _, _, _, _, rfl, ea, T.cl_FormSet, T.nF, rfl, da, _, rfl, .inl hda.1, fun p hp => ?_⟩
    generalize e_p : upd H p _ = H1
    have s_p := new_same e_p hp
    have h_p := new_at e_p
    refine ⟨_, rfl, _, rfl, a, _, _, rfl, s_p _ _ ea, U, a, es, n, rfl, ha.same s_p, hn, fun H2 s2 => ⟨_, rfl, _, rfl, ?_⟩⟩
    have hp2 := s2 _ _ h_p
    cases q : has es n with
    | true =>
      refine iteT ⟨_, rfl, _, rfl, p, _, .inl n, rfl, hp2, rfl, ?_, ?_⟩
      · rw [valV_ents]
        unfold has at q
        cases e : look es n with
        | none => rw [e] at q; cases q
        | some y => rfl
      · rw [drop_ents]
        refine ⟨_, rfl, U, p, without es n, rfl, ⟨upd_same, hda.2.filter _⟩, fun z H4 s4 hz => k z H4 (fun b o e => s4 _ _ ((upd_ne (ne_of_none e hp)).trans (s2 _ _ (s_p _ _ e)))) hz⟩
    | false =>
      refine iteF ⟨_, rfl, U, p, es, rfl, ⟨hp2, hda.2⟩, fun z H4 s4 hz => k z H4 ((s_p.trans s2).trans s4) ?_⟩
      rw [without_id q]
      exact hz
theorem sc_l_bag : FnScope ["_law_script", "_law_at", "_law_cell", "_law_far"] ["_law_script", "_law_at"] (defScope s_l_bag) := ⟨rfl, rfl, rfl, by decide +kernel, rfl, by decide +kernel, by decide +kernel⟩
theorem ok_l_bag {f : Addr} {fd : FuncData} (F : Fun K "_law_bag" "_law_bag" s_l_bag f fd) (T : Txt K mg C_FormSet)
    : FnOk P w K mg base CX0 1 f fd ["_law_script", "_law_at"] (spBag K) := by
  refine F.ok sc_l_bag (fun vs H Q E h => ?_) (fun cdv A outer s H vs Q E hr h => ?_)
  · obtain ⟨p, ns, i, rfl, _⟩ := h; rfl
  · obtain ⟨p, ns, i, rfl, hS, hi, k⟩ := h
    have hu := hu_of hr
    have hu64 := hr.units
    refine ⟨_, (pss_cons (ps_set (i := 2) sc_l_bag.nd rfl (Or.inl rfl) (pe_ifExp (pt_cmpR op_lt (pv 1) (pe_callB call_len_seq (by rfl) T.n_len PySem.boot_len (pa_cons (pv 0) pa_nil)) (nomark _)) (pe_ix ix_list (pv 0) (pv 1) (fun _ _ => rfl)) pe_int))
  (pss_cons (ps_set (i := 3) sc_l_bag.nd rfl (Or.inl rfl) (pe_ifExp (pt_cmpR op_ge (pe_callB call_abs (by rfl) T.n_abs (by decide +kernel) (pa_cons (pv 2) pa_nil)) (pe_op op_pow pe_int pe_int) (nomark _)) (pe_callB call_abs (by rfl) T.n_abs (by decide +kernel) (pa_cons (pv 2) pa_nil)) pe_int))
  (pss_one (ps_ret (pe_lst (pa_cons (pv 3) (pa_cons (pe_op op_modN (pe_op op_mul (pe_op op_add (pe_op op_add (pe_op op_modN (pv 2) pe_int) (pe_op op_mul pe_int (pv 1))) pe_int) pe_int) pe_int) (pa_cons pe_int pa_nil)))))))), ?_⟩
    have go : ∀ (c far : Int), ∀ a, H a = none → Q (.ref a) (upd H a (.lst [.int far, .int ((((c.fmod 2305843009213693951) + 7919 * (i : Int) + 31) * 48271).fmod 2305843009213693951), .int 0])) := by
      intro c far a ha
      refine k a _ ha ⟨_, _, _, upd_same, ?_, ?_, Int.le_refl _, Int.le_refl _⟩
      · rw [Int.fmod_eq_emod_of_nonneg _ (by decide)]; exact Int.emod_nonneg _ (by decide)
      · rw [Int.fmod_eq_emod_of_nonneg _ (by decide)]; exact Int.emod_lt_of_pos _ (by decide)
    refine ⟨_, rfl, _, rfl, _, _, rfl, Or.inl hS, _, _, rfl, rfl, _, rfl, ?_⟩
    rw [List.length_map]
    refine ite2 (fun c => ?_) (fun c => ?_)
    · have hlt : i < ns.length := by simpa using c
      refine ⟨_, rfl, _, rfl, _, _, _, .int (ns[i]), rfl, rfl, hS, at_of rfl (by simp [hlt]), ?_⟩
      refine ⟨_, rfl, _, rfl, _, _, rfl, rfl, ⟨by decide, by decide, by decide⟩, _, _, rfl, rfl, _, rfl, ?_⟩
      refine ite2 (fun c => ?_) (fun c => ?_)
      · refine ⟨_, rfl, _, rfl, ?_⟩
        refine ⟨_, rfl, _, rfl, _, _, rfl, rfl, (by omega), _, rfl, _, _, rfl, rfl, Or.inl ⟨by decide, by decide⟩, _, _, rfl, rfl, _, _, rfl, rfl, _, _, rfl, rfl, Or.inr ⟨by decide, by decide⟩, _, _, rfl, rfl, (by omega), size_ok (by simp), fun a ha => go _ _ a ha⟩
      · refine ⟨_, rfl, _, rfl, _, _, rfl, rfl, (by omega), _, rfl, _, _, rfl, rfl, Or.inl ⟨by decide, by decide⟩, _, _, rfl, rfl, _, _, rfl, rfl, _, _, rfl, rfl, Or.inr ⟨by decide, by decide⟩, _, _, rfl, rfl, (by omega), size_ok (by simp), fun a ha => go _ _ a ha⟩
    · refine ⟨_, rfl, _, rfl, _, _, rfl, rfl, ⟨by decide, by decide, by decide⟩, _, _, rfl, rfl, _, rfl, ?_⟩
      refine ite2 (fun c => ?_) (fun c => ?_)
      · refine ⟨_, rfl, _, rfl, ?_⟩
        refine ⟨_, rfl, _, rfl, _, _, rfl, rfl, (by omega), _, rfl, _, _, rfl, rfl, Or.inl ⟨by decide, by decide⟩, _, _, rfl, rfl, _, _, rfl, rfl, _, _, rfl, rfl, Or.inr ⟨by decide, by decide⟩, _, _, rfl, rfl, (by omega), size_ok (by simp), fun a ha => go _ _ a ha⟩
      · refine ⟨_, rfl, _, rfl, _, _, rfl, rfl, (by omega), _, rfl, _, _, rfl, rfl, Or.inl ⟨by decide, by decide⟩, _, _, rfl, rfl, _, _, rfl, rfl, _, _, rfl, rfl, Or.inr ⟨by decide, by decide⟩, _, _, rfl, rfl, (by omega), size_ok (by simp), fun a ha => go _ _ a ha⟩
theorem sc_l_take : FnScope ["_law_bag_here", "_law_many", "_law_digit", "_law_mixed"] ["_law_bag_here", "_law_many"] (defScope s_l_take) := ⟨rfl, rfl, rfl, by decide +kernel, rfl, by decide +kernel, by decide +kernel⟩
theorem ok_l_take {f : Addr} {fd : FuncData} (F : Fun K "_law_take" "_law_take" s_l_take f fd) (T : Txt K mg C_FormSet)
    : FnOk P w K mg base CX0 1 f fd ["_law_bag_here", "_law_many"] spTake := by
  refine F.ok sc_l_take (fun vs H Q E h => ?_) (fun cdv A outer s H vs Q E hr h => ?_)
  · obtain ⟨a, m, n, rfl, _⟩ := h; rfl
  · obtain ⟨a, m, n, rfl, ⟨x, y, z, hb, y0, y1, z0, z1⟩, hn, m0, m1, k⟩ := h
    have hu := hu_of hr
    have hu64 := hr.units
    refine ⟨_, (pss_cons (ps_if (pt_cmpR op_gt (pe_ix ix_list (pv 0) pe_int (fun _ _ => rfl)) pe_int (nomark _))
    (pss_cons (ps_set (i := 2) sc_l_take.nd rfl (Or.inl rfl) (pe_op op_modN (pe_ix ix_list (pv 0) pe_int (fun _ _ => rfl)) (pv 1)))
      (pss_cons (ps_asg (pe_op op_fdivN (pe_ix ix_list (pv 0) pe_int (fun _ _ => rfl)) (pv 1)) (pg_sub (pv 0) pe_int set_list))
      (pss_one (ps_ret (pv 2)))))
    pss_nil)
  (pss_cons (ps_asg (pe_op op_add (pe_ix ix_list (pv 0) pe_int (fun _ _ => rfl)) pe_int) (pg_sub (pv 0) pe_int set_list))
  (pss_cons (ps_set (i := 3) sc_l_take.nd rfl (Or.inl rfl) (pe_op op_modN (pe_op op_pow (pe_op op_add (pe_ix ix_list (pv 0) pe_int (fun _ _ => rfl)) (pe_op op_mul pe_int (pe_ix ix_list (pv 0) pe_int (fun _ _ => rfl)))) pe_int) pe_int))
  (pss_cons (ps_set (i := 3) sc_l_take.nd rfl (Or.inl rfl) (pe_op op_modN (pe_op op_pow (pe_op op_add (pv 3) (pe_op op_mul pe_int (pe_ix ix_list (pv 0) pe_int (fun _ _ => rfl)))) pe_int) pe_int))
  (pss_one (ps_ret (pe_op op_modN (pe_op op_fdivN (pv 3) pe_int) (pv 1)))))))), ?_⟩
    refine ⟨_, rfl, _, _, _, _, rfl, rfl, SqL.of hb, rfl, _, _, rfl, rfl, _, rfl, ite2 (fun c => ?_) (fun c => ?_)⟩
    · refine ⟨_, rfl, _, _, _, _, rfl, rfl, SqL.of hb, rfl, _, rfl, _, _, rfl, rfl, (by omega), ?_⟩
      refine ⟨_, rfl, _, _, _, _, rfl, rfl, SqL.of hb, rfl, _, rfl, _, _, rfl, rfl, ⟨by omega, by omega⟩, _, rfl, _, _, _, _, rfl, rfl, hb, rfl, ?_⟩
      refine ⟨_, rfl, ?_⟩
      refine k _ _ ?_ ?_ But.upd ⟨_, y, z, upd_same, y0, y1, z0, by omega⟩
      · rw [Int.fmod_eq_emod_of_nonneg _ (by omega)]; exact Int.emod_nonneg _ (by omega)
      · rw [Int.fmod_eq_emod_of_nonneg _ (by omega)]; exact Int.emod_lt_of_pos _ (by omega)
    · refine ⟨_, rfl, _, _, _, _, rfl, rfl, SqL.of hb, rfl, _, _, rfl, rfl, _, rfl, _, _, _, _, rfl, rfl, hb, rfl, ?_⟩
      have hb2 := upd_same (H := H) (a := a) (o := .lst [.int x, .int y, .int (z + 1)])
      refine ⟨_, rfl, _, _, _, _, rfl, rfl, SqL.of hb2, rfl, _, rfl, _, _, _, _, rfl, rfl, SqL.of hb2, rfl, _, _, rfl, rfl, Or.inl ⟨by omega, by omega⟩, _, _, rfl, rfl, _, _, rfl, rfl, ⟨by decide, by decide, by omega⟩, _, _, rfl, rfl, (by omega), ?_⟩
      dsimp only
      generalize hg : Int.fmod _ 2305843009213693921 = mx
      have b1 : 0 ≤ mx ∧ mx < 2305843009213693921 := by
        rw [← hg, Int.fmod_eq_emod_of_nonneg _ (by decide)]
        exact ⟨Int.emod_nonneg _ (by decide), Int.emod_lt_of_pos _ (by decide)⟩
      refine ⟨_, rfl, _, rfl, _, _, _, _, rfl, rfl, SqL.of hb2, rfl, _, _, rfl, rfl, Or.inl ⟨by omega, by omega⟩, _, _, rfl, rfl, _, _, rfl, rfl, ⟨by decide, by decide, by omega⟩, _, _, rfl, rfl, (by omega), ?_⟩
      dsimp only
      generalize hg2 : Int.fmod _ 2305843009213693951 = my
      refine ⟨_, rfl, _, _, rfl, rfl, ⟨by decide, by decide⟩, _, rfl, _, _, rfl, rfl, (by omega), ?_⟩
      refine k _ _ ?_ ?_ But.upd ⟨x, y, z + 1, upd_same, y0, y1, by omega, by omega⟩
      · rw [Int.fmod_eq_emod_of_nonneg _ (by omega)]; exact Int.emod_nonneg _ (by omega)
      · rw [Int.fmod_eq_emod_of_nonneg _ (by omega)]; exact Int.emod_lt_of_pos _ (by omega)
theorem sc_l_set : FnScope ["_law_bag_here", "_law_many", "_law_forms", "_law_found", "_law_turn"] ["_law_bag_here", "_law_many", "_law_forms"] (defScope s_l_set) := ⟨rfl, rfl, rfl, by decide +kernel, rfl, by decide +kernel, by decide +kernel⟩
theorem ok_l_set {f : Addr} {fd : FuncData} (F : Fun K "_law_set" "_law_set" s_l_set f fd) (T : Txt K mg C_FormSet)
    (D_l_take : Fn P w K mg base 1 "_law_take" ["_law_bag_here", "_law_many"] spTake)
    : FnOk P w K mg base CX0 2 f fd ["_law_bag_here", "_law_many", "_law_forms"] (spRow K) := by
  refine F.ok sc_l_set (fun vs H Q E h => ?_) (fun cdv A outer s H vs Q E hr h => ?_)
  · obtain ⟨a, b, n, m, fl, rfl, _⟩ := h; rfl
  · obtain ⟨a, b, n, m, fl, rfl, hb, hn, m1, m2, hf, f1, f2, hne, k⟩ := h
    have hu := hu_of hr
    have hu64 := hr.units
    refine ⟨_, (pss_cons (ps_set (i := 3) sc_l_set.nd rfl (Or.inl rfl) pe_dnewK)
  (pss_cons (ps_for PassesOwn.never rfl (pi_range1 (by rfl) T.n_range (pa_cons (pe_fn D_l_take (hr.mono (by decide)) rfl (pa_cons (pv 0) (pa_cons (pe_op op_add (pv 1) pe_int) pa_nil))) pa_nil)) (pg_name (i := 4) sc_l_set.nd rfl (Or.inl rfl))
    (pss_one (ps_dput hu (pv 3) (pe_fn D_l_take (hr.mono (by decide)) rfl (pa_cons (pv 0) (pa_cons (pv 1) pa_nil))) (pe_ix ix_list (pv 2) (pe_fn D_l_take (hr.mono (by decide)) rfl (pa_cons (pv 0) (pa_cons (pe_callB call_len_seq (by rfl) T.n_len PySem.boot_len (pa_cons (pv 2) pa_nil)) pa_nil))) (fun _ _ => rfl)) rfl)))
  (pss_one (ps_ret (pv 3))))), ?_⟩
    intro d hd
    generalize e_d : upd H d _ = H1
    have s_d := new_same e_d hd
    have h_d := new_at e_d
    have nda : d ≠ a := hb.ne hd
    have nba : b ≠ a := by
      obtain ⟨_, _, _, q, _⟩ := hb
      intro e
      rw [e, q] at hf
      injection hf with hf
      injection hf with hf
      cases fl with
      | nil => cases hf
      | cons c r => cases hf
    have ndb : b ≠ d := ne_of_none hf hd
    refine ⟨_, rfl, _, rfl, _, _, rfl, rfl, a, _, n, rfl, hb.same s_d, by omega, by omega, by omega, fun r H2 r0 r1 b2 bag2 => ⟨_, rfl, by omega, by omega, ?_⟩⟩
    have hr21 : r.toNat ≤ 21 := by omega
    refine for_range (lo := 0) (fun i σ H' => ∃ v4 es, σ = [some (.ref a), some (.int m), some (.ref b), some (.ref d), v4] ∧ Bag H' a (n + 1 + 2 * i) ∧ H' d = some (.dK (ents es)) ∧ Good (below m) es ∧ NE es ∧
      ∀ w o, w ≠ a → w ≠ d → H1 w = some o → H' w = some o) ?_ ?_ ?_
    · exact ⟨_, [], rfl, bag2, (b2 d nda).trans h_d, good_nil (by rw [below_len]; omega), fun p hp => (nomatch hp), fun w o n1 n2 e => (b2 w n1).trans e⟩
    · rintro i σ H3 hi ⟨v4, es, rfl, bg, hd3, g, ne, hs⟩
      have hf3 := hs b _ nba ndb (s_d _ _ hf)
      refine ⟨_, rfl, _, rfl, _, rfl, b, _, rfl, .inl (SqL.of hf3), ?_⟩
      rw [List.length_map]
      refine ⟨a, _, _, rfl, bg, by omega, by omega, by omega, fun j H4 j0 j1 b4 bag4 => ?_⟩
      have hf4 := (b4 b nba).trans hf3
      obtain ⟨v, hv1, x, rfl, hx⟩ := at_all (xs := fl.map V.str) (Pr := fun v => ∃ x, v = .str x ∧ nameOk x = true) j0 (by rw [List.length_map]; exact j1) (by
        intro v hv
        obtain ⟨x, hx, rfl⟩ := List.mem_map.mp hv
        exact ⟨x, rfl, hne x hx⟩)
      refine ⟨b, _, j, _, rfl, rfl, SqL.of hf4, hv1, ?_⟩
      refine ⟨_, rfl, _, rfl, _, rfl, a, _, _, rfl, bag4, by omega, by omega, by omega, fun key H5 k0 k1 b5 bag5 => ?_⟩
      have hd5 := ((b5 d nda).trans ((b4 d nda).trans hd3))
      have el := g.len
      refine ⟨d, _, rfl, .inl ⟨_, .inl key, hd5, rfl, by rw [ents_len]; exact small1000 el, rfl⟩, ?_⟩
      refine ⟨_, putE es key x, rfl, ?_, ?_, g.put x (below_mem k0 k1), ne.put key hx, ?_⟩
      · obtain ⟨_, _, _, q, w⟩ := bag5
        exact ⟨_, _, _, (upd_ne nda.symm).trans q, by omega, by omega, by omega, by omega⟩
      · rw [← put_ents]
        exact upd_same
      · exact fun w o n1 n2 e => (upd_ne n2).trans ((b5 w n1).trans ((b4 w n1).trans (hs w o n1 n2 e)))
    · rintro σ H' ⟨v4, es, rfl, bg, hd3, g, ne, hs⟩
      refine ⟨_, rfl, k d es H' ?_ (bg.mono (by omega)) ⟨hd3, g⟩ ne⟩
      intro w o e
      by_cases hw : w = a
      · subst hw
        unfold del at e
        rw [if_pos rfl] at e
        cases e
      · rw [del_at hw] at e ⊢
        exact hs w o hw (ne_of_none e hd) (s_d _ _ e)
theorem sc_l_sets : FnScope ["_law_bag_here", "_law_many", "_law_found", "_law_turn", "_law_key"] ["_law_bag_here"] (defScope s_l_sets) := ⟨rfl, rfl, rfl, by decide +kernel, rfl, by decide +kernel, by decide +kernel⟩
theorem ok_l_sets {f : Addr} {fd : FuncData} (F : Fun K "_law_sets" "_law_sets" s_l_sets f fd) (T : Txt K mg C_FormSet)
    (D_l_take : Fn P w K mg base 1 "_law_take" ["_law_bag_here", "_law_many"] spTake)
    (D_l_set : Fn P w K mg base 2 "_law_set" ["_law_bag_here", "_law_many", "_law_forms"] (spRow K))
    : FnOk P w K mg base CX0 3 f fd ["_law_bag_here"] spRows := by
  refine F.ok sc_l_sets (fun vs H Q E h => ?_) (fun cdv A outer s H vs Q E hr h => ?_)
  · obtain ⟨a, n, rfl, _⟩ := h; rfl
  · obtain ⟨a, n, rfl, hb, hn, k⟩ := h
    have hu := hu_of hr
    have hu64 := hr.units
    refine ⟨_, (pss_cons (ps_set (i := 1) sc_l_sets.nd rfl (Or.inl rfl) (pe_ix ix_list (pe_lst (pa_cons pe_int (pa_cons pe_int (pa_cons pe_int (pa_cons pe_int pa_nil))))) (pe_fn D_l_take (hr.mono (by decide)) rfl (pa_cons (pv 0) (pa_cons pe_int pa_nil))) (fun _ _ => rfl)))
  (pss_cons (ps_set (i := 2) sc_l_sets.nd rfl (Or.inl rfl) (pe_lst (pa_cons (pe_fn D_l_set (hr.mono (by decide)) rfl (pa_cons (pv 0) (pa_cons (pv 1) (pa_cons (pe_lst (pa_cons pe_str (pa_cons pe_str pa_nil))) pa_nil)))) (pa_cons (pe_fn D_l_set (hr.mono (by decide)) rfl (pa_cons (pv 0) (pa_cons (pv 1) (pa_cons (pe_lst (pa_cons pe_str (pa_cons pe_str pa_nil))) pa_nil)))) pa_nil))))
  (pss_cons (ps_for PassesOwn.never rfl (pi_range1 (by rfl) T.n_range (pa_cons (pe_fn D_l_take (hr.mono (by decide)) rfl (pa_cons (pv 0) (pa_cons pe_int pa_nil))) pa_nil)) (pg_name (i := 3) sc_l_sets.nd rfl (Or.inl rfl))
    (pss_one (ps_expr (pe_bm PySem.F.plainAttrs_list PySem.F.slot_list_append PySem.F.type_list_append mt_append (pv 2) (pa_cons (pe_fn D_l_set (hr.mono (by decide)) rfl (pa_cons (pv 0) (pa_cons (pv 1) (pa_cons (pe_lst (pa_cons pe_str (pa_cons pe_str (pa_cons pe_str pa_nil)))) pa_nil)))) pa_nil)))))
  (pss_cons (ps_if (pt_cmpR op_eq (pe_fn D_l_take (hr.mono (by decide)) rfl (pa_cons (pv 0) (pa_cons pe_int pa_nil))) pe_int (nomark _))
    (pss_one (ps_asg (pe_callTy (call_dictP rfl) (by rfl) T.n_dict (by decide +kernel) (pa_cons (pe_lock (pe_lc (own := [("_law_key", 4)]) (g := gName 4) (tt := tYes) rfl sc_l_sets.nd (pi_keys (pe_ix ix_list (pv 2) pe_int (fun _ _ => rfl))) (blkOk_by (own := [("_law_key", 4)]) (N := ["_law_bag_here", "_law_many", "_law_found", "_law_turn", "_law_key"]) (sc := defScope s_l_sets) (by decide +kernel)) (fun _ _ _ _ _ => (pg_name (i := 4) sc_l_sets.nd rfl (Or.inl rfl))) (fun _ _ _ _ _ => pts_nil) (fun _ _ _ _ _ => (pe_tup (pa_cons (pv 4) (pa_cons pe_str pa_nil)))))) pa_nil)) (pg_sub (pv 2) pe_int set_list)))
    pss_nil)
  (pss_one (ps_ret (pv 2))))))), ?_⟩
    refine ⟨size_ok (by simp), fun p hp => ?_⟩
    generalize e_p : upd H p _ = H1
    have s_p := new_same e_p hp
    have h_p := new_at e_p
    have npa : p ≠ a := hb.ne hp
    refine ⟨_, rfl, a, 4, n, rfl, hb.same s_p, by omega, by omega, by omega, fun j H2 j0 j1 b2 bag2 => ?_⟩
    obtain ⟨mv, hm1, m, rfl, m1, m12⟩ := at_all (xs := [.int 3, .int 5, .int 8, .int 12]) (Pr := fun v => ∃ m : Nat, v = .int m ∧ 1 ≤ m ∧ m ≤ 12) j0 (by simpa using j1) (by
      intro v hv
      simp only [List.mem_cons, List.not_mem_nil, or_false] at hv
      rcases hv with rfl | rfl | rfl | rfl
      · exact ⟨3, rfl, by omega, by omega⟩
      · exact ⟨5, rfl, by omega, by omega⟩
      · exact ⟨8, rfl, by omega, by omega⟩
      · exact ⟨12, rfl, by omega, by omega⟩)
    refine ⟨p, _, j, _, rfl, rfl, SqL.of ((b2 p npa).trans h_p), hm1, ?_⟩
    have bagl : ∀ {H' : Hp} {n' : Nat}, Bag H' a n' → ∃ ls, H' a = some (.lst ls) := fun ⟨_, _, _, q, _⟩ => ⟨_, q⟩
    refine ⟨_, rfl, _, rfl, size_ok (by simp), fun q hq => ?_⟩
    generalize e_q : upd H2 q _ = H3
    have s_q := new_same e_q hq
    have h_q := new_at e_q
    refine ⟨a, q, n + 1, m, ["a", "b"], rfl, bag2.same s_q, by omega, m1, by omega, h_q, by decide, by decide, by decide +kernel, fun d1 e1 H4 s4 bag4 hd1 ne1 => ?_⟩
    refine ⟨_, rfl, _, rfl, size_ok (by simp), fun q2 hq2 => ?_⟩
    generalize e_q2 : upd H4 q2 _ = H5
    have s_q2 := new_same e_q2 hq2
    have h_q2 := new_at e_q2
    refine ⟨a, q2, n + 1 + 100, m, ["c", "b"], rfl, bag4.same s_q2, by omega, m1, by omega, h_q2, by decide, by decide, by decide +kernel, fun d2 e2 H6 s6 bag6 hd2 ne2 => ⟨size_ok (by simp), fun D hD => ?_⟩⟩
    generalize e_D : upd H6 D _ = H7
    have s_D := new_same e_D hD
    have h_D := new_at e_D
    obtain ⟨l5, hl5⟩ := bagl (bag4.same s_q2)
    have hd1b : FD (below m) H7 d1 e1 := ((hd1.same s_q2).chg hl5 (ext_del s6)).same s_D
    have nDa : D ≠ a := bag6.ne hD
    have s07 : ∀ w o, w ≠ a → H w = some o → H7 w = some o := by
      intro w o nw e
      exact s_D _ _ (ext_del s6 w o nw (s_q2 _ _ (ext_del s4 w o nw (s_q _ _ ((b2 w nw).trans (s_p _ _ e))))))
    have hDH : ∀ w o, w ≠ a → H w = some o → w ≠ D := by
      intro w o nw e z
      have := ext_del s6 w o nw (s_q2 _ _ (ext_del s4 w o nw (s_q _ _ ((b2 w nw).trans (s_p _ _ e)))))
      rw [z, hD] at this
      cases this
    refine ⟨_, rfl, a, 4, _, rfl, bag6.same s_D, by omega, by omega, by omega, fun r H8 r0 r1 b8 bag8 => ⟨_, rfl, by omega, by omega, ?_⟩⟩
    have hr3 : r.toNat ≤ 3 := by omega
    refine for_range (lo := 0) (fun i σ H' => ∃ v3 v4 xs ess, σ = [some (.ref a), some (.int m), some (.ref D), v3, v4] ∧ Bag H' a (n + 300 + 200 * i) ∧ H' D = some (.lst xs) ∧ FDs (below 14) H' xs ess ∧ (∀ es ∈ ess, NE es) ∧ xs.length = 2 + i ∧
      ∀ w o, w ≠ a → w ≠ D → H7 w = some o → H' w = some o) ?_ ?_ ?_
    · obtain ⟨l7, hl7⟩ := bagl (bag6.same s_D)
      refine ⟨_, _, [.ref d1, .ref d2], [e1, e2], rfl, bag8.mono (by omega), (b8 D nDa).trans h_D, ?_, ?_, rfl, fun w o n1 n2 e => (b8 w n1).trans e⟩
      · exact .cons ((hd1b.chg hl7 (Ext.but b8)).widen (by omega)) (.cons (((hd2.same s_D).chg hl7 (Ext.but b8)).widen (by omega)) .nil)
      · intro es he
        simp only [List.mem_cons, List.not_mem_nil, or_false] at he
        rcases he with rfl | rfl
        · exact ne1
        · exact ne2
    · rintro i σ H9 hi ⟨v3, v4, xs, ess, rfl, bg, hd, he, hne, hlx, hs⟩
      refine ⟨_, rfl, .inl ⟨rfl, xs, SqL.of hd⟩, _, rfl, _, rfl, size_ok (by simp), fun q3 hq3 => ?_⟩
      generalize e_q3 : upd H9 q3 _ = H10
      have s_q3 := new_same e_q3 hq3
      have h_q3 := new_at e_q3
      refine ⟨a, q3, _, m, ["d", "e", "a"], rfl, bg.same s_q3, by omega, m1, by omega, h_q3, by decide, by decide, by decide +kernel, fun d3 e3 H11 s11 bag11 hd3 ne3 => ?_⟩
      obtain ⟨l10, hl10⟩ := bagl (bg.same s_q3)
      have hD11 := ext_del s11 D _ nDa (s_q3 _ _ hd)
      have ex : Ext D H11 (upd H11 D (.lst (xs ++ [.ref d3]))) := fun b o nb e => (upd_ne nb).trans e
      refine ⟨D, xs, .ref d3, rfl, rfl, hD11, small1000 (by omega), ?_⟩
      refine ⟨_, _, xs ++ [.ref d3], ess ++ [e3], rfl, ?_, upd_same, ?_, ?_, by rw [List.length_append, hlx]; rfl, ?_⟩
      · obtain ⟨_, _, _, q, w⟩ := bag11
        exact ⟨_, _, _, (upd_ne nDa.symm).trans q, by omega, by omega, by omega, by omega⟩
      · exact FDs.app ((hd3.widen (by omega)).chg hD11 ex) (((he.same s_q3).chg hl10 (ext_del s11)).chg hD11 ex)
      · intro es hm
        rcases List.mem_append.mp hm with hm | hm
        · exact hne es hm
        · rw [List.mem_singleton.mp hm]; exact ne3
      · exact fun w o n1 n2 e => (upd_ne n2).trans (ext_del s11 w o n1 (s_q3 _ _ (hs w o n1 n2 e)))
    · rintro σ H9 ⟨v3, v4, xs, ess, rfl, bg, hd, he, hne, hlx, hs⟩
      refine ⟨_, rfl, a, 4, _, rfl, bg, by omega, by omega, by omega, fun r2 H12 _ _ b12 bag12 => ⟨rfl, _, rfl, ?_⟩⟩
      obtain ⟨l9, hl9⟩ := bagl bg
      have he12 := he.chg hl9 (Ext.but b12)
      have hD12 : H12 D = some (.lst xs) := (b12 D nDa).trans hd
      have sdel : ∀ H', (∀ w o, w ≠ a → w ≠ D → H12 w = some o → H' w = some o) → Same (del a H) (del a H') := by
        intro H' x w o e
        by_cases hw : w = a
        · subst hw
          unfold del at e
          rw [if_pos rfl] at e
          cases e
        · rw [del_at hw] at e ⊢
          exact x w o hw (hDH w o hw e) ((b12 w hw).trans (hs w o hw (hDH w o hw e) (s07 w o hw e)))
      cases hdec : decide (V.int r2 = V.int 0) with
      | false => exact iteF ⟨_, rfl, k D xs ess H12 (sdel H12 fun _ _ _ _ e => e) (bag12.mono (by omega)) hD12 he12 hne (by omega) (by omega)⟩
      | true =>
        refine iteT ?_
        cases he12 with
        | nil => exact absurd hlx (by show ¬ (0 = 2 + r.toNat); omega)
        | @cons y0 f0 xr fr h0 rr =>
          have hlx2 : xr.length + 1 = 2 + r.toNat := hlx
          refine ⟨y0, .dK (ents f0), h0.1, trivial, fun od => ?_⟩
          have nyD : y0 ≠ D := fun z => by have := h0.1; rw [z, hD12] at this; cases this
          refine ⟨_, rfl, D, _, 0, .ref y0, rfl, rfl, SqL.of ((upd_ne nyD.symm).trans hD12), at_zero _ _, y0, od, rfl, .inl ⟨_, upd_same, fun EE hE => ?_⟩⟩
          have nyE : y0 ≠ EE := fun z => by rw [← z, upd_same] at hE; cases hE
          refine lc_keys (fun i H' => ∃ t2, Ext EE (upd H12 y0 (.frz od (.dK (ents f0)))) H' ∧ H' EE = some (.lst t2) ∧ TupS H' t2 ((f0.take i).map fun p => (p.1, "same")) ∧ t2.length = i) ?_ ?_ ?_ ?_
          · exact ⟨[], fun q o n e => (upd_ne n).trans e, upd_same, .nil, rfl⟩
          · rintro i H' hi ⟨t2, x, _, _, _⟩
            exact x y0 _ nyE upd_same
          · rintro i ky v H' he2 ⟨t2, x, hd2, hT, hl⟩
            obtain ⟨n2, y, e1, rfl, rfl⟩ := ents_at he2
            have hi := (List.getElem?_eq_some_iff.mp e1).1
            refine ⟨rfl, _, rfl, size_ok (by simp), fun t ht2 => ?_⟩
            have nt : EE ≠ t := ne_of_none hd2 ht2
            have hD3 : upd H' t (.tup [.int n2, .str "same"]) EE = some (.lst t2) := (upd_ne nt).trans hd2
            have ll := h0.2.len
            refine ⟨t2, hD3, small1000 (by omega), t2 ++ [.ref t], ?_, upd_same, ?_, by rw [List.length_append, hl]; rfl⟩
            · exact fun w o n1 e2 => (upd_ne n1).trans (same_new ht2 _ _ (x w o n1 e2))
            · rw [take_one e1, List.map_append]
              have ex2 : Ext EE (upd H' t (.tup [.int n2, .str "same"])) (upd (upd H' t (.tup [.int n2, .str "same"])) EE (.lst (t2 ++ [.ref t]))) := fun w o n1 e2 => (upd_ne n1).trans e2
              exact tupS_app ((upd_ne (Ne.symm nt)).trans upd_same) (tupS_chg hD3 ex2 (tupS_same (same_new ht2 (o := .tup [.int n2, .str "same"])) hT))
          · rintro H' ⟨t2, x, hd2, hT, hl⟩
            rw [ents_len, List.take_length] at hT
            refine ⟨x y0 _ nyE upd_same, ?_⟩
            have sH : Same H12 (upd H' y0 (.dK (ents f0))) := by
              intro w o e
              by_cases hw : w = y0
              · subst hw
                rw [h0.1] at e
                cases e
                exact upd_same
              · refine (upd_ne hw).trans (x w o ?_ ((upd_ne hw).trans e))
                intro z
                subst z
                rw [upd_ne hw, e] at hE
                cases hE
            have hT2 : TupS (upd H' y0 (.dK (ents f0))) t2 (f0.map fun p => (p.1, "same")) := tupS_at (x y0 _ nyE upd_same) hT
            obtain ⟨ps, rfl, hps⟩ := tupS_refs (K := K) hT2
            refine ⟨EE, ps, _, rfl, SqL.of ((upd_ne nyE.symm).trans hd2), hps, fun p4 hp4 => ?_⟩
            have g : Good (below 14) (f0.map fun p => (p.1, ("same" : Str))) := by
              unfold Good
              rw [keys_same]
              exact h0.2
            rw [merge_ents g.1]
            clear hT2 hps
            generalize upd H' y0 (.dK (ents f0)) = H13 at sH hp4 ⊢
            generalize e_p4 : upd H13 p4 _ = H14
            have s_p4 := new_same e_p4 hp4
            have h_p4 := new_at e_p4
            have sZ := sH.trans s_p4
            have hDZ := sZ _ _ hD12
            have ex : ∀ o2, Ext D H14 (upd H14 D o2) := fun o2 b o nb e => (upd_ne nb).trans e
            refine ⟨_, rfl, D, _, 1, 1, rfl, rfl, hDZ, ix_one (by show 2 ≤ xr.length + 1; omega), ?_⟩
            have fp4 : FD (below 14) H14 p4 (f0.map fun p => (p.1, "same")) := ⟨h_p4, g⟩
            refine ⟨_, rfl, k D _ ((f0 :: fr).set 1 (f0.map fun p => (p.1, "same"))) _ (sdel _ fun w o nw nD e => (upd_ne nD).trans (sZ _ _ e)) ?_ upd_same (FDs.set (fp4.chg hDZ (ex _)) 1 ((FDs.cons (h0.same sZ) (rr.same sZ)).chg hDZ (ex _))) ?_ ?_ ?_⟩
            · obtain ⟨_, _, _, q, w⟩ := bag12
              exact ⟨_, _, _, (upd_ne nDa.symm).trans (sZ _ _ q), by omega, by omega, by omega, by omega⟩
            · intro es hm
              rcases List.mem_or_eq_of_mem_set hm with hm | rfl
              · exact hne es hm
              · intro z hz
                obtain ⟨z2, _, rfl⟩ := List.mem_map.mp hz
                show nameOk "same" = true
                decide +kernel
            · rw [List.length_set]; show 2 ≤ xr.length + 1; omega
            · rw [List.length_set]; show xr.length + 1 ≤ 5; omega
theorem sc_l_is : FnScope ["_law_thing", "_law_due", "_law_key"] ["_law_thing", "_law_due"] (defScope s_l_is) := ⟨rfl, rfl, rfl, by decide +kernel, rfl, by decide +kernel, by decide +kernel⟩
theorem ok_l_is {f : Addr} {fd : FuncData} (F : Fun K "_law_is" "_law_is" s_l_is f fd) (T : Txt K mg C_FormSet)
    (D_FormSet_members : Mt P w K mg base C_FormSet "members" 1 ["self"] (spMem C_FormSet))
    : FnOk P w K mg base CX0 2 f fd ["_law_thing", "_law_due"] (spIsIt C_FormSet) := by
  refine F.ok sc_l_is (fun vs H Q E h => ?_) (fun cdv A outer s H vs Q E hr h => ?_)
  · obtain ⟨U, V2, x, d, es, ds, rfl, _⟩ := h; rfl
  · obtain ⟨U, V2, x, d, es, ds, rfl, hx, hd, h64, hne, hl, k⟩ := h
    have hu := hu_of hr
    have hu64 := hr.units
    refine ⟨_, (pss_one (ps_ret (pe_cmpR (op_eqD hu64) (pe_mt0 D_FormSet_members (hr.mono (by decide)) T.cl_FormSet (pv 0)) (pe_lc (own := [("_law_key", 2)]) (g := gName 2) (tt := tYes) rfl sc_l_is.nd (pi_list (pe_callB (call_sortedDI rfl) (by rfl) T.n_sorted (by decide +kernel) (pa_cons (pv 1) pa_nil))) (blkOk_by (own := [("_law_key", 2)]) (N := ["_law_thing", "_law_due", "_law_key"]) (sc := defScope s_l_is) (by decide +kernel)) (fun _ _ _ _ _ => (pg_name (i := 2) sc_l_is.nd rfl (Or.inl rfl))) (fun _ _ _ _ _ => pts_nil) (fun _ _ _ _ _ => (pe_tup (pa_cons (pv 2) (pa_cons (pe_dget hu (pv 1) (pv 2) (fun _ _ => rfl)) pa_nil))))) (nomark _)))), ?_⟩
    have hx2 := hx
    obtain ⟨dxx, dd, ex, hdd⟩ := hx2
    refine ⟨_, rfl, x, _, _, rfl, ex, rfl, U, x, es, rfl, hx, fun H1 l ts es' s1 hl1 ht hperm hsort => ?_⟩
    have hd1 := hd.same s1
    refine ⟨_, rfl, d, ents ds, keys ds, rfl, .inl hd1.1, ?_, by rw [keys_len]; exact h64, fun ys p hperm2 hsort2 hp => ?_⟩
    · unfold ents keys
      rw [List.map_map, List.map_map]
      rfl
    generalize e_p : upd H1 p _ = H2
    have s_p := new_same e_p hp
    have h_p := new_at e_p
    refine ⟨p, rfl, ⟨_, SqL.of h_p⟩, fun D hD => ?_⟩
    have hd2 := hd1.same s_p
    have look_ys : ∀ k ∈ ys, ∃ z, look ds k = some z ∧ nameOk z = true := by
      intro k hk
      have hk2 := hperm2.mem_iff.mp hk
      rw [← has_iff] at hk2
      unfold has at hk2
      cases q : look ds k with
      | none => rw [q] at hk2; cases hk2
      | some z => exact ⟨z, rfl, hne _ (look_mem q)⟩
    refine lc_list (xs := ys.map V.int) (fun i H' => ∃ t2, Ext D H2 H' ∧ H' D = some (.lst t2) ∧ t2.length = i ∧ TupS H' t2 ((ys.take i).map fun k => (k, (look ds k).getD Str.empty))) ?_ ?_ ?_ ?_
    · exact ⟨[], fun b o n e => (upd_ne n).trans e, upd_same, rfl, .nil⟩
    · rintro i H' hi ⟨t2, e, _, _, _⟩
      exact SqL.of (e _ _ (ne_of_none h_p hD) h_p)
    · rintro i v H' hv ⟨t2, e, hD2, hlen, hT⟩
      rw [List.getElem?_map] at hv
      cases q : ys[i]? with
      | none => rw [q] at hv; cases hv
      | some n =>
        rw [q] at hv
        cases hv
        obtain ⟨z, hz, hzn⟩ := look_ys n (List.mem_of_getElem? q)
        have hd3 := e _ _ (ne_of_none hd2.1 hD) hd2.1
        refine ⟨rfl, _, rfl, _, rfl, _, rfl, d, .str z, rfl, .inl ⟨_, .inl n, .inl hd3, rfl, ?_⟩, size_ok (by simp), fun t ht2 => ?_⟩
        · rw [valV_ents, hz]; rfl
        · have nt : D ≠ t := ne_of_none hD2 ht2
          have hD3 : upd H' t (.tup [.int n, .str z]) D = some (.lst t2) := (upd_ne nt).trans hD2
          refine ⟨t2, hD3, ?_, t2 ++ [.ref t], ?_, upd_same, by rw [List.length_append, hlen]; rfl, ?_⟩
          · have := (List.getElem?_eq_some_iff.mp q).1
            have e3 := hperm2.length_eq
            rw [keys_len] at e3
            exact small1000 (by omega)
          · exact fun b o n1 e2 => (upd_ne n1).trans (same_new ht2 _ _ (e b o n1 e2))
          · rw [take_one q, List.map_append]
            have ex2 : Ext D (upd H' t (.tup [.int n, .str z])) (upd (upd H' t (.tup [.int n, .str z])) D (.lst (t2 ++ [.ref t]))) := fun b o n1 e2 => (upd_ne n1).trans e2
            have hT2 := tupS_chg hD3 ex2 (tupS_same (same_new ht2 (o := .tup [.int n, .str z])) hT)
            have : [n].map (fun k => (k, (look ds k).getD Str.empty)) = [(n, z)] := by rw [List.map_singleton, hz]; rfl
            rw [this]
            exact tupS_app ((upd_ne (Ne.symm nt)).trans upd_same) hT2
    · rintro H' ⟨t2, e, hD2, hlen, hT⟩
      rw [List.length_map, List.take_length] at hT
      have hN : NE (ys.map fun k => (k, (look ds k).getD Str.empty)) := by
        intro p hp
        obtain ⟨k, hk, rfl⟩ := List.mem_map.mp hp
        obtain ⟨z, hz, hzn⟩ := look_ys k hk
        rw [hz]
        exact hzn
      have eqL := sorted_eq hdd.2.1 hd.2.1 hl hperm hsort hperm2 hsort2
      rw [eqL] at ht
      have s12 : Same H1 H' := fun b o e1 => e b o (ne_of_none (s_p _ _ e1) hD) (s_p _ _ e1)
      refine ⟨_, _, .lst (SqL.of (s12 _ _ hl1)) (tupS_dp (tupS_same s12 ht)), .lst (SqL.of hD2) (tupS_dp hT), shaped_tups hN, shaped_tups hN, ?_⟩
      rw [eqv_tups hN]
      exact k H' (s1.trans s12)
theorem sc_l_part : FnScope ["_law_one", "_law_other", "_law_inside", "_law_key"] ["_law_one", "_law_other", "_law_inside"] (defScope s_l_part) := ⟨rfl, rfl, rfl, by decide +kernel, rfl, by decide +kernel, by decide +kernel⟩
theorem ok_l_part {f : Addr} {fd : FuncData} (F : Fun K "_law_part" "_law_part" s_l_part f fd) (T : Txt K mg C_FormSet)
    : FnOk P w K mg base CX0 1 f fd ["_law_one", "_law_other", "_law_inside"] spPart := by
  refine F.ok sc_l_part (fun vs H Q E h => ?_) (fun cdv A outer s H vs Q E hr h => ?_)
  · obtain ⟨U, V2, a, b, c, es, fs, rfl, _⟩ := h; rfl
  · obtain ⟨U, V2, a, b, c, es, fs, rfl, h1, h2, k⟩ := h
    have hu := hu_of hr
    have hu64 := hr.units
    refine ⟨_, (pss_one (ps_ret (pe_callTy (call_dictP rfl) (by rfl) T.n_dict (by decide +kernel) (pa_cons (pe_lock (pe_lc (own := [("_law_key", 3)]) (g := gName 3) rfl sc_l_part.nd (pi_keys (pv 0)) (blkOk_by (own := [("_law_key", 3)]) (N := ["_law_one", "_law_other", "_law_inside", "_law_key"]) (sc := defScope s_l_part) (by decide +kernel)) (fun _ _ _ _ _ => (pg_name (i := 3) sc_l_part.nd rfl (Or.inl rfl))) (fun _ _ _ _ _ => (pts_one (pt_cmpR op_eq (pe_cmp (pc_din hu (pv 3) (pv 1)) rfl) (pv 2) (nomark _)))) (fun _ _ _ _ _ => (pe_tup (pa_cons (pv 3) (pa_cons (pe_dget hu (pv 0) (pv 3) (fun _ _ => rfl)) pa_nil)))))) pa_nil)))), ?_⟩
    refine ⟨a, .dK (ents es), h1.1, trivial, fun od => ?_⟩
    refine ⟨_, rfl, a, od, rfl, .inl ⟨_, upd_same, fun D hD => ?_⟩⟩
    have nDa : a ≠ D := fun e => by rw [← e, upd_same] at hD; cases hD
    have hb : ∀ H', Ext D (upd H a (.frz od (.dK (ents es)))) H' → Rd H' b (.dK (ents fs)) := by
      intro H' x
      by_cases e : b = a
      · subst e
        have q := x b _ nDa upd_same
        have z : ents es = ents fs := by
          have z := h1.1.symm.trans h2.1
          injection z with z
          injection z
        exact .inr ⟨od, by rw [q, z]⟩
      · refine .inl (x b _ (fun z => ?_) ((upd_ne e).trans h2.1))
        subst z
        rw [upd_ne e, h2.1] at hD
        cases hD
    refine lc_keys (fun i H' => ∃ t2, Ext D (upd H a (.frz od (.dK (ents es)))) H' ∧ H' D = some (.lst t2) ∧ TupS H' t2 ((es.take i).filter fun p => has fs p.1 == c) ∧ t2.length ≤ i) ?_ ?_ ?_ ?_
    · exact ⟨[], fun q o n e => (upd_ne n).trans e, upd_same, .nil, Nat.le_refl _⟩
    · rintro i H' hi ⟨t2, x, _, _, _⟩
      exact x a _ nDa upd_same
    · rintro i ky v H' he ⟨t2, x, hd, hT, hl⟩
      obtain ⟨n, y, e1, rfl, rfl⟩ := ents_at he
      have hi := (List.getElem?_eq_some_iff.mp e1).1
      refine ⟨rfl, _, rfl, _, rfl, b, _, rfl, .inl ⟨_, .inl n, hb _ x, rfl, rfl⟩, _, rfl, rfl, _, rfl, ?_⟩
      have hh : decide (V.bl (valV (ents fs) (.inl n)).isSome = V.bl c) = (has fs n == c) := by
        rw [valV_ents]
        have : ((look fs n).map V.str).isSome = has fs n := by unfold has; cases look fs n <;> rfl
        rw [this]
        cases has fs n <;> cases c <;> rfl
      rw [hh]
      cases q : (has fs n == c) with
      | true =>
        refine iteT ⟨_, rfl, _, rfl, _, rfl, a, .str y, rfl, .inl ⟨_, .inl n, .inr ⟨od, x a _ nDa upd_same⟩, rfl, ?_⟩, size_ok (by simp), fun t ht2 => ?_⟩
        · rw [valV_ents, look_ents h1.2.1 (List.mem_of_getElem? e1)]; rfl
        · have nt : D ≠ t := ne_of_none hd ht2
          have hD3 : upd H' t (.tup [.int n, .str y]) D = some (.lst t2) := (upd_ne nt).trans hd
          have ll := h1.2.len
          refine ⟨t2, hD3, small1000 (by omega), t2 ++ [.ref t], ?_, upd_same, ?_, by rw [List.length_append]; exact Nat.succ_le_succ hl⟩
          · exact fun w o n1 e2 => (upd_ne n1).trans (same_new ht2 _ _ (x w o n1 e2))
          · rw [take_one e1, List.filter_append, List.filter_cons, q]
            have ex2 : Ext D (upd H' t (.tup [.int n, .str y])) (upd (upd H' t (.tup [.int n, .str y])) D (.lst (t2 ++ [.ref t]))) := fun w o n1 e2 => (upd_ne n1).trans e2
            exact tupS_app ((upd_ne (Ne.symm nt)).trans upd_same) (tupS_chg hD3 ex2 (tupS_same (same_new ht2 (o := .tup [.int n, .str y])) hT))
      | false =>
        refine iteF ⟨t2, x, hd, ?_, Nat.le_succ_of_le hl⟩
        rw [take_one e1, List.filter_append, List.filter_cons, q]
        simpa using hT
    · rintro H' ⟨t2, x, hd, hT, hl⟩
      rw [ents_len, List.take_length] at hT
      refine ⟨x a _ nDa upd_same, ?_⟩
      have sH : Same H (upd H' a (.dK (ents es))) := by
        intro w o e
        by_cases hw : w = a
        · subst hw
          rw [h1.1] at e
          cases e
          exact upd_same
        · refine (upd_ne hw).trans (x w o ?_ ((upd_ne hw).trans e))
          intro z
          subst z
          rw [upd_ne hw, e] at hD
          cases hD
      have hd2 : upd H' a (.dK (ents es)) D = some (.lst t2) := (upd_ne (Ne.symm nDa)).trans hd
      have hT2 : TupS (upd H' a (.dK (ents es))) t2 (es.filter fun p => has fs p.1 == c) := by
        have ef : H' a = some (.frz od (.dK (ents es))) := x a _ nDa upd_same
        exact tupS_at ef hT
      obtain ⟨ps, rfl, hp⟩ := tupS_refs (K := K) hT2
      refine ⟨D, ps, _, rfl, SqL.of hd2, hp, fun p hp0 => ?_⟩
      have g : Good U (es.filter fun p => has fs p.1 == c) := h1.2.filter _
      rw [merge_ents g.1]
      have eq : (es.filter fun p => has fs p.1 == c) = (if c = true then common es fs else rest es fs) := by
        cases c with
        | true => exact List.filter_congr fun p _ => by cases has fs p.1 <;> rfl
        | false => exact List.filter_congr fun p _ => by cases has fs p.1 <;> rfl
      rw [eq] at g ⊢
      exact k p _ (sH.free hp0) (sH.trans (same_new hp0)) ⟨upd_same, g⟩
theorem sc_l_joined : FnScope ["_law_rows", "_law_found", "_law_one", "_law_key"] ["_law_rows"] (defScope s_l_joined) := ⟨rfl, rfl, rfl, by decide +kernel, rfl, by decide +kernel, by decide +kernel⟩
theorem ok_l_joined {f : Addr} {fd : FuncData} (F : Fun K "_law_joined" "_law_joined" s_l_joined f fd) (T : Txt K mg C_FormSet)
    : FnOk P w K mg base CX0 1 f fd ["_law_rows"] (spJoined K) := by
  refine F.ok sc_l_joined (fun vs H Q E h => ?_) (fun cdv A outer s H vs Q E hr h => ?_)
  · obtain ⟨U, l, xs, ess, rfl, _⟩ := h; rfl
  · obtain ⟨U, l, xs, ess, rfl, hl, hx, hU, k⟩ := h
    have hu := hu_of hr
    have hu64 := hr.units
    refine ⟨_, (pss_cons (ps_set (i := 1) sc_l_joined.nd rfl (Or.inl rfl) pe_dnewK)
  (pss_cons (ps_for PassesOwn.never rfl (pi_list (pv 0)) (pg_name (i := 2) sc_l_joined.nd rfl (Or.inl rfl))
    (pss_one (ps_lock (ps_for PassesOwn.never rfl (pi_keys (pv 2)) (pg_name (i := 3) sc_l_joined.nd rfl (Or.inl rfl))
        (pss_one (ps_if (pt_cmp (pc_dnotin hu (pv 3) (pv 1)))
            (pss_one (ps_dput hu (pv 1) (pv 3) (pe_dget hu (pv 2) (pv 3) (fun _ _ => rfl)) rfl))
            pss_nil))))))
  (pss_one (ps_ret (pv 1))))), ?_⟩
    intro p hp
    generalize e_p : upd H p _ = H1
    have s_p := new_same e_p hp
    have h_p := new_at e_p
    refine ⟨_, rfl, l, rfl, ⟨xs, hl.imp (fun h => h.imp (fun h => s_p _ _ h) fun ⟨o, h⟩ => ⟨o, s_p _ _ h⟩) id⟩, ?_⟩
    have hl1 : ∀ H', Ext p H1 H' → SqL K H' l xs := fun H' x => sqL_ext hp (fun b o n e => x b o n (s_p _ _ e)) hl
    refine for_list (xs := xs) (fun i σ H' => ∃ v2 v3, σ = [some (.ref l), some (.ref p), v2, v3] ∧ Ext p H1 H' ∧ H' p = some (.dK (ents (joinAll [] (ess.take i))))) ?_ ?_ ?_ ?_
    · exact ⟨_, _, rfl, fun _ _ _ e => e, h_p⟩
    · rintro i σ H' hi ⟨v2, v3, rfl, x, _⟩
      exact hl1 H' x
    · rintro i v σ H' hv ⟨v2, v3, rfl, x, hd⟩
      obtain ⟨y, fs, rfl, e1, hy⟩ := hx.at hv
      have gg : Good U (joinAll [] (ess.take i)) := join_good hU fun es he => hx.good es (List.mem_of_mem_take he)
      have npy : y ≠ p := ne_of_none hy.1 hp
      have hy2 : H' y = some (.dK (ents fs)) := x y _ npy (s_p _ _ hy.1)
      refine ⟨y, .dK (ents fs), hy2, trivial, fun od => ⟨_, rfl, y, od, rfl, .inl ⟨_, upd_same, ?_⟩⟩⟩
      refine for_keys (fun j σ H2 => ∃ v3, σ = [some (.ref l), some (.ref p), some (.ref y), v3] ∧ Ext p (upd H' y (.frz od (.dK (ents fs)))) H2 ∧
        H2 p = some (.dK (ents (joinAll [] (ess.take i) ++ (fs.take j).filter fun q => !has (joinAll [] (ess.take i)) q.1)))) ?_ ?_ ?_ ?_
      · refine ⟨_, rfl, fun _ _ _ e => e, ?_⟩
        rw [upd_ne npy.symm, hd, List.take_zero, List.filter_nil, List.append_nil]
      · rintro j σ H2 hj ⟨v3, rfl, x2, _⟩
        exact x2 y _ npy upd_same
      · rintro j ky w σ H2 he ⟨v3, rfl, x2, hd2⟩
        obtain ⟨n, z, e2, rfl, rfl⟩ := ents_at he
        refine ⟨_, rfl, _, rfl, p, _, rfl, .inl ⟨_, .inl n, .inl hd2, rfl, rfl⟩, _, rfl, ?_⟩
        cases q : valV (ents (joinAll [] (ess.take i) ++ (fs.take j).filter fun q => !has (joinAll [] (ess.take i)) q.1)) (.inl n) with
        | some w =>
          refine iteF ⟨_, rfl, x2, ?_⟩
          rw [united_old hy.2.1 e2 q]
          exact hd2
        | none =>
          refine iteT ⟨_, rfl, _, rfl, y, .str z, rfl, .inl ⟨_, .inl n, .inr ⟨od, x2 y _ npy upd_same⟩, rfl, ?_⟩, _, rfl, _, rfl, p, _, rfl, .inl ⟨_, .inl n, hd2, rfl, FD.app gg hy.2 j, rfl⟩, _, rfl, ?_, ?_⟩
          · rw [valV_ents, look_ents hy.2.1 (List.mem_of_getElem? e2)]; rfl
          · exact fun b o nb e => (upd_ne nb).trans (x2 b o nb e)
          · rw [united_new hy.2.1 e2 q]
            exact upd_same
      · rintro σ H2 ⟨v3, rfl, x2, hd2⟩
        rw [ents_len, List.take_length] at hd2
        refine ⟨x2 y _ npy upd_same, _, _, rfl, ?_, ?_⟩
        · intro b o nb e
          by_cases hb : b = y
          · subst hb
            rw [x b o nb e] at hy2
            cases hy2
            exact upd_same
          · exact (upd_ne hb).trans (x2 b o nb ((upd_ne hb).trans (x b o nb e)))
        · rw [take_one e1, join_step]
          exact (upd_ne npy.symm).trans hd2
    · rintro σ H' ⟨v2, v3, rfl, x, hd⟩
      rw [hx.len, List.take_length] at hd
      refine ⟨_, rfl, k p H' (fun b o e => x b o (ne_of_none e hp) (s_p _ _ e)) ⟨hd, join_good hU hx.good⟩⟩
theorem sc_l_joins_right : FnScope ["_law_rows", "_law_made", "_law_first", "_law_found", "_law_k"] ["_law_rows", "_law_made"] (defScope s_l_joins_right) := ⟨rfl, rfl, rfl, by decide +kernel, rfl, by decide +kernel, by decide +kernel⟩
theorem ok_l_joins_right {f : Addr} {fd : FuncData} (F : Fun K "_law_joins_right" "_law_joins_right" s_l_joins_right f fd) (T : Txt K mg C_FormSet)
    (D_FormSet_joined : MtR P w K mg base C_FormSet "joined" 8 ["self"] (spJoin K C_FormSet))
    (D_l_is : Fn P w K mg base 2 "_law_is" ["_law_thing", "_law_due"] (spIsIt C_FormSet))
    (D_l_joined : Fn P w K mg base 1 "_law_joined" ["_law_rows"] (spJoined K))
    : FnOk P w K mg base CX0 9 f fd ["_law_rows", "_law_made"] (spJR K C_FormSet) := by
  refine F.ok sc_l_joins_right (fun vs H Q E h => ?_) (fun cdv A outer s H vs Q E hr h => ?_)
  · obtain ⟨l, r, xs, ys, ess, uss, rfl, _⟩ := h; rfl
  · obtain ⟨l, r, xs, ys, ess, uss, rfl, hl, hx, hrr, hy, l1, l2, l3, hne, hlk, k⟩ := h
    have hu := hu_of hr
    have hu64 := hr.units
    refine ⟨_, (pss_cons (ps_set (i := 2) sc_l_joins_right.nd rfl (Or.inl rfl) (pe_ix ix_list (pv 1) pe_int (fun _ _ => rfl)))
  (pss_cons (ps_set (i := 3) sc_l_joins_right.nd rfl (Or.inr rfl) (pe_lst (pa_cons (pe_mtR0 D_FormSet_joined (hr.mono (by decide)) T.cl_FormSet (pv 2)) (pa_cons (pe_mtR D_FormSet_joined (hr.mono (by decide)) T.cl_FormSet (pv 2) (pa_cons (pe_ix ix_list (pv 1) pe_int (fun _ _ => rfl)) pa_nil)) pa_nil))))
  (pss_cons (ps_if (pt_cmpR op_gt (pe_callB call_len_seq (by rfl) T.n_len PySem.boot_len (pa_cons (pv 1) pa_nil)) pe_int (nomark _))
    (pss_one (ps_expr (pe_bm PySem.F.plainAttrs_list PySem.F.slot_list_append PySem.F.type_list_append mt_append (pv 3) (pa_cons (pe_mtR D_FormSet_joined (hr.mono (by decide)) T.cl_FormSet (pv 2) (pa_cons (pe_ix ix_list (pv 1) pe_int (fun _ _ => rfl)) (pa_cons (pe_ix ix_list (pv 1) pe_int (fun _ _ => rfl)) pa_nil))) pa_nil))))
    pss_nil)
  (pss_cons (ps_if (pt_cmpR op_gt (pe_callB call_len_seq (by rfl) T.n_len PySem.boot_len (pa_cons (pv 1) pa_nil)) pe_int (nomark _))
    (pss_one (ps_expr (pe_bm PySem.F.plainAttrs_list PySem.F.slot_list_append PySem.F.type_list_append mt_append (pv 3) (pa_cons (pe_mtR D_FormSet_joined (hr.mono (by decide)) T.cl_FormSet (pv 2) (pa_cons (pe_ix ix_list (pv 1) pe_int (fun _ _ => rfl)) (pa_cons (pe_ix ix_list (pv 1) pe_int (fun _ _ => rfl)) (pa_cons (pe_ix ix_list (pv 1) pe_int (fun _ _ => rfl)) pa_nil)))) pa_nil))))
    pss_nil)
  (pss_cons (ps_if (pt_cmpR op_gt (pe_callB call_len_seq (by rfl) T.n_len PySem.boot_len (pa_cons (pv 1) pa_nil)) pe_int (nomark _))
    (pss_one (ps_expr (pe_bm PySem.F.plainAttrs_list PySem.F.slot_list_append PySem.F.type_list_append mt_append (pv 3) (pa_cons (pe_mtR D_FormSet_joined (hr.mono (by decide)) T.cl_FormSet (pv 2) (pa_cons (pe_ix ix_list (pv 1) pe_int (fun _ _ => rfl)) (pa_cons (pe_ix ix_list (pv 1) pe_int (fun _ _ => rfl)) (pa_cons (pe_ix ix_list (pv 1) pe_int (fun _ _ => rfl)) (pa_cons (pe_ix ix_list (pv 1) pe_int (fun _ _ => rfl)) pa_nil))))) pa_nil))))
    pss_nil)
  (pss_one (ps_ret (pe_callB (cr_all rfl) (by rfl) T.n_all (by decide +kernel) (pa_cons (pe_lc (own := [("_law_k", 4)]) (g := gName 4) (tt := tYes) rfl sc_l_joins_right.nd (pi_range1 (by rfl) T.n_range (pa_cons (pe_callB call_len_seq (by rfl) T.n_len PySem.boot_len (pa_cons (pv 3) pa_nil)) pa_nil)) (blkOk_by (own := [("_law_k", 4)]) (N := ["_law_rows", "_law_made", "_law_first", "_law_found", "_law_k"]) (sc := defScope s_l_joins_right) (by decide +kernel)) (fun _ _ _ _ _ => (pg_name (i := 4) sc_l_joins_right.nd rfl (Or.inl rfl))) (fun _ _ _ _ _ => pts_nil) (fun _ _ _ _ _ => (pe_fn D_l_is (hr.mono (by decide)) rfl (pa_cons (pe_ix (ix_listK (K := K) rfl) (pv 3) (pv 4) (fun _ _ => rfl)) (pa_cons (pe_fn D_l_joined (hr.mono (by decide)) rfl (pa_cons (pe_slice (sl_listK (K := K) rfl) (pv 0) po_none (po_some (pe_op op_add (pv 4) pe_int))) pa_nil)) pa_nil))))) pa_nil))))))))), ?_⟩
    have lxe := hx.len
    have lyu := hy.len
    have small : ∀ gs : List (Int × Str), Good (below 14) gs → gs.length < 64 := by
      intro gs g
      have := nodup_sub g.1 g.2.1
      rw [keys_len, below_len] at this
      omega
    have pick : ∀ i : Nat, i < ys.length → ∃ y u f, atI ys (i : Int) = some (.ref y) ∧ FS C_FormSet (below 14) H y u ∧ uss[i]? = some u ∧ ess[i]? = some f ∧ (∀ j, look u j = look f j) := by
      intro i hi
      obtain ⟨y, u, e1, e2, f1⟩ := hy.at (List.getElem?_eq_getElem hi)
      have hi2 : i < ess.length := by omega
      refine ⟨y, u, ess[i], ?_, f1, e2, List.getElem?_eq_getElem hi2, hlk i _ u (List.getElem?_eq_getElem hi2) e2⟩
      rw [← e1]
      unfold atI ixN
      rw [if_pos (by omega), if_pos (by omega)]
      simp [hi]
    have cs : xs.length = 2 ∨ xs.length = 3 ∨ xs.length = 4 ∨ xs.length = 5 := by omega
    rcases cs with c | c | c | c
    · have ly : ys.length = 2 := by omega
      obtain ⟨y0, u0, f0, ha0, fy0, eu0, ef0, lk0⟩ := pick 0 (by omega)
      obtain ⟨y1, u1, f1, ha1, fy1, eu1, ef1, lk1⟩ := pick 1 (by omega)
      have fy0b := fy0
      obtain ⟨dx0, dd0, e0, _⟩ := fy0b
      have jn : ∀ (H' : Hp) (vs : List V) (us : List (List (Int × Str))) (Q2 : VK), Same H H' → FSs C_FormSet (below 14) H' vs us → vs.length ≤ 5 → (∀ z H2, Same H' H2 → FS C_FormSet (below 14) H2 z (joinAll u0 us) → Q2 (.ref z) H2) → spStar ["self"] (spJoin K C_FormSet) (.ref y0 :: vs) H' Q2 E0 := by
        intro H' vs us Q2 s hv hl5 q
        refine ⟨[.ref y0], vs, rfl, rfl, size_ok (by omega), fun p hp => ?_⟩
        exact ⟨below 14, y0, p, u0, vs, us, rfl, (fy0.same s).same (same_new hp), .inl (.inl upd_same), hv.same (same_new hp), fun d H5 s5 hd => q d H5 ((same_new hp).trans s5) hd⟩
      refine ⟨_, rfl, r, ys, 0, .ref y0, rfl, rfl, SqL.of hrr, ha0, ?_⟩
      refine ⟨_, rfl, y0, _, _, rfl, e0, rfl, jn H [] [] _ (Same.refl H) .nil (by simp) fun z0 H1 s1 hz0 => ?_⟩
      refine ⟨_, rfl, y0, _, _, rfl, s1 _ _ e0, rfl, _, rfl, r, ys, 1, .ref y1, rfl, rfl, SqL.of (s1 _ _ hrr), ha1, ?_⟩
      refine jn H1 [.ref y1] [u1] _ s1 (.cons (fy1.same s1) .nil) (by simp) fun z1 H2 s2 hz1 => ⟨size_ok (by simp), fun D hD => ?_⟩
      generalize e_D : upd H2 D _ = H3
      have s_D := new_same e_D hD
      have h_D := new_at e_D
      have w3 := (s1.trans s2).trans s_D
      have F3 : FSs C_FormSet (below 14) H3 [.ref z0, .ref z1] [joinAll u0 [], joinAll u0 [u1]] := .cons ((hz0.same s2).same s_D) (.cons (hz1.same s_D) .nil)
      have D3 := h_D
      have hDH : ∀ w o, H w = some o → w ≠ D := fun w o e => ne_of_none (s2 _ _ (s1 _ _ e)) hD
      refine ⟨_, rfl, r, ys, rfl, .inl (SqL.of (w3 _ _ hrr)), _, _, rfl, rfl, _, rfl, ?_⟩
      rw [ly]
      refine iteF ?_
      refine ⟨_, rfl, r, ys, rfl, .inl (SqL.of (w3 _ _ hrr)), _, _, rfl, rfl, _, rfl, ?_⟩
      rw [ly]
      refine iteF ?_
      refine ⟨_, rfl, r, ys, rfl, .inl (SqL.of (w3 _ _ hrr)), _, _, rfl, rfl, _, rfl, ?_⟩
      rw [ly]
      refine iteF ?_
      try unfold tNext
      dsimp only
      refine range_all (j := 4) (n := 2) ?_ (by decide) ?_ ?_ ?_
      · exact fun R q => ⟨_, rfl, D, _, rfl, .inl (SqL.of D3), q⟩
      · exact fun _ => rfl
      · intro i G Q2 hi sg q
        have Dg := sg _ _ D3
        have wg := w3.trans sg
        have Fg := F3.same sg
        have cs : i = 0 ∨ i = 1 := by omega
        rcases cs with rfl | rfl
        · obtain ⟨zz, js, e1, e2, fz⟩ := Fg.at (i := 0) (v := .ref z0) rfl
          cases e1
          cases Option.some.inj e2
          refine ⟨_, rfl, _, rfl, D, _, _, _, rfl, rfl, SqL.of Dg, rfl, ?_⟩
          refine ⟨_, rfl, _, rfl, _, _, rfl, rfl, _, rfl, l, xs, rfl, SqL.of (wg _ _ hl), fun L hL => ?_⟩
          generalize e_L : upd G L _ = G4
          have s_L := new_same e_L hL
          have h_L := new_at e_L
          have ct : cutV xs none (some (0 + ((0 : Nat) : Int) + 1)) = xs.take 1 := cut_to xs 1 (by omega)
          refine ⟨below 14, L, xs.take 1, ess.take 1, rfl, SqL.of (h_L.trans (by rw [ct])), FDs.take 1 (hx.same (wg.trans s_L)), by rw [below_len]; omega, fun d G5 s5 hd => ?_⟩
          refine ⟨below 14, below 14, z0, d, _, _, rfl, (fz.same s_L).same s5, hd, small _ hd.2, NE.join fun es he => hne es (List.mem_of_mem_take he), fun jj => ?_, fun G6 s6 => q G6 ((s_L.trans s5).trans s6)⟩
          have te : ess.take 1 = [f0] := by rw [take_one ef0, List.take_zero]; rfl
          rw [te, look_join, look_join]
          simp only [List.foldl_cons, List.foldl_nil, look_nil, Option.none_or, lk0]
        · obtain ⟨zz, js, e1, e2, fz⟩ := Fg.at (i := 1) (v := .ref z1) rfl
          cases e1
          cases Option.some.inj e2
          refine ⟨_, rfl, _, rfl, D, _, _, _, rfl, rfl, SqL.of Dg, rfl, ?_⟩
          refine ⟨_, rfl, _, rfl, _, _, rfl, rfl, _, rfl, l, xs, rfl, SqL.of (wg _ _ hl), fun L hL => ?_⟩
          generalize e_L : upd G L _ = G4
          have s_L := new_same e_L hL
          have h_L := new_at e_L
          have ct : cutV xs none (some (0 + ((1 : Nat) : Int) + 1)) = xs.take 2 := cut_to xs 2 (by omega)
          refine ⟨below 14, L, xs.take 2, ess.take 2, rfl, SqL.of (h_L.trans (by rw [ct])), FDs.take 2 (hx.same (wg.trans s_L)), by rw [below_len]; omega, fun d G5 s5 hd => ?_⟩
          refine ⟨below 14, below 14, z1, d, _, _, rfl, (fz.same s_L).same s5, hd, small _ hd.2, NE.join fun es he => hne es (List.mem_of_mem_take he), fun jj => ?_, fun G6 s6 => q G6 ((s_L.trans s5).trans s6)⟩
          have te : ess.take 2 = [f0, f1] := by rw [take_one ef1, take_one ef0, List.take_zero]; rfl
          rw [te, look_join, look_join]
          simp only [List.foldl_cons, List.foldl_nil, look_nil, Option.none_or, lk0, lk1]
      · exact fun G sg => k G (w3.trans sg)
    · have ly : ys.length = 3 := by omega
      obtain ⟨y0, u0, f0, ha0, fy0, eu0, ef0, lk0⟩ := pick 0 (by omega)
      obtain ⟨y1, u1, f1, ha1, fy1, eu1, ef1, lk1⟩ := pick 1 (by omega)
      obtain ⟨y2, u2, f2, ha2, fy2, eu2, ef2, lk2⟩ := pick 2 (by omega)
      have fy0b := fy0
      obtain ⟨dx0, dd0, e0, _⟩ := fy0b
      have jn : ∀ (H' : Hp) (vs : List V) (us : List (List (Int × Str))) (Q2 : VK), Same H H' → FSs C_FormSet (below 14) H' vs us → vs.length ≤ 5 → (∀ z H2, Same H' H2 → FS C_FormSet (below 14) H2 z (joinAll u0 us) → Q2 (.ref z) H2) → spStar ["self"] (spJoin K C_FormSet) (.ref y0 :: vs) H' Q2 E0 := by
        intro H' vs us Q2 s hv hl5 q
        refine ⟨[.ref y0], vs, rfl, rfl, size_ok (by omega), fun p hp => ?_⟩
        exact ⟨below 14, y0, p, u0, vs, us, rfl, (fy0.same s).same (same_new hp), .inl (.inl upd_same), hv.same (same_new hp), fun d H5 s5 hd => q d H5 ((same_new hp).trans s5) hd⟩
      refine ⟨_, rfl, r, ys, 0, .ref y0, rfl, rfl, SqL.of hrr, ha0, ?_⟩
      refine ⟨_, rfl, y0, _, _, rfl, e0, rfl, jn H [] [] _ (Same.refl H) .nil (by simp) fun z0 H1 s1 hz0 => ?_⟩
      refine ⟨_, rfl, y0, _, _, rfl, s1 _ _ e0, rfl, _, rfl, r, ys, 1, .ref y1, rfl, rfl, SqL.of (s1 _ _ hrr), ha1, ?_⟩
      refine jn H1 [.ref y1] [u1] _ s1 (.cons (fy1.same s1) .nil) (by simp) fun z1 H2 s2 hz1 => ⟨size_ok (by simp), fun D hD => ?_⟩
      generalize e_D : upd H2 D _ = H3
      have s_D := new_same e_D hD
      have h_D := new_at e_D
      have w3 := (s1.trans s2).trans s_D
      have F3 : FSs C_FormSet (below 14) H3 [.ref z0, .ref z1] [joinAll u0 [], joinAll u0 [u1]] := .cons ((hz0.same s2).same s_D) (.cons (hz1.same s_D) .nil)
      have D3 := h_D
      have hDH : ∀ w o, H w = some o → w ≠ D := fun w o e => ne_of_none (s2 _ _ (s1 _ _ e)) hD
      refine ⟨_, rfl, r, ys, rfl, .inl (SqL.of (w3 _ _ hrr)), _, _, rfl, rfl, _, rfl, ?_⟩
      rw [ly]
      refine iteT ?_
      refine ⟨_, rfl, .inl ⟨rfl, _, SqL.of D3⟩, ?_⟩
      refine ⟨_, rfl, y0, _, _, rfl, w3 _ _ e0, rfl, ?_⟩
      refine ⟨_, rfl, r, ys, 1, .ref y1, rfl, rfl, SqL.of (w3 _ _ hrr), ha1, ?_⟩
      refine ⟨_, rfl, r, ys, 2, .ref y2, rfl, rfl, SqL.of (w3 _ _ hrr), ha2, ?_⟩
      refine jn H3 [.ref y1, .ref y2] [u1, u2] _ w3 (.cons (fy1.same w3) (.cons (fy2.same w3) (.nil))) (by simp) fun z2 H4a s4 hz2 => ?_
      refine ⟨D, _, .ref z2, rfl, rfl, s4 _ _ D3, small1000 (by simp), ?_⟩
      generalize e_4 : upd H4a D _ = H4
      have D4 := new_at e_4
      have x4 : Ext D H4a H4 := fun w o nw e => (new_ne e_4 nw).trans e
      have w4 : Same H H4 := fun w o e => x4 w o (hDH w o e) (s4 _ _ (w3 _ _ e))
      have F4 := FSs.app (hz2.chg (s4 _ _ D3) x4) ((F3.same s4).chg (s4 _ _ D3) x4)
      refine ⟨_, rfl, r, ys, rfl, .inl (SqL.of (w4 _ _ hrr)), _, _, rfl, rfl, _, rfl, ?_⟩
      rw [ly]
      refine iteF ?_
      refine ⟨_, rfl, r, ys, rfl, .inl (SqL.of (w4 _ _ hrr)), _, _, rfl, rfl, _, rfl, ?_⟩
      rw [ly]
      refine iteF ?_
      try unfold tNext
      dsimp only
      refine range_all (j := 4) (n := 3) ?_ (by decide) ?_ ?_ ?_
      · exact fun R q => ⟨_, rfl, D, _, rfl, .inl (SqL.of D4), q⟩
      · exact fun _ => rfl
      · intro i G Q2 hi sg q
        have Dg := sg _ _ D4
        have wg := w4.trans sg
        have Fg := F4.same sg
        have cs : i = 0 ∨ i = 1 ∨ i = 2 := by omega
        rcases cs with rfl | rfl | rfl
        · obtain ⟨zz, js, e1, e2, fz⟩ := Fg.at (i := 0) (v := .ref z0) rfl
          cases e1
          cases Option.some.inj e2
          refine ⟨_, rfl, _, rfl, D, _, _, _, rfl, rfl, SqL.of Dg, rfl, ?_⟩
          refine ⟨_, rfl, _, rfl, _, _, rfl, rfl, _, rfl, l, xs, rfl, SqL.of (wg _ _ hl), fun L hL => ?_⟩
          generalize e_L : upd G L _ = G4
          have s_L := new_same e_L hL
          have h_L := new_at e_L
          have ct : cutV xs none (some (0 + ((0 : Nat) : Int) + 1)) = xs.take 1 := cut_to xs 1 (by omega)
          refine ⟨below 14, L, xs.take 1, ess.take 1, rfl, SqL.of (h_L.trans (by rw [ct])), FDs.take 1 (hx.same (wg.trans s_L)), by rw [below_len]; omega, fun d G5 s5 hd => ?_⟩
          refine ⟨below 14, below 14, z0, d, _, _, rfl, (fz.same s_L).same s5, hd, small _ hd.2, NE.join fun es he => hne es (List.mem_of_mem_take he), fun jj => ?_, fun G6 s6 => q G6 ((s_L.trans s5).trans s6)⟩
          have te : ess.take 1 = [f0] := by rw [take_one ef0, List.take_zero]; rfl
          rw [te, look_join, look_join]
          simp only [List.foldl_cons, List.foldl_nil, look_nil, Option.none_or, lk0]
        · obtain ⟨zz, js, e1, e2, fz⟩ := Fg.at (i := 1) (v := .ref z1) rfl
          cases e1
          cases Option.some.inj e2
          refine ⟨_, rfl, _, rfl, D, _, _, _, rfl, rfl, SqL.of Dg, rfl, ?_⟩
          refine ⟨_, rfl, _, rfl, _, _, rfl, rfl, _, rfl, l, xs, rfl, SqL.of (wg _ _ hl), fun L hL => ?_⟩
          generalize e_L : upd G L _ = G4
          have s_L := new_same e_L hL
          have h_L := new_at e_L
          have ct : cutV xs none (some (0 + ((1 : Nat) : Int) + 1)) = xs.take 2 := cut_to xs 2 (by omega)
          refine ⟨below 14, L, xs.take 2, ess.take 2, rfl, SqL.of (h_L.trans (by rw [ct])), FDs.take 2 (hx.same (wg.trans s_L)), by rw [below_len]; omega, fun d G5 s5 hd => ?_⟩
          refine ⟨below 14, below 14, z1, d, _, _, rfl, (fz.same s_L).same s5, hd, small _ hd.2, NE.join fun es he => hne es (List.mem_of_mem_take he), fun jj => ?_, fun G6 s6 => q G6 ((s_L.trans s5).trans s6)⟩
          have te : ess.take 2 = [f0, f1] := by rw [take_one ef1, take_one ef0, List.take_zero]; rfl
          rw [te, look_join, look_join]
          simp only [List.foldl_cons, List.foldl_nil, look_nil, Option.none_or, lk0, lk1]
        · obtain ⟨zz, js, e1, e2, fz⟩ := Fg.at (i := 2) (v := .ref z2) rfl
          cases e1
          cases Option.some.inj e2
          refine ⟨_, rfl, _, rfl, D, _, _, _, rfl, rfl, SqL.of Dg, rfl, ?_⟩
          refine ⟨_, rfl, _, rfl, _, _, rfl, rfl, _, rfl, l, xs, rfl, SqL.of (wg _ _ hl), fun L hL => ?_⟩
          generalize e_L : upd G L _ = G4
          have s_L := new_same e_L hL
          have h_L := new_at e_L
          have ct : cutV xs none (some (0 + ((2 : Nat) : Int) + 1)) = xs.take 3 := cut_to xs 3 (by omega)
          refine ⟨below 14, L, xs.take 3, ess.take 3, rfl, SqL.of (h_L.trans (by rw [ct])), FDs.take 3 (hx.same (wg.trans s_L)), by rw [below_len]; omega, fun d G5 s5 hd => ?_⟩
          refine ⟨below 14, below 14, z2, d, _, _, rfl, (fz.same s_L).same s5, hd, small _ hd.2, NE.join fun es he => hne es (List.mem_of_mem_take he), fun jj => ?_, fun G6 s6 => q G6 ((s_L.trans s5).trans s6)⟩
          have te : ess.take 3 = [f0, f1, f2] := by rw [take_one ef2, take_one ef1, take_one ef0, List.take_zero]; rfl
          rw [te, look_join, look_join]
          simp only [List.foldl_cons, List.foldl_nil, look_nil, Option.none_or, lk0, lk1, lk2]
      · exact fun G sg => k G (w4.trans sg)
    · have ly : ys.length = 4 := by omega
      obtain ⟨y0, u0, f0, ha0, fy0, eu0, ef0, lk0⟩ := pick 0 (by omega)
      obtain ⟨y1, u1, f1, ha1, fy1, eu1, ef1, lk1⟩ := pick 1 (by omega)
      obtain ⟨y2, u2, f2, ha2, fy2, eu2, ef2, lk2⟩ := pick 2 (by omega)
      obtain ⟨y3, u3, f3, ha3, fy3, eu3, ef3, lk3⟩ := pick 3 (by omega)
      have fy0b := fy0
      obtain ⟨dx0, dd0, e0, _⟩ := fy0b
      have jn : ∀ (H' : Hp) (vs : List V) (us : List (List (Int × Str))) (Q2 : VK), Same H H' → FSs C_FormSet (below 14) H' vs us → vs.length ≤ 5 → (∀ z H2, Same H' H2 → FS C_FormSet (below 14) H2 z (joinAll u0 us) → Q2 (.ref z) H2) → spStar ["self"] (spJoin K C_FormSet) (.ref y0 :: vs) H' Q2 E0 := by
        intro H' vs us Q2 s hv hl5 q
        refine ⟨[.ref y0], vs, rfl, rfl, size_ok (by omega), fun p hp => ?_⟩
        exact ⟨below 14, y0, p, u0, vs, us, rfl, (fy0.same s).same (same_new hp), .inl (.inl upd_same), hv.same (same_new hp), fun d H5 s5 hd => q d H5 ((same_new hp).trans s5) hd⟩
      refine ⟨_, rfl, r, ys, 0, .ref y0, rfl, rfl, SqL.of hrr, ha0, ?_⟩
      refine ⟨_, rfl, y0, _, _, rfl, e0, rfl, jn H [] [] _ (Same.refl H) .nil (by simp) fun z0 H1 s1 hz0 => ?_⟩
      refine ⟨_, rfl, y0, _, _, rfl, s1 _ _ e0, rfl, _, rfl, r, ys, 1, .ref y1, rfl, rfl, SqL.of (s1 _ _ hrr), ha1, ?_⟩
      refine jn H1 [.ref y1] [u1] _ s1 (.cons (fy1.same s1) .nil) (by simp) fun z1 H2 s2 hz1 => ⟨size_ok (by simp), fun D hD => ?_⟩
      generalize e_D : upd H2 D _ = H3
      have s_D := new_same e_D hD
      have h_D := new_at e_D
      have w3 := (s1.trans s2).trans s_D
      have F3 : FSs C_FormSet (below 14) H3 [.ref z0, .ref z1] [joinAll u0 [], joinAll u0 [u1]] := .cons ((hz0.same s2).same s_D) (.cons (hz1.same s_D) .nil)
      have D3 := h_D
      have hDH : ∀ w o, H w = some o → w ≠ D := fun w o e => ne_of_none (s2 _ _ (s1 _ _ e)) hD
      refine ⟨_, rfl, r, ys, rfl, .inl (SqL.of (w3 _ _ hrr)), _, _, rfl, rfl, _, rfl, ?_⟩
      rw [ly]
      refine iteT ?_
      refine ⟨_, rfl, .inl ⟨rfl, _, SqL.of D3⟩, ?_⟩
      refine ⟨_, rfl, y0, _, _, rfl, w3 _ _ e0, rfl, ?_⟩
      refine ⟨_, rfl, r, ys, 1, .ref y1, rfl, rfl, SqL.of (w3 _ _ hrr), ha1, ?_⟩
      refine ⟨_, rfl, r, ys, 2, .ref y2, rfl, rfl, SqL.of (w3 _ _ hrr), ha2, ?_⟩
      refine jn H3 [.ref y1, .ref y2] [u1, u2] _ w3 (.cons (fy1.same w3) (.cons (fy2.same w3) (.nil))) (by simp) fun z2 H4a s4 hz2 => ?_
      refine ⟨D, _, .ref z2, rfl, rfl, s4 _ _ D3, small1000 (by simp), ?_⟩
      generalize e_4 : upd H4a D _ = H4
      have D4 := new_at e_4
      have x4 : Ext D H4a H4 := fun w o nw e => (new_ne e_4 nw).trans e
      have w4 : Same H H4 := fun w o e => x4 w o (hDH w o e) (s4 _ _ (w3 _ _ e))
      have F4 := FSs.app (hz2.chg (s4 _ _ D3) x4) ((F3.same s4).chg (s4 _ _ D3) x4)
      refine ⟨_, rfl, r, ys, rfl, .inl (SqL.of (w4 _ _ hrr)), _, _, rfl, rfl, _, rfl, ?_⟩
      rw [ly]
      refine iteT ?_
      refine ⟨_, rfl, .inl ⟨rfl, _, SqL.of D4⟩, ?_⟩
      refine ⟨_, rfl, y0, _, _, rfl, w4 _ _ e0, rfl, ?_⟩
      refine ⟨_, rfl, r, ys, 1, .ref y1, rfl, rfl, SqL.of (w4 _ _ hrr), ha1, ?_⟩
      refine ⟨_, rfl, r, ys, 2, .ref y2, rfl, rfl, SqL.of (w4 _ _ hrr), ha2, ?_⟩
      refine ⟨_, rfl, r, ys, 3, .ref y3, rfl, rfl, SqL.of (w4 _ _ hrr), ha3, ?_⟩
      refine jn H4 [.ref y1, .ref y2, .ref y3] [u1, u2, u3] _ w4 (.cons (fy1.same w4) (.cons (fy2.same w4) (.cons (fy3.same w4) (.nil)))) (by simp) fun z3 H5a s5 hz3 => ?_
      refine ⟨D, _, .ref z3, rfl, rfl, s5 _ _ D4, small1000 (by simp), ?_⟩
      generalize e_5 : upd H5a D _ = H5
      have D5 := new_at e_5
      have x5 : Ext D H5a H5 := fun w o nw e => (new_ne e_5 nw).trans e
      have w5 : Same H H5 := fun w o e => x5 w o (hDH w o e) (s5 _ _ (w4 _ _ e))
      have F5 := FSs.app (hz3.chg (s5 _ _ D4) x5) ((F4.same s5).chg (s5 _ _ D4) x5)
      refine ⟨_, rfl, r, ys, rfl, .inl (SqL.of (w5 _ _ hrr)), _, _, rfl, rfl, _, rfl, ?_⟩
      rw [ly]
      refine iteF ?_
      try unfold tNext
      dsimp only
      refine range_all (j := 4) (n := 4) ?_ (by decide) ?_ ?_ ?_
      · exact fun R q => ⟨_, rfl, D, _, rfl, .inl (SqL.of D5), q⟩
      · exact fun _ => rfl
      · intro i G Q2 hi sg q
        have Dg := sg _ _ D5
        have wg := w5.trans sg
        have Fg := F5.same sg
        have cs : i = 0 ∨ i = 1 ∨ i = 2 ∨ i = 3 := by omega
        rcases cs with rfl | rfl | rfl | rfl
        · obtain ⟨zz, js, e1, e2, fz⟩ := Fg.at (i := 0) (v := .ref z0) rfl
          cases e1
          cases Option.some.inj e2
          refine ⟨_, rfl, _, rfl, D, _, _, _, rfl, rfl, SqL.of Dg, rfl, ?_⟩
          refine ⟨_, rfl, _, rfl, _, _, rfl, rfl, _, rfl, l, xs, rfl, SqL.of (wg _ _ hl), fun L hL => ?_⟩
          generalize e_L : upd G L _ = G4
          have s_L := new_same e_L hL
          have h_L := new_at e_L
          have ct : cutV xs none (some (0 + ((0 : Nat) : Int) + 1)) = xs.take 1 := cut_to xs 1 (by omega)
          refine ⟨below 14, L, xs.take 1, ess.take 1, rfl, SqL.of (h_L.trans (by rw [ct])), FDs.take 1 (hx.same (wg.trans s_L)), by rw [below_len]; omega, fun d G5 s5 hd => ?_⟩
          refine ⟨below 14, below 14, z0, d, _, _, rfl, (fz.same s_L).same s5, hd, small _ hd.2, NE.join fun es he => hne es (List.mem_of_mem_take he), fun jj => ?_, fun G6 s6 => q G6 ((s_L.trans s5).trans s6)⟩
          have te : ess.take 1 = [f0] := by rw [take_one ef0, List.take_zero]; rfl
          rw [te, look_join, look_join]
          simp only [List.foldl_cons, List.foldl_nil, look_nil, Option.none_or, lk0]
        · obtain ⟨zz, js, e1, e2, fz⟩ := Fg.at (i := 1) (v := .ref z1) rfl
          cases e1
          cases Option.some.inj e2
          refine ⟨_, rfl, _, rfl, D, _, _, _, rfl, rfl, SqL.of Dg, rfl, ?_⟩
          refine ⟨_, rfl, _, rfl, _, _, rfl, rfl, _, rfl, l, xs, rfl, SqL.of (wg _ _ hl), fun L hL => ?_⟩
          generalize e_L : upd G L _ = G4
          have s_L := new_same e_L hL
          have h_L := new_at e_L
          have ct : cutV xs none (some (0 + ((1 : Nat) : Int) + 1)) = xs.take 2 := cut_to xs 2 (by omega)
          refine ⟨below 14, L, xs.take 2, ess.take 2, rfl, SqL.of (h_L.trans (by rw [ct])), FDs.take 2 (hx.same (wg.trans s_L)), by rw [below_len]; omega, fun d G5 s5 hd => ?_⟩
          refine ⟨below 14, below 14, z1, d, _, _, rfl, (fz.same s_L).same s5, hd, small _ hd.2, NE.join fun es he => hne es (List.mem_of_mem_take he), fun jj => ?_, fun G6 s6 => q G6 ((s_L.trans s5).trans s6)⟩
          have te : ess.take 2 = [f0, f1] := by rw [take_one ef1, take_one ef0, List.take_zero]; rfl
          rw [te, look_join, look_join]
          simp only [List.foldl_cons, List.foldl_nil, look_nil, Option.none_or, lk0, lk1]
        · obtain ⟨zz, js, e1, e2, fz⟩ := Fg.at (i := 2) (v := .ref z2) rfl
          cases e1
          cases Option.some.inj e2
          refine ⟨_, rfl, _, rfl, D, _, _, _, rfl, rfl, SqL.of Dg, rfl, ?_⟩
          refine ⟨_, rfl, _, rfl, _, _, rfl, rfl, _, rfl, l, xs, rfl, SqL.of (wg _ _ hl), fun L hL => ?_⟩
          generalize e_L : upd G L _ = G4
          have s_L := new_same e_L hL
          have h_L := new_at e_L
          have ct : cutV xs none (some (0 + ((2 : Nat) : Int) + 1)) = xs.take 3 := cut_to xs 3 (by omega)
          refine ⟨below 14, L, xs.take 3, ess.take 3, rfl, SqL.of (h_L.trans (by rw [ct])), FDs.take 3 (hx.same (wg.trans s_L)), by rw [below_len]; omega, fun d G5 s5 hd => ?_⟩
          refine ⟨below 14, below 14, z2, d, _, _, rfl, (fz.same s_L).same s5, hd, small _ hd.2, NE.join fun es he => hne es (List.mem_of_mem_take he), fun jj => ?_, fun G6 s6 => q G6 ((s_L.trans s5).trans s6)⟩
          have te : ess.take 3 = [f0, f1, f2] := by rw [take_one ef2, take_one ef1, take_one ef0, List.take_zero]; rfl
          rw [te, look_join, look_join]
          simp only [List.foldl_cons, List.foldl_nil, look_nil, Option.none_or, lk0, lk1, lk2]
        · obtain ⟨zz, js, e1, e2, fz⟩ := Fg.at (i := 3) (v := .ref z3) rfl
          cases e1
          cases Option.some.inj e2
          refine ⟨_, rfl, _, rfl, D, _, _, _, rfl, rfl, SqL.of Dg, rfl, ?_⟩
          refine ⟨_, rfl, _, rfl, _, _, rfl, rfl, _, rfl, l, xs, rfl, SqL.of (wg _ _ hl), fun L hL => ?_⟩
          generalize e_L : upd G L _ = G4
          have s_L := new_same e_L hL
          have h_L := new_at e_L
          have ct : cutV xs none (some (0 + ((3 : Nat) : Int) + 1)) = xs.take 4 := cut_to xs 4 (by omega)
          refine ⟨below 14, L, xs.take 4, ess.take 4, rfl, SqL.of (h_L.trans (by rw [ct])), FDs.take 4 (hx.same (wg.trans s_L)), by rw [below_len]; omega, fun d G5 s5 hd => ?_⟩
          refine ⟨below 14, below 14, z3, d, _, _, rfl, (fz.same s_L).same s5, hd, small _ hd.2, NE.join fun es he => hne es (List.mem_of_mem_take he), fun jj => ?_, fun G6 s6 => q G6 ((s_L.trans s5).trans s6)⟩
          have te : ess.take 4 = [f0, f1, f2, f3] := by rw [take_one ef3, take_one ef2, take_one ef1, take_one ef0, List.take_zero]; rfl
          rw [te, look_join, look_join]
          simp only [List.foldl_cons, List.foldl_nil, look_nil, Option.none_or, lk0, lk1, lk2, lk3]
      · exact fun G sg => k G (w5.trans sg)
    · have ly : ys.length = 5 := by omega
      obtain ⟨y0, u0, f0, ha0, fy0, eu0, ef0, lk0⟩ := pick 0 (by omega)
      obtain ⟨y1, u1, f1, ha1, fy1, eu1, ef1, lk1⟩ := pick 1 (by omega)
      obtain ⟨y2, u2, f2, ha2, fy2, eu2, ef2, lk2⟩ := pick 2 (by omega)
      obtain ⟨y3, u3, f3, ha3, fy3, eu3, ef3, lk3⟩ := pick 3 (by omega)
      obtain ⟨y4, u4, f4, ha4, fy4, eu4, ef4, lk4⟩ := pick 4 (by omega)
      have fy0b := fy0
      obtain ⟨dx0, dd0, e0, _⟩ := fy0b
      have jn : ∀ (H' : Hp) (vs : List V) (us : List (List (Int × Str))) (Q2 : VK), Same H H' → FSs C_FormSet (below 14) H' vs us → vs.length ≤ 5 → (∀ z H2, Same H' H2 → FS C_FormSet (below 14) H2 z (joinAll u0 us) → Q2 (.ref z) H2) → spStar ["self"] (spJoin K C_FormSet) (.ref y0 :: vs) H' Q2 E0 := by
        intro H' vs us Q2 s hv hl5 q
        refine ⟨[.ref y0], vs, rfl, rfl, size_ok (by omega), fun p hp => ?_⟩
        exact ⟨below 14, y0, p, u0, vs, us, rfl, (fy0.same s).same (same_new hp), .inl (.inl upd_same), hv.same (same_new hp), fun d H5 s5 hd => q d H5 ((same_new hp).trans s5) hd⟩
      refine ⟨_, rfl, r, ys, 0, .ref y0, rfl, rfl, SqL.of hrr, ha0, ?_⟩
      refine ⟨_, rfl, y0, _, _, rfl, e0, rfl, jn H [] [] _ (Same.refl H) .nil (by simp) fun z0 H1 s1 hz0 => ?_⟩
      refine ⟨_, rfl, y0, _, _, rfl, s1 _ _ e0, rfl, _, rfl, r, ys, 1, .ref y1, rfl, rfl, SqL.of (s1 _ _ hrr), ha1, ?_⟩
      refine jn H1 [.ref y1] [u1] _ s1 (.cons (fy1.same s1) .nil) (by simp) fun z1 H2 s2 hz1 => ⟨size_ok (by simp), fun D hD => ?_⟩
      generalize e_D : upd H2 D _ = H3
      have s_D := new_same e_D hD
      have h_D := new_at e_D
      have w3 := (s1.trans s2).trans s_D
      have F3 : FSs C_FormSet (below 14) H3 [.ref z0, .ref z1] [joinAll u0 [], joinAll u0 [u1]] := .cons ((hz0.same s2).same s_D) (.cons (hz1.same s_D) .nil)
      have D3 := h_D
      have hDH : ∀ w o, H w = some o → w ≠ D := fun w o e => ne_of_none (s2 _ _ (s1 _ _ e)) hD
      refine ⟨_, rfl, r, ys, rfl, .inl (SqL.of (w3 _ _ hrr)), _, _, rfl, rfl, _, rfl, ?_⟩
      rw [ly]
      refine iteT ?_
      refine ⟨_, rfl, .inl ⟨rfl, _, SqL.of D3⟩, ?_⟩
      refine ⟨_, rfl, y0, _, _, rfl, w3 _ _ e0, rfl, ?_⟩
      refine ⟨_, rfl, r, ys, 1, .ref y1, rfl, rfl, SqL.of (w3 _ _ hrr), ha1, ?_⟩
      refine ⟨_, rfl, r, ys, 2, .ref y2, rfl, rfl, SqL.of (w3 _ _ hrr), ha2, ?_⟩
      refine jn H3 [.ref y1, .ref y2] [u1, u2] _ w3 (.cons (fy1.same w3) (.cons (fy2.same w3) (.nil))) (by simp) fun z2 H4a s4 hz2 => ?_
      refine ⟨D, _, .ref z2, rfl, rfl, s4 _ _ D3, small1000 (by simp), ?_⟩
      generalize e_4 : upd H4a D _ = H4
      have D4 := new_at e_4
      have x4 : Ext D H4a H4 := fun w o nw e => (new_ne e_4 nw).trans e
      have w4 : Same H H4 := fun w o e => x4 w o (hDH w o e) (s4 _ _ (w3 _ _ e))
      have F4 := FSs.app (hz2.chg (s4 _ _ D3) x4) ((F3.same s4).chg (s4 _ _ D3) x4)
      refine ⟨_, rfl, r, ys, rfl, .inl (SqL.of (w4 _ _ hrr)), _, _, rfl, rfl, _, rfl, ?_⟩
      rw [ly]
      refine iteT ?_
      refine ⟨_, rfl, .inl ⟨rfl, _, SqL.of D4⟩, ?_⟩
      refine ⟨_, rfl, y0, _, _, rfl, w4 _ _ e0, rfl, ?_⟩
      refine ⟨_, rfl, r, ys, 1, .ref y1, rfl, rfl, SqL.of (w4 _ _ hrr), ha1, ?_⟩
      refine ⟨_, rfl, r, ys, 2, .ref y2, rfl, rfl, SqL.of (w4 _ _ hrr), ha2, ?_⟩
      refine ⟨_, rfl, r, ys, 3, .ref y3, rfl, rfl, SqL.of (w4 _ _ hrr), ha3, ?_⟩
      refine jn H4 [.ref y1, .ref y2, .ref y3] [u1, u2, u3] _ w4 (.cons (fy1.same w4) (.cons (fy2.same w4) (.cons (fy3.same w4) (.nil)))) (by simp) fun z3 H5a s5 hz3 => ?_
      refine ⟨D, _, .ref z3, rfl, rfl, s5 _ _ D4, small1000 (by simp), ?_⟩
      generalize e_5 : upd H5a D _ = H5
      have D5 := new_at e_5
      have x5 : Ext D H5a H5 := fun w o nw e => (new_ne e_5 nw).trans e
      have w5 : Same H H5 := fun w o e => x5 w o (hDH w o e) (s5 _ _ (w4 _ _ e))
      have F5 := FSs.app (hz3.chg (s5 _ _ D4) x5) ((F4.same s5).chg (s5 _ _ D4) x5)
      refine ⟨_, rfl, r, ys, rfl, .inl (SqL.of (w5 _ _ hrr)), _, _, rfl, rfl, _, rfl, ?_⟩
      rw [ly]
      refine iteT ?_
      refine ⟨_, rfl, .inl ⟨rfl, _, SqL.of D5⟩, ?_⟩
      refine ⟨_, rfl, y0, _, _, rfl, w5 _ _ e0, rfl, ?_⟩
      refine ⟨_, rfl, r, ys, 1, .ref y1, rfl, rfl, SqL.of (w5 _ _ hrr), ha1, ?_⟩
      refine ⟨_, rfl, r, ys, 2, .ref y2, rfl, rfl, SqL.of (w5 _ _ hrr), ha2, ?_⟩
      refine ⟨_, rfl, r, ys, 3, .ref y3, rfl, rfl, SqL.of (w5 _ _ hrr), ha3, ?_⟩
      refine ⟨_, rfl, r, ys, 4, .ref y4, rfl, rfl, SqL.of (w5 _ _ hrr), ha4, ?_⟩
      refine jn H5 [.ref y1, .ref y2, .ref y3, .ref y4] [u1, u2, u3, u4] _ w5 (.cons (fy1.same w5) (.cons (fy2.same w5) (.cons (fy3.same w5) (.cons (fy4.same w5) (.nil))))) (by simp) fun z4 H6a s6 hz4 => ?_
      refine ⟨D, _, .ref z4, rfl, rfl, s6 _ _ D5, small1000 (by simp), ?_⟩
      generalize e_6 : upd H6a D _ = H6
      have D6 := new_at e_6
      have x6 : Ext D H6a H6 := fun w o nw e => (new_ne e_6 nw).trans e
      have w6 : Same H H6 := fun w o e => x6 w o (hDH w o e) (s6 _ _ (w5 _ _ e))
      have F6 := FSs.app (hz4.chg (s6 _ _ D5) x6) ((F5.same s6).chg (s6 _ _ D5) x6)
      try unfold tNext
      dsimp only
      refine range_all (j := 4) (n := 5) ?_ (by decide) ?_ ?_ ?_
      · exact fun R q => ⟨_, rfl, D, _, rfl, .inl (SqL.of D6), q⟩
      · exact fun _ => rfl
      · intro i G Q2 hi sg q
        have Dg := sg _ _ D6
        have wg := w6.trans sg
        have Fg := F6.same sg
        have cs : i = 0 ∨ i = 1 ∨ i = 2 ∨ i = 3 ∨ i = 4 := by omega
        rcases cs with rfl | rfl | rfl | rfl | rfl
        · obtain ⟨zz, js, e1, e2, fz⟩ := Fg.at (i := 0) (v := .ref z0) rfl
          cases e1
          cases Option.some.inj e2
          refine ⟨_, rfl, _, rfl, D, _, _, _, rfl, rfl, SqL.of Dg, rfl, ?_⟩
          refine ⟨_, rfl, _, rfl, _, _, rfl, rfl, _, rfl, l, xs, rfl, SqL.of (wg _ _ hl), fun L hL => ?_⟩
          generalize e_L : upd G L _ = G4
          have s_L := new_same e_L hL
          have h_L := new_at e_L
          have ct : cutV xs none (some (0 + ((0 : Nat) : Int) + 1)) = xs.take 1 := cut_to xs 1 (by omega)
          refine ⟨below 14, L, xs.take 1, ess.take 1, rfl, SqL.of (h_L.trans (by rw [ct])), FDs.take 1 (hx.same (wg.trans s_L)), by rw [below_len]; omega, fun d G5 s5 hd => ?_⟩
          refine ⟨below 14, below 14, z0, d, _, _, rfl, (fz.same s_L).same s5, hd, small _ hd.2, NE.join fun es he => hne es (List.mem_of_mem_take he), fun jj => ?_, fun G6 s6 => q G6 ((s_L.trans s5).trans s6)⟩
          have te : ess.take 1 = [f0] := by rw [take_one ef0, List.take_zero]; rfl
          rw [te, look_join, look_join]
          simp only [List.foldl_cons, List.foldl_nil, look_nil, Option.none_or, lk0]
        · obtain ⟨zz, js, e1, e2, fz⟩ := Fg.at (i := 1) (v := .ref z1) rfl
          cases e1
          cases Option.some.inj e2
          refine ⟨_, rfl, _, rfl, D, _, _, _, rfl, rfl, SqL.of Dg, rfl, ?_⟩
          refine ⟨_, rfl, _, rfl, _, _, rfl, rfl, _, rfl, l, xs, rfl, SqL.of (wg _ _ hl), fun L hL => ?_⟩
          generalize e_L : upd G L _ = G4
          have s_L := new_same e_L hL
          have h_L := new_at e_L
          have ct : cutV xs none (some (0 + ((1 : Nat) : Int) + 1)) = xs.take 2 := cut_to xs 2 (by omega)
          refine ⟨below 14, L, xs.take 2, ess.take 2, rfl, SqL.of (h_L.trans (by rw [ct])), FDs.take 2 (hx.same (wg.trans s_L)), by rw [below_len]; omega, fun d G5 s5 hd => ?_⟩
          refine ⟨below 14, below 14, z1, d, _, _, rfl, (fz.same s_L).same s5, hd, small _ hd.2, NE.join fun es he => hne es (List.mem_of_mem_take he), fun jj => ?_, fun G6 s6 => q G6 ((s_L.trans s5).trans s6)⟩
          have te : ess.take 2 = [f0, f1] := by rw [take_one ef1, take_one ef0, List.take_zero]; rfl
          rw [te, look_join, look_join]
          simp only [List.foldl_cons, List.foldl_nil, look_nil, Option.none_or, lk0, lk1]
        · obtain ⟨zz, js, e1, e2, fz⟩ := Fg.at (i := 2) (v := .ref z2) rfl
          cases e1
          cases Option.some.inj e2
          refine ⟨_, rfl, _, rfl, D, _, _, _, rfl, rfl, SqL.of Dg, rfl, ?_⟩
          refine ⟨_, rfl, _, rfl, _, _, rfl, rfl, _, rfl, l, xs, rfl, SqL.of (wg _ _ hl), fun L hL => ?_⟩
          generalize e_L : upd G L _ = G4
          have s_L := new_same e_L hL
          have h_L := new_at e_L
          have ct : cutV xs none (some (0 + ((2 : Nat) : Int) + 1)) = xs.take 3 := cut_to xs 3 (by omega)
          refine ⟨below 14, L, xs.take 3, ess.take 3, rfl, SqL.of (h_L.trans (by rw [ct])), FDs.take 3 (hx.same (wg.trans s_L)), by rw [below_len]; omega, fun d G5 s5 hd => ?_⟩
          refine ⟨below 14, below 14, z2, d, _, _, rfl, (fz.same s_L).same s5, hd, small _ hd.2, NE.join fun es he => hne es (List.mem_of_mem_take he), fun jj => ?_, fun G6 s6 => q G6 ((s_L.trans s5).trans s6)⟩
          have te : ess.take 3 = [f0, f1, f2] := by rw [take_one ef2, take_one ef1, take_one ef0, List.take_zero]; rfl
          rw [te, look_join, look_join]
          simp only [List.foldl_cons, List.foldl_nil, look_nil, Option.none_or, lk0, lk1, lk2]
        · obtain ⟨zz, js, e1, e2, fz⟩ := Fg.at (i := 3) (v := .ref z3) rfl
          cases e1
          cases Option.some.inj e2
          refine ⟨_, rfl, _, rfl, D, _, _, _, rfl, rfl, SqL.of Dg, rfl, ?_⟩
          refine ⟨_, rfl, _, rfl, _, _, rfl, rfl, _, rfl, l, xs, rfl, SqL.of (wg _ _ hl), fun L hL => ?_⟩
          generalize e_L : upd G L _ = G4
          have s_L := new_same e_L hL
          have h_L := new_at e_L
          have ct : cutV xs none (some (0 + ((3 : Nat) : Int) + 1)) = xs.take 4 := cut_to xs 4 (by omega)
          refine ⟨below 14, L, xs.take 4, ess.take 4, rfl, SqL.of (h_L.trans (by rw [ct])), FDs.take 4 (hx.same (wg.trans s_L)), by rw [below_len]; omega, fun d G5 s5 hd => ?_⟩
          refine ⟨below 14, below 14, z3, d, _, _, rfl, (fz.same s_L).same s5, hd, small _ hd.2, NE.join fun es he => hne es (List.mem_of_mem_take he), fun jj => ?_, fun G6 s6 => q G6 ((s_L.trans s5).trans s6)⟩
          have te : ess.take 4 = [f0, f1, f2, f3] := by rw [take_one ef3, take_one ef2, take_one ef1, take_one ef0, List.take_zero]; rfl
          rw [te, look_join, look_join]
          simp only [List.foldl_cons, List.foldl_nil, look_nil, Option.none_or, lk0, lk1, lk2, lk3]
        · obtain ⟨zz, js, e1, e2, fz⟩ := Fg.at (i := 4) (v := .ref z4) rfl
          cases e1
          cases Option.some.inj e2
          refine ⟨_, rfl, _, rfl, D, _, _, _, rfl, rfl, SqL.of Dg, rfl, ?_⟩
          refine ⟨_, rfl, _, rfl, _, _, rfl, rfl, _, rfl, l, xs, rfl, SqL.of (wg _ _ hl), fun L hL => ?_⟩
          generalize e_L : upd G L _ = G4
          have s_L := new_same e_L hL
          have h_L := new_at e_L
          have ct : cutV xs none (some (0 + ((4 : Nat) : Int) + 1)) = xs.take 5 := cut_to xs 5 (by omega)
          refine ⟨below 14, L, xs.take 5, ess.take 5, rfl, SqL.of (h_L.trans (by rw [ct])), FDs.take 5 (hx.same (wg.trans s_L)), by rw [below_len]; omega, fun d G5 s5 hd => ?_⟩
          refine ⟨below 14, below 14, z4, d, _, _, rfl, (fz.same s_L).same s5, hd, small _ hd.2, NE.join fun es he => hne es (List.mem_of_mem_take he), fun jj => ?_, fun G6 s6 => q G6 ((s_L.trans s5).trans s6)⟩
          have te : ess.take 5 = [f0, f1, f2, f3, f4] := by rw [take_one ef4, take_one ef3, take_one ef2, take_one ef1, take_one ef0, List.take_zero]; rfl
          rw [te, look_join, look_join]
          simp only [List.foldl_cons, List.foldl_nil, look_nil, Option.none_or, lk0, lk1, lk2, lk3, lk4]
      · exact fun G sg => k G (w6.trans sg)
theorem sc_l_pair_right : FnScope ["_law_one", "_law_other", "_law_left", "_law_right", "_law_smaller", "_law_apart"] ["_law_one", "_law_other", "_law_left", "_law_right"] (defScope s_l_pair_right) := ⟨rfl, rfl, rfl, by decide +kernel, rfl, by decide +kernel, by decide +kernel⟩
theorem ok_l_pair_right {f : Addr} {fd : FuncData} (F : Fun K "_law_pair_right" "_law_pair_right" s_l_pair_right f fd) (T : Txt K mg C_FormSet)
    (D_FormSet_or : Mt P w K mg base C_FormSet "__or__" 8 ["self", "other"] (spOp C_FormSet united))
    (D_FormSet_and : Mt P w K mg base C_FormSet "__and__" 9 ["self", "other"] (spOp C_FormSet smaller))
    (D_FormSet_sub : Mt P w K mg base C_FormSet "__sub__" 8 ["self", "other"] (spOp C_FormSet rest))
    (D_FormSet_xor : Mt P w K mg base C_FormSet "__xor__" 8 ["self", "other"] (spOp C_FormSet apart))
    (D_FormSet_kept : Mt P w K mg base C_FormSet "kept" 8 ["self", "other"] (spOp C_FormSet common))
    (D_l_is : Fn P w K mg base 2 "_law_is" ["_law_thing", "_law_due"] (spIsIt C_FormSet))
    (D_l_part : Fn P w K mg base 1 "_law_part" ["_law_one", "_law_other", "_law_inside"] spPart)
    (D_l_joined : Fn P w K mg base 1 "_law_joined" ["_law_rows"] (spJoined K))
    : FnOk P w K mg base CX0 10 f fd ["_law_one", "_law_other", "_law_left", "_law_right"] (spPR C_FormSet) := by
  refine F.ok sc_l_pair_right (fun vs H Q E h => ?_) (fun cdv A outer s H vs Q E hr h => ?_)
  · obtain ⟨a, b, x, y, es, fs, us, ws, rfl, _⟩ := h; rfl
  · obtain ⟨a, b, x, y, es, fs, us, ws, rfl, h1, h2, h3, h4, ne1, ne2, lu, lw, k⟩ := h
    have hu := hu_of hr
    have hu64 := hr.units
    refine ⟨_, (pss_cons (ps_set (i := 4) sc_l_pair_right.nd rfl (Or.inl rfl) (pe_fn D_l_part (hr.mono (by decide)) rfl (pa_cons (pv 0) (pa_cons (pv 1) (pa_cons pe_bl pa_nil)))))
  (pss_cons (ps_if (pt_cmpR op_ge (pe_callB call_lenD (by rfl) T.n_len PySem.boot_len (pa_cons (pv 0) pa_nil)) (pe_callB call_lenD (by rfl) T.n_len PySem.boot_len (pa_cons (pv 1) pa_nil)) (nomark _))
    (pss_one (ps_set (i := 4) sc_l_pair_right.nd rfl (Or.inl rfl) (pe_fn D_l_part (hr.mono (by decide)) rfl (pa_cons (pv 1) (pa_cons (pv 0) (pa_cons pe_bl pa_nil))))))
    pss_nil)
  (pss_cons (ps_set (i := 5) sc_l_pair_right.nd rfl (Or.inl rfl) (pe_fn D_l_part (hr.mono (by decide)) rfl (pa_cons (pv 0) (pa_cons (pv 1) (pa_cons pe_bl pa_nil)))))
  (pss_cons (ps_expr (pe_bm PySem.F.plainAttrs_dict PySem.F.slot_dict_update PySem.F.type_dict_update mt_updateK (pv 5) (pa_cons (pe_fn D_l_part (hr.mono (by decide)) rfl (pa_cons (pv 1) (pa_cons (pv 0) (pa_cons pe_bl pa_nil)))) pa_nil)))
  (pss_cons (ps_if (PW.pt (pw_or (pt_not (pt_val (pe_fn D_l_is (hr.mono (by decide)) rfl (pa_cons (pe_op (op_own D_FormSet_and (hr.mono (by decide)) T.sf_FormSet rfl) (pv 2) (pv 3)) (pa_cons (pv 4) pa_nil))))) (pw_or1 (pt_not (pt_val (pe_fn D_l_is (hr.mono (by decide)) rfl (pa_cons (pe_op (op_own D_FormSet_xor (hr.mono (by decide)) T.sf_FormSet rfl) (pv 2) (pv 3)) (pa_cons (pv 5) pa_nil))))))))
    (pss_one (ps_ret pe_bl))
    pss_nil)
  (pss_cons (ps_if (pt_not (pt_val (pe_fn D_l_is (hr.mono (by decide)) rfl (pa_cons (pe_op (op_own D_FormSet_sub (hr.mono (by decide)) T.sf_FormSet rfl) (pv 2) (pv 3)) (pa_cons (pe_fn D_l_part (hr.mono (by decide)) rfl (pa_cons (pv 0) (pa_cons (pv 1) (pa_cons pe_bl pa_nil)))) pa_nil)))))
    (pss_one (ps_ret pe_bl))
    pss_nil)
  (pss_cons (ps_if (pt_not (pt_val (pe_fn D_l_is (hr.mono (by decide)) rfl (pa_cons (pe_op (op_own D_FormSet_or (hr.mono (by decide)) T.sf_FormSet rfl) (pv 2) (pv 3)) (pa_cons (pe_fn D_l_joined (hr.mono (by decide)) rfl (pa_cons (pe_lst (pa_cons (pv 0) (pa_cons (pv 1) pa_nil))) pa_nil)) pa_nil)))))
    (pss_one (ps_ret pe_bl))
    pss_nil)
  (pss_one (ps_ret (pe_fn D_l_is (hr.mono (by decide)) rfl (pa_cons (pe_mt D_FormSet_kept (hr.mono (by decide)) T.cl_FormSet (pv 2) (pa_cons (pv 3) pa_nil)) (pa_cons (pe_fn D_l_part (hr.mono (by decide)) rfl (pa_cons (pv 0) (pa_cons (pv 1) (pa_cons pe_bl pa_nil)))) pa_nil)))))))))))), ?_⟩
    have lu1 := len_of_has (U := below 14) (V := below 14) (by obtain ⟨_, _, _, _, g⟩ := h3; exact g) h1.2 (fun j => by unfold has; rw [lu])
    have lw1 := len_of_has (U := below 14) (V := below 14) (by obtain ⟨_, _, _, _, g⟩ := h4; exact g) h2.2 (fun j => by unfold has; rw [lw])
    have small : ∀ gs : List (Int × Str), Good (below 14) gs → gs.length < 64 := by
      intro gs g
      have := nodup_sub g.1 g.2.1
      rw [keys_len, below_len] at this
      omega
    have gap : Good (below 14) (rest es fs ++ rest fs es) := good_apart h1.2 h2.2
    have ne_s : NE (smaller es fs) := by
      unfold smaller
      split
      · exact fun p hp => ne1 p (List.mem_filter.mp hp).1
      · exact fun p hp => ne2 p (List.mem_filter.mp hp).1
    have ne_a : NE (rest es fs ++ rest fs es) := by
      intro p hp
      rcases List.mem_append.mp hp with hp | hp
      · exact ne1 p (List.mem_filter.mp hp).1
      · exact ne2 p (List.mem_filter.mp hp).1
    have ne_u : NE (joinAll [] [es, fs]) := by
      intro p hp
      have hp : p ∈ united (united [] es) fs := hp
      unfold united at hp
      rcases List.mem_append.mp hp with hp | hp
      · rw [List.nil_append] at hp
        exact ne1 p (List.mem_filter.mp hp).1
      · exact ne2 p (List.mem_filter.mp hp).1
    have lk_s : ∀ j, look (smaller us ws) j = look (smaller es fs) j := by
      intro j
      unfold smaller
      rw [lu1, lw1]
      split
      · rw [look_common, look_common, lu, lw]
      · rw [look_common, look_common, lu, lw]
    have lk_a : ∀ j, look (apart us ws) j = look (rest es fs ++ rest fs es) j := by
      intro j
      rw [look_apart, look_app, look_rest, look_rest, lu, lw]
    refine ⟨_, rfl, _, rfl, below 14, below 14, a, b, true, es, fs, rfl, h1, h2, fun d1 H1 n1 s1 hd1 => ?_⟩
    rw [if_pos rfl] at hd1
    refine ⟨_, rfl, a, _, rfl, s1 _ _ h1.1, _, rfl, b, _, rfl, s1 _ _ h2.1, _, _, rfl, rfl, _, rfl, ?_⟩
    rw [ents_len, ents_len]
    refine ite2 (fun c => ?_) (fun c => ?_)
    · have c2 : ¬ es.length < fs.length := by
        have := of_decide_eq_true c
        omega
      refine ⟨_, rfl, _, rfl, below 14, below 14, b, a, true, fs, es, rfl, h2.same s1, h1.same s1, fun dS HS nS sS1 hS1 => ?_⟩
      rw [if_pos rfl] at hS1
      have sS := s1.trans sS1
      have hS : FD (below 14) HS dS (smaller es fs) := by unfold smaller; rw [if_neg c2]; exact hS1
      refine ⟨_, rfl, _, rfl, below 14, below 14, a, b, false, es, fs, rfl, h1.same sS, h2.same sS, fun d3 H3 n3 s3 hd3 => ?_⟩
      refine ⟨_, rfl, .inr (.inr (.inl ⟨rfl, .inl ⟨_, hd3.1⟩⟩)), _, rfl, _, rfl, below 14, below 14, b, a, false, fs, es, rfl, (h2.same sS).same s3, (h1.same sS).same s3, fun d4 H4 n4 s4 hd4 => ?_⟩
      have hd3b := hd3.same s4
      have l3 := hd3.2.len
      have l4 := hd4.2.len
      refine ⟨d3, d4, _, _, rfl, rfl, ne_of_none hd3.1 n4, hd3b.1, hd4.1, by rw [ents_len, ents_len]; omega, ?_⟩
      rw [if_neg (by simp), if_neg (by simp), merge_apart gap.1]
      generalize e_5 : upd H4 d3 _ = H5
      have hd0 : H d3 = none := sS.free n3
      have s5 : Same H H5 := fun w o e => (new_ne e_5 (ne_of_none e hd0)).trans (s4 _ _ (s3 _ _ (sS _ _ e)))
      have hA : FD (below 14) H5 d3 (rest es fs ++ rest fs es) := ⟨new_at e_5, gap⟩
      have hS5 : FD (below 14) H5 dS (smaller es fs) := ⟨(new_ne e_5 (ne_of_none hS.1 n3)).trans (s4 _ _ (s3 _ _ hS.1)), hS.2⟩
      have op : ∀ {f : List (Int × Str) → List (Int × Str) → List (Int × Str)} (H' : Hp) (Q2 : VK), Same H H' → (∀ z H2, Same H' H2 → FS C_FormSet (below 14) H2 z (f us ws) → Q2 (.ref z) H2) → rBin C_FormSet (spOp C_FormSet f) (.ref x) (.ref y) H' Q2 := by
        intro f H' Q2 s q
        have hx2 := h3.same s
        have hy2 := h4.same s
        have hx3 := hx2
        have hy3 := hy2
        obtain ⟨_, _, e1, _⟩ := hx3
        obtain ⟨_, _, e2, _⟩ := hy3
        exact ⟨x, y, _, _, _, _, rfl, rfl, e1, e2, below 14, x, y, us, ws, rfl, hx2, hy2, q⟩
      refine ⟨_, rfl, _, rfl, op H5 _ s5 fun z H6 s6 hz => ?_⟩
      refine ⟨_, rfl, below 14, below 14, z, dS, _, _, rfl, hz, hS5.same s6, small _ hS5.2, ne_s, lk_s, fun H7 s7 => ⟨_, rfl, iteF ?_⟩⟩
      have t7 := (s5.trans s6).trans s7
      refine ⟨_, rfl, _, rfl, op H7 _ t7 fun z2 H8 s8 hz2 => ?_⟩
      refine ⟨_, rfl, below 14, below 14, z2, d3, _, _, rfl, hz2, ((hA.same s6).same s7).same s8, small _ hA.2, ne_a, lk_a, fun H9 s9 => ⟨_, rfl, iteF ?_⟩⟩
      have t9 := (t7.trans s8).trans s9
      refine ⟨_, rfl, _, rfl, op H9 _ t9 fun z3 G1 r1 hz3 => ?_⟩
      have t10 := t9.trans r1
      refine ⟨_, rfl, _, rfl, below 14, below 14, a, b, false, es, fs, rfl, h1.same t10, h2.same t10, fun d5 G2 n5 r2 hd5 => ?_⟩
      rw [if_neg (by simp)] at hd5
      refine ⟨below 14, below 14, z3, d5, _, _, rfl, hz3.same r2, hd5, small _ hd5.2, fun p hp => ne1 p (List.mem_filter.mp hp).1, fun j => by rw [look_rest, look_rest, lu, lw], fun G3 r3 => ⟨_, rfl, iteF ?_⟩⟩
      have t12 := (t10.trans r2).trans r3
      refine ⟨_, rfl, _, rfl, op G3 _ t12 fun z4 G4 r4 hz4 => ?_⟩
      have t13 := t12.trans r4
      refine ⟨_, rfl, _, rfl, size_ok (by simp), fun L hL => ?_⟩
      generalize e_L : upd G4 L _ = G5
      have s_L := new_same e_L hL
      have h_L := new_at e_L
      have t14 := t13.trans s_L
      refine ⟨below 14, L, [.ref a, .ref b], [es, fs], rfl, SqL.of h_L, .cons (h1.same t14) (.cons (h2.same t14) .nil), by rw [below_len]; omega, fun d6 G6 r6 hd6 => ?_⟩
      refine ⟨below 14, below 14, z4, d6, _, _, rfl, (hz4.same s_L).same r6, hd6, small _ hd6.2, ne_u, fun j => ?_, fun G7 r7 => ⟨_, rfl, iteF ?_⟩⟩
      · show _ = look (united (united [] es) fs) j
        rw [look_united, look_united, look_united, look_nil, lu, lw]
        rfl
      have t16 := (t14.trans r6).trans r7
      have hx7 := h3.same t16
      have hx8 := hx7
      obtain ⟨_, _, ex7, _⟩ := hx8
      refine ⟨_, rfl, x, _, _, rfl, ex7, rfl, _, rfl, below 14, x, y, us, ws, rfl, hx7, h4.same t16, fun z5 G8 r8 hz5 => ?_⟩
      have t17 := t16.trans r8
      refine ⟨_, rfl, _, rfl, below 14, below 14, a, b, true, es, fs, rfl, h1.same t17, h2.same t17, fun d7 G9 n7 r9 hd7 => ?_⟩
      rw [if_pos rfl] at hd7
      refine ⟨below 14, below 14, z5, d7, _, _, rfl, hz5.same r9, hd7, small _ hd7.2, fun p hp => ne1 p (List.mem_filter.mp hp).1, fun j => by rw [look_common, look_common, lu, lw], fun K1 q1 => ?_⟩
      exact k K1 ((t17.trans r9).trans q1)
    · have c2 : es.length < fs.length := by simpa using c
      have sS := s1
      have hS : FD (below 14) H1 d1 (smaller es fs) := by unfold smaller; rw [if_pos c2]; exact hd1
      refine ⟨_, rfl, _, rfl, below 14, below 14, a, b, false, es, fs, rfl, h1.same sS, h2.same sS, fun d3 H3 n3 s3 hd3 => ?_⟩
      refine ⟨_, rfl, .inr (.inr (.inl ⟨rfl, .inl ⟨_, hd3.1⟩⟩)), _, rfl, _, rfl, below 14, below 14, b, a, false, fs, es, rfl, (h2.same sS).same s3, (h1.same sS).same s3, fun d4 H4 n4 s4 hd4 => ?_⟩
      have hd3b := hd3.same s4
      have l3 := hd3.2.len
      have l4 := hd4.2.len
      refine ⟨d3, d4, _, _, rfl, rfl, ne_of_none hd3.1 n4, hd3b.1, hd4.1, by rw [ents_len, ents_len]; omega, ?_⟩
      rw [if_neg (by simp), if_neg (by simp), merge_apart gap.1]
      generalize e_5 : upd H4 d3 _ = H5
      have hd0 : H d3 = none := sS.free n3
      have s5 : Same H H5 := fun w o e => (new_ne e_5 (ne_of_none e hd0)).trans (s4 _ _ (s3 _ _ (sS _ _ e)))
      have hA : FD (below 14) H5 d3 (rest es fs ++ rest fs es) := ⟨new_at e_5, gap⟩
      have hS5 : FD (below 14) H5 d1 (smaller es fs) := ⟨(new_ne e_5 (ne_of_none hS.1 n3)).trans (s4 _ _ (s3 _ _ hS.1)), hS.2⟩
      have op : ∀ {f : List (Int × Str) → List (Int × Str) → List (Int × Str)} (H' : Hp) (Q2 : VK), Same H H' → (∀ z H2, Same H' H2 → FS C_FormSet (below 14) H2 z (f us ws) → Q2 (.ref z) H2) → rBin C_FormSet (spOp C_FormSet f) (.ref x) (.ref y) H' Q2 := by
        intro f H' Q2 s q
        have hx2 := h3.same s
        have hy2 := h4.same s
        have hx3 := hx2
        have hy3 := hy2
        obtain ⟨_, _, e1, _⟩ := hx3
        obtain ⟨_, _, e2, _⟩ := hy3
        exact ⟨x, y, _, _, _, _, rfl, rfl, e1, e2, below 14, x, y, us, ws, rfl, hx2, hy2, q⟩
      refine ⟨_, rfl, _, rfl, op H5 _ s5 fun z H6 s6 hz => ?_⟩
      refine ⟨_, rfl, below 14, below 14, z, d1, _, _, rfl, hz, hS5.same s6, small _ hS5.2, ne_s, lk_s, fun H7 s7 => ⟨_, rfl, iteF ?_⟩⟩
      have t7 := (s5.trans s6).trans s7
      refine ⟨_, rfl, _, rfl, op H7 _ t7 fun z2 H8 s8 hz2 => ?_⟩
      refine ⟨_, rfl, below 14, below 14, z2, d3, _, _, rfl, hz2, ((hA.same s6).same s7).same s8, small _ hA.2, ne_a, lk_a, fun H9 s9 => ⟨_, rfl, iteF ?_⟩⟩
      have t9 := (t7.trans s8).trans s9
      refine ⟨_, rfl, _, rfl, op H9 _ t9 fun z3 G1 r1 hz3 => ?_⟩
      have t10 := t9.trans r1
      refine ⟨_, rfl, _, rfl, below 14, below 14, a, b, false, es, fs, rfl, h1.same t10, h2.same t10, fun d5 G2 n5 r2 hd5 => ?_⟩
      rw [if_neg (by simp)] at hd5
      refine ⟨below 14, below 14, z3, d5, _, _, rfl, hz3.same r2, hd5, small _ hd5.2, fun p hp => ne1 p (List.mem_filter.mp hp).1, fun j => by rw [look_rest, look_rest, lu, lw], fun G3 r3 => ⟨_, rfl, iteF ?_⟩⟩
      have t12 := (t10.trans r2).trans r3
      refine ⟨_, rfl, _, rfl, op G3 _ t12 fun z4 G4 r4 hz4 => ?_⟩
      have t13 := t12.trans r4
      refine ⟨_, rfl, _, rfl, size_ok (by simp), fun L hL => ?_⟩
      generalize e_L : upd G4 L _ = G5
      have s_L := new_same e_L hL
      have h_L := new_at e_L
      have t14 := t13.trans s_L
      refine ⟨below 14, L, [.ref a, .ref b], [es, fs], rfl, SqL.of h_L, .cons (h1.same t14) (.cons (h2.same t14) .nil), by rw [below_len]; omega, fun d6 G6 r6 hd6 => ?_⟩
      refine ⟨below 14, below 14, z4, d6, _, _, rfl, (hz4.same s_L).same r6, hd6, small _ hd6.2, ne_u, fun j => ?_, fun G7 r7 => ⟨_, rfl, iteF ?_⟩⟩
      · show _ = look (united (united [] es) fs) j
        rw [look_united, look_united, look_united, look_nil, lu, lw]
        rfl
      have t16 := (t14.trans r6).trans r7
      have hx7 := h3.same t16
      have hx8 := hx7
      obtain ⟨_, _, ex7, _⟩ := hx8
      refine ⟨_, rfl, x, _, _, rfl, ex7, rfl, _, rfl, below 14, x, y, us, ws, rfl, hx7, h4.same t16, fun z5 G8 r8 hz5 => ?_⟩
      have t17 := t16.trans r8
      refine ⟨_, rfl, _, rfl, below 14, below 14, a, b, true, es, fs, rfl, h1.same t17, h2.same t17, fun d7 G9 n7 r9 hd7 => ?_⟩
      rw [if_pos rfl] at hd7
      refine ⟨below 14, below 14, z5, d7, _, _, rfl, hz5.same r9, hd7, small _ hd7.2, fun p hp => ne1 p (List.mem_filter.mp hp).1, fun j => by rw [look_common, look_common, lu, lw], fun K1 q1 => ?_⟩
      exact k K1 ((t17.trans r9).trans q1)
theorem sc_l_single_right : FnScope ["_law_bag_here", "_law_one", "_law_left", "_law_key", "_law_more", "_law_less", "_law_other"] ["_law_bag_here", "_law_one", "_law_left"] (defScope s_l_single_right) := ⟨rfl, rfl, rfl, by decide +kernel, rfl, by decide +kernel, by decide +kernel⟩
theorem ok_l_single_right {f : Addr} {fd : FuncData} (F : Fun K "_law_single_right" "_law_single_right" s_l_single_right f fd) (T : Txt K mg C_FormSet)
    (D_FormSet_with_element : Mt P w K mg base C_FormSet "with_element" 10 ["self", "element"] (spWith K C_FormSet))
    (D_FormSet_without_key : Mt P w K mg base C_FormSet "without_key" 8 ["self", "key"] (spLess C_FormSet))
    (D_l_take : Fn P w K mg base 1 "_law_take" ["_law_bag_here", "_law_many"] spTake)
    (D_l_is : Fn P w K mg base 2 "_law_is" ["_law_thing", "_law_due"] (spIsIt C_FormSet))
    : FnOk P w K mg base CX0 11 f fd ["_law_bag_here", "_law_one", "_law_left"] (spSR C_FormSet) := by
  refine F.ok sc_l_single_right (fun vs H Q E h => ?_) (fun cdv A outer s H vs Q E hr h => ?_)
  · obtain ⟨a, n, d, x, es, us, rfl, _⟩ := h; rfl
  · obtain ⟨a, n, d, x, es, us, rfl, hb, hn, hd, hx, hne, hl, k⟩ := h
    have hu := hu_of hr
    have hu64 := hr.units
    refine ⟨_, (pss_cons (ps_set (i := 3) sc_l_single_right.nd rfl (Or.inr rfl) (pe_fn D_l_take (hr.mono (by decide)) rfl (pa_cons (pv 0) (pa_cons pe_int pa_nil))))
  (pss_cons (ps_set (i := 4) sc_l_single_right.nd rfl (Or.inl rfl) (pe_callTy call_dictD (by rfl) T.n_dict (by decide +kernel) (pa_cons (pv 1) pa_nil)))
  (pss_cons (ps_dput hu (pv 4) (pv 3) (pe_dget2 hu (pv 1) (pv 3) pe_str ⟨rfl, rfl, rfl, rfl⟩) rfl)
  (pss_cons (ps_set (i := 5) sc_l_single_right.nd rfl (Or.inl rfl) (pe_callTy (call_dictP rfl) (by rfl) T.n_dict (by decide +kernel) (pa_cons (pe_lock (pe_lc (own := [("_law_other", 6)]) (g := gName 6) rfl sc_l_single_right.nd (pi_keys (pv 1)) (blkOk_by (own := [("_law_other", 6)]) (N := ["_law_bag_here", "_law_one", "_law_left", "_law_key", "_law_more", "_law_less", "_law_other"]) (sc := defScope s_l_single_right) (by decide +kernel)) (fun _ _ _ _ _ => (pg_name (i := 6) sc_l_single_right.nd rfl (Or.inl rfl))) (fun _ _ _ _ _ => (pts_one (pt_cmpR op_ne (pv 6) (pv 3) (nomark _)))) (fun _ _ _ _ _ => (pe_tup (pa_cons (pv 6) (pa_cons (pe_dget hu (pv 1) (pv 6) (fun _ _ => rfl)) pa_nil)))))) pa_nil)))
  (pss_cons (ps_if (pt_not (pt_val (pe_fn D_l_is (hr.mono (by decide)) rfl (pa_cons (pe_mt D_FormSet_with_element (hr.mono (by decide)) T.cl_FormSet (pv 2) (pa_cons (pe_tup (pa_cons (pv 3) (pa_cons pe_str pa_nil))) pa_nil)) (pa_cons (pv 4) pa_nil)))))
    (pss_one (ps_ret pe_bl))
    pss_nil)
  (pss_one (ps_ret (pe_fn D_l_is (hr.mono (by decide)) rfl (pa_cons (pe_mt D_FormSet_without_key (hr.mono (by decide)) T.cl_FormSet (pv 2) (pa_cons (pv 3) pa_nil)) (pa_cons (pv 5) pa_nil)))))))))), ?_⟩
    refine ⟨_, rfl, a, 14, n, rfl, hb, by omega, by omega, by omega, fun key H1 k0 k1 b1 bag1 => ?_⟩
    have ng : ∃ ls, H a = some (.lst ls) := by obtain ⟨_, _, _, q, _⟩ := hb; exact ⟨_, q⟩
    obtain ⟨ls, ng⟩ := ng
    have nda : d ≠ a := fun e => by have := hd.1; rw [e, ng] at this; cases this
    have hd1 : FD (below 14) H1 d es := ⟨(b1 d nda).trans hd.1, hd.2⟩
    have hx1 := hx.chg ng (Ext.but b1)
    refine ⟨_, rfl, d, _, rfl, .inl hd1.1, fun q hq => ?_⟩
    generalize e_q : upd H1 q _ = H2
    have s_q := new_same e_q hq
    have h_q := new_at e_q
    have ndq : d ≠ q := ne_of_none hd1.1 hq
    refine ⟨_, rfl, d, rfl, .inl ⟨_, .inl (s_q _ _ hd1.1)⟩, _, rfl, _, .inl ⟨_, .inl key, .inl (s_q _ _ hd1.1), rfl, rfl⟩, _, rfl, _, rfl, q, _, rfl, .inl ⟨_, .inl key, h_q, rfl, by rw [ents_len]; exact small1000 hd1.2.len, rfl⟩, ?_⟩
    have ev : (valV (ents es) (.inl key)).getD (.str "new") = .str ((look es key).getD "new") := by
      rw [valV_ents]
      cases look es key <;> rfl
    rw [ev, put_ents]
    generalize e_3 : upd H2 q _ = H3
    have x3 : Ext q H1 H3 := fun w o nw e => (new_ne e_3 nw).trans (s_q _ _ e)
    have h_3 : H3 q = some (.dK (ents (putE es key ((look es key).getD "new")))) := new_at e_3
    have h1 : FD (below 14) H3 d es := ⟨x3 d _ ndq hd1.1, hd1.2⟩
    have hx3 : FS C_FormSet (below 14) H3 x us := by
      obtain ⟨dx, dd, q1, q2, q3⟩ := hx1
      exact ⟨dx, dd, x3 _ _ (ne_of_none q1 hq) q1, x3 _ _ (ne_of_none q2 hq) q2, q3⟩
    refine ⟨d, .dK (ents es), h1.1, trivial, fun od => ?_⟩
    refine ⟨_, rfl, d, od, rfl, .inl ⟨_, upd_same, fun D hD => ?_⟩⟩
    have nDa : d ≠ D := fun e => by rw [← e, upd_same] at hD; cases hD
    refine lc_keys (fun i H' => ∃ t2, Ext D (upd H3 d (.frz od (.dK (ents es)))) H' ∧ H' D = some (.lst t2) ∧ TupS H' t2 (without (es.take i) key) ∧ t2.length ≤ i) ?_ ?_ ?_ ?_
    · exact ⟨[], fun q o n e => (upd_ne n).trans e, upd_same, .nil, Nat.le_refl _⟩
    · rintro i H' hi ⟨t2, x, _, _, _⟩
      exact x d _ nDa upd_same
    · rintro i ky v H' he ⟨t2, x, hd, hT, hl⟩
      obtain ⟨n, y, e1, rfl, rfl⟩ := ents_at he
      have hi := (List.getElem?_eq_some_iff.mp e1).1
      refine ⟨rfl, _, rfl, _, rfl, rfl, _, rfl, ?_⟩
      have hh : (!decide (kV (Sum.inl n) = V.int key)) = !decide (n = key) := by
        congr 1
        exact decide_eq_decide.mpr ⟨fun z => by injection z, fun z => by rw [z]; rfl⟩
      rw [hh]
      cases q : (!decide (n = key)) with
      | true =>
        refine iteT ⟨_, rfl, _, rfl, _, rfl, d, .str y, rfl, .inl ⟨_, .inl n, .inr ⟨od, x d _ nDa upd_same⟩, rfl, ?_⟩, size_ok (by simp), fun t ht2 => ?_⟩
        · rw [valV_ents, look_ents h1.2.1 (List.mem_of_getElem? e1)]; rfl
        · have nt : D ≠ t := ne_of_none hd ht2
          have hD3 : upd H' t (.tup [.int n, .str y]) D = some (.lst t2) := (upd_ne nt).trans hd
          have ll := h1.2.len
          refine ⟨t2, hD3, small1000 (by omega), t2 ++ [.ref t], ?_, upd_same, ?_, by rw [List.length_append]; exact Nat.succ_le_succ hl⟩
          · exact fun w o n1 e2 => (upd_ne n1).trans (same_new ht2 _ _ (x w o n1 e2))
          · unfold without at hT ⊢
            rw [take_one e1, List.filter_append, List.filter_cons, q]
            have ex2 : Ext D (upd H' t (.tup [.int n, .str y])) (upd (upd H' t (.tup [.int n, .str y])) D (.lst (t2 ++ [.ref t]))) := fun w o n1 e2 => (upd_ne n1).trans e2
            exact tupS_app ((upd_ne (Ne.symm nt)).trans upd_same) (tupS_chg hD3 ex2 (tupS_same (same_new ht2 (o := .tup [.int n, .str y])) hT))
      | false =>
        refine iteF ⟨t2, x, hd, ?_, Nat.le_succ_of_le hl⟩
        unfold without at hT ⊢
        rw [take_one e1, List.filter_append, List.filter_cons, q]
        simpa using hT
    · rintro H' ⟨t2, x', hd', hT, hl'⟩
      rw [ents_len, List.take_length] at hT
      refine ⟨x' d _ nDa upd_same, ?_⟩
      have sH : Same H3 (upd H' d (.dK (ents es))) := by
        intro w o e
        by_cases hw : w = d
        · subst hw
          rw [h1.1] at e
          cases e
          exact upd_same
        · refine (upd_ne hw).trans (x' w o ?_ ((upd_ne hw).trans e))
          intro z
          subst z
          rw [upd_ne hw, e] at hD
          cases hD
      have hd2 : upd H' d (.dK (ents es)) D = some (.lst t2) := (upd_ne (Ne.symm nDa)).trans hd'
      have hT2 : TupS (upd H' d (.dK (ents es))) t2 (without es key) := tupS_at (x' d _ nDa upd_same) hT
      obtain ⟨ps, rfl, hps⟩ := tupS_refs (K := K) hT2
      refine ⟨D, ps, _, rfl, SqL.of hd2, hps, fun p hp => ?_⟩
      have g : Good (below 14) (without es key) := h1.2.filter _
      rw [merge_ents g.1]
      generalize upd H' d (.dK (ents es)) = H4 at sH hd2 hT2 hps hp ⊢
      generalize e_p : upd H4 p _ = H5
      have s_p := new_same e_p hp
      have h_p := new_at e_p
      have s35 := sH.trans s_p
      have hN2 : NE (without es key) := fun q hq => hne q (List.mem_filter.mp hq).1
      have hlen := nodup_sub hd1.2.1 hd1.2.2.1
      rw [keys_len, below_len] at hlen
      have gp : Good (below 14) (putE es key ((look es key).getD "new")) := hd1.2.put _ (below_mem k0 k1)
      have hlen2 := nodup_sub gp.1 gp.2.1
      rw [keys_len, below_len] at hlen2
      have hlen3 := nodup_sub g.1 g.2.1
      rw [keys_len, below_len] at hlen3
      have hN1 : NE (putE es key ((look es key).getD "new")) := hne.put key (by
        cases q : look es key with
        | none => decide +kernel
        | some z => exact hne _ (look_mem q))
      have hx5 := hx3.same s35
      have hx5b := hx5
      obtain ⟨dxx, ddx, exx, _⟩ := hx5b
      have go : ∀ H', Same H5 H' → Same (del a H) (del a H') ∧ Bag H' a (n + 10) := by
        intro H' s
        constructor
        · intro w o e
          by_cases hw : w = a
          · subst hw
            unfold del at e
            rw [if_pos rfl] at e
            cases e
          · rw [del_at hw] at e ⊢
            have e1 := (b1 w hw).trans e
            exact s _ _ (s35 _ _ (x3 w o (ne_of_none e1 hq) e1))
        · obtain ⟨_, _, _, q1, w⟩ := bag1
          exact ⟨_, _, _, s _ _ (s35 _ _ (x3 a _ (ne_of_none q1 hq) q1)), by omega, by omega, by omega, by omega⟩
      refine ⟨_, rfl, x, _, _, rfl, exx, rfl, _, rfl, size_ok (by simp), fun t ht => ?_⟩
      generalize e_t : upd H5 t _ = H6
      have s_t := new_same e_t ht
      have h_t := new_at e_t
      refine ⟨below 14, x, t, us, key, "new", rfl, hx5.same s_t, .inl (.inl h_t), ⟨k0, by omega⟩, by decide +kernel, below_mem k0 k1, fun z H7 s7 hz => ?_⟩
      have s57 := s_t.trans s7
      have hq7 := s57 _ _ (s35 _ _ h_3)
      refine ⟨_, rfl, below 14, below 14, z, q, _, _, rfl, hz, ⟨hq7, gp⟩, by omega, hN1, fun j => ?_, fun H8 s8 => ⟨_, rfl, iteF ?_⟩⟩
      · rw [look_united, look_put, hl, look_cons, look_nil]
        by_cases e : j = key
        · subst e
          rw [if_pos rfl, if_pos rfl]
          cases look es j <;> rfl
        · rw [if_neg e, if_neg (fun z => e z.symm), Option.or_none]
      have s58 := s57.trans s8
      refine ⟨_, rfl, x, _, _, rfl, s58 _ _ exx, rfl, _, rfl, below 14, x, us, key, rfl, hx5.same s58, ⟨k0, by omega⟩, fun z2 H9 s9 hz2 => ?_⟩
      have s59 := s58.trans s9
      refine ⟨_, rfl, below 14, below 14, z2, p, _, _, rfl, hz2, ⟨s59 _ _ h_p, g⟩, by omega, hN2, fun j => ?_, fun G1 t1 => ?_⟩
      · rw [look_without, look_without, hl]
      · exact k G1 (go G1 (s59.trans t1)).1 (go G1 (s59.trans t1)).2
theorem sc_law : FnScope ["_law_script", "_law_at", "_law_bag_here", "_law_rows", "_law_made", "_law_one", "_law_k", "_law_j", "_law_both"] ["_law_script"] (defScope s_law) := ⟨rfl, rfl, rfl, by decide +kernel, rfl, by decide +kernel, by decide +kernel⟩
theorem ok_law {f : Addr} {fd : FuncData} (F : Fun K "law" "law" s_law f fd) (T : Txt K mg C_FormSet)
    (D_FormSet_init : MkFn P w K mg base C_FormSet 5 ["self", "given"] (spInit K C_FormSet))
    (D_FormSet_and : Mt P w K mg base C_FormSet "__and__" 9 ["self", "other"] (spOp C_FormSet smaller))
    (D_FormSet_members : Mt P w K mg base C_FormSet "members" 1 ["self"] (spMem C_FormSet))
    (D_l_bag : Fn P w K mg base 1 "_law_bag" ["_law_script", "_law_at"] (spBag K))
    (D_l_sets : Fn P w K mg base 3 "_law_sets" ["_law_bag_here"] spRows)
    (D_l_is : Fn P w K mg base 2 "_law_is" ["_law_thing", "_law_due"] (spIsIt C_FormSet))
    (D_l_joins_right : Fn P w K mg base 9 "_law_joins_right" ["_law_rows", "_law_made"] (spJR K C_FormSet))
    (D_l_pair_right : Fn P w K mg base 10 "_law_pair_right" ["_law_one", "_law_other", "_law_left", "_law_right"] (spPR C_FormSet))
    (D_l_single_right : Fn P w K mg base 11 "_law_single_right" ["_law_bag_here", "_law_one", "_law_left"] (spSR C_FormSet))
    : FnOk P w K mg base CX0 13 f fd ["_law_script"] (spLaw K) := by
  refine F.ok sc_law (fun vs H Q E h => ?_) (fun cdv A outer s H vs Q E hr h => ?_)
  · obtain ⟨a, ns, rfl, _⟩ := h; rfl
  · obtain ⟨a, ns, rfl, hS, hl, k⟩ := h
    have hu := hu_of hr
    have hu64 := hr.units
    refine ⟨_, (pss_cons (ps_for PassesOwn.never rfl (pi_range1 (by rfl) T.n_range (pa_cons (pe_callB (call_max2 rfl) (by rfl) T.n_max (by decide +kernel) (pa_cons pe_int (pa_cons (pe_callB (call_min2 rfl) (by rfl) T.n_min (by decide +kernel) (pa_cons pe_int (pa_cons (pe_callB call_len_seq (by rfl) T.n_len PySem.boot_len (pa_cons (pv 0) pa_nil)) pa_nil))) pa_nil))) pa_nil)) (pg_name (i := 1) sc_law.nd rfl (Or.inl rfl))
    (pss_cons (ps_set (i := 2) sc_law.nd rfl (Or.inl rfl) (pe_fn D_l_bag (hr.mono (by decide)) rfl (pa_cons (pv 0) (pa_cons (pv 1) pa_nil))))
      (pss_cons (ps_set (i := 3) sc_law.nd rfl (Or.inr rfl) (pe_fn D_l_sets (hr.mono (by decide)) rfl (pa_cons (pv 2) pa_nil)))
      (pss_cons (ps_set (i := 4) sc_law.nd rfl (Or.inr rfl) (pe_lc (own := [("_law_one", 5)]) (g := gName 5) (tt := tYes) rfl sc_law.nd (pi_list (pv 3)) (blkOk_by (own := [("_law_one", 5)]) (N := ["_law_script", "_law_at", "_law_bag_here", "_law_rows", "_law_made", "_law_one", "_law_k", "_law_j", "_law_both"]) (sc := defScope s_law) (by decide +kernel)) (fun _ _ _ _ _ => (pg_name (i := 5) sc_law.nd rfl (Or.inl rfl))) (fun _ _ _ _ _ => pts_nil) (fun _ _ _ _ _ => (pe_mk D_FormSet_init (hr.mono (by decide)) rfl T.g_FormSet (pa_cons (LiI.pe_listItems rfl (pv 5) (by rfl) T.n_list (by decide +kernel)) pa_nil)))))
      (pss_cons (ps_if (PW.pt (pw_or (pt_not (pt_val (pe_fn D_l_joins_right (hr.mono (by decide)) rfl (pa_cons (pv 3) (pa_cons (pv 4) pa_nil))))) (pw_or1 (pt_not (pt_val (pe_fn D_l_single_right (hr.mono (by decide)) rfl (pa_cons (pv 2) (pa_cons (pe_ix ix_list (pv 3) pe_int (fun _ _ => rfl)) (pa_cons (pe_ix ix_list (pv 4) pe_int (fun _ _ => rfl)) pa_nil)))))))))
        (pss_one (ps_ret pe_bl))
        pss_nil)
      (pss_cons (ps_for PassesOwn.never rfl (pi_range1 (by rfl) T.n_range (pa_cons (pe_callB call_len_seq (by rfl) T.n_len PySem.boot_len (pa_cons (pv 3) pa_nil)) pa_nil)) (pg_name (i := 6) sc_law.nd rfl (Or.inl rfl))
        (pss_one (ps_for PassesOwn.never rfl (pi_range1 (by rfl) T.n_range (pa_cons (pe_callB call_len_seq (by rfl) T.n_len PySem.boot_len (pa_cons (pv 3) pa_nil)) pa_nil)) (pg_name (i := 7) sc_law.nd rfl (Or.inl rfl))
            (pss_one (ps_if (pt_not (pt_val (pe_fn D_l_pair_right (hr.mono (by decide)) rfl (pa_cons (pe_ix ix_list (pv 3) (pv 6) (fun _ _ => rfl)) (pa_cons (pe_ix ix_list (pv 3) (pv 7) (fun _ _ => rfl)) (pa_cons (pe_ix ix_list (pv 4) (pv 6) (fun _ _ => rfl)) (pa_cons (pe_ix ix_list (pv 4) (pv 7) (fun _ _ => rfl)) pa_nil)))))))
                (pss_one (ps_ret pe_bl))
                pss_nil)))))
      (pss_one (ps_if (pt_not (pt_val (pe_callB (cr_all rfl) (by rfl) T.n_all (by decide +kernel) (pa_cons (pe_lc (own := [("_law_k", 6)]) (g := gName 6) (tt := tYes) rfl sc_law.nd (pi_range1 (by rfl) T.n_range (pa_cons (pe_callB call_len_seq (by rfl) T.n_len PySem.boot_len (pa_cons (pv 3) pa_nil)) pa_nil)) (blkOk_by (own := [("_law_k", 6)]) (N := ["_law_script", "_law_at", "_law_bag_here", "_law_rows", "_law_made", "_law_one", "_law_k", "_law_j", "_law_both"]) (sc := defScope s_law) (by decide +kernel)) (fun _ _ _ _ _ => (pg_name (i := 6) sc_law.nd rfl (Or.inl rfl))) (fun _ _ _ _ _ => pts_nil) (fun _ _ _ _ _ => (pe_fn D_l_is (hr.mono (by decide)) rfl (pa_cons (pe_ix (ix_listK (K := K) rfl) (pv 4) (pv 6) (fun _ _ => rfl)) (pa_cons (pe_ix (ix_listK (K := K) rfl) (pv 3) (pv 6) (fun _ _ => rfl)) pa_nil))))) pa_nil))))
        (pss_one (ps_ret pe_bl))
        pss_nil))))))))
  (pss_cons (ps_set (i := 8) sc_law.nd rfl (Or.inl rfl) (pe_op (op_own D_FormSet_and (hr.mono (by decide)) T.sf_FormSet rfl) (pe_mk D_FormSet_init (hr.mono (by decide)) rfl T.g_FormSet (pa_cons (pe_lst (pa_cons (pe_tup (pa_cons pe_int (pa_cons pe_str pa_nil))) pa_nil)) pa_nil)) (pe_mk D_FormSet_init (hr.mono (by decide)) rfl T.g_FormSet (pa_cons (pe_lst (pa_cons (pe_tup (pa_cons pe_int (pa_cons pe_str pa_nil))) pa_nil)) pa_nil))))
  (pss_one (ps_ret (pe_cmpR (op_eqD hu64) (pe_mt0 D_FormSet_members (hr.mono (by decide)) T.cl_FormSet (pv 8)) (pe_lst (pa_cons (pe_tup (pa_cons pe_int (pa_cons pe_str pa_nil))) pa_nil)) (nomark _)))))), ?_⟩
    have turns : ∀ z : Int, z ≤ 63 → 0 ≤ z → (if (if z < 8 then z else 8) > 2 then (if z < 8 then z else 8) else 2) ≤ 8 ∧ 2 ≤ (if (if z < 8 then z else 8) > 2 then (if z < 8 then z else 8) else 2) := by
      intro z z1 z2
      split <;> split <;> omega
    have t0 := turns (ns.map V.int).length (by rw [List.length_map]; omega) (by omega)
    refine ⟨_, rfl, _, _, rfl, Or.inl hS, _, _, rfl, _, _, rfl, _, rfl, by omega, by omega, ?_⟩
    refine for_range (lo := 0) (fun i σ H' => (∃ x1 x2 x3 x4 x5 x6 x7 x8, σ = [some (.ref a), x1, x2, x3, x4, x5, x6, x7, x8]) ∧ Same H H') ⟨⟨_, _, _, _, _, _, _, _, rfl⟩, Same.refl H⟩ ?_ ?_
    · rintro i σ H1 hi ⟨⟨x1, x2, x3, x4, x5, x6, x7, x8, rfl⟩, s1⟩
      have hi8 : i < 8 := by omega
      refine ⟨_, rfl, _, rfl, a, ns, i, by simp, s1.seq hS, by omega, fun g o hg bag => ?_⟩
      have s2 := same_new hg (o := o)
      have ng : H1 g = none := hg
      generalize upd H1 g o = H2 at s2 bag ⊢
      refine ⟨_, rfl, g, 0, rfl, bag, by omega, fun l xs ess H3 s3 bag3 hl3 hx3 hne l2 l5 => ?_⟩
      refine ⟨_, rfl, l, rfl, ⟨xs, SqL.of hl3⟩, fun D hD => ?_⟩
      refine lc_list (xs := xs) (fun i H' => ∃ acc, Ext D H3 H' ∧ H' D = some (.lst acc) ∧ acc.length = i ∧ FSs C_FormSet (below 14) H' acc (ess.take i)) ?_ ?_ ?_ ?_
      · exact ⟨[], fun b o n e => (upd_ne n).trans e, upd_same, rfl, .nil⟩
      · rintro j H' hj ⟨acc, x, _, _, _⟩
        exact SqL.of (x _ _ (ne_of_none hl3 hD) hl3)
      · rintro j v H' hv ⟨acc, x, hd, hlen, hf⟩
        obtain ⟨d, e, rfl, e1, fd⟩ := hx3.at hv
        have hj5 := (List.getElem?_eq_some_iff.mp hv).1
        have hde := x d _ (ne_of_none fd.1 hD) fd.1
        have nee : NE e := hne e (List.mem_of_getElem? e1)
        refine ⟨rfl, ?_⟩
        refine ⟨_, rfl, d, ents e, rfl, hde, fun H4 p ts s4 hp hts hpn hp4 hpair => ?_⟩
        intro z dz hz hdz hzn
        have sm := made_same (C := C_FormSet) (fs := []) hz hdz hzn
        have el : ElAll K H4 (ts.map V.ref) e := elAll_of hpair fd.2 nee
        have ll := fd.2.len
        refine ⟨z, dz, p, ts.map V.ref, e, rfl, upd_same, .inl (sm _ _ hp4), el.same sm, by omega, fun d2 H6 s6 hz6 hd6 => ⟨rfl, ?_⟩⟩
        have s46 : Same H4 H6 := by
          intro b o e2
          have q := s6 b o ((del_at (ne_of_none e2 hz)).trans (sm _ _ e2))
          rw [del_at (ne_of_none e2 hz)] at q
          exact q
        have sx : Same H' H6 := Same.trans s4 s46
        have hD6 := sx _ _ hd
        have ex : Ext D H6 (upd H6 D (.lst (acc ++ [.ref z]))) := fun b o nb e => (upd_ne nb).trans e
        rw [firsts_self fd.2.1] at hd6
        have fz : FS C_FormSet (below 14) H6 z e := ⟨dz, d2, hz6, hd6, fd.2⟩
        refine ⟨acc, hD6, small1000 (by omega), acc ++ [.ref z], fun b o nb e2 => (upd_ne nb).trans (sx _ _ (x b o nb e2)), upd_same, by rw [List.length_append, hlen]; rfl, ?_⟩
        rw [take_one e1]
        exact FSs.app (fz.chg hD6 ex) ((hf.same sx).chg hD6 ex)
      rintro H5 ⟨acc, x, hD5, hlen, hf⟩
      have s35 : Same H3 H5 := fun b o e => x b o (ne_of_none e hD) e
      rw [hx3.len, List.take_length] at hf
      have hx5 := hx3.same s35
      have hl5' := s35 _ _ hl3
      refine ⟨_, rfl, _, rfl, l, D, xs, acc, ess, ess, rfl, hl5', hx5, hD5, hf, hlen.symm, l2, l5, hne, (fun i e u h1 h2 j => by rw [h1] at h2; cases h2; rfl), fun H6 s6 => ⟨_, rfl, iteF ?_⟩⟩
      have hx6 := hx5.same s6
      have hf6 := hf.same s6
      have hl6 := s6 _ _ hl5'
      have hD6 := s6 _ _ hD5
      have bag6 := (bag3.same s35).same s6
      have pickR : ∀ {G : Hp} (q : Nat), FDs (below 14) G xs ess → FSs C_FormSet (below 14) G acc ess → q < xs.length →
          ∃ d z e, atI xs (0 + (q : Int)) = some (.ref d) ∧ atI acc (0 + (q : Int)) = some (.ref z) ∧ FD (below 14) G d e ∧ FS C_FormSet (below 14) G z e ∧ NE e := by
        intro G q h1 h2 hq
        have hq2 : q < acc.length := by rw [hlen]; exact hq
        obtain ⟨d, e, e1, e2, f1⟩ := h1.at (List.getElem?_eq_getElem hq)
        obtain ⟨z, e', e3, e4, f2⟩ := h2.at (List.getElem?_eq_getElem hq2)
        rw [e2] at e4
        cases e4
        refine ⟨d, z, e, ?_, ?_, f1, f2, hne e (List.mem_of_getElem? e2)⟩
        · rw [← e1]
          unfold atI ixN
          rw [if_pos (by omega), if_pos (by omega)]
          simp [hq]
        · rw [← e3]
          unfold atI ixN
          rw [if_pos (by omega), if_pos (by omega)]
          simp [hq2]
      obtain ⟨d0, z0, e0, a0, b0, fd0, fs0, ne0⟩ := pickR 0 hx6 hf6 (by omega)
      refine ⟨_, rfl, _, rfl, l, xs, 0, .ref d0, rfl, rfl, SqL.of hl6, a0, _, rfl, D, acc, 0, .ref z0, rfl, rfl, SqL.of hD6, b0, ?_⟩
      refine ⟨g, _, d0, z0, e0, e0, rfl, bag6, by omega, fd0, fs0, ne0, fun _ => rfl, fun H7 sd7 bag7 => ⟨_, rfl, iteF ?_⟩⟩
      have hgl : ∃ ls, H6 g = some (.lst ls) := by obtain ⟨_, _, _, q, _⟩ := bag6; exact ⟨_, q⟩
      obtain ⟨ls, hgl⟩ := hgl
      have x67 := ext_del sd7
      have nlg : l ≠ g := by
        intro e
        obtain ⟨_, _, _, q, _⟩ := bag6
        rw [e, q] at hl6
        injection hl6 with hl6
        injection hl6 with hl6
        cases hx6 with
        | nil => cases hl6
        | cons h r => cases hl6
      have nDg : D ≠ g := by
        intro e
        obtain ⟨_, _, _, q, _⟩ := bag6
        rw [e, q] at hD6
        injection hD6 with hD6
        injection hD6 with hD6
        cases hf6 with
        | nil => cases hD6
        | cons h r => cases hD6
      have hl7 := x67 _ _ nlg hl6
      have hD7 := x67 _ _ nDg hD6
      have hx7 := hx6.chg hgl x67
      have hf7 := hf6.chg hgl x67
      have s07 : Same H H7 := by
        intro b o e
        have e1 := s1 _ _ e
        have nb := ne_of_none e1 ng
        exact x67 b o nb (s6 _ _ (s35 _ _ (ext_del s3 b o nb (s2 _ _ e1))))
      refine ⟨_, rfl, l, xs, rfl, .inl (SqL.of hl7), _, rfl, by omega, by omega, ?_⟩
      refine for_range (lo := 0) (fun q σ H' => (∃ x5 x6 x7 x8, σ = [some (.ref a), some (.int (0 + i)), some (.ref g), some (.ref l), some (.ref D), x5, x6, x7, x8]) ∧ Same H7 H') ⟨⟨_, _, _, _, rfl⟩, Same.refl H7⟩ ?_ ?_
      · rintro q σ H8 hq ⟨⟨y5, y6, y7, y8, rfl⟩, s8⟩
        have hq2 : q < xs.length := by simpa using hq
        refine ⟨_, rfl, l, xs, rfl, .inl (SqL.of (s8 _ _ hl7)), _, rfl, by omega, by omega, ?_⟩
        refine for_range (lo := 0) (fun r σ H' => (∃ x5 x7 x8, σ = [some (.ref a), some (.int (0 + i)), some (.ref g), some (.ref l), some (.ref D), x5, some (.int (0 + q)), x7, x8]) ∧ Same H7 H') ⟨⟨_, _, _, rfl⟩, s8⟩ ?_ ?_
        · rintro r σ H9 hr9 ⟨⟨w5, w7, w8, rfl⟩, s9⟩
          have hr2 : r < xs.length := by simpa using hr9
          have hl9 := s9 _ _ hl7
          have hD9 := s9 _ _ hD7
          obtain ⟨dq, zq, eq, aq, bq, fdq, fsq, neq⟩ := pickR q (hx7.same s9) (hf7.same s9) hq2
          obtain ⟨dr, zr, er, ar, br, fdr, fsr, ner⟩ := pickR r (hx7.same s9) (hf7.same s9) hr2
          refine ⟨_, rfl, _, rfl, l, xs, _, .ref dq, rfl, rfl, SqL.of hl9, aq, _, rfl, _, rfl, l, xs, _, .ref dr, rfl, rfl, SqL.of hl9, ar, ?_⟩
          refine ⟨_, rfl, _, rfl, D, acc, _, .ref zq, rfl, rfl, SqL.of hD9, bq, _, rfl, _, rfl, D, acc, _, .ref zr, rfl, rfl, SqL.of hD9, br, ?_⟩
          exact ⟨dq, dr, zq, zr, eq, er, eq, er, rfl, fdq, fdr, fsq, fsr, neq, ner, fun _ => rfl, fun _ => rfl, fun G sg => ⟨_, rfl, iteF ⟨⟨_, _, _, rfl⟩, s9.trans sg⟩⟩⟩
        · rintro σ H9 ⟨⟨w5, w7, w8, rfl⟩, s9⟩
          exact ⟨⟨_, _, _, _, rfl⟩, s9⟩
      · rintro σ H8 ⟨⟨y5, y6, y7, y8, rfl⟩, s8⟩
        dsimp only
        unfold tIfS tNot tB
        refine range_allE (j := 6) (n := xs.length) ?_ (by omega) ?_ ?_ ?_
        · exact fun R q => ⟨_, rfl, l, xs, rfl, .inl (SqL.of (s8 _ _ hl7)), q⟩
        · exact fun _ => rfl
        · intro q G Q2 hq sg h2
          have sG := s8.trans sg
          obtain ⟨dq, zq, eq, aq, bq, fdq, fsq, neq⟩ := pickR q (hx7.same sG) (hf7.same sG) hq
          have hl14 := nodup_sub fdq.2.1 fdq.2.2.1
          rw [keys_len, below_len] at hl14
          refine ⟨_, rfl, _, rfl, D, acc, _, .ref zq, rfl, rfl, SqL.of (sG _ _ hD7), bq, _, rfl, _, rfl, l, xs, _, .ref dq, rfl, rfl, SqL.of (sG _ _ hl7), aq, ?_⟩
          exact ⟨below 14, below 14, zq, dq, eq, eq, rfl, fsq, fdq, by omega, neq, fun _ => rfl, h2⟩
        · intro G sg
          exact ⟨_, rfl, iteF ⟨⟨_, _, _, _, _, _, _, _, rfl⟩, s07.trans (s8.trans sg)⟩⟩
    · rintro σ H7 ⟨⟨x1, x2, x3, x4, x5, x6, x7, x8, rfl⟩, s7⟩
      have single : ∀ (x : Str), nameOk x = true → ∀ (σ : L2.St) (G : Hp) (Q2 : VK), (∀ z G', Same G G' → FS C_FormSet (below 14) G' z [(1, x)] → Q2 (.ref z) G') →
          tMake C_FormSet (spInit K C_FormSet) [] E0 (tCons (tLst (tCons (tTup (tCons (tC (V.int 1)) (tCons (tC (V.str x)) tNil))) tNil)) tNil) σ G Q2 := by
        intro x hx σ G Q2 q
        refine ⟨size_ok (by simp), fun t ht => ?_⟩
        generalize e_t : upd G t _ = G1
        have s_t := new_same e_t ht
        have h_t := new_at e_t
        refine ⟨size_ok (by simp), fun p hp => ?_⟩
        generalize e_p : upd G1 p _ = G2
        have s_p := new_same e_p hp
        have h_p := new_at e_p
        intro z dz hz hdz hzn
        have sm := made_same (C := C_FormSet) (fs := []) hz hdz hzn
        refine ⟨z, dz, p, [.ref t], [(1, x)], rfl, upd_same, .inl (sm _ _ h_p), .cons (.inl (.inl (sm _ _ (s_p _ _ h_t)))) (by omega) hx .nil, (by show 1 ≤ 1000; decide), fun d2 G6 s6 hz6 hd6 => ⟨rfl, q z G6 ?_ ⟨dz, d2, hz6, hd6, good_firsts (l := [(1, x)]) (by intro w hw; rw [List.mem_singleton.mp hw]; exact below_mem (show (0 : Int) ≤ 1 by decide) (show (1 : Int) < ((14 : Nat) : Int) by decide)) (by rw [below_len]; omega)⟩⟩⟩
        intro b o e2
        have e3 := s_p _ _ (s_t _ _ e2)
        have e4 := s6 b o ((del_at (ne_of_none e3 hz)).trans (sm _ _ e3))
        rw [del_at (ne_of_none e3 hz)] at e4
        exact e4
      dsimp only
      unfold tSeq tAsg tOp
      dsimp only
      refine single "one" (by decide +kernel) _ H7 _ fun z1 G1 r1 hz1 => ?_
      refine single "true" (by decide +kernel) _ G1 _ fun z2 G2 r2 hz2 => ?_
      have hz1b := hz1.same r2
      have hz1c := hz1b
      have hz2c := hz2
      obtain ⟨_, _, e1, _⟩ := hz1c
      obtain ⟨_, _, e2, _⟩ := hz2c
      refine ⟨z1, z2, _, _, _, _, rfl, rfl, e1, e2, below 14, z1, z2, _, _, rfl, hz1b, hz2, fun w G3 r3 hw => ?_⟩
      have hw : FS C_FormSet (below 14) G3 w [(1, "true")] := hw
      have hw2 := hw
      obtain ⟨_, _, ew, _⟩ := hw2
      refine ⟨_, rfl, w, _, _, rfl, ew, rfl, below 14, w, [(1, "true")], rfl, hw, fun G4 l ts es' r4 hl4 ht hperm hsort => ?_⟩
      refine ⟨size_ok (by simp), fun t ht3 => ?_⟩
      generalize e_t : upd G4 t _ = G5
      have s_t := new_same e_t ht3
      have h_t := new_at e_t
      refine ⟨size_ok (by simp), fun p hp => ?_⟩
      generalize e_p : upd G5 p _ = G6
      have s_p := new_same e_p hp
      have h_p := new_at e_p
      have ee := List.perm_singleton.mp hperm
      subst ee
      have nn : NE [((1 : Int), ("true" : Str))] := by
        intro p hp
        rw [List.mem_singleton.mp hp]
        decide +kernel
      refine ⟨.list ([((1 : Int), ("true" : Str))].map tupD), .list ([((1 : Int), ("true" : Str))].map tupD), .lst (SqL.of (s_p _ _ (s_t _ _ hl4))) (tupS_dp (tupS_same (s_t.trans s_p) ht)), .lst (SqL.of h_p) (tupS_dp (.cons (s_p _ _ h_t) .nil)), shaped_tups nn, shaped_tups nn, ?_⟩
      rw [eqv_tups nn]
      exact k _
end
theorem all_mk {l : PySem.W.OpenLaw} {w : World} {K : PySem.W.Frag} {h : Heap} {mg : Str → Option Value} {fa : Addr} (X : K.In h) (G : h.Ns mainGlobals mg) (hfa : mg "law" = some (.ref fa))
    {C_FormSet : Addr}
    
    
    
    {f0 : Addr} {oc0 kV0 dc0 pm0 cd0 ct0 : Value} {od0 an0 : Option Addr} {sl0 : Array (Option Value)}
    {f1 : Addr} {oc1 kV1 dc1 pm1 cd1 ct1 : Value} {od1 an1 : Option Addr} {sl1 : Array (Option Value)}
    {f2 : Addr} {oc2 kV2 dc2 pm2 cd2 ct2 : Value} {od2 an2 : Option Addr} {sl2 : Array (Option Value)}
    {f3 : Addr} {oc3 kV3 dc3 pm3 cd3 ct3 : Value} {od3 an3 : Option Addr} {sl3 : Array (Option Value)}
    {f4 : Addr} {oc4 kV4 dc4 pm4 cd4 ct4 : Value} {od4 an4 : Option Addr} {sl4 : Array (Option Value)}
    {f5 : Addr} {oc5 kV5 dc5 pm5 cd5 ct5 : Value} {od5 an5 : Option Addr} {sl5 : Array (Option Value)}
    {r5 e5 : Addr} {rd5 ed5 : Option Addr} {rn5 en5 : Nat} {rs5 es5 : Array (Option Value)}
    {f6 : Addr} {oc6 kV6 dc6 pm6 cd6 ct6 : Value} {od6 an6 : Option Addr} {sl6 : Array (Option Value)}
    {f7 : Addr} {oc7 kV7 dc7 pm7 cd7 ct7 : Value} {od7 an7 : Option Addr} {sl7 : Array (Option Value)}
    {f8 : Addr} {oc8 kV8 dc8 pm8 cd8 ct8 : Value} {od8 an8 : Option Addr} {sl8 : Array (Option Value)}
    {f9 : Addr} {oc9 kV9 dc9 pm9 cd9 ct9 : Value} {od9 an9 : Option Addr} {sl9 : Array (Option Value)}
    {f10 : Addr} {oc10 kV10 dc10 pm10 cd10 ct10 : Value} {od10 an10 : Option Addr} {sl10 : Array (Option Value)}
    {f11 : Addr} {oc11 kV11 dc11 pm11 cd11 ct11 : Value} {od11 an11 : Option Addr} {sl11 : Array (Option Value)}
    {f12 : Addr} {oc12 kV12 dc12 pm12 cd12 ct12 : Value} {od12 an12 : Option Addr} {sl12 : Array (Option Value)}
    {f13 : Addr} {oc13 kV13 dc13 pm13 cd13 ct13 : Value} {od13 an13 : Option Addr} {sl13 : Array (Option Value)}
    {f14 : Addr} {oc14 kV14 dc14 pm14 cd14 ct14 : Value} {od14 an14 : Option Addr} {sl14 : Array (Option Value)}
    {f15 : Addr} {oc15 kV15 dc15 pm15 cd15 ct15 : Value} {od15 an15 : Option Addr} {sl15 : Array (Option Value)}
    {f16 : Addr} {oc16 kV16 dc16 pm16 cd16 ct16 : Value} {od16 an16 : Option Addr} {sl16 : Array (Option Value)}
    {f17 : Addr} {oc17 kV17 dc17 pm17 cd17 ct17 : Value} {od17 an17 : Option Addr} {sl17 : Array (Option Value)}
    {f18 : Addr} {oc18 kV18 dc18 pm18 cd18 ct18 : Value} {od18 an18 : Option Addr} {sl18 : Array (Option Value)}
    {f19 : Addr} {oc19 kV19 dc19 pm19 cd19 ct19 : Value} {od19 an19 : Option Addr} {sl19 : Array (Option Value)}
    {f20 : Addr} {oc20 kV20 dc20 pm20 cd20 ct20 : Value} {od20 an20 : Option Addr} {sl20 : Array (Option Value)}
    {f21 : Addr} {oc21 kV21 dc21 pm21 cd21 ct21 : Value} {od21 an21 : Option Addr} {sl21 : Array (Option Value)}
    {f22 : Addr} {oc22 kV22 dc22 pm22 cd22 ct22 : Value} {od22 an22 : Option Addr} {sl22 : Array (Option Value)}
    {f23 : Addr} {oc23 kV23 dc23 pm23 cd23 ct23 : Value} {od23 an23 : Option Addr} {sl23 : Array (Option Value)}
    {f24 : Addr} {oc24 kV24 dc24 pm24 cd24 ct24 : Value} {od24 an24 : Option Addr} {sl24 : Array (Option Value)}
    {f25 : Addr} {oc25 kV25 dc25 pm25 cd25 ct25 : Value} {od25 an25 : Option Addr} {sl25 : Array (Option Value)}
    {f26 : Addr} {oc26 kV26 dc26 pm26 cd26 ct26 : Value} {od26 an26 : Option Addr} {sl26 : Array (Option Value)}
    {f27 : Addr} {oc27 kV27 dc27 pm27 cd27 ct27 : Value} {od27 an27 : Option Addr} {sl27 : Array (Option Value)}
    {f28 : Addr} {oc28 kV28 dc28 pm28 cd28 ct28 : Value} {od28 an28 : Option Addr} {sl28 : Array (Option Value)}
    {f29 : Addr} {oc29 kV29 dc29 pm29 cd29 ct29 : Value} {od29 an29 : Option Addr} {sl29 : Array (Option Value)}
    {f30 : Addr} {oc30 kV30 dc30 pm30 cd30 ct30 : Value} {od30 an30 : Option Addr} {sl30 : Array (Option Value)}
    {f31 : Addr} {oc31 kV31 dc31 pm31 cd31 ct31 : Value} {od31 an31 : Option Addr} {sl31 : Array (Option Value)}
    {t_LETTERS : Tok}
    {t_MOST_LETTERS : Tok}
    {r_RESERVED : Addr} {rd_RESERVED : Option Addr} {rn_RESERVED : Nat} {rs_RESERVED : Array (Option Value)} {rt_RESERVED_0 : Tok} {rt_RESERVED_1 : Tok} {rt_RESERVED_2 : Tok}
    {t_HIGHEST_KEY : Tok}
    (aC : PySem.W.nsIn K mainGlobals "FormSet" = some (some (.ref C_FormSet)))
    (pg : PySem.W.plainGet K C_FormSet Str.empty = true) (hd : PySem.W.hasDictIn K C_FormSet = true) (po : PySem.W.plainOver K C_FormSet = true) (sa : PySem.W.findIn K (.ref C_FormSet) "__setattr__" = some (some (.builtin "object.__setattr__")))
    (nF : PySem.W.findIn K (.ref C_FormSet) "_forms" = some none)
    (sf : PySem.W.selfFirst K C_FormSet = true)
    (a0 : PySem.W.nsIn K mainGlobals "is_whole" = some (some (.ref f0)))
    (l0 : K.lookup f0 = some ⟨oc0, od0, .func (PySem.W.fnOf "is_whole" "is_whole" (defArgs s_is_whole) (defBody s_is_whole) (defScope s_is_whole) .none kV0 dc0 pm0 an0 cd0 ct0), sl0⟩)
    (c0 : PySem.W.codeIn K cd0 "is_whole" = true) (k0 : PySem.W.keepIn K (.ref f0) = true)
    (a1 : PySem.W.nsIn K mainGlobals "is_name" = some (some (.ref f1)))
    (l1 : K.lookup f1 = some ⟨oc1, od1, .func (PySem.W.fnOf "is_name" "is_name" (defArgs s_is_name) (defBody s_is_name) (defScope s_is_name) .none kV1 dc1 pm1 an1 cd1 ct1), sl1⟩)
    (c1 : PySem.W.codeIn K cd1 "is_name" = true) (k1 : PySem.W.keepIn K (.ref f1) = true)
    (a2 : PySem.W.nsIn K mainGlobals "is_key" = some (some (.ref f2)))
    (l2 : K.lookup f2 = some ⟨oc2, od2, .func (PySem.W.fnOf "is_key" "is_key" (defArgs s_is_key) (defBody s_is_key) (defScope s_is_key) .none kV2 dc2 pm2 an2 cd2 ct2), sl2⟩)
    (c2 : PySem.W.codeIn K cd2 "is_key" = true) (k2 : PySem.W.keepIn K (.ref f2) = true)
    (a3 : PySem.W.nsIn K mainGlobals "is_element" = some (some (.ref f3)))
    (l3 : K.lookup f3 = some ⟨oc3, od3, .func (PySem.W.fnOf "is_element" "is_element" (defArgs s_is_element) (defBody s_is_element) (defScope s_is_element) .none kV3 dc3 pm3 an3 cd3 ct3), sl3⟩)
    (c3 : PySem.W.codeIn K cd3 "is_element" = true) (k3 : PySem.W.keepIn K (.ref f3) = true)
    (a4 : PySem.W.nsIn K mainGlobals "_first_forms" = some (some (.ref f4)))
    (l4 : K.lookup f4 = some ⟨oc4, od4, .func (PySem.W.fnOf "_first_forms" "_first_forms" (defArgs s_p_first_forms) (defBody s_p_first_forms) (defScope s_p_first_forms) .none kV4 dc4 pm4 an4 cd4 ct4), sl4⟩)
    (c4 : PySem.W.codeIn K cd4 "_first_forms" = true) (k4 : PySem.W.keepIn K (.ref f4) = true)
    (a5 : PySem.W.findIn K (.ref C_FormSet) "__init__" = some (some (.ref f5))) (i5 : PySem.W.isFn K (.ref f5) = true)
    (l5 : K.lookup f5 = some ⟨oc5, od5, .func (PySem.W.fnOf "__init__" "FormSet.__init__" (defArgs s_FormSet_init) (defBody s_FormSet_init) (defScope s_FormSet_init) (.ref r5) kV5 dc5 pm5 an5 cd5 ct5), sl5⟩)
    (y5 : K.lookup r5 = some ⟨.type "tuple", rd5, .seq #[.ref e5] rn5, rs5⟩) (x5 : K.lookup e5 = some ⟨.type "tuple", ed5, .seq #[] en5, es5⟩)
    (c5 : PySem.W.codeIn K cd5 "FormSet.__init__" = true) (k5 : PySem.W.keepIn K (.ref f5) = true)
    (a6 : PySem.W.nsIn K mainGlobals "_set_of" = some (some (.ref f6)))
    (l6 : K.lookup f6 = some ⟨oc6, od6, .func (PySem.W.fnOf "_set_of" "_set_of" (defArgs s_p_set_of) (defBody s_p_set_of) (defScope s_p_set_of) .none kV6 dc6 pm6 an6 cd6 ct6), sl6⟩)
    (c6 : PySem.W.codeIn K cd6 "_set_of" = true) (k6 : PySem.W.keepIn K (.ref f6) = true)
    (a7 : PySem.W.nsIn K mainGlobals "_united" = some (some (.ref f7)))
    (l7 : K.lookup f7 = some ⟨oc7, od7, .func (PySem.W.fnOf "_united" "_united" (defArgs s_p_united) (defBody s_p_united) (defScope s_p_united) .none kV7 dc7 pm7 an7 cd7 ct7), sl7⟩)
    (c7 : PySem.W.codeIn K cd7 "_united" = true) (k7 : PySem.W.keepIn K (.ref f7) = true)
    (a8 : PySem.W.nsIn K mainGlobals "_common" = some (some (.ref f8)))
    (l8 : K.lookup f8 = some ⟨oc8, od8, .func (PySem.W.fnOf "_common" "_common" (defArgs s_p_common) (defBody s_p_common) (defScope s_p_common) .none kV8 dc8 pm8 an8 cd8 ct8), sl8⟩)
    (c8 : PySem.W.codeIn K cd8 "_common" = true) (k8 : PySem.W.keepIn K (.ref f8) = true)
    (a9 : PySem.W.nsIn K mainGlobals "_rest" = some (some (.ref f9)))
    (l9 : K.lookup f9 = some ⟨oc9, od9, .func (PySem.W.fnOf "_rest" "_rest" (defArgs s_p_rest) (defBody s_p_rest) (defScope s_p_rest) .none kV9 dc9 pm9 an9 cd9 ct9), sl9⟩)
    (c9 : PySem.W.codeIn K cd9 "_rest" = true) (k9 : PySem.W.keepIn K (.ref f9) = true)
    (a10 : PySem.W.findIn K (.ref C_FormSet) "__or__" = some (some (.ref f10))) (i10 : PySem.W.isFn K (.ref f10) = true)
    (l10 : K.lookup f10 = some ⟨oc10, od10, .func (PySem.W.fnOf "__or__" "FormSet.__or__" (defArgs s_FormSet_or) (defBody s_FormSet_or) (defScope s_FormSet_or) .none kV10 dc10 pm10 an10 cd10 ct10), sl10⟩)
    (c10 : PySem.W.codeIn K cd10 "FormSet.__or__" = true) (k10 : PySem.W.keepIn K (.ref f10) = true)
    (a11 : PySem.W.findIn K (.ref C_FormSet) "__len__" = some (some (.ref f11))) (i11 : PySem.W.isFn K (.ref f11) = true)
    (l11 : K.lookup f11 = some ⟨oc11, od11, .func (PySem.W.fnOf "__len__" "FormSet.__len__" (defArgs s_FormSet_len) (defBody s_FormSet_len) (defScope s_FormSet_len) .none kV11 dc11 pm11 an11 cd11 ct11), sl11⟩)
    (c11 : PySem.W.codeIn K cd11 "FormSet.__len__" = true) (k11 : PySem.W.keepIn K (.ref f11) = true)
    (a12 : PySem.W.findIn K (.ref C_FormSet) "__and__" = some (some (.ref f12))) (i12 : PySem.W.isFn K (.ref f12) = true)
    (l12 : K.lookup f12 = some ⟨oc12, od12, .func (PySem.W.fnOf "__and__" "FormSet.__and__" (defArgs s_FormSet_and) (defBody s_FormSet_and) (defScope s_FormSet_and) .none kV12 dc12 pm12 an12 cd12 ct12), sl12⟩)
    (c12 : PySem.W.codeIn K cd12 "FormSet.__and__" = true) (k12 : PySem.W.keepIn K (.ref f12) = true)
    (a13 : PySem.W.findIn K (.ref C_FormSet) "__sub__" = some (some (.ref f13))) (i13 : PySem.W.isFn K (.ref f13) = true)
    (l13 : K.lookup f13 = some ⟨oc13, od13, .func (PySem.W.fnOf "__sub__" "FormSet.__sub__" (defArgs s_FormSet_sub) (defBody s_FormSet_sub) (defScope s_FormSet_sub) .none kV13 dc13 pm13 an13 cd13 ct13), sl13⟩)
    (c13 : PySem.W.codeIn K cd13 "FormSet.__sub__" = true) (k13 : PySem.W.keepIn K (.ref f13) = true)
    (a14 : PySem.W.findIn K (.ref C_FormSet) "__xor__" = some (some (.ref f14))) (i14 : PySem.W.isFn K (.ref f14) = true)
    (l14 : K.lookup f14 = some ⟨oc14, od14, .func (PySem.W.fnOf "__xor__" "FormSet.__xor__" (defArgs s_FormSet_xor) (defBody s_FormSet_xor) (defScope s_FormSet_xor) .none kV14 dc14 pm14 an14 cd14 ct14), sl14⟩)
    (c14 : PySem.W.codeIn K cd14 "FormSet.__xor__" = true) (k14 : PySem.W.keepIn K (.ref f14) = true)
    (a15 : PySem.W.findIn K (.ref C_FormSet) "joined" = some (some (.ref f15))) (i15 : PySem.W.isFn K (.ref f15) = true)
    (l15 : K.lookup f15 = some ⟨oc15, od15, .func (PySem.W.fnOf "joined" "FormSet.joined" (defArgs s_FormSet_joined) (defBody s_FormSet_joined) (defScope s_FormSet_joined) .none kV15 dc15 pm15 an15 cd15 ct15), sl15⟩)
    (c15 : PySem.W.codeIn K cd15 "FormSet.joined" = true) (k15 : PySem.W.keepIn K (.ref f15) = true)
    (a16 : PySem.W.findIn K (.ref C_FormSet) "kept" = some (some (.ref f16))) (i16 : PySem.W.isFn K (.ref f16) = true)
    (l16 : K.lookup f16 = some ⟨oc16, od16, .func (PySem.W.fnOf "kept" "FormSet.kept" (defArgs s_FormSet_kept) (defBody s_FormSet_kept) (defScope s_FormSet_kept) .none kV16 dc16 pm16 an16 cd16 ct16), sl16⟩)
    (c16 : PySem.W.codeIn K cd16 "FormSet.kept" = true) (k16 : PySem.W.keepIn K (.ref f16) = true)
    (a17 : PySem.W.findIn K (.ref C_FormSet) "members" = some (some (.ref f17))) (i17 : PySem.W.isFn K (.ref f17) = true)
    (l17 : K.lookup f17 = some ⟨oc17, od17, .func (PySem.W.fnOf "members" "FormSet.members" (defArgs s_FormSet_members) (defBody s_FormSet_members) (defScope s_FormSet_members) .none kV17 dc17 pm17 an17 cd17 ct17), sl17⟩)
    (c17 : PySem.W.codeIn K cd17 "FormSet.members" = true) (k17 : PySem.W.keepIn K (.ref f17) = true)
    (a18 : PySem.W.findIn K (.ref C_FormSet) "__contains__" = some (some (.ref f18))) (i18 : PySem.W.isFn K (.ref f18) = true)
    (l18 : K.lookup f18 = some ⟨oc18, od18, .func (PySem.W.fnOf "__contains__" "FormSet.__contains__" (defArgs s_FormSet_contains) (defBody s_FormSet_contains) (defScope s_FormSet_contains) .none kV18 dc18 pm18 an18 cd18 ct18), sl18⟩)
    (c18 : PySem.W.codeIn K cd18 "FormSet.__contains__" = true) (k18 : PySem.W.keepIn K (.ref f18) = true)
    (a19 : PySem.W.findIn K (.ref C_FormSet) "with_element" = some (some (.ref f19))) (i19 : PySem.W.isFn K (.ref f19) = true)
    (l19 : K.lookup f19 = some ⟨oc19, od19, .func (PySem.W.fnOf "with_element" "FormSet.with_element" (defArgs s_FormSet_with_element) (defBody s_FormSet_with_element) (defScope s_FormSet_with_element) .none kV19 dc19 pm19 an19 cd19 ct19), sl19⟩)
    (c19 : PySem.W.codeIn K cd19 "FormSet.with_element" = true) (k19 : PySem.W.keepIn K (.ref f19) = true)
    (a20 : PySem.W.findIn K (.ref C_FormSet) "without_key" = some (some (.ref f20))) (i20 : PySem.W.isFn K (.ref f20) = true)
    (l20 : K.lookup f20 = some ⟨oc20, od20, .func (PySem.W.fnOf "without_key" "FormSet.without_key" (defArgs s_FormSet_without_key) (defBody s_FormSet_without_key) (defScope s_FormSet_without_key) .none kV20 dc20 pm20 an20 cd20 ct20), sl20⟩)
    (c20 : PySem.W.codeIn K cd20 "FormSet.without_key" = true) (k20 : PySem.W.keepIn K (.ref f20) = true)
    (a21 : PySem.W.nsIn K mainGlobals "_law_bag" = some (some (.ref f21)))
    (l21 : K.lookup f21 = some ⟨oc21, od21, .func (PySem.W.fnOf "_law_bag" "_law_bag" (defArgs s_l_bag) (defBody s_l_bag) (defScope s_l_bag) .none kV21 dc21 pm21 an21 cd21 ct21), sl21⟩)
    (c21 : PySem.W.codeIn K cd21 "_law_bag" = true) (k21 : PySem.W.keepIn K (.ref f21) = true)
    (a22 : PySem.W.nsIn K mainGlobals "_law_take" = some (some (.ref f22)))
    (l22 : K.lookup f22 = some ⟨oc22, od22, .func (PySem.W.fnOf "_law_take" "_law_take" (defArgs s_l_take) (defBody s_l_take) (defScope s_l_take) .none kV22 dc22 pm22 an22 cd22 ct22), sl22⟩)
    (c22 : PySem.W.codeIn K cd22 "_law_take" = true) (k22 : PySem.W.keepIn K (.ref f22) = true)
    (a23 : PySem.W.nsIn K mainGlobals "_law_set" = some (some (.ref f23)))
    (l23 : K.lookup f23 = some ⟨oc23, od23, .func (PySem.W.fnOf "_law_set" "_law_set" (defArgs s_l_set) (defBody s_l_set) (defScope s_l_set) .none kV23 dc23 pm23 an23 cd23 ct23), sl23⟩)
    (c23 : PySem.W.codeIn K cd23 "_law_set" = true) (k23 : PySem.W.keepIn K (.ref f23) = true)
    (a24 : PySem.W.nsIn K mainGlobals "_law_sets" = some (some (.ref f24)))
    (l24 : K.lookup f24 = some ⟨oc24, od24, .func (PySem.W.fnOf "_law_sets" "_law_sets" (defArgs s_l_sets) (defBody s_l_sets) (defScope s_l_sets) .none kV24 dc24 pm24 an24 cd24 ct24), sl24⟩)
    (c24 : PySem.W.codeIn K cd24 "_law_sets" = true) (k24 : PySem.W.keepIn K (.ref f24) = true)
    (a25 : PySem.W.nsIn K mainGlobals "_law_is" = some (some (.ref f25)))
    (l25 : K.lookup f25 = some ⟨oc25, od25, .func (PySem.W.fnOf "_law_is" "_law_is" (defArgs s_l_is) (defBody s_l_is) (defScope s_l_is) .none kV25 dc25 pm25 an25 cd25 ct25), sl25⟩)
    (c25 : PySem.W.codeIn K cd25 "_law_is" = true) (k25 : PySem.W.keepIn K (.ref f25) = true)
    (a26 : PySem.W.nsIn K mainGlobals "_law_part" = some (some (.ref f26)))
    (l26 : K.lookup f26 = some ⟨oc26, od26, .func (PySem.W.fnOf "_law_part" "_law_part" (defArgs s_l_part) (defBody s_l_part) (defScope s_l_part) .none kV26 dc26 pm26 an26 cd26 ct26), sl26⟩)
    (c26 : PySem.W.codeIn K cd26 "_law_part" = true) (k26 : PySem.W.keepIn K (.ref f26) = true)
    (a27 : PySem.W.nsIn K mainGlobals "_law_joined" = some (some (.ref f27)))
    (l27 : K.lookup f27 = some ⟨oc27, od27, .func (PySem.W.fnOf "_law_joined" "_law_joined" (defArgs s_l_joined) (defBody s_l_joined) (defScope s_l_joined) .none kV27 dc27 pm27 an27 cd27 ct27), sl27⟩)
    (c27 : PySem.W.codeIn K cd27 "_law_joined" = true) (k27 : PySem.W.keepIn K (.ref f27) = true)
    (a28 : PySem.W.nsIn K mainGlobals "_law_joins_right" = some (some (.ref f28)))
    (l28 : K.lookup f28 = some ⟨oc28, od28, .func (PySem.W.fnOf "_law_joins_right" "_law_joins_right" (defArgs s_l_joins_right) (defBody s_l_joins_right) (defScope s_l_joins_right) .none kV28 dc28 pm28 an28 cd28 ct28), sl28⟩)
    (c28 : PySem.W.codeIn K cd28 "_law_joins_right" = true) (k28 : PySem.W.keepIn K (.ref f28) = true)
    (a29 : PySem.W.nsIn K mainGlobals "_law_pair_right" = some (some (.ref f29)))
    (l29 : K.lookup f29 = some ⟨oc29, od29, .func (PySem.W.fnOf "_law_pair_right" "_law_pair_right" (defArgs s_l_pair_right) (defBody s_l_pair_right) (defScope s_l_pair_right) .none kV29 dc29 pm29 an29 cd29 ct29), sl29⟩)
    (c29 : PySem.W.codeIn K cd29 "_law_pair_right" = true) (k29 : PySem.W.keepIn K (.ref f29) = true)
    (a30 : PySem.W.nsIn K mainGlobals "_law_single_right" = some (some (.ref f30)))
    (l30 : K.lookup f30 = some ⟨oc30, od30, .func (PySem.W.fnOf "_law_single_right" "_law_single_right" (defArgs s_l_single_right) (defBody s_l_single_right) (defScope s_l_single_right) .none kV30 dc30 pm30 an30 cd30 ct30), sl30⟩)
    (c30 : PySem.W.codeIn K cd30 "_law_single_right" = true) (k30 : PySem.W.keepIn K (.ref f30) = true)
    (a31 : PySem.W.nsIn K mainGlobals "law" = some (some (.ref f31)))
    (l31 : K.lookup f31 = some ⟨oc31, od31, .func (PySem.W.fnOf "law" "law" (defArgs s_law) (defBody s_law) (defScope s_law) .none kV31 dc31 pm31 an31 cd31 ct31), sl31⟩)
    (c31 : PySem.W.codeIn K cd31 "law" = true) (k31 : PySem.W.keepIn K (.ref f31) = true)
    (mk_FormSet : PySem.W.makesIn K C_FormSet = true) (kp_FormSet : PySem.W.keepIn K (.ref C_FormSet) = true)
    (z_abs : PySem.W.nsIn K mainGlobals "abs" = some none)
    (z_all : PySem.W.nsIn K mainGlobals "all" = some none)
    (z_bool : PySem.W.nsIn K mainGlobals "bool" = some none)
    (z_dict : PySem.W.nsIn K mainGlobals "dict" = some none)
    (z_int : PySem.W.nsIn K mainGlobals "int" = some none)
    (z_isinstance : PySem.W.nsIn K mainGlobals "isinstance" = some none)
    (z_len : PySem.W.nsIn K mainGlobals "len" = some none)
    (z_list : PySem.W.nsIn K mainGlobals "list" = some none)
    (z_max : PySem.W.nsIn K mainGlobals "max" = some none)
    (z_min : PySem.W.nsIn K mainGlobals "min" = some none)
    (z_range : PySem.W.nsIn K mainGlobals "range" = some none)
    (z_sorted : PySem.W.nsIn K mainGlobals "sorted" = some none)
    (z_str : PySem.W.nsIn K mainGlobals "str" = some none)
    (z_tuple : PySem.W.nsIn K mainGlobals "tuple" = some none)
    (z_LETTERS : PySem.W.nsIn K mainGlobals "LETTERS" = some (some (.str "abcdefghijklmnopqrstuvwxyz" t_LETTERS)))
    (z_MOST_LETTERS : PySem.W.nsIn K mainGlobals "MOST_LETTERS" = some (some (.int 4 t_MOST_LETTERS)))
    (z_RESERVED : PySem.W.nsIn K mainGlobals "RESERVED" = some (some (.ref r_RESERVED)))
    (y_RESERVED : K.lookup r_RESERVED = some ⟨.type "tuple", rd_RESERVED, .seq #[.str "keys" rt_RESERVED_0, .str "look" rt_RESERVED_1, .str "self" rt_RESERVED_2] rn_RESERVED, rs_RESERVED⟩)
    (z_HIGHEST_KEY : PySem.W.nsIn K mainGlobals "HIGHEST_KEY" = some (some (.int 999999 t_HIGHEST_KEY)))
    : ∃ fd : FuncData, (∀ (s : Shared) (v : Value), BindsTo s fd ⟨[v], []⟩ [("_law_script", v)]) ∧ ∀ base : Heap, K.In base → base.Ns mainGlobals mg → FnG l.prog w K mg base CX0 13 fa fd ["_law_script"] (spLaw K) := by
  have e := hfa.symm.trans (PySem.W.mg_of X G a31)
  cases e
  have T : Txt K mg C_FormSet := ⟨PySem.W.mg_none_of X G z_abs, PySem.W.mg_none_of X G z_all, PySem.W.mg_none_of X G z_bool, PySem.W.mg_none_of X G z_dict, PySem.W.mg_none_of X G z_int, PySem.W.mg_none_of X G z_isinstance, PySem.W.mg_none_of X G z_len, PySem.W.mg_none_of X G z_list, PySem.W.mg_none_of X G z_max, PySem.W.mg_none_of X G z_min, PySem.W.mg_none_of X G z_range, PySem.W.mg_none_of X G z_sorted, PySem.W.mg_none_of X G z_str, PySem.W.mg_none_of X G z_tuple, ⟨t_LETTERS, PySem.W.mg_of X G z_LETTERS⟩, ⟨t_MOST_LETTERS, PySem.W.mg_of X G z_MOST_LETTERS⟩, ⟨r_RESERVED, PySem.W.mg_of X G z_RESERVED, fun H => .inr ⟨_, _, _, y_RESERVED, rfl, rfl, size_ok (by simp), .cons ⟨_, rfl⟩ (.cons ⟨_, rfl⟩ (.cons ⟨_, rfl⟩ (.nil)))⟩⟩, ⟨t_HIGHEST_KEY, PySem.W.mg_of X G z_HIGHEST_KEY⟩, PySem.W.mg_of X G aC, ⟨pg, hd, po, sa⟩, nF, sf⟩
  refine ⟨PySem.W.fnOf "law" "law" (defArgs s_law) (defBody s_law) (defScope s_law) .none kV31 dc31 pm31 an31 cd31 ct31, fun s v => .of_eq rfl, fun base hK hG => ?_⟩
  have F_is_whole := fun_mk (st := s_is_whole) l0 c0 k0
  have O_is_whole := ok_is_whole (P := l.prog) (w := w) (base := base) F_is_whole T  
  have b_is_whole := F_is_whole.binds (ps := ["thing"]) fun _ _ _ _ _ _ us hl => match us, hl with | [_], _ => rfl
  have D_is_whole : Fn l.prog w K mg base 1 "is_whole" ["thing"] (spIs K mWhole) := ⟨_, _, PySem.W.mg_of X G a0, O_is_whole, k0, b_is_whole⟩
  have F_is_name := fun_mk (st := s_is_name) l1 c1 k1
  have O_is_name := ok_is_name (P := l.prog) (w := w) (base := base) F_is_name T  
  have b_is_name := F_is_name.binds (ps := ["thing"]) fun _ _ _ _ _ _ us hl => match us, hl with | [_], _ => rfl
  have D_is_name : Fn l.prog w K mg base 1 "is_name" ["thing"] (spIs K mName) := ⟨_, _, PySem.W.mg_of X G a1, O_is_name, k1, b_is_name⟩
  have F_is_key := fun_mk (st := s_is_key) l2 c2 k2
  have O_is_key := ok_is_key (P := l.prog) (w := w) (base := base) F_is_key T D_is_whole 
  have b_is_key := F_is_key.binds (ps := ["thing"]) fun _ _ _ _ _ _ us hl => match us, hl with | [_], _ => rfl
  have D_is_key : Fn l.prog w K mg base 2 "is_key" ["thing"] (spIs K mKey) := ⟨_, _, PySem.W.mg_of X G a2, O_is_key, k2, b_is_key⟩
  have F_is_element := fun_mk (st := s_is_element) l3 c3 k3
  have O_is_element := ok_is_element (P := l.prog) (w := w) (base := base) F_is_element T D_is_name D_is_key 
  have b_is_element := F_is_element.binds (ps := ["thing"]) fun _ _ _ _ _ _ us hl => match us, hl with | [_], _ => rfl
  have D_is_element : Fn l.prog w K mg base 3 "is_element" ["thing"] (spIs K mEl) := ⟨_, _, PySem.W.mg_of X G a3, O_is_element, k3, b_is_element⟩
  have F_p_first_forms := fun_mk (st := s_p_first_forms) l4 c4 k4
  have O_p_first_forms := ok_p_first_forms (P := l.prog) (w := w) (base := base) F_p_first_forms T D_is_element 
  have b_p_first_forms := F_p_first_forms.binds (ps := ["given"]) fun _ _ _ _ _ _ us hl => match us, hl with | [_], _ => rfl
  have D_p_first_forms : Fn l.prog w K mg base 4 "_first_forms" ["given"] (spFirst K) := ⟨_, _, PySem.W.mg_of X G a4, O_p_first_forms, k4, b_p_first_forms⟩
  have F_FormSet_init := funV_mk (st := s_FormSet_init) l5 c5
  have O_FormSet_init := ok_FormSet_init (P := l.prog) (w := w) (base := base) F_FormSet_init T D_p_first_forms 
  have b_FormSet_init := F_FormSet_init.bindsFull (ps := ["self", "given"]) y5 rfl fun _ _ _ _ _ _ us hl => match us, hl with | [_, _], _ => ⟨_, rfl, rfl⟩
  have b1_FormSet_init := F_FormSet_init.binds1 (ps := ["self", "given"]) (n := 1) y5 rfl rfl fun _ _ _ _ _ _ us hl => match us, hl with | [_], _ => ⟨_, rfl, rfl⟩
  have D_FormSet_init : MkFn l.prog w K mg base C_FormSet 5 ["self", "given"] (spInit K C_FormSet) := ⟨_, _, ⟨mk_FormSet, a5, i5, kp_FormSet⟩, O_FormSet_init, b_FormSet_init, e5, _, .cons rfl .nil, b1_FormSet_init, fun H => .inr ⟨_, _, _, x5, rfl, rfl, size_ok (by simp), .nil⟩⟩
  have F_p_set_of := fun_mk (st := s_p_set_of) l6 c6 k6
  have O_p_set_of := ok_p_set_of (P := l.prog) (w := w) (base := base) F_p_set_of T D_FormSet_init 
  have b_p_set_of := F_p_set_of.binds (ps := ["forms"]) fun _ _ _ _ _ _ us hl => match us, hl with | [_], _ => rfl
  have D_p_set_of : Fn l.prog w K mg base 7 "_set_of" ["forms"] (spSetOf C_FormSet) := ⟨_, _, PySem.W.mg_of X G a6, O_p_set_of, k6, b_p_set_of⟩
  have F_p_united := fun_mk (st := s_p_united) l7 c7 k7
  have O_p_united := ok_p_united (P := l.prog) (w := w) (base := base) F_p_united T  
  have b_p_united := F_p_united.binds (ps := ["first", "second"]) fun _ _ _ _ _ _ us hl => match us, hl with | [_, _], _ => rfl
  have D_p_united : Fn l.prog w K mg base 1 "_united" ["first", "second"] (spRaw united) := ⟨_, _, PySem.W.mg_of X G a7, O_p_united, k7, b_p_united⟩
  have F_p_common := fun_mk (st := s_p_common) l8 c8 k8
  have O_p_common := ok_p_common (P := l.prog) (w := w) (base := base) F_p_common T  
  have b_p_common := F_p_common.binds (ps := ["forms", "others"]) fun _ _ _ _ _ _ us hl => match us, hl with | [_, _], _ => rfl
  have D_p_common : Fn l.prog w K mg base 1 "_common" ["forms", "others"] (spRaw common) := ⟨_, _, PySem.W.mg_of X G a8, O_p_common, k8, b_p_common⟩
  have F_p_rest := fun_mk (st := s_p_rest) l9 c9 k9
  have O_p_rest := ok_p_rest (P := l.prog) (w := w) (base := base) F_p_rest T  
  have b_p_rest := F_p_rest.binds (ps := ["forms", "others"]) fun _ _ _ _ _ _ us hl => match us, hl with | [_, _], _ => rfl
  have D_p_rest : Fn l.prog w K mg base 1 "_rest" ["forms", "others"] (spRaw rest) := ⟨_, _, PySem.W.mg_of X G a9, O_p_rest, k9, b_p_rest⟩
  have F_FormSet_or := fun_mk (st := s_FormSet_or) l10 c10 k10
  have O_FormSet_or := ok_FormSet_or (P := l.prog) (w := w) (base := base) F_FormSet_or T D_p_set_of D_p_united 
  have b_FormSet_or := F_FormSet_or.binds (ps := ["self", "other"]) fun _ _ _ _ _ _ us hl => match us, hl with | [_, _], _ => rfl
  have D_FormSet_or : Mt l.prog w K mg base C_FormSet "__or__" 8 ["self", "other"] (spOp C_FormSet united) := ⟨_, _, a10, i10, k10, O_FormSet_or, b_FormSet_or⟩
  have F_FormSet_len := fun_mk (st := s_FormSet_len) l11 c11 k11
  have O_FormSet_len := ok_FormSet_len (P := l.prog) (w := w) (base := base) F_FormSet_len T  
  have b_FormSet_len := F_FormSet_len.binds (ps := ["self"]) fun _ _ _ _ _ _ us hl => match us, hl with | [_], _ => rfl
  have D_FormSet_len : Mt l.prog w K mg base C_FormSet "__len__" 1 ["self"] (spLen C_FormSet) := ⟨_, _, a11, i11, k11, O_FormSet_len, b_FormSet_len⟩
  have F_FormSet_and := fun_mk (st := s_FormSet_and) l12 c12 k12
  have O_FormSet_and := ok_FormSet_and (P := l.prog) (w := w) (base := base) F_FormSet_and T D_p_set_of D_p_common D_FormSet_len 
  have b_FormSet_and := F_FormSet_and.binds (ps := ["self", "other"]) fun _ _ _ _ _ _ us hl => match us, hl with | [_, _], _ => rfl
  have D_FormSet_and : Mt l.prog w K mg base C_FormSet "__and__" 9 ["self", "other"] (spOp C_FormSet smaller) := ⟨_, _, a12, i12, k12, O_FormSet_and, b_FormSet_and⟩
  have F_FormSet_sub := fun_mk (st := s_FormSet_sub) l13 c13 k13
  have O_FormSet_sub := ok_FormSet_sub (P := l.prog) (w := w) (base := base) F_FormSet_sub T D_p_set_of D_p_rest 
  have b_FormSet_sub := F_FormSet_sub.binds (ps := ["self", "other"]) fun _ _ _ _ _ _ us hl => match us, hl with | [_, _], _ => rfl
  have D_FormSet_sub : Mt l.prog w K mg base C_FormSet "__sub__" 8 ["self", "other"] (spOp C_FormSet rest) := ⟨_, _, a13, i13, k13, O_FormSet_sub, b_FormSet_sub⟩
  have F_FormSet_xor := fun_mk (st := s_FormSet_xor) l14 c14 k14
  have O_FormSet_xor := ok_FormSet_xor (P := l.prog) (w := w) (base := base) F_FormSet_xor T D_p_set_of D_p_united D_p_rest 
  have b_FormSet_xor := F_FormSet_xor.binds (ps := ["self", "other"]) fun _ _ _ _ _ _ us hl => match us, hl with | [_, _], _ => rfl
  have D_FormSet_xor : Mt l.prog w K mg base C_FormSet "__xor__" 8 ["self", "other"] (spOp C_FormSet apart) := ⟨_, _, a14, i14, k14, O_FormSet_xor, b_FormSet_xor⟩
  have F_FormSet_joined := fun_mk (st := s_FormSet_joined) l15 c15 k15
  have O_FormSet_joined := ok_FormSet_joined (P := l.prog) (w := w) (base := base) F_FormSet_joined T D_p_set_of D_p_united 
  have D_FormSet_joined : MtR l.prog w K mg base C_FormSet "joined" 8 ["self"] (spJoin K C_FormSet) := ⟨_, a15, i15, k15, O_FormSet_joined⟩
  have F_FormSet_kept := fun_mk (st := s_FormSet_kept) l16 c16 k16
  have O_FormSet_kept := ok_FormSet_kept (P := l.prog) (w := w) (base := base) F_FormSet_kept T D_p_set_of D_p_common 
  have b_FormSet_kept := F_FormSet_kept.binds (ps := ["self", "other"]) fun _ _ _ _ _ _ us hl => match us, hl with | [_, _], _ => rfl
  have D_FormSet_kept : Mt l.prog w K mg base C_FormSet "kept" 8 ["self", "other"] (spOp C_FormSet common) := ⟨_, _, a16, i16, k16, O_FormSet_kept, b_FormSet_kept⟩
  have F_FormSet_members := fun_mk (st := s_FormSet_members) l17 c17 k17
  have O_FormSet_members := ok_FormSet_members (P := l.prog) (w := w) (base := base) F_FormSet_members T  
  have b_FormSet_members := F_FormSet_members.binds (ps := ["self"]) fun _ _ _ _ _ _ us hl => match us, hl with | [_], _ => rfl
  have D_FormSet_members : Mt l.prog w K mg base C_FormSet "members" 1 ["self"] (spMem C_FormSet) := ⟨_, _, a17, i17, k17, O_FormSet_members, b_FormSet_members⟩
  have F_FormSet_contains := fun_mk (st := s_FormSet_contains) l18 c18 k18
  have O_FormSet_contains := ok_FormSet_contains (P := l.prog) (w := w) (base := base) F_FormSet_contains T D_is_key 
  have b_FormSet_contains := F_FormSet_contains.binds (ps := ["self", "x"]) fun _ _ _ _ _ _ us hl => match us, hl with | [_, _], _ => rfl
  have D_FormSet_contains : Mt l.prog w K mg base C_FormSet "__contains__" 3 ["self", "x"] (spHas C_FormSet) := ⟨_, _, a18, i18, k18, O_FormSet_contains, b_FormSet_contains⟩
  have F_FormSet_with_element := fun_mk (st := s_FormSet_with_element) l19 c19 k19
  have O_FormSet_with_element := ok_FormSet_with_element (P := l.prog) (w := w) (base := base) F_FormSet_with_element T D_FormSet_init D_FormSet_or 
  have b_FormSet_with_element := F_FormSet_with_element.binds (ps := ["self", "element"]) fun _ _ _ _ _ _ us hl => match us, hl with | [_, _], _ => rfl
  have D_FormSet_with_element : Mt l.prog w K mg base C_FormSet "with_element" 10 ["self", "element"] (spWith K C_FormSet) := ⟨_, _, a19, i19, k19, O_FormSet_with_element, b_FormSet_with_element⟩
  have F_FormSet_without_key := fun_mk (st := s_FormSet_without_key) l20 c20 k20
  have O_FormSet_without_key := ok_FormSet_without_key (P := l.prog) (w := w) (base := base) F_FormSet_without_key T D_p_set_of D_FormSet_contains 
  have b_FormSet_without_key := F_FormSet_without_key.binds (ps := ["self", "key"]) fun _ _ _ _ _ _ us hl => match us, hl with | [_, _], _ => rfl
  have D_FormSet_without_key : Mt l.prog w K mg base C_FormSet "without_key" 8 ["self", "key"] (spLess C_FormSet) := ⟨_, _, a20, i20, k20, O_FormSet_without_key, b_FormSet_without_key⟩
  have F_l_bag := fun_mk (st := s_l_bag) l21 c21 k21
  have O_l_bag := ok_l_bag (P := l.prog) (w := w) (base := base) F_l_bag T  
  have b_l_bag := F_l_bag.binds (ps := ["_law_script", "_law_at"]) fun _ _ _ _ _ _ us hl => match us, hl with | [_, _], _ => rfl
  have D_l_bag : Fn l.prog w K mg base 1 "_law_bag" ["_law_script", "_law_at"] (spBag K) := ⟨_, _, PySem.W.mg_of X G a21, O_l_bag, k21, b_l_bag⟩
  have F_l_take := fun_mk (st := s_l_take) l22 c22 k22
  have O_l_take := ok_l_take (P := l.prog) (w := w) (base := base) F_l_take T  
  have b_l_take := F_l_take.binds (ps := ["_law_bag_here", "_law_many"]) fun _ _ _ _ _ _ us hl => match us, hl with | [_, _], _ => rfl
  have D_l_take : Fn l.prog w K mg base 1 "_law_take" ["_law_bag_here", "_law_many"] spTake := ⟨_, _, PySem.W.mg_of X G a22, O_l_take, k22, b_l_take⟩
  have F_l_set := fun_mk (st := s_l_set) l23 c23 k23
  have O_l_set := ok_l_set (P := l.prog) (w := w) (base := base) F_l_set T D_l_take 
  have b_l_set := F_l_set.binds (ps := ["_law_bag_here", "_law_many", "_law_forms"]) fun _ _ _ _ _ _ us hl => match us, hl with | [_, _, _], _ => rfl
  have D_l_set : Fn l.prog w K mg base 2 "_law_set" ["_law_bag_here", "_law_many", "_law_forms"] (spRow K) := ⟨_, _, PySem.W.mg_of X G a23, O_l_set, k23, b_l_set⟩
  have F_l_sets := fun_mk (st := s_l_sets) l24 c24 k24
  have O_l_sets := ok_l_sets (P := l.prog) (w := w) (base := base) F_l_sets T D_l_take D_l_set 
  have b_l_sets := F_l_sets.binds (ps := ["_law_bag_here"]) fun _ _ _ _ _ _ us hl => match us, hl with | [_], _ => rfl
  have D_l_sets : Fn l.prog w K mg base 3 "_law_sets" ["_law_bag_here"] spRows := ⟨_, _, PySem.W.mg_of X G a24, O_l_sets, k24, b_l_sets⟩
  have F_l_is := fun_mk (st := s_l_is) l25 c25 k25
  have O_l_is := ok_l_is (P := l.prog) (w := w) (base := base) F_l_is T D_FormSet_members 
  have b_l_is := F_l_is.binds (ps := ["_law_thing", "_law_due"]) fun _ _ _ _ _ _ us hl => match us, hl with | [_, _], _ => rfl
  have D_l_is : Fn l.prog w K mg base 2 "_law_is" ["_law_thing", "_law_due"] (spIsIt C_FormSet) := ⟨_, _, PySem.W.mg_of X G a25, O_l_is, k25, b_l_is⟩
  have F_l_part := fun_mk (st := s_l_part) l26 c26 k26
  have O_l_part := ok_l_part (P := l.prog) (w := w) (base := base) F_l_part T  
  have b_l_part := F_l_part.binds (ps := ["_law_one", "_law_other", "_law_inside"]) fun _ _ _ _ _ _ us hl => match us, hl with | [_, _, _], _ => rfl
  have D_l_part : Fn l.prog w K mg base 1 "_law_part" ["_law_one", "_law_other", "_law_inside"] spPart := ⟨_, _, PySem.W.mg_of X G a26, O_l_part, k26, b_l_part⟩
  have F_l_joined := fun_mk (st := s_l_joined) l27 c27 k27
  have O_l_joined := ok_l_joined (P := l.prog) (w := w) (base := base) F_l_joined T  
  have b_l_joined := F_l_joined.binds (ps := ["_law_rows"]) fun _ _ _ _ _ _ us hl => match us, hl with | [_], _ => rfl
  have D_l_joined : Fn l.prog w K mg base 1 "_law_joined" ["_law_rows"] (spJoined K) := ⟨_, _, PySem.W.mg_of X G a27, O_l_joined, k27, b_l_joined⟩
  have F_l_joins_right := fun_mk (st := s_l_joins_right) l28 c28 k28
  have O_l_joins_right := ok_l_joins_right (P := l.prog) (w := w) (base := base) F_l_joins_right T D_FormSet_joined D_l_is D_l_joined 
  have b_l_joins_right := F_l_joins_right.binds (ps := ["_law_rows", "_law_made"]) fun _ _ _ _ _ _ us hl => match us, hl with | [_, _], _ => rfl
  have D_l_joins_right : Fn l.prog w K mg base 9 "_law_joins_right" ["_law_rows", "_law_made"] (spJR K C_FormSet) := ⟨_, _, PySem.W.mg_of X G a28, O_l_joins_right, k28, b_l_joins_right⟩
  have F_l_pair_right := fun_mk (st := s_l_pair_right) l29 c29 k29
  have O_l_pair_right := ok_l_pair_right (P := l.prog) (w := w) (base := base) F_l_pair_right T D_FormSet_or D_FormSet_and D_FormSet_sub D_FormSet_xor D_FormSet_kept D_l_is D_l_part D_l_joined 
  have b_l_pair_right := F_l_pair_right.binds (ps := ["_law_one", "_law_other", "_law_left", "_law_right"]) fun _ _ _ _ _ _ us hl => match us, hl with | [_, _, _, _], _ => rfl
  have D_l_pair_right : Fn l.prog w K mg base 10 "_law_pair_right" ["_law_one", "_law_other", "_law_left", "_law_right"] (spPR C_FormSet) := ⟨_, _, PySem.W.mg_of X G a29, O_l_pair_right, k29, b_l_pair_right⟩
  have F_l_single_right := fun_mk (st := s_l_single_right) l30 c30 k30
  have O_l_single_right := ok_l_single_right (P := l.prog) (w := w) (base := base) F_l_single_right T D_FormSet_with_element D_FormSet_without_key D_l_take D_l_is 
  have b_l_single_right := F_l_single_right.binds (ps := ["_law_bag_here", "_law_one", "_law_left"]) fun _ _ _ _ _ _ us hl => match us, hl with | [_, _, _], _ => rfl
  have D_l_single_right : Fn l.prog w K mg base 11 "_law_single_right" ["_law_bag_here", "_law_one", "_law_left"] (spSR C_FormSet) := ⟨_, _, PySem.W.mg_of X G a30, O_l_single_right, k30, b_l_single_right⟩
  have F_law := fun_mk (st := s_law) l31 c31 k31
  have O_law := ok_law (P := l.prog) (w := w) (base := base) F_law T D_FormSet_init D_FormSet_and D_FormSet_members D_l_bag D_l_sets D_l_is D_l_joins_right D_l_pair_right D_l_single_right 
  exact FnG.of O_law
theorem walk {l : PySem.W.OpenLaw} {q : Program} {loose : List Str} {XP : (Str → Option Value) → Heap → Prop} {YP : World → Heap → Prop} {d : DefRec} {K : Params → PySem.W.Frag} (hn : l.most = some 63) (hdf : d.params.defaults = [])
    (hY : ∀ (w : World) (h : Heap), YP w h → (K w.params).In h)
    (F : ∀ (w : World) (mg : Str → Option Value) (fa : Addr) (h : Heap), (K w.params).In h → h.Ns mainGlobals mg → mg d.name = some (.ref fa) →
      ∃ fd : FuncData, (∀ (s : Shared) (u : Value), BindsTo s fd ⟨[u], []⟩ [("_law_script", u)]) ∧ ∀ base : Heap, (K w.params).In base → base.Ns mainGlobals mg → FnG l.prog w (K w.params) mg base CX0 13 fa fd ["_law_script"] (spLaw (K w.params))) :
    PySem.W.WalkO q loose XP YP l.row.toRowW d [] (fun f vs => PySem.call f vs) :=
  walkG (n := 63) (k := 13) (x := "_law_script") (CX := fun _ => CX0) (sp := fun w => spLaw (K w.params)) hn (by decide) hdf ⟨rfl, by decide, by decide⟩ hY F (fun _ _ a ns hl _ hS => ⟨a, ns, rfl, hS, hl, fun _ => rfl⟩) fun _ _ _ _ _ z => z
end My
open PySem PySem.W PyProof.Rows in
set_option maxRecDepth 100000 in
set_option maxHeartbeats 0 in
theorem PySem.Challenge.cw_equalunlike_k04_operations_on_sets_holds : PySem.Challenge.rw_equalunlike_k04_operations_on_sets.Holds := by
  w_on; o_law; k_head; (case hw => w_witness2)
  k_fill
  refine My.walk (l := PySem.Challenge.rw_equalunlike_k04_operations_on_sets) rfl rfl (fun w h Y => PySem.W.kIn_of Y) ?F
  case F =>
    intro w mg fa h KX G hmg
    refine' My.all_mk KX G hmg ?aC ?pg ?hd ?po ?sa ?nF ?sf ?a0 ?l0 ?c0 ?k0 ?a1 ?l1 ?c1 ?k1 ?a2 ?l2 ?c2 ?k2 ?a3 ?l3 ?c3 ?k3 ?a4 ?l4 ?c4 ?k4 ?a5 ?i5 ?l5 ?y5 ?x5 ?c5 ?k5 ?a6 ?l6 ?c6 ?k6 ?a7 ?l7 ?c7 ?k7 ?a8 ?l8 ?c8 ?k8 ?a9 ?l9 ?c9 ?k9 ?a10 ?i10 ?l10 ?c10 ?k10 ?a11 ?i11 ?l11 ?c11 ?k11 ?a12 ?i12 ?l12 ?c12 ?k12 ?a13 ?i13 ?l13 ?c13 ?k13 ?a14 ?i14 ?l14 ?c14 ?k14 ?a15 ?i15 ?l15 ?c15 ?k15 ?a16 ?i16 ?l16 ?c16 ?k16 ?a17 ?i17 ?l17 ?c17 ?k17 ?a18 ?i18 ?l18 ?c18 ?k18 ?a19 ?i19 ?l19 ?c19 ?k19 ?a20 ?i20 ?l20 ?c20 ?k20 ?a21 ?l21 ?c21 ?k21 ?a22 ?l22 ?c22 ?k22 ?a23 ?l23 ?c23 ?k23 ?a24 ?l24 ?c24 ?k24 ?a25 ?l25 ?c25 ?k25 ?a26 ?l26 ?c26 ?k26 ?a27 ?l27 ?c27 ?k27 ?a28 ?l28 ?c28 ?k28 ?a29 ?l29 ?c29 ?k29 ?a30 ?l30 ?c30 ?k30 ?a31 ?l31 ?c31 ?k31 ?mk_FormSet ?kp_FormSet ?z_abs ?z_all ?z_bool ?z_dict ?z_int ?z_isinstance ?z_len ?z_list ?z_max ?z_min ?z_range ?z_sorted ?z_str ?z_tuple ?z_LETTERS ?z_MOST_LETTERS ?z_RESERVED ?y_RESERVED ?z_HIGHEST_KEY
    (case aC => k_is)
    (case pg => k_is)
    (case hd => k_is)
    (case po => k_is)
    (case sa => k_is)
    (case nF => k_is)
    (case sf => k_is)
    (case a0 => k_is)
    (case l0 => k_is)
    (case c0 => k_is)
    (case k0 => k_is)
    (case a1 => k_is)
    (case l1 => k_is)
    (case c1 => k_is)
    (case k1 => k_is)
    (case a2 => k_is)
    (case l2 => k_is)
    (case c2 => k_is)
    (case k2 => k_is)
    (case a3 => k_is)
    (case l3 => k_is)
    (case c3 => k_is)
    (case k3 => k_is)
    (case a4 => k_is)
    (case l4 => k_is)
    (case c4 => k_is)
    (case k4 => k_is)
    (case a5 => k_is)
    (case i5 => k_is)
    (case l5 => k_is)
    (case y5 => k_is)
    (case x5 => k_is)
    (case c5 => k_is)
    (case k5 => k_is)
    (case a6 => k_is)
    (case l6 => k_is)
    (case c6 => k_is)
    (case k6 => k_is)
    (case a7 => k_is)
    (case l7 => k_is)
    (case c7 => k_is)
    (case k7 => k_is)
    (case a8 => k_is)
    (case l8 => k_is)
    (case c8 => k_is)
    (case k8 => k_is)
    (case a9 => k_is)
    (case l9 => k_is)
    (case c9 => k_is)
    (case k9 => k_is)
    (case a10 => k_is)
    (case i10 => k_is)
    (case l10 => k_is)
    (case c10 => k_is)
    (case k10 => k_is)
    (case a11 => k_is)
    (case i11 => k_is)
    (case l11 => k_is)
    (case c11 => k_is)
    (case k11 => k_is)
    (case a12 => k_is)
    (case i12 => k_is)
    (case l12 => k_is)
    (case c12 => k_is)
    (case k12 => k_is)
    (case a13 => k_is)
    (case i13 => k_is)
    (case l13 => k_is)
    (case c13 => k_is)
    (case k13 => k_is)
    (case a14 => k_is)
    (case i14 => k_is)
    (case l14 => k_is)
    (case c14 => k_is)
    (case k14 => k_is)
    (case a15 => k_is)
    (case i15 => k_is)
    (case l15 => k_is)
    (case c15 => k_is)
    (case k15 => k_is)
    (case a16 => k_is)
    (case i16 => k_is)
    (case l16 => k_is)
    (case c16 => k_is)
    (case k16 => k_is)
    (case a17 => k_is)
    (case i17 => k_is)
    (case l17 => k_is)
    (case c17 => k_is)
    (case k17 => k_is)
    (case a18 => k_is)
    (case i18 => k_is)
    (case l18 => k_is)
    (case c18 => k_is)
    (case k18 => k_is)
    (case a19 => k_is)
    (case i19 => k_is)
    (case l19 => k_is)
    (case c19 => k_is)
    (case k19 => k_is)
    (case a20 => k_is)
    (case i20 => k_is)
    (case l20 => k_is)
    (case c20 => k_is)
    (case k20 => k_is)
    (case a21 => k_is)
    (case l21 => k_is)
    (case c21 => k_is)
    (case k21 => k_is)
    (case a22 => k_is)
    (case l22 => k_is)
    (case c22 => k_is)
    (case k22 => k_is)
    (case a23 => k_is)
    (case l23 => k_is)
    (case c23 => k_is)
    (case k23 => k_is)
    (case a24 => k_is)
    (case l24 => k_is)
    (case c24 => k_is)
    (case k24 => k_is)
    (case a25 => k_is)
    (case l25 => k_is)
    (case c25 => k_is)
    (case k25 => k_is)
    (case a26 => k_is)
    (case l26 => k_is)
    (case c26 => k_is)
    (case k26 => k_is)
    (case a27 => k_is)
    (case l27 => k_is)
    (case c27 => k_is)
    (case k27 => k_is)
    (case a28 => k_is)
    (case l28 => k_is)
    (case c28 => k_is)
    (case k28 => k_is)
    (case a29 => k_is)
    (case l29 => k_is)
    (case c29 => k_is)
    (case k29 => k_is)
    (case a30 => k_is)
    (case l30 => k_is)
    (case c30 => k_is)
    (case k30 => k_is)
    (case a31 => k_is)
    (case l31 => k_is)
    (case c31 => k_is)
    (case k31 => k_is)
    (case mk_FormSet => k_is)
    (case kp_FormSet => k_is)
    (case z_abs => k_is)
    (case z_all => k_is)
    (case z_bool => k_is)
    (case z_dict => k_is)
    (case z_int => k_is)
    (case z_isinstance => k_is)
    (case z_len => k_is)
    (case z_list => k_is)
    (case z_max => k_is)
    (case z_min => k_is)
    (case z_range => k_is)
    (case z_sorted => k_is)
    (case z_str => k_is)
    (case z_tuple => k_is)
    (case z_LETTERS => k_is)
    (case z_MOST_LETTERS => k_is)
    (case z_RESERVED => k_is)
    (case y_RESERVED => k_is)
    (case z_HIGHEST_KEY => k_is)
#print axioms PySem.Challenge.cw_equalunlike_k04_operations_on_sets_holds
