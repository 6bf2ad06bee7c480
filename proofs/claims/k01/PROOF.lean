import PyProof.Rows.All
import Wide.All
import OpenK.AllK
import Wide.FinOn
import HandS.ForMost
import HandS.IsInst
import HandS.TupAny
import HandS.RaiseMore
import PySem.Challenge.RW_equalunlike_k01_names_and_elements_known
set_option Elab.async false
set_option maxRecDepth 100000
set_option maxHeartbeats 4000000
namespace My
open PySem PySem.Spec PyProof.Rows L2


section
variable {P : Program} {w : World} {K : PySem.W.Frag} {mg : Str → Option Value} {base : Heap} {CX : CXT}
structure FnG (P : Program) (w : World) (K : PySem.W.Frag) (mg : Str → Option Value) (base : Heap)
    (CX : CXT) (k : Nat) (f : Addr) (fd : FuncData) (ps : List Str) (sp : Sp) : Prop where
  len : ∀ vs H Q E, sp vs H Q E → vs.length = ps.length
  run : ∀ (A : Around) (outer : List Env) (s : Shared) (H : Hp) (args : Args) (us : List Value)
    (vs : List V) (Q : VK) (E : XK), A.guards = some [] → Room k A →
    Env0 P w K mg base A outer s H → BindsTo s fd args (ps.zip us) → Vals vs us →
    sp vs H Q E → codeAny (model P w) A (.call (.ref f) args) (CR CX outer P w H s Q E) s
theorem FnG.of {k : Nat} {f : Addr} {fd : FuncData} {ps : List Str} {sp : Sp}
    (F : FnOk P w K mg base CX k f fd ps sp) : FnG P w K mg base CX k f fd ps sp :=
  ⟨F.len, fun A outer s H args us vs Q E _ hr he hb hv hs => F.run A outer s H args us vs Q E hr he hb hv hs⟩
theorem deeper_guards (A : Around) (env : Env) (h : A.guards = some []) : (A.deeper env).guards = some [] := by
  first
  | exact h
  | (simp [Around.deeper]; exact h)


theorem okGX {x qual : Str} {st : Stmt} {f : Addr} {fd : FuncData} {N ps : List Str} {k : Nat} {sp : Sp}
    (F : Fun K x qual st f fd) (S : FnScope N ps (defScope st))
    (len : ∀ vs H Q E, sp vs H Q E → vs.length = ps.length)
    (body : ∀ (cdv : Value) (A : Around) (outer : List Env) (s : Shared) (H : Hp) (vs : List V) (Q : VK) (E : XK),
      (A.deeper (envOfC qual (defScope st) s.heap.objs.size f cdv)).guards = some [] →
      Room k (A.deeper (envOfC qual (defScope st) s.heap.objs.size f cdv)) → sp vs H Q E →
      ∃ t, PSs (cxOf CX P w K mg base N qual (defScope st) f cdv A outer s H E) (defBody st) t ∧
        t { nx := fun _ H' => Q .non H', rt := Q } (start N vs) H) :
    FnG P w K mg base CX (k + 1) f fd ps sp := by
  obtain ⟨oc, od, kV, doc, pm, an, cdv, ct, osl, rfl, lk, hcd⟩ := F.ex
  refine ⟨len, ?_⟩
  intro A outer s H args us vs Q E hg hr e0 hb r hsp
  have ln := len _ _ _ _ hsp
  have kin : K.In s.heap := e0.mod.kin.keeps fun b o e =>
    (e0.bs b o e).1
  have lim : s.heap.NoLimit := e0.mod.nolimit.keeps fun b o e =>
    (e0.bs b o e).1
  have kinds : ∀ y ∈ ps.zip us, (defScope st).names.lookup y.1 = some .local ∨
      ((defScope st).names.lookup y.1 = some .cell ∧
        ((cellsFrom (s.heap.objs.size + 1) (defScope st).names []).lookup y.1).isSome = true) := by
    rintro ⟨n, v⟩ hy
    rcases S.par n (List.of_mem_zip hy).1 with q | q
    · left; exact q
    · right; exact ⟨q, PySem.W.cellsFrom_some _ _ _ (.inl q)⟩
  refine codeAny_call_function hr.depth (kin _ _ lk) rfl S.co S.gen
    rfl (PySem.W.codeRec_of kin hcd) (hb _ _ _ _ ?_)
  refine wpAny_newFunctionEnv_cells S.kind kinds ?_
  intro env he s1 x
  subst he
  refine ⟨lim.keeps x.toInCall.keep, codeAny_func ?_⟩
  obtain ⟨t, ht, hq⟩ := body cdv A outer s H vs Q E
    (deeper_guards A _ hg) (hr.deeper _) hsp
  have I := inv_start (CX := CX) (P := P) (mg := mg) (base := base) (E := E) S hr.hd e0 ln r x
  refine wpAny_mono (ht.run [] s1 (start N vs) H _ I hq) ?_ (fun e s' hs => hs)
  intro fl s' hs
  cases fl with
  | ret u =>
    obtain ⟨v, σ', H', J, rv, q⟩ := hs
    exact ⟨v, H', J.os, J.bare, J.base, J.hok, rv, q⟩
  | next =>
    obtain ⟨σ', H', J, q⟩ := hs
    exact ⟨V.non, H', J.os, J.bare, J.base, J.hok, rfl, q⟩
  | brk => obtain ⟨_, _, _, z⟩ := hs; exact z.elim
  | cont => obtain ⟨_, _, _, z⟩ := hs; exact z.elim

theorem okG {x qual : Str} {st : Stmt} {f : Addr} {fd : FuncData} {N ps : List Str} {k : Nat} {sp : Sp}
    (F : Fun K x qual st f fd) (S : FnScope N ps (defScope st))
    (len : ∀ vs H Q E, sp vs H Q E → vs.length = ps.length)
    (body : ∀ (cdv : Value) (A : Around) (outer : List Env) (s : Shared) (H : Hp) (vs : List V) (Q : VK) (E : XK),
      (A.deeper (envOfC qual (defScope st) s.heap.objs.size f cdv)).guards = some [] →
      Room k (A.deeper (envOfC qual (defScope st) s.heap.objs.size f cdv)) → sp vs H Q E →
      ∃ t, PSs (cxOf CX P w K mg base N qual (defScope st) f cdv A outer s H E).nox (defBody st) t ∧
        t { nx := fun _ H' => Q .non H', rt := Q } (start N vs) H) :
    FnG P w K mg base CX (k + 1) f fd ps sp := by
  refine okGX F S len ?_
  intro cdv A outer s H vs Q E hg hr hsp
  obtain ⟨t, h, q⟩ := body cdv A outer s H vs Q E hg hr hsp
  exact ⟨t, h.nox, q⟩
end

section
variable {X : Cx} {CX : CXT} {k : Nat} {f : Addr} {fd : FuncData} {ps : List Str} {sp : Sp}
  {dvs : List V} {ds : List Value} {E : XK} {x : Str} {p pos : Pos} {e : Expr} {es : List Expr} {t : TA}
theorem run_fnG {pins : List (Addr × Obj)} {σ : L2.St} {H : Hp} {s : Shared} {Q : VK} {us : List Value} {vs : List V}
    (F : FnG X.prog X.w X.K X.mg X.base CX k f fd ps sp) (g : X.A.guards = some []) (hr : Room k X.A)
    (hb : Binds X.K fd ps ds) (hd : Vals dvs ds) (hx : Passes CX X E) (I : Inv X pins σ H s) (r : Vals vs us)
    (h : sp (vs ++ dvs) H Q E) :
    wpAny (model X.prog X.w) X.A (call (.ref f) us) (EP X pins σ Q) X.xe s := by
  have r2 := r.append hd
  have hl : (us ++ ds).length = ps.length :=
    r2.length.symm.trans (F.len _ _ _ _ h)
  have z := F.run X.A X.stack s H ⟨us, []⟩ (us ++ ds)
    (vs ++ dvs) Q E g hr I.env0 (hb s us I.kIn hl) r2 h
  refine wpAny_call (codeAny_mono z ?_)
  intro r s' hq
  match r, hq with
  | .error e, hq => exact hx pins σ H s e s' I hq
  | .ok (.ret u), hq => exact I.after hq
  | .ok .next, hq => exact hq.elim
  | .ok .brk, hq => exact hq.elim
  | .ok .cont, hq => exact hq.elim

theorem pe_callG (F : FnG X.prog X.w X.K X.mg X.base CX k f fd ps sp) (g : X.A.guards = some []) (hr : Room k X.A)
    (hg : Gl X x) (hm : X.mg x = some (.ref f)) (hk : PySem.W.keepIn X.K (.ref f) = true)
    (hb : Binds X.K fd ps ds) (hd : Vals dvs ds) (hx : Passes CX X E) (ha : PA X (e :: es) t)
    (hdb : (x == ("__debug__" : Str)) = false := by decide)
    (he : starEach (e :: es) X.env = (false, eval e X.env) :: starEach es X.env := by rfl)
    (hpl : (backTo pos (starEach es X.env)).any (·.1) = false := by rfl) :
    PE X (.Call (.Name x p) (e :: es) [] pos) (tCall sp dvs E t) := by
  constructor
  intro pins s σ H Q I h
  refine wpAny_Call_Name_kw (ld_glob I hg hm ?_ hdb)
  have a1 := ha.run pos pins s σ H _ I h
  refine PySem.W.callWith_K (h₀ := X.base) I.ok.mod.kin hk
    (thn a1 ?_) he hpl
  rintro us s1 ⟨vs, H1, I1, r, q⟩
  exact ⟨I1.kIn, run_fnG F g hr hb hd hx I1 r q⟩
end


section
variable {P : Program} {w : World} {K : PySem.W.Frag}

def only1 (a : Addr) (o : Obj) (u : HO) : Hp := fun b => if b = a then some (.frz o u) else none
theorem only1_at {a : Addr} {o : Obj} {u : HO} : only1 a o u a = some (.frz o u) := if_pos rfl
theorem only1_ne {a b : Addr} {o : Obj} {u : HO} (h : b ≠ a) : only1 a o u b = none := if_neg h
theorem callG {mg mb : Str → Option Value} {CX : CXT} {k : Nat} {fa a : Addr} {fd : FuncData} {x : Str} {sp : Sp}
    {s : Shared} {vs : List Value} {ns : List Int}
    (KX : K.In s.heap) (h1 : s.heap.Ns mainGlobals mg) (h2 : s.heap.Ns builtinsNs mb)
    (h3 : ∀ x : Str, x ≠ "__name__" → mb x = bootBuiltins x) (h4 : s.heap.NoLimit) (h5 : s.gens = #[])
    (ha : s.heap.get? a = some { cls := .type "list", data := .seq vs.toArray }) (hi : IntsAre vs ns)
    (hl : ns.length ≤ sizeLine) (hr : Room k callerA)
    (F : ∀ base : Heap, K.In base → base.Ns mainGlobals mg → FnG P w K mg base CX k fa fd [x] sp)
    (hb : ∀ (s : Shared) (u : Value), BindsTo s fd ⟨[u], []⟩ [(x, u)])
    (hsp : ∀ H : Hp, Only H → SqL K H a (ns.map V.int) → sp [.ref a] H (fun v _ => v = .bl true) fun _ _ _ => False)
    (hCX : ∀ H e s', CX [] H s (fun _ _ _ => False) e s' → False) :
    codeAny (model P w) callerA (.call (.ref fa) ⟨[.ref a], []⟩)
      (fun r s' => r = .ok (.ret (.bool true)) ∧ OldK s.heap s'.heap ∧ s'.os = s.os ∧ AllBare s'.gens) s := by
  have rv := vals_ints hi
  have main : ∀ H : Hp, Only H → SqL K H a (ns.map V.int) → HOk P w H s.heap →
      (∀ b u, H b = some u → b = a ∧ K.lookup a = none) →
      codeAny (model P w) callerA (.call (.ref fa) ⟨[.ref a], []⟩)
        (fun r s' => r = .ok (.ret (.bool true)) ∧ OldK s.heap s'.heap ∧ s'.os = s.os ∧ AllBare s'.gens) s := by
    intro H hO hS hok hA
    have isL : ∀ {b : Addr} {o : Obj} {u : HO}, s.heap.get? b = some o → H b = some u →
        o = { cls := .type "list", data := .seq vs.toArray } := by
      intro b o u e q
      obtain rfl := (hA b u q).1
      exact Option.some.inj (e.symm.trans ha)
    have up : ∀ {b : Addr} {o : Obj} {es : Array DictEntry} {n : Nat}, s.heap.get? b = some o →
        o.data = .dict es n → (hidT s.heap H).get? b = some o := by
      intro b o es n e d
      refine hidT_get e ?_
      cases q : H b with
      | none => rfl
      | some u => rw [isL e q] at d; cases d
    have upN : ∀ {b : Addr} {m : Str → Option Value}, s.heap.Ns b m → (hidT s.heap H).Ns b m := by
      rintro b m ⟨o, es, n, e, d, r⟩
      exact ⟨o, es, n, up e d, d, r⟩
    have KH : K.In (hidT s.heap H) := by
      intro b o e
      refine hidT_get (KX b o e) ?_
      cases q : H b with
      | none => rfl
      | some u =>
        obtain ⟨rfl, z⟩ := hA b u q
        rw [z] at e; cases e
    have M : Mod K mg (hidT s.heap H) := by
      refine ⟨KH, upN h1, ⟨mb, upN h2, h3⟩, ?_⟩
      obtain ⟨mc, l1, l2⟩ := h4
      exact ⟨mc, upN l1, l2⟩
    have e0 : Env0 P w K mg (hidT s.heap H) callerA [] s H :=
      { frames := rfl, mod := M, bs := fun b o e => of_hidT e, bsz := Nat.le_of_eq (hidT_size _ _)
        funs := trivial, frf := fun b z => absurd z (List.not_mem_nil), hok := hok, bare := .of_eq h5 }
    have run := (F _ KH (upN h1)).run callerA [] s H ⟨[.ref a], []⟩ [.ref a] [.ref a] _ _
      rfl hr e0 (hb s (.ref a)) (.cons rfl .nil) (hsp H hO hS)
    refine codeAny_mono run ?_
    intro r s' h
    match r, h with
    | .error e, h => exact (hCX H e s' h).elim
    | .ok .next, h => exact h.elim
    | .ok .brk, h => exact h.elim
    | .ok .cont, h => exact h.elim
    | .ok (.ret u), h =>
      obtain ⟨v, H', os, bare, un, hok', r', q⟩ := h
      obtain rfl : v = .bl true := q
      obtain rfl : u = Value.bool true := r'
      refine ⟨rfl, OldK.of_keep ?_, os, bare⟩
      intro b o e
      cases q : H b with
      | none => exact un.keep b o e q (fun z => absurd z (List.not_mem_nil)) (List.not_mem_nil)
      | some u =>
        rcases hO b with z | ⟨ob, xs, z⟩
        · rw [q] at z; cases z
        · obtain ⟨g1, _⟩ := hok b _ z
          obtain ⟨g2, _⟩ := hok' b _ (un.frzs b ob _ z)
          rw [e] at g1; cases g1
          exact g2
  cases hk : K.lookup a with
  | some o =>
    obtain rfl := Option.some.inj ((KX a o hk).symm.trans ha)
    refine main (fun _ => none) (fun _ => Or.inl rfl) (Or.inr ?_) (fun b u z => ?_) fun b u z => ?_
    · exact ⟨_, vs.toArray, _, hk, rfl, rfl, rfl, by rw [List.size_toArray, hi.length]; exact hl, by simpa using rv⟩
    · cases (show (none : Option HO) = some u from z)
    · cases (show (none : Option HO) = some u from z)
  | none =>
    refine main (only1 a { cls := .type "list", data := .seq vs.toArray } (.lst (ns.map V.int))) (fun b => ?_)
      (Or.inl (Or.inr ⟨_, only1_at⟩)) (fun b u z => ?_) fun b u z => ?_
    · by_cases e : b = a
      · subst e; exact Or.inr ⟨_, _, only1_at⟩
      · exact Or.inl (only1_ne e)
    · by_cases e : b = a
      · subst e
        obtain rfl := Option.some.inj (only1_at.symm.trans z)
        exact ⟨ha, by rw [List.length_map]; exact hl, vs, _, rv, ha⟩
      · rw [only1_ne e] at z; cases z
    · by_cases e : b = a
      · exact ⟨e, hk⟩
      · rw [only1_ne e] at z; cases z
end

theorem walkG {l : PySem.W.OpenLaw} {n k : Nat} {q : Program} {loose : List Str}
    {XP : (Str → Option Value) → Heap → Prop} {YP : World → Heap → Prop} {d : DefRec} {K : Params → PySem.W.Frag}
    {CX : World → CXT} {sp : World → Sp} {x : Str} (hn : l.most = some n) (hn2 : n ≤ sizeLine)
    (hdf : d.params.defaults = []) (hr : Room k callerA) (hY : ∀ (w : World) (h : Heap), YP w h → (K w.params).In h)
    (F : ∀ (w : World) (mg : Str → Option Value) (fa : Addr) (h : Heap), (K w.params).In h → h.Ns mainGlobals mg →
      mg d.name = some (.ref fa) → ∃ fd : FuncData, (∀ (s : Shared) (u : Value), BindsTo s fd ⟨[u], []⟩ [(x, u)]) ∧
        ∀ base : Heap, (K w.params).In base → base.Ns mainGlobals mg →
          FnG l.prog w (K w.params) mg base (CX w) k fa fd [x] (sp w))
    (hsp : ∀ (w : World) (H : Hp) (a : Addr) (ns : List Int), ns.length ≤ n → Only H →
      SqL (K w.params) H a (ns.map V.int) → sp w [.ref a] H (fun v _ => v = .bl true) fun _ _ _ => False)
    (hCX : ∀ (w : World) (H : Hp) (s : Shared) (e : Value) (s' : Shared),
      CX w [] H s (fun _ _ _ => False) e s' → False) :
    PySem.W.WalkO q loose XP YP l.row.toRowW d [] (fun f vs => PySem.call f vs) := by
  refine Att.attach_call hn hdf ?_
  intro w s₀ s₁ mg mb fa o pm cd doc a vs ns G Y ho hd hcd hmg hobj hints hlen hg
  have KX := hY w _ Y
  obtain ⟨fd, hb, hF⟩ := F w mg fa _ KX G.T.g hmg
  exact callG KX G.T.g G.T.b G.T.builtins G.T.nolimit hg hobj hints
    (Nat.le_trans hlen hn2) hr hF hb (fun H hO hS => hsp w H a ns hlen hO hS) fun H e s' => hCX w H s₁ e s'
end My
set_option Elab.async false
set_option maxRecDepth 100000
set_option maxHeartbeats 4000000
namespace My
open PySem PySem.Spec PyProof.Rows L2


def flatD : V → Option PyData
  | .non => some .none
  | .bl b => some (.bool b)
  | .int i => some (.int i)
  | .str x => some (.str x)
  | _ => none
def keyD : Key → PyData
  | .inl i => .int i
  | .inr x => .str x
inductive FlatKv : List (Key × V) → List (PyData × PyData) → Prop
  | nil : FlatKv [] []
  | cons {k : Key} {v : V} {d : PyData} {r : List (Key × V)} {ds : List (PyData × PyData)} :
      flatD v = some d → FlatKv r ds → FlatKv ((k, v) :: r) ((keyD k, d) :: ds)
inductive Dx (K : PySem.W.Frag) (H : Hp) : V → PyData → Prop
  | of {v : V} {d : PyData} : Dp K H v d → Dx K H v d
  | dict {a : Addr} {kvs : List (Key × V)} {ds : List (PyData × PyData)} :
      H a = some (.dK kvs) → FlatKv kvs ds → Dx K H (.ref a) (.dict ds)

theorem same_seqT {K : PySem.W.Frag} {H H' : Hp} {a : Addr} {xs : List V} (s : Same H H') (h : SqT K H a xs) : SqT K H' a xs := by
  rcases h with (h | ⟨o, h⟩) | h
  · exact Or.inl (Or.inl (s _ _ h))
  · exact Or.inl (Or.inr ⟨o, s _ _ h⟩)
  · exact Or.inr h
mutual
theorem dp_same {K : PySem.W.Frag} {H H' : Hp} (s : Same H H') : ∀ (d : PyData) (v : V), Dp K H v d → Dp K H' v d
  | .none, _, h => by cases h; exact .non
  | .bool b, _, h => by cases h; exact .bl b
  | .int i, _, h => by cases h; exact .int i
  | .str x, _, h => by cases h; exact .str x
  | .list ds, _, h => by
    cases h with
    | lst hs ha => exact .lst (s.seq hs) (dpAll_same s ds _ ha)
  | .tuple ds, _, h => by
    cases h with
    | tup hs ha =>
      refine .tup ?_ (dpAll_same s ds _ ha)
      exact same_seqT s hs
  | .dict _, _, h => by cases h
theorem dpAll_same {K : PySem.W.Frag} {H H' : Hp} (s : Same H H') : ∀ (ds : List PyData) (vs : List V), DpAll K H vs ds → DpAll K H' vs ds
  | [], _, h => by cases h; exact .nil
  | d :: ds, _, h => by
    cases h with
    | cons h1 h2 => exact .cons (dp_same s d _ h1) (dpAll_same s ds _ h2)
end
theorem Dx.same {K : PySem.W.Frag} {H H' : Hp} {v : V} {d : PyData} (h : Dx K H v d) (s : Same H H') : Dx K H' v d := by
  cases h with
  | of h => exact .of (dp_same s _ _ h)
  | dict h f => exact .dict (s _ _ h) f

section
variable {X : Cx} {pins : List (Addr × Obj)} {σ : L2.St} {H : Hp} {s : Shared}
theorem flat_reads {h : Heap} {v : V} {d : PyData} {u : Value} (e : flatD v = some d) (r : RelV v u) : Reads h u d [] := by
  cases v with
  | non => cases e; cases r; exact .none
  | bl b => cases e; cases r; exact .bool b
  | int i => cases e; obtain ⟨t, rfl⟩ := r; exact .int i t
  | str x => cases e; obtain ⟨t, rfl⟩ := r; exact .str x t
  | byt b => cases e
  | flt b => cases e
  | ref a => cases e
  | ty n => cases e
theorem key_reads {h : Heap} {prog : Program} {w : World} {k : Key} {u : Value} (e : (mixKind prog w).is k u = true) : Reads h u (keyD k) [] := by
  rw [mixKind_is] at e
  rcases keyIs_shape e with ⟨i, t, rfl, rfl⟩ | ⟨x, t, rfl, rfl⟩
  · exact .int i t
  · exact .str x t
theorem readsAll_flat {h : Heap} {prog : Program} {w : World} : ∀ {es : List DictEntry} {vs : List (Key × Value)}
    {kvs : List (Key × V)} {ds : List (PyData × PyData)}, Pairs (mixKind prog w) es vs → KV kvs vs → FlatKv kvs ds →
    ReadsAll h (es.map (·.key)) (ds.map (·.1)) [] ∧ ReadsAll h (es.map (·.val)) (ds.map (·.2)) []
  | _, _, _, _, .nil, r, f => by
    cases r; cases f
    exact ⟨.nil, .nil⟩
  | _, _, _, _, .cons h1 h2 p, r, f => by
    cases r with
    | cons r1 r2 =>
      cases f with
      | cons f1 f2 =>
        obtain ⟨z1, z2⟩ := readsAll_flat (h := h) p r2 f2
        obtain ⟨e1, e2⟩ := r1
        rw [← e1] at h1
        rw [← h2] at e2
        exact ⟨.cons (as := []) (bs := []) (key_reads h1) z1, .cons (as := []) (bs := []) (flat_reads f1 e2) z2⟩
theorem dp_noDict {K : PySem.W.Frag} {H : Hp} : ∀ (d : PyData) (v : V), Dp K H v d → d.hasDict = false
  | .none, _, _ => by simp only [PyData.hasDict]
  | .bool _, _, _ => by simp only [PyData.hasDict]
  | .int _, _, _ => by simp only [PyData.hasDict]
  | .str _, _, _ => by simp only [PyData.hasDict]
  | .list ds, _, h => by
    cases h with
    | lst hs ha => simp only [PyData.hasDict]; exact all ds _ ha
  | .tuple ds, _, h => by
    cases h with
    | tup hs ha => simp only [PyData.hasDict]; exact all ds _ ha
  | .dict _, _, h => by cases h
where all {K : PySem.W.Frag} {H : Hp} : ∀ (ds : List PyData) (vs : List V), DpAll K H vs ds → PyData.hasDictAll ds = false
  | [], _, _ => by simp only [PyData.hasDictAll]
  | d :: ds, _, h => by
    cases h with
    | cons h1 h2 => simp only [PyData.hasDictAll, dp_noDict d _ h1, all ds _ h2, Bool.or_self]

def rRepr (K : PySem.W.Frag) : List V → Hp → VK → Prop := fun xs H Q => ∃ x d, xs = [x] ∧ Dx K H x d ∧
  d.showable = true ∧ d.depth ≤ 60 ∧ d.shown.length ≤ sizeLine ∧ Q (.str d.shown) H
theorem call_repr (g : X.A.guards = some []) (hu : X.A.units + 64 < cLine) : CallR X (.builtin "repr") (rRepr X.K) := by
  intro pins s σ H xs us Q I r h
  obtain ⟨x, d, rfl, hx, hs, hd, hz, q⟩ := h
  obtain ⟨u, rfl, ru⟩ := vals1 r
  have fin : ∀ h' t tk, (∀ b o, s.heap.get? b = some o → h'.get? b = some o) →
      EP X pins σ Q (.str d.shown t) { s with heap := h', toks := tk } :=
    fun h' t tk k => ⟨.str d.shown, H, I.kept k, ⟨t, rfl⟩, q⟩
  have ref : ∀ {a : Addr} {as : List Addr}, Reads s.heap (.ref a) d as → (d.hasDict = true → sysModules ∉ as) →
      wpAny (model X.prog X.w) X.A (call (.builtin "repr") [.ref a]) (EP X pins σ Q) X.xe s := by
    intro a as rd nm
    exact repr_of_reads' rd hs nm g (by omega) (fun _ _ e => e) fin hz
  cases hx with
  | of hp =>
    have nd := dp_noDict d x hp
    obtain ⟨as, rd⟩ := Dp.reads I d x u hp ru
    cases hp with
    | non => cases ru; exact PySem.P.repr_of_none (by simpa [PyData.shown] using fin s.heap s.toks (s.toks + 1) fun _ _ e => e)
    | bl b => cases ru; exact PySem.P.repr_of_bool (by simpa [PyData.shown] using fin s.heap s.toks (s.toks + 1) fun _ _ e => e)
    | int i =>
      obtain ⟨t, rfl⟩ := ru
      exact PySem.P.repr_of_int (by simpa [PyData.showable] using hs) (by simpa [PyData.shown] using fin s.heap s.toks (s.toks + 1) fun _ _ e => e)
    | str y =>
      obtain ⟨t, rfl⟩ := ru
      exact PySem.P.repr_of_str (by simpa [PyData.shown] using fin s.heap s.toks (s.toks + 1) fun _ _ e => e) (by simpa [PyData.shown] using hz)
    | lst h1 h2 => cases ru; exact ref rd fun z => by rw [nd] at z; cases z
    | tup h1 h2 => cases ru; exact ref rd fun z => by rw [nd] at z; cases z
  | @dict a kvs ds ha f =>
    cases ru
    obtain ⟨_, ne, vs, kv, o, es, ep, e1, e2, e3, _, p, _⟩ := I.hok a _ ha
    obtain ⟨z1, z2⟩ := readsAll_flat (h := s.heap) p kv f
    refine ref (Reads.dict e1 e2.1 e3 z1 z2) fun _ m => ?_
    have m2 : sysModules ∈ [a] := by simpa using m
    rw [List.mem_singleton] at m2
    subst m2
    simp at ne
end


def repS (x : Str) (n : Nat) : Str := ⟨(List.replicate n x.cps).foldl (· ++ ·) #[]⟩
theorem repS_one (x : Str) : repS x 1 = x := by
  unfold repS
  simp
theorem repFold : ∀ (n : Nat) (x a : Array Nat), ((List.replicate n x).foldl (· ++ ·) a).size = a.size + n * x.size
  | 0, x, a => by simp
  | n + 1, x, a => by
    rw [List.replicate_succ, List.foldl_cons, repFold n x (a ++ x), Array.size_append, Nat.succ_mul]
    omega
theorem repS_len (x : Str) (n : Nat) : (repS x n).length = n * x.length := by
  show ((List.replicate n x.cps).foldl (· ++ ·) #[]).size = n * x.cps.size
  rw [repFold]
  simp
theorem op_mul_str {X : Cx} : OpR X (binaryOp .Mult) (fun x y H Q => ∃ z n, x = .str z ∧ y = .int n ∧ 1 ≤ n ∧ n ≤ 1000 ∧
    0 < z.length ∧ z.length ≤ 1000 ∧ Q (.str (repS z n.toNat)) H) := by
  intro pins s σ H x y v u Q I rx ry h
  obtain ⟨z, n, rfl, rfl, h1, h2, h3, h4, q⟩ := h
  obtain ⟨t, rfl⟩ := rx
  obtain ⟨t', rfl⟩ := ry
  refine PySem.P.mul_str ?_ ?_ ?_ ?_
  · have a1 : ¬ n < -(2 ^ 63 : Int) := by omega
    have a2 : ¬ n ≥ 2 ^ 63 := by omega
    rw [decide_eq_false a1, decide_eq_false a2]; rfl
  · intro _ _ hgt
    have : (1000 : Int) ≤ (2 ^ 63 - 1) / n := (Int.le_ediv_iff_mul_le (by omega)).mpr (by
      have := Int.mul_le_mul_of_nonneg_left h2 (show (0 : Int) ≤ 1000 by decide)
      omega)
    omega
  · intro _ _
    unfold Builtin.Str.tooLong
    refine decide_eq_false ?_
    have a : z.length * n.toNat ≤ 1000 * 1000 := Nat.mul_le_mul h4 (by omega)
    have b : (1000 * 1000 : Nat) ≤ sizeLine := by decide
    omega
  · rw [if_neg (by omega)]
    by_cases e : n = 1
    · subst e
      rw [if_pos (by simp)]
      exact ⟨.str z, H, I, ⟨t, rfl⟩, by rw [← repS_one z]; exact q⟩
    · rw [if_neg (by simp; omega)]
      have sz : (repS z n.toNat).length ≤ sizeLine := by
        have a : (repS z n.toNat).length = n.toNat * z.length := repS_len z n.toNat
        have b : n.toNat * z.length ≤ 1000 * 1000 := Nat.mul_le_mul (by omega) h4
        have c : (1000 * 1000 : Nat) ≤ sizeLine := by decide
        omega
      exact ⟨sz, .str (repS z n.toNat), H, I.tok _, ⟨_, rfl⟩, q⟩
end My
set_option Elab.async false
set_option maxRecDepth 100000
set_option maxHeartbeats 4000000
namespace My
open PySem PySem.Spec PyProof.Rows L2

def Fn (P : Program) (w : World) (K : PySem.W.Frag) (mg : Str → Option Value) (base : Heap) (k : Nat) (x : Str) (ps : List Str) (sp : Sp) : Prop :=
  ∃ f fd, mg x = some (.ref f) ∧ FnOk P w K mg base CX0 k f fd ps sp ∧ PySem.W.keepIn K (.ref f) = true ∧ Binds K fd ps []
def FnGr (P : Program) (w : World) (K : PySem.W.Frag) (mg : Str → Option Value) (base : Heap) (k : Nat) (x : Str) (ps : List Str) (sp : Sp) : Prop :=
  ∃ f fd, mg x = some (.ref f) ∧ FnG P w K mg base CX0 k f fd ps sp ∧ PySem.W.keepIn K (.ref f) = true ∧ Binds K fd ps []
section
variable {X : Cx} {k : Nat} {ps : List Str} {sp : Sp} {x : Str} {p pos : Pos} {e : Expr} {es : List Expr} {t : TA}
theorem pe_fn (D : Fn X.prog X.w X.K X.mg X.base k x ps sp) (hr : Room k X.A) (hg : Gl X x) (ha : PA X (e :: es) t)
    (hdb : (x == ("__debug__" : Str)) = false := by decide)
    (he : starEach (e :: es) X.env = (false, eval e X.env) :: starEach es X.env := by rfl)
    (hpl : (backTo pos (starEach es X.env)).any (·.1) = false := by rfl) :
    PE X (.Call (.Name x p) (e :: es) [] pos) (tCall sp [] E0 t) := by
  obtain ⟨f, fd, hm, F, kp, b⟩ := D
  exact pe_call F hr hg hm kp b .nil pass0 ha hdb he hpl
theorem pe_fnG (D : FnGr X.prog X.w X.K X.mg X.base k x ps sp) (g : X.A.guards = some []) (hr : Room k X.A) (hg : Gl X x) (ha : PA X (e :: es) t)
    (hdb : (x == ("__debug__" : Str)) = false := by decide)
    (he : starEach (e :: es) X.env = (false, eval e X.env) :: starEach es X.env := by rfl)
    (hpl : (backTo pos (starEach es X.env)).any (·.1) = false := by rfl) :
    PE X (.Call (.Name x p) (e :: es) [] pos) (tCall sp [] E0 t) := by
  obtain ⟨f, fd, hm, F, kp, b⟩ := D
  exact pe_callG F g hr hg hm kp b .nil pass0 ha hdb he hpl
end

def Bag (H : Hp) (a : Addr) (n : Nat) : Prop := ∃ x y z : Int, H a = some (.lst [.int x, .int y, .int z]) ∧ 0 ≤ y ∧ y < 2305843009213693951 ∧ 0 ≤ z ∧ z ≤ n

def But (a : Addr) (H H' : Hp) : Prop := ∀ b, b ≠ a → H' b = H b
theorem But.refl (a : Addr) (H : Hp) : But a H H := fun _ _ => rfl
theorem But.upd {a : Addr} {H : Hp} {o : HO} : But a H (upd H a o) := fun _ h => upd_ne h
theorem But.trans {a : Addr} {H H1 H2 : Hp} (x : But a H H1) (y : But a H1 H2) : But a H H2 := fun b h => (y b h).trans (x b h)
def spBag (K : PySem.W.Frag) : Sp := fun vs H Q _ => ∃ (p : Addr) (ns : List Int) (i : Nat), vs = [.ref p, .int (i : Int)] ∧ SqL K H p (ns.map V.int) ∧ i < 64 ∧
  ∀ (a : Addr) (o : HO), H a = none → Bag (upd H a o) a 0 → Q (.ref a) (upd H a o)
def spTake : Sp := fun vs H Q _ => ∃ (a : Addr) (m : Int) (n : Nat), vs = [.ref a, .int m] ∧ Bag H a n ∧ n < 1000000 ∧ 0 < m ∧ m < 1073741824 ∧
  ∀ (i : Int) (H' : Hp), 0 ≤ i → i < m → But a H H' → Bag H' a (n + 1) → Q (.int i) H'
end My
set_option Elab.async false
set_option maxRecDepth 100000
set_option maxHeartbeats 4000000
namespace My
open PySem PySem.Spec PyProof.Rows L2

theorem same_new {H : Hp} {p : Addr} {o : HO} (h : H p = none) : Same H (upd H p o) := fun _ _ e => (upd_ne (ne_of_none e h)).trans e
theorem new_same {H H1 : Hp} {p : Addr} {o : HO} (e : upd H p o = H1) (h : H p = none) : Same H H1 := e ▸ same_new h
theorem new_at {H H1 : Hp} {p : Addr} {o : HO} (e : upd H p o = H1) : H1 p = some o := e ▸ upd_same
theorem new_ne {H H1 : Hp} {p b : Addr} {o : HO} (e : upd H p o = H1) (n : b ≠ p) : H1 b = H b := e ▸ upd_ne n

def Ext (a : Addr) (H H' : Hp) : Prop := ∀ b o, b ≠ a → H b = some o → H' b = some o
theorem Ext.of {a : Addr} {H H' : Hp} (s : Same H H') : Ext a H H' := fun b o _ e => s b o e
theorem Ext.but {a : Addr} {H H' : Hp} (s : But a H H') : Ext a H H' := fun b o n e => (s b n).trans e
theorem Ext.trans {a : Addr} {H H1 H2 : Hp} (x : Ext a H H1) (y : Ext a H1 H2) : Ext a H H2 := fun b o n e => y b o n (x b o n e)

def del (a : Addr) (H : Hp) : Hp := fun b => if b = a then none else H b
theorem del_but {a : Addr} {H H' : Hp} (h : But a H H') : del a H' = del a H := by
  funext b
  unfold del
  by_cases e : b = a
  · rw [if_pos e, if_pos e]
  · rw [if_neg e, if_neg e, h b e]
theorem del_same {a : Addr} {H H' : Hp} (h : Same H H') : Same (del a H) (del a H') := by
  intro b o e
  unfold del at e ⊢
  by_cases q : b = a
  · rw [if_pos q] at e; cases e
  · rw [if_neg q] at e ⊢; exact h b o e
theorem del_ext {a : Addr} {H H' : Hp} (h : Ext a H H') : Same (del a H) (del a H') := by
  intro b o e
  unfold del at e ⊢
  by_cases q : b = a
  · rw [if_pos q] at e; cases e
  · rw [if_neg q] at e ⊢; exact h b o q e
theorem del_sub {a : Addr} {H : Hp} : Same (del a H) H := by
  intro b o e
  unfold del at e
  by_cases q : b = a
  · rw [if_pos q] at e; cases e
  · rw [if_neg q] at e; exact e
theorem del_at {a b : Addr} {H : Hp} (h : b ≠ a) : del a H b = H b := if_neg h
theorem del_none {a b : Addr} {H : Hp} (h : H b = none) : del a H b = none := by
  unfold del
  by_cases q : b = a
  · rw [if_pos q]
  · rw [if_neg q, h]
theorem Bag.ne {H : Hp} {a b : Addr} {n : Nat} (h : Bag H a n) (e : H b = none) : b ≠ a := by
  rintro rfl
  obtain ⟨x, y, z, h, _⟩ := h
  rw [h] at e; cases e
theorem Bag.same {H H' : Hp} {a : Addr} {n : Nat} (h : Bag H a n) (s : Same H H') : Bag H' a n := by
  obtain ⟨x, y, z, h, r⟩ := h
  exact ⟨x, y, z, s _ _ h, r⟩
theorem Bag.mono {H : Hp} {a : Addr} {n m : Nat} (h : Bag H a n) (l : n ≤ m) : Bag H a m := by
  obtain ⟨x, y, z, h, r1, r2, r3, r4⟩ := h
  exact ⟨x, y, z, h, r1, r2, r3, by omega⟩

theorem at_all {xs : List V} {i : Int} {Pr : V → Prop} (h0 : 0 ≤ i) (h1 : i < xs.length) (h : ∀ v, v ∈ xs → Pr v) : ∃ v, atI xs i = some v ∧ Pr v := by
  have hlt : i.toNat < xs.length := by omega
  refine ⟨xs[i.toNat], ?_, h _ (List.getElem_mem hlt)⟩
  unfold atI ixN
  rw [if_pos h0, if_pos h1]
  simp [hlt]

theorem lc_text {x : Str} {g : TG} {tt : TT} {te : TE} {vs : List Nat} {σ : L2.St} {H1 : Hp} {D : Addr} {Qd : Hp → Prop}
    (Pv : Nat → Hp → Prop) (h0 : Pv 0 (upd H1 D (.lst [])))
    (hs : ∀ i c H, x.cps[i]? = some c → Pv i H → g (.str ⟨#[c]⟩) (wipe σ vs) H fun σ2 H2 =>
      wipe σ2 vs = wipe σ vs ∧ tt σ2 H2 fun b H3 => if b = true then te σ2 H3 fun y H4 =>
        ∃ acc, H4 D = some (.lst acc) ∧ acc.length < sizeLine ∧ Pv (i + 1) (upd H4 D (.lst (acc ++ [y])))
      else Pv (i + 1) H3)
    (hd : ∀ H, Pv x.cps.size H → Qd H) :
    ∃ W : Nat → Nat → Hp → Prop, (∃ m, W 0 m (upd H1 D (.lst []))) ∧ ∀ i m H, W i m H →
      ((Its x).stop i H ∧ Qd H) ∨ ((Its x).go i H ∧ ∃ Nx : Hp → Prop, (∀ H', Nx H' → ∃ m', m' < m ∧ W (i + 1) m' H') ∧
        ∀ v H', (Its x).yld i H v H' → g v (wipe σ vs) H' fun σ2 H2 => wipe σ2 vs = wipe σ vs ∧ tt σ2 H2 fun b H3 =>
          if b = true then te σ2 H3 fun y H4 => ∃ acc, H4 D = some (.lst acc) ∧ acc.length < sizeLine ∧
            Nx (upd H4 D (.lst (acc ++ [y]))) else Nx H3) := by
  refine ⟨fun i m H => i ≤ x.cps.size ∧ m + i = x.cps.size ∧ Pv i H, ⟨x.cps.size, Nat.zero_le _, rfl, h0⟩, ?_⟩
  rintro i m H ⟨hi, hm, p⟩
  by_cases l : i < x.cps.size
  · right
    refine ⟨l, Pv (i + 1), fun H' z => ⟨m - 1, by omega, by omega, by omega, z⟩, ?_⟩
    rintro v H' ⟨rfl, c, hc, rfl⟩
    exact hs i c H' hc p
  · left
    obtain rfl : i = x.cps.size := by omega
    exact ⟨Nat.le_refl _, hd H p⟩

def tyD : PyData → String
  | .none => "NoneType"
  | .bool _ => "bool"
  | .int _ => "int"
  | .str _ => "str"
  | .list _ => "list"
  | .tuple _ => "tuple"
  | .dict _ => "dict"
theorem ty_of {K : PySem.W.Frag} {H : Hp} {v : V} {d : PyData} (h : Dx K H v d) : TyX K H v (.type (tyD d)) := by
  cases h with
  | of h =>
    cases h with
    | non => exact .base .non
    | bl b => exact .base (.bl b)
    | int i => exact .base (.int i)
    | str x => exact .base (.str x)
    | lst hs _ =>
      rcases hs with (h | ⟨o, h⟩) | ⟨o, its, n, h, c, _⟩
      · exact .base (.lst h)
      · exact .base (.frz h)
      · exact .kList h c
    | tup hs _ =>
      rcases hs with (h | ⟨o, h⟩) | ⟨o, its, n, h, c, _⟩
      · exact .base (.tup h)
      · exact .fTuple h
      · exact .kTuple h c
  | dict h f => exact .base (.dK h)
def isD (T : String) (d : PyData) : Bool := (kitB (tyD d) T).getD false
theorem kit_all : ∀ S ∈ ["NoneType", "bool", "int", "str", "list", "tuple", "dict"], ∀ T ∈ ["int", "bool", "str", "tuple", "list", "dict"],
    (kitB S T).isSome = true := by decide +kernel
theorem isD_some {T : String} {d : PyData} (h : T = "int" ∨ T = "bool" ∨ T = "str" ∨ T = "tuple" ∨ T = "list" ∨ T = "dict") : kitB (tyD d) T = some (isD T d) := by
  have e : (kitB (tyD d) T).isSome = true := by
    refine kit_all (tyD d) ?_ T ?_
    · cases d <;> simp [tyD]
    · simpa using h
  unfold isD
  cases q : kitB (tyD d) T with
  | none => rw [q] at e; cases e
  | some b => rfl
theorem isi_of {K : PySem.W.Frag} {H : Hp} {v : V} {d : PyData} {T : String} {Q : VK} (h : Dx K H v d)
    (hT : T = "int" ∨ T = "bool" ∨ T = "str" ∨ T = "tuple" ∨ T = "list" ∨ T = "dict") (q : Q (.bl (isD T d)) H) : rIsi K [v, .ty T] H Q :=
  ⟨v, .ty T, _, _, _, rfl, .ty T, ty_of h, kit_ty (isD_some hT), q⟩
def isS (S T : String) : Bool := (kitB S T).getD false
theorem isD_int (d : PyData) : isD "int" d = (match d with | .int _ => true | .bool _ => true | _ => false) := by
  cases d with
  | none => exact (by decide +kernel : isS "NoneType" "int" = false)
  | bool b => exact (by decide +kernel : isS "bool" "int" = true)
  | int i => exact (by decide +kernel : isS "int" "int" = true)
  | str x => exact (by decide +kernel : isS "str" "int" = false)
  | list xs => exact (by decide +kernel : isS "list" "int" = false)
  | tuple xs => exact (by decide +kernel : isS "tuple" "int" = false)
  | dict kvs => exact (by decide +kernel : isS "dict" "int" = false)
theorem isD_bool (d : PyData) : isD "bool" d = (match d with | .bool _ => true | _ => false) := by
  cases d with
  | none => exact (by decide +kernel : isS "NoneType" "bool" = false)
  | bool b => exact (by decide +kernel : isS "bool" "bool" = true)
  | int i => exact (by decide +kernel : isS "int" "bool" = false)
  | str x => exact (by decide +kernel : isS "str" "bool" = false)
  | list xs => exact (by decide +kernel : isS "list" "bool" = false)
  | tuple xs => exact (by decide +kernel : isS "tuple" "bool" = false)
  | dict kvs => exact (by decide +kernel : isS "dict" "bool" = false)
theorem isD_str (d : PyData) : isD "str" d = (match d with | .str _ => true | _ => false) := by
  cases d with
  | none => exact (by decide +kernel : isS "NoneType" "str" = false)
  | bool b => exact (by decide +kernel : isS "bool" "str" = false)
  | int i => exact (by decide +kernel : isS "int" "str" = false)
  | str x => exact (by decide +kernel : isS "str" "str" = true)
  | list xs => exact (by decide +kernel : isS "list" "str" = false)
  | tuple xs => exact (by decide +kernel : isS "tuple" "str" = false)
  | dict kvs => exact (by decide +kernel : isS "dict" "str" = false)
theorem isD_tuple (d : PyData) : isD "tuple" d = (match d with | .tuple _ => true | _ => false) := by
  cases d with
  | none => exact (by decide +kernel : isS "NoneType" "tuple" = false)
  | bool b => exact (by decide +kernel : isS "bool" "tuple" = false)
  | int i => exact (by decide +kernel : isS "int" "tuple" = false)
  | str x => exact (by decide +kernel : isS "str" "tuple" = false)
  | list xs => exact (by decide +kernel : isS "list" "tuple" = false)
  | tuple xs => exact (by decide +kernel : isS "tuple" "tuple" = true)
  | dict kvs => exact (by decide +kernel : isS "dict" "tuple" = false)
theorem isD_list (d : PyData) : isD "list" d = (match d with | .list _ => true | _ => false) := by
  cases d with
  | none => exact (by decide +kernel : isS "NoneType" "list" = false)
  | bool b => exact (by decide +kernel : isS "bool" "list" = false)
  | int i => exact (by decide +kernel : isS "int" "list" = false)
  | str x => exact (by decide +kernel : isS "str" "list" = false)
  | list xs => exact (by decide +kernel : isS "list" "list" = true)
  | tuple xs => exact (by decide +kernel : isS "tuple" "list" = false)
  | dict kvs => exact (by decide +kernel : isS "dict" "list" = false)
end My
set_option Elab.async false
set_option linter.all false
set_option maxRecDepth 100000
set_option maxHeartbeats 4000000
namespace My
open PySem PySem.Spec PyProof.Rows L2
def top (i : Nat) : Stmt := PySem.Challenge.pw_equalunlike_k01_names_and_elements_known.main.body.getD i (.Pass ⟨0, 0, 0, 0⟩)
abbrev s_is_whole : Stmt := top 6
abbrev s_is_name : Stmt := top 7
abbrev s_is_key : Stmt := top 8
abbrev s_is_value : Stmt := top 9
abbrev s_is_element : Stmt := top 10
abbrev s_is_entry : Stmt := top 11
abbrev s_l_bag : Stmt := top 13
abbrev s_l_take : Stmt := top 14
abbrev s_l_word : Stmt := top 15
abbrev s_l_number : Stmt := top 16
abbrev s_l_thing : Stmt := top 17
abbrev s_l_is_whole : Stmt := top 18
abbrev s_l_is_name : Stmt := top 19
abbrev s_l_is_element : Stmt := top 20
abbrev s_l_is_entry : Stmt := top 21
abbrev s_law : Stmt := top 22
structure Txt (K : PySem.W.Frag) (mg : Str → Option Value) : Prop where
  n_abs : mg "abs" = none
  n_all : mg "all" = none
  n_bool : mg "bool" = none
  n_int : mg "int" = none
  n_isinstance : mg "isinstance" = none
  n_len : mg "len" = none
  n_max : mg "max" = none
  n_min : mg "min" = none
  n_range : mg "range" = none
  n_repr : mg "repr" = none
  n_str : mg "str" = none
  n_tuple : mg "tuple" = none
  g_LETTERS : ∃ t, mg "LETTERS" = some (.str "abcdefghijklmnopqrstuvwxyz" t)
  g_MOST_LETTERS : ∃ t, mg "MOST_LETTERS" = some (.int 4 t)
  g_RESERVED : ∃ r, mg "RESERVED" = some (.ref r) ∧ ∀ H, SqT K H r [.str "keys", .str "look", .str "self"]
  g_HIGHEST_KEY : ∃ t, mg "HIGHEST_KEY" = some (.int 999999 t)
  g_VALUE_LIMIT : ∃ t, mg "VALUE_LIMIT" = some (.int 10000000000000000000000000000000000000000 t)


def laid (d : PyData) : Prop := d.canLay0 = true ∨ ∃ kvs, d = .dict kvs
def sm (d : PyData) : Prop := d.weight ≤ 100000 ∧ laid d
def mWhole : PyData → Bool
  | .int _ => true
  | _ => false
def between (a b : Int) : PyData → Bool
  | .int i => decide (a ≤ i) && decide (i ≤ b)
  | _ => false
def mKey (d : PyData) : Bool := between 0 999999 d
def mVal (d : PyData) : Bool := between (1 - 10 ^ 40) (10 ^ 40 - 1) d
def abc : Str := "abcdefghijklmnopqrstuvwxyz"
def nameOk (x : Str) : Bool := decide (1 ≤ x.length ∧ x.length ≤ 4) && !(inV (.str x) [.str "keys", .str "look", .str "self"]) &&
  x.cps.toList.all fun c => decide (c ∈ abc.cps.toList)
def mName : PyData → Bool
  | .str x => nameOk x
  | _ => false
def mEl : PyData → Bool
  | .tuple [k, f] => mKey k && mName f
  | _ => false
def mEnt : PyData → Bool
  | .tuple [k, f, v] => mKey k && (mName f && mVal v)
  | _ => false

def spIs (K : PySem.W.Frag) (m : PyData → Bool) : Sp := fun vs H Q _ => ∃ v d, vs = [v] ∧ Dx K H v d ∧ sm d ∧ ∀ H', Same H H' → Q (.bl (m d)) H'
def spBetween (K : PySem.W.Frag) : Sp := fun vs H Q _ => ∃ v d a b, vs = [v, .int a, .int b] ∧ Dx K H v d ∧ Q (.bl (between a b d)) H
def okB (d : PyData) : Bool := d.showable && (d.leavesShort 100 && (decide (d.weight ≤ 1000) && (decide (d.depth ≤ 10) && d.canLay0)))
def okT (d : PyData) : Prop := d.showable = true ∧ d.leavesShort 100 = true ∧ d.weight ≤ 10000 ∧ d.depth ≤ 30 ∧ laid d
def okD (d : PyData) : Prop := d.showable = true ∧ d.leavesShort 100 = true ∧ d.weight ≤ 1000 ∧ d.depth ≤ 10
def spWord : Sp := fun vs H Q _ => ∃ (a : Addr) (n : Nat), vs = [.ref a] ∧ Bag H a n ∧ n < 10000 ∧
  ∀ (x : Str) (H' : Hp), okB (.str x) = true → Same (del a H) (del a H') → Bag H' a (n + 2) → Q (.str x) H'
def spNumber (K : PySem.W.Frag) : Sp := fun vs H Q _ => ∃ (a : Addr) (n : Nat), vs = [.ref a] ∧ Bag H a n ∧ n < 10000 ∧
  ∀ (v : V) (d : PyData) (H' : Hp), Dp K (del a H') v d → okB d = true → Same (del a H) (del a H') → Bag H' a (n + 2) → Q v H'
def spThing (K : PySem.W.Frag) : Sp := fun vs H Q _ => ∃ (a : Addr) (n : Nat), vs = [.ref a] ∧ Bag H a n ∧ n < 9000 ∧
  ∀ (v : V) (d : PyData) (H' : Hp), Dx K H' v d → okT d → Same (del a H) (del a H') → Bag H' a (n + 8) → Q v H'
def spLaw (K : PySem.W.Frag) : Sp := fun vs H Q _ => ∃ (a : Addr) (ns : List Int), vs = [.ref a] ∧ SqL K H a (ns.map V.int) ∧ ns.length ≤ 63 ∧ ∀ H', Q (.bl true) H'
theorem sqT_len {K : PySem.W.Frag} {H : Hp} : ∀ {vs : List V} {ds : List PyData}, DpAll K H vs ds → vs.length = ds.length
  | _, _, .nil => rfl
  | _, _, .cons _ r => by rw [List.length_cons, List.length_cons, sqT_len r]
theorem dx_tuple {K : PySem.W.Frag} {H : Hp} {v : V} {ds : List PyData} (h : Dx K H v (.tuple ds)) : ∃ a vs, v = .ref a ∧ SqT K H a vs ∧ DpAll K H vs ds := by
  cases h with
  | of h => cases h with | tup h1 h2 => exact ⟨_, _, rfl, h1, h2⟩
theorem dx_str {K : PySem.W.Frag} {H : Hp} {v : V} {x : Str} (h : Dx K H v (.str x)) : v = .str x := by
  cases h with
  | of h => cases h; rfl
theorem dx_int {K : PySem.W.Frag} {H : Hp} {v : V} {i : Int} (h : Dx K H v (.int i)) : v = .int i := by
  cases h with
  | of h => cases h; rfl
theorem rd_isi {K : PySem.W.Frag} {i : Nat} {σ : L2.St} {H : Hp} {v : V} {d : PyData} {T : String} {Q : VK} (hσ : σ[i]? = some (some v)) (hx : Dx K H v d)
    (hT : T = "int" ∨ T = "bool" ∨ T = "str" ∨ T = "tuple" ∨ T = "list" ∨ T = "dict") (q : Q (.bl (isD T d)) H) :
    tCB (rIsi K) (tCons (tVar i) (tCons (tC (.ty T)) tNil)) σ H Q := ⟨v, hσ, isi_of hx hT q⟩
theorem isNot (b : Bool) : (if (!b) = true then true else false) = !b := by cases b <;> rfl

theorem take_snoc {xs : Array Nat} {i c : Nat} (h : xs[i]? = some c) : xs.toList.take (i + 1) = xs.toList.take i ++ [c] := by
  rw [List.take_add_one]
  have e : xs.toList[i]? = some c := by rw [Array.getElem?_toList]; exact h
  rw [e]
  rfl
def inAbc (c : Nat) : Bool := decide (c ∈ abc.cps.toList)
theorem len_le {x : Str} (h : sm (.str x)) : x.length ≤ 100000 := h.1
theorem laid_str {x : Str} (h : laid (.str x)) : ∀ c ∈ x.cps.toList, c < 0x110000 := by
  rcases h with h | ⟨_, h⟩
  · intro c hc
    have h2 : x.cps.all (· < 0x110000) = true := h
    rw [Array.all_eq_true'] at h2
    simpa using h2 c (by simpa using hc)
  · cases h
theorem laid_tup {ds : List PyData} (h : laid (.tuple ds)) : ∀ d ∈ ds, laid d := by
  rcases h with h | ⟨_, h⟩
  · have h2 : PyData.canLayAll0 ds = true := h
    intro d hd
    left
    induction ds with
    | nil => cases hd
    | cons a r ih =>
      rw [PyData.canLayAll0, Bool.and_eq_true] at h2
      rcases List.mem_cons.mp hd with rfl | hd
      · exact h2.1
      · exact ih h2.2 h2.2 hd
  · cases h
theorem size_ok {n : Nat} (h : n ≤ 1000000) : n ≤ sizeLine := Nat.le_trans h (by decide)
theorem size_lt {n : Nat} (h : n ≤ 1000000) : n < sizeLine := Nat.lt_of_le_of_lt h (by decide)
theorem all_ids (l : List Nat) (p : Nat → Bool) : (l.map p).all id = l.all p := by
  induction l with
  | nil => rfl
  | cons a r ih => rw [List.map_cons, List.all_cons, List.all_cons, ih]; rfl

theorem inV_14 (n : Nat) : inV (.int n) [.int 1, .int 2, .int 3, .int 4] = decide (1 ≤ n ∧ n ≤ 4) := by
  match n with
  | 0 => rfl
  | 1 => rfl
  | 2 => rfl
  | 3 => rfl
  | 4 => rfl
  | k + 5 =>
    rw [decide_eq_false (by omega)]
    simp only [inV, eqV, List.any_cons, List.any_nil, Bool.or_false, Bool.or_eq_false_iff, beq_eq_false_iff_ne, ne_eq]
    omega
def chars (l : List Nat) : List PyData := l.map fun c => .str ⟨#[c]⟩
theorem dp_chars {K : PySem.W.Frag} {H : Hp} : ∀ l : List Nat, DpAll K H (l.map fun c => V.str ⟨#[c]⟩) (chars l)
  | [] => .nil
  | c :: r => .cons (.str _) (dp_chars r)
theorem lay_chars : ∀ l : List Nat, (∀ c ∈ l, c < 0x110000) → PyData.canLayAll0 (chars l) = true
  | [], _ => rfl
  | c :: r, h => by
    show (PyData.canLay0 (.str ⟨#[c]⟩) && PyData.canLayAll0 (chars r)) = true
    rw [lay_chars r fun x hx => h x (List.mem_cons_of_mem _ hx), Bool.and_true]
    show (#[c].all fun x => decide (x < 0x110000)) = true
    simpa using h c List.mem_cons_self
theorem deep_chars : ∀ l : List Nat, PyData.depthAll (chars l) = 0
  | [] => rfl
  | c :: r => by
    show max (PyData.depth (.str ⟨#[c]⟩)) (PyData.depthAll (chars r)) = 0
    rw [deep_chars r]
    rfl
theorem shaped_chars (l : List Nat) (h : ∀ c ∈ l, c < 0x110000) : SeqAt.shaped (.list (chars l)) = true := by
  show (PyData.canLayAll0 (chars l) && decide (PyData.depthAll (chars l) + 1 ≤ 64)) = true
  rw [lay_chars l h, deep_chars]
  rfl
theorem eqv_nil (l : List Nat) : PyData.eqv (.list (chars l)) (.list []) = l.isEmpty := by
  cases l with
  | nil => rfl
  | cons c r => rfl
theorem filter_empty (l : List Nat) (p : Nat → Bool) : (l.filter fun c => !p c).isEmpty = l.all p := by
  induction l with
  | nil => rfl
  | cons a r ih =>
    rw [List.filter_cons, List.all_cons]
    cases p a with
    | true => simpa using ih
    | false => rfl

theorem okD_of {d : PyData} (h : okB d = true) : okD d ∧ d.canLay0 = true := by
  unfold okB at h
  simp only [Bool.and_eq_true, decide_eq_true_eq] at h
  exact ⟨⟨h.1, h.2.1, h.2.2.1, h.2.2.2.1⟩, h.2.2.2.2⟩
def words : List Str := ["a", "z", "ab", "keyz", "key", "look", "keys", "self", "seld", "looks", "abcde", "", "A", "aB", "a1", "a b", "a\n", " a", "a_", "loo", "zzzz"]
theorem words_ok : words.all (fun x => okB (.str x)) = true := by decide +kernel
theorem xs_ok : ∀ n, n < 7 → okB (.str (repS "x" n)) = true := by decide +kernel
def nums : List V := [.int 0, .int 1, .int 999999, .int 1000000, .int (-1), .bl true, .bl false, .non, .str "1", .int (10 ^ Int.toNat 40 - 1), .int (1 - 10 ^ Int.toNat 40), .int 999998]
theorem nums_ok : nums.all (fun v => match flatD v with | some d => okB d | none => false) = true := by decide +kernel
theorem dp_flat {K : PySem.W.Frag} {H : Hp} {v : V} {d : PyData} (h : flatD v = some d) : Dp K H v d := by
  cases v with
  | non => cases h; exact .non
  | bl b => cases h; exact .bl b
  | int i => cases h; exact .int i
  | str x => cases h; exact .str x
  | byt b => cases h
  | flt b => cases h
  | ref a => cases h
  | ty n => cases h
theorem small_int {i : Int} (h0 : 0 ≤ i) (h1 : i < 1000000) : okB (.int i) = true := by
  unfold okB
  have a1 : i.natAbs < 10 ^ 12 := by omega
  have a2 : i.natAbs.log2 < 1920 := log2_small (by
    have : (1000000 : Nat) < 2 ^ 1920 := by decide
    omega)
  have a3 := PyData.shown_int_le a1
  have a4 : (PyData.int i).weight ≤ 1000 := by
    show (if i == 0 then 0 else i.natAbs.log2 + 1) ≤ 1000
    have : i.natAbs.log2 < 20 := by
      by_cases e : i.natAbs = 0
      · rw [e]; decide
      · exact (Nat.log2_lt e).mpr (by omega)
    split <;> omega
  have b1 : (PyData.int i).showable = true := by simp only [PyData.showable]; exact decide_eq_true a2
  have b2 : (PyData.int i).leavesShort 100 = true := by simp only [PyData.leavesShort]; exact decide_eq_true (by omega)
  rw [b1, b2, decide_eq_true a4]
  rfl

def okP (W D : Nat) (d : PyData) : Prop := d.showable = true ∧ d.leavesShort 100 = true ∧ d.weight ≤ W ∧ d.depth ≤ D ∧ d.canLay0 = true
theorem okP_of {d : PyData} (h : okB d = true) : okP 1000 10 d :=
  let ⟨⟨h1, h2, h3, h4⟩, h5⟩ := okD_of h
  ⟨h1, h2, h3, h4, h5⟩
theorem okP_all {W D : Nat} : ∀ {ds : List PyData}, (∀ d ∈ ds, okP W D d) → PyData.showableAll ds = true ∧ PyData.leavesShortAll 100 ds = true ∧
    PyData.weightAll ds ≤ ds.length * (W + 1) ∧ PyData.depthAll ds ≤ D ∧ PyData.canLayAll0 ds = true
  | [], _ => ⟨rfl, rfl, Nat.zero_le _, Nat.zero_le _, rfl⟩
  | d :: r, h => by
    obtain ⟨a1, a2, a3, a4, a5⟩ := h d List.mem_cons_self
    obtain ⟨b1, b2, b3, b4, b5⟩ := okP_all (W := W) (D := D) fun x hx => h x (List.mem_cons_of_mem _ hx)
    refine ⟨?_, ?_, ?_, ?_, ?_⟩
    · rw [PyData.showableAll, a1, b1]; rfl
    · rw [PyData.leavesShortAll, a2, b2]; rfl
    · rw [PyData.weightAll, List.length_cons, Nat.succ_mul]; omega
    · rw [PyData.depthAll]; exact Nat.max_le.mpr ⟨a4, b4⟩
    · rw [PyData.canLayAll0, a5, b5]; rfl
theorem okP_list {W D W' D' : Nat} {ds : List PyData} (h : ∀ d ∈ ds, okP W D d) (hw : ds.length * (W + 1) ≤ W') (hd : D + 1 ≤ D') : okP W' D' (.list ds) := by
  obtain ⟨b1, b2, b3, b4, b5⟩ := okP_all h
  refine ⟨?_, ?_, Nat.le_trans b3 hw, ?_, b5⟩
  · rw [PyData.showable]; exact b1
  · rw [PyData.leavesShort]; exact b2
  · rw [PyData.depth]; omega
theorem okP_tup {W D W' D' : Nat} {ds : List PyData} (h : ∀ d ∈ ds, okP W D d) (hw : ds.length * (W + 1) ≤ W') (hd : D + 1 ≤ D') : okP W' D' (.tuple ds) := by
  obtain ⟨b1, b2, b3, b4, b5⟩ := okP_all h
  refine ⟨?_, ?_, Nat.le_trans b3 hw, ?_, b5⟩
  · rw [PyData.showable]; exact b1
  · rw [PyData.leavesShort]; exact b2
  · rw [PyData.depth]; omega
theorem okT_of {d : PyData} (h : okP 10000 30 d) : okT d := ⟨h.1, h.2.1, h.2.2.1, h.2.2.2.1, .inl h.2.2.2.2⟩
theorem okP_mono {W D W' D' : Nat} {d : PyData} (h : okP W D d) (hw : W ≤ W') (hd : D ≤ D') : okP W' D' d :=
  ⟨h.1, h.2.1, Nat.le_trans h.2.2.1 hw, Nat.le_trans h.2.2.2.1 hd, h.2.2.2.2⟩
theorem okT_dict {w : Str} (h : okB (.str w) = true) : okT (.dict [(.int 0, .str w)]) := by
  obtain ⟨a1, a2, a3, a4, a5⟩ := okP_of h
  refine ⟨?_, ?_, ?_, ?_, .inr ⟨_, rfl⟩⟩
  · rw [PyData.showable, PyData.showableKv, a1]
    rw [show PyData.showable (.int 0) = true by decide +kernel]
    rfl
  · rw [PyData.leavesShort, PyData.leavesShortKv, a2]
    rw [show PyData.leavesShort 100 (.int 0) = true by decide +kernel]
    rfl
  · rw [PyData.weight, PyData.weightKv, show PyData.weight (.int 0) = 0 from rfl, PyData.weightKv]; omega
  · rw [PyData.depth, PyData.depthKv, show PyData.depth (.int 0) = 0 from rfl, PyData.depthKv, show PyData.depth (.str w) = 0 from rfl]; decide
theorem okP_int0 : okP 1000 10 (.int 0) := okP_of (by decide +kernel)

theorem okT_len {d : PyData} (h : okT d) : d.shown.length ≤ sizeLine := by
  have a := PyData.shown_le 100 (by decide) d h.2.1
  have b : (100 + 2) * d.weight + 100 ≤ 102 * 10000 + 100 := by have := h.2.2.1; omega
  exact Nat.le_trans a (Nat.le_trans b (by decide))
theorem okT_sm {d : PyData} (h : okT d) : sm d := ⟨by have := h.2.2.1; omega, h.2.2.2.2⟩
theorem ok_bools (a b c : Bool) : okT (.list [.bool a, .bool b, .bool c]) := okT_of (okP_list (W := 1000) (D := 10) (by
  intro d hd
  simp only [List.mem_cons, List.not_mem_nil, or_false] at hd
  rcases hd with rfl | rfl | rfl
  · cases a <;> exact okP_of (by decide +kernel)
  · cases b <;> exact okP_of (by decide +kernel)
  · cases c <;> exact okP_of (by decide +kernel)) (by simp) (by decide))

section
variable {P : Program} {w : World} {K : PySem.W.Frag} {mg : Str → Option Value} {base : Heap}
theorem sc_is_whole : FnScope ["thing"] ["thing"] (defScope s_is_whole) := ⟨rfl, rfl, rfl, by decide +kernel, rfl, by decide +kernel, by decide +kernel⟩
theorem ok_is_whole {f : Addr} {fd : FuncData} (F : Fun K "is_whole" "is_whole" s_is_whole f fd) (T : Txt K mg)
    : FnOk P w K mg base CX0 1 f fd ["thing"] (spIs K mWhole) := by
  refine F.ok sc_is_whole (fun vs H Q E h => ?_) (fun cdv A outer s H vs Q E hr h => ?_)
  · obtain ⟨v, d, rfl, _⟩ := h; rfl
  · obtain ⟨v, d, rfl, hx, hs, k⟩ := h
    have hu := hu_of hr
    have hu64 := hr.units
    refine ⟨_, (pss_one (ps_ret (pe_and (pe_callB call_isi (by rfl) T.n_isinstance (by decide +kernel) (pa_cons (pv 0) (pa_cons (pe_bltn (v := .ty "int") (u := .type "int") (by rfl) T.n_int (by decide +kernel) rfl) pa_nil))) (pe_one (pe_not (pe_callB call_isi (by rfl) T.n_isinstance (by decide +kernel) (pa_cons (pv 0) (pa_cons (pe_bltn (v := .ty "bool") (u := .type "bool") (by rfl) T.n_bool (by decide +kernel) rfl) pa_nil)))))))), ?_⟩
    refine rd_isi rfl hx (by simp) ⟨_, rfl, ?_⟩
    rw [isD_int]
    have k := k H (Same.refl H)
    cases d with
    | int i => refine iteT (rd_isi rfl hx (by simp) ⟨_, rfl, ?_⟩); rw [isD_bool]; exact k
    | bool b => refine iteT (rd_isi rfl hx (by simp) ⟨_, rfl, ?_⟩); rw [isD_bool]; exact k
    | none => exact iteF k
    | str x => exact iteF k
    | list xs => exact iteF k
    | tuple xs => exact iteF k
    | dict kvs => exact iteF k
theorem sc_is_name : FnScope ["thing", "letter"] ["thing"] (defScope s_is_name) := ⟨rfl, rfl, rfl, by decide +kernel, rfl, by decide +kernel, by decide +kernel⟩
theorem ok_is_name {f : Addr} {fd : FuncData} (F : Fun K "is_name" "is_name" s_is_name f fd) (T : Txt K mg)
    : FnOk P w K mg base CX0 1 f fd ["thing"] (spIs K mName) := by
  obtain ⟨t_LETTERS, g_LETTERS⟩ := T.g_LETTERS
  obtain ⟨t_MOST_LETTERS, g_MOST_LETTERS⟩ := T.g_MOST_LETTERS
  obtain ⟨t_RESERVED, g_RESERVED, s_RESERVED⟩ := T.g_RESERVED
  refine F.ok sc_is_name (fun vs H Q E h => ?_) (fun cdv A outer s H vs Q E hr h => ?_)
  · obtain ⟨v, d, rfl, _⟩ := h; rfl
  · obtain ⟨v, d, rfl, hx, hs, k⟩ := h
    have hu := hu_of hr
    have hu64 := hr.units
    refine ⟨_, (pss_cons (ps_if (PW.pt (pw_or (pt_not (pt_val (pe_callB call_isi (by rfl) T.n_isinstance (by decide +kernel) (pa_cons (pv 0) (pa_cons (pe_bltn (v := .ty "str") (u := .type "str") (by rfl) T.n_str (by decide +kernel) rfl) pa_nil))))) (pw_or1 (pt_not (pt_chain op_le op_le pe_int (pe_callB call_len_str (by rfl) T.n_len PySem.boot_len (pa_cons (pv 0) pa_nil)) (pe_glob (v := .int 4) rfl g_MOST_LETTERS ⟨_, rfl⟩))))))
    (pss_one (ps_ret pe_bl))
    pss_nil)
  (pss_cons (ps_if (pt_cmpR op_in_seq (pv 0) (pe_glob (v := .ref t_RESERVED) rfl g_RESERVED rfl) (by rfl))
    (pss_one (ps_ret pe_bl))
    pss_nil)
  (pss_one (ps_ret (pe_callB (cr_all rfl) (by rfl) T.n_all (by decide +kernel) (pa_cons (pe_lc (own := [("letter", 1)]) (g := gName 1) (tt := tYes) rfl sc_is_name.nd (pi_str (pv 0)) (blkOk_by (own := [("letter", 1)]) (N := ["thing", "letter"]) (sc := defScope s_is_name) (by decide +kernel)) (fun _ _ _ _ _ => (pg_name (i := 1) sc_is_name.nd rfl (Or.inl rfl))) (fun _ _ _ _ _ => pts_nil) (fun _ _ _ _ _ => (pe_cmpR op_in_sign (pv 1) (pe_glob (v := .str "abcdefghijklmnopqrstuvwxyz") rfl g_LETTERS ⟨_, rfl⟩) (by rfl)))) pa_nil)))))), ?_⟩
    refine rd_isi rfl hx (by simp) ⟨_, rfl, ?_⟩
    rw [isD_str]
    cases d with
    | int i => exact iteT (iteT (k H (Same.refl H)))
    | bool b => exact iteT (iteT (k H (Same.refl H)))
    | none => exact iteT (iteT (k H (Same.refl H)))
    | list xs => exact iteT (iteT (k H (Same.refl H)))
    | tuple xs => exact iteT (iteT (k H (Same.refl H)))
    | dict kvs => exact iteT (iteT (k H (Same.refl H)))
    | str x =>
      obtain rfl := dx_str hx
      have hl := len_le hs
      have k : ∀ H', Same H H' → Q (.bl (nameOk x)) H' := k
      refine iteF ⟨_, rfl, _, rfl, size_ok (by omega), _, _, rfl, rfl, _, rfl, ?_⟩
      by_cases h1 : (1 : Int) ≤ x.length
      · rw [decide_eq_true h1]
        refine iteT ⟨_, _, rfl, rfl, _, rfl, ?_⟩
        by_cases h4 : (x.length : Int) ≤ 4
        · rw [decide_eq_true h4]
          refine iteF ⟨_, rfl, _, _, rfl, Or.inr (s_RESERVED _), rfl, rfl, inV (.str x) [.str "keys", .str "look", .str "self"], rfl, ?_⟩
          cases e : inV (.str x) [.str "keys", .str "look", .str "self"] with
          | true =>
            refine iteT ?_
            have := k H (Same.refl H)
            have e2 : nameOk x = false := by unfold nameOk; rw [e]; simp
            rw [e2] at this
            exact this
          | false =>
            refine iteF ⟨_, rfl, _, rfl, fun D hD => lc_text (fun i H' => H' = upd H D (.lst ((x.cps.toList.take i).map fun c => V.bl (inAbc c)))) rfl ?_ ?_⟩
            · rintro i c H' hc rfl
              refine ⟨rfl, _, rfl, _, _, rfl, rfl, _, upd_same, ?_, ?_⟩
              · refine size_lt ?_
                rw [List.length_map, List.length_take]
                have : x.cps.toList.length = x.length := rfl
                omega
              · show upd (upd _ _ _) _ _ = _
                rw [upd_upd, take_snoc hc, List.map_append]
                rfl
            · rintro H' rfl
              refine ⟨D, x.cps.toList.map inAbc, rfl, SqL.of (upd_same.trans ?_), ?_⟩
              · rw [List.map_map]
                congr 2
                have : x.cps.toList.take x.cps.size = x.cps.toList := List.take_of_length_le (Nat.le_of_eq Array.length_toList)
                rw [this]
                rfl
              · rw [all_ids]
                have := k _ (same_new hD (o := .lst ((x.cps.toList.take x.cps.size).map fun c => V.bl (inAbc c))))
                unfold nameOk at this
                rw [e, decide_eq_true (show 1 ≤ x.length ∧ x.length ≤ 4 by omega)] at this
                exact this
        · rw [decide_eq_false h4]
          have := k H (Same.refl H)
          unfold nameOk at this
          rw [decide_eq_false (show ¬ (1 ≤ x.length ∧ x.length ≤ 4) by omega)] at this
          exact this
      · rw [decide_eq_false h1]
        have := k H (Same.refl H)
        unfold nameOk at this
        rw [decide_eq_false (show ¬ (1 ≤ x.length ∧ x.length ≤ 4) by omega)] at this
        exact ⟨_, rfl, this⟩
theorem sc_is_key : FnScope ["thing"] ["thing"] (defScope s_is_key) := ⟨rfl, rfl, rfl, by decide +kernel, rfl, by decide +kernel, by decide +kernel⟩
theorem ok_is_key {f : Addr} {fd : FuncData} (F : Fun K "is_key" "is_key" s_is_key f fd) (T : Txt K mg)
    (D_is_whole : Fn P w K mg base 1 "is_whole" ["thing"] (spIs K mWhole))
    : FnOk P w K mg base CX0 2 f fd ["thing"] (spIs K mKey) := by
  obtain ⟨t_HIGHEST_KEY, g_HIGHEST_KEY⟩ := T.g_HIGHEST_KEY
  refine F.ok sc_is_key (fun vs H Q E h => ?_) (fun cdv A outer s H vs Q E hr h => ?_)
  · obtain ⟨v, d, rfl, _⟩ := h; rfl
  · obtain ⟨v, d, rfl, hx, hs, k⟩ := h
    have hu := hu_of hr
    have hu64 := hr.units
    refine ⟨_, (pss_one (ps_ret (pe_and (pe_fn D_is_whole (hr.mono (by decide)) rfl (pa_cons (pv 0) pa_nil)) (pe_one (pe_chain op_le op_le pe_int (pv 0) (pe_glob (v := .int 999999) rfl g_HIGHEST_KEY ⟨_, rfl⟩)))))), ?_⟩
    refine ⟨_, rfl, _, _, rfl, hx, hs, fun H1 s1 => ⟨_, rfl, ?_⟩⟩
    have k := k H1 s1
    cases d with
    | int i =>
      have k : Q (.bl (decide ((0 : Int) ≤ i) && decide (i ≤ 999999))) H1 := k
      obtain rfl := dx_int hx
      refine iteT ⟨_, rfl, _, _, rfl, rfl, _, rfl, ?_⟩
      by_cases h1 : (0 : Int) ≤ i
      · rw [decide_eq_true h1]
        refine iteT ⟨_, _, rfl, rfl, ?_⟩
        rw [decide_eq_true h1] at k
        exact k
      · rw [decide_eq_false h1]
        refine iteF ?_
        rw [decide_eq_false h1] at k
        exact k
    | bool b => exact iteF k
    | none => exact iteF k
    | str x => exact iteF k
    | list xs => exact iteF k
    | tuple xs => exact iteF k
    | dict kvs => exact iteF k
theorem sc_is_value : FnScope ["thing"] ["thing"] (defScope s_is_value) := ⟨rfl, rfl, rfl, by decide +kernel, rfl, by decide +kernel, by decide +kernel⟩
theorem ok_is_value {f : Addr} {fd : FuncData} (F : Fun K "is_value" "is_value" s_is_value f fd) (T : Txt K mg)
    (D_is_whole : Fn P w K mg base 1 "is_whole" ["thing"] (spIs K mWhole))
    : FnOk P w K mg base CX0 2 f fd ["thing"] (spIs K mVal) := by
  obtain ⟨t_VALUE_LIMIT, g_VALUE_LIMIT⟩ := T.g_VALUE_LIMIT
  refine F.ok sc_is_value (fun vs H Q E h => ?_) (fun cdv A outer s H vs Q E hr h => ?_)
  · obtain ⟨v, d, rfl, _⟩ := h; rfl
  · obtain ⟨v, d, rfl, hx, hs, k⟩ := h
    have hu := hu_of hr
    have hu64 := hr.units
    refine ⟨_, (pss_one (ps_ret (pe_and (pe_fn D_is_whole (hr.mono (by decide)) rfl (pa_cons (pv 0) pa_nil)) (pe_one (pe_cmpR op_lt (pe_callB call_abs (by rfl) T.n_abs (by decide +kernel) (pa_cons (pv 0) pa_nil)) (pe_glob (v := .int 10000000000000000000000000000000000000000) rfl g_VALUE_LIMIT ⟨_, rfl⟩) (nomark _)))))), ?_⟩
    refine ⟨_, rfl, _, _, rfl, hx, hs, fun H1 s1 => ⟨_, rfl, ?_⟩⟩
    have k := k H1 s1
    cases d with
    | int i =>
      obtain rfl := dx_int hx
      refine iteT ⟨_, rfl, _, rfl, _, _, rfl, rfl, ?_⟩
      have e : decide ((if i < 0 then -i else i) < 10000000000000000000000000000000000000000) = mVal (.int i) := by
        show _ = (decide _ && decide _)
        rw [← Bool.decide_and]
        apply decide_eq_decide.mpr
        constructor
        · intro h; split at h <;> omega
        · intro h; split <;> omega
      show Q (.bl (decide ((if i < 0 then -i else i) < 10000000000000000000000000000000000000000))) H1
      rw [e]
      exact k
    | bool b => exact iteF k
    | none => exact iteF k
    | str x => exact iteF k
    | list xs => exact iteF k
    | tuple xs => exact iteF k
    | dict kvs => exact iteF k
theorem sc_is_element : FnScope ["thing", "key", "form"] ["thing"] (defScope s_is_element) := ⟨rfl, rfl, rfl, by decide +kernel, rfl, by decide +kernel, by decide +kernel⟩
theorem ok_is_element {f : Addr} {fd : FuncData} (F : Fun K "is_element" "is_element" s_is_element f fd) (T : Txt K mg)
    (D_is_name : Fn P w K mg base 1 "is_name" ["thing"] (spIs K mName))
    (D_is_key : Fn P w K mg base 2 "is_key" ["thing"] (spIs K mKey))
    : FnOk P w K mg base CX0 3 f fd ["thing"] (spIs K mEl) := by
  refine F.ok sc_is_element (fun vs H Q E h => ?_) (fun cdv A outer s H vs Q E hr h => ?_)
  · obtain ⟨v, d, rfl, _⟩ := h; rfl
  · obtain ⟨v, d, rfl, hx, hs, k⟩ := h
    have hu := hu_of hr
    have hu64 := hr.units
    refine ⟨_, (pss_cons (ps_if (PW.pt (pw_or (pt_not (pt_val (pe_callB call_isi (by rfl) T.n_isinstance (by decide +kernel) (pa_cons (pv 0) (pa_cons (pe_bltn (v := .ty "tuple") (u := .type "tuple") (by rfl) T.n_tuple (by decide +kernel) rfl) pa_nil))))) (pw_or1 (pt_cmpR op_ne (pe_callB call_len_seq (by rfl) T.n_len PySem.boot_len (pa_cons (pv 0) pa_nil)) pe_int (nomark _)))))
    (pss_one (ps_ret pe_bl))
    pss_nil)
  (pss_cons (ps_asg (pv 0) (pg_tup rfl (pgs_cons (pg_name (i := 1) sc_is_element.nd rfl (Or.inl rfl)) (pgs_cons (pg_name (i := 2) sc_is_element.nd rfl (Or.inl rfl)) pgs_nil))))
  (pss_one (ps_ret (pe_and (pe_fn D_is_key (hr.mono (by decide)) rfl (pa_cons (pv 1) pa_nil)) (pe_one (pe_fn D_is_name (hr.mono (by decide)) rfl (pa_cons (pv 2) pa_nil)))))))), ?_⟩
    refine rd_isi rfl hx (by simp) ⟨_, rfl, ?_⟩
    rw [isD_tuple]
    cases d with
    | int i => exact iteT (iteT (k H (Same.refl H)))
    | bool b => exact iteT (iteT (k H (Same.refl H)))
    | none => exact iteT (iteT (k H (Same.refl H)))
    | str x => exact iteT (iteT (k H (Same.refl H)))
    | list xs => exact iteT (iteT (k H (Same.refl H)))
    | dict kvs => exact iteT (iteT (k H (Same.refl H)))
    | tuple ds =>
      obtain ⟨a, vs, rfl, ht, hd⟩ := dx_tuple hx
      have hlen := sqT_len hd
      refine iteF ⟨_, rfl, _, _, rfl, Or.inr ht, rfl, _, rfl, ?_⟩
      match vs, ds, hd, hlen with
      | [], [], _, _ => exact iteT (k H (Same.refl H))
      | [_], [_], _, _ => exact iteT (k H (Same.refl H))
      | _ :: _ :: _ :: r, _ :: _ :: _ :: _, _, _ =>
        have e : (!decide (V.int ((r.length + 1 + 1 + 1 : Nat) : Int) = V.int 2)) = true := by
          rw [decide_eq_false]
          · rfl
          · intro z
            injection z with z
            omega
        show (if (!decide (V.int ((r.length + 1 + 1 + 1 : Nat) : Int) = V.int 2)) = true then _ else _)
        rw [e]
        exact iteT (k H (Same.refl H))
      | [kv, fv], [kd, fd'], .cons h1 (.cons h2 .nil), _ =>
        have w0 : kd.weight + 1 + (fd'.weight + 1 + 0) ≤ 100000 := by simpa [PyData.weight, PyData.weightAll] using hs.1
        refine iteF ⟨_, rfl, _, _, rfl, ht, rfl, _, _, rfl, _, _, rfl, rfl, ?_⟩
        refine ⟨_, rfl, _, _, rfl, .of h1, ⟨by omega, laid_tup hs.2 _ (by simp)⟩, fun H1 s1 => ⟨_, rfl, ?_⟩⟩
        have k2 : ∀ H', Same H H' → Q (.bl (mKey kd && mName fd')) H' := k
        cases e : mKey kd with
        | false =>
          refine iteF ?_
          have := k2 H1 s1
          rw [e] at this
          exact this
        | true =>
          refine iteT ⟨_, rfl, _, _, rfl, .of (dp_same s1 _ _ h2), ⟨by omega, laid_tup hs.2 _ (by simp)⟩, fun H2 s2 => ?_⟩
          have := k2 H2 (s1.trans s2)
          rw [e] at this
          exact this
theorem sc_is_entry : FnScope ["thing", "key", "form", "value"] ["thing"] (defScope s_is_entry) := ⟨rfl, rfl, rfl, by decide +kernel, rfl, by decide +kernel, by decide +kernel⟩
theorem ok_is_entry {f : Addr} {fd : FuncData} (F : Fun K "is_entry" "is_entry" s_is_entry f fd) (T : Txt K mg)
    (D_is_name : Fn P w K mg base 1 "is_name" ["thing"] (spIs K mName))
    (D_is_key : Fn P w K mg base 2 "is_key" ["thing"] (spIs K mKey))
    (D_is_value : Fn P w K mg base 2 "is_value" ["thing"] (spIs K mVal))
    : FnOk P w K mg base CX0 3 f fd ["thing"] (spIs K mEnt) := by
  refine F.ok sc_is_entry (fun vs H Q E h => ?_) (fun cdv A outer s H vs Q E hr h => ?_)
  · obtain ⟨v, d, rfl, _⟩ := h; rfl
  · obtain ⟨v, d, rfl, hx, hs, k⟩ := h
    have hu := hu_of hr
    have hu64 := hr.units
    refine ⟨_, (pss_cons (ps_if (PW.pt (pw_or (pt_not (pt_val (pe_callB call_isi (by rfl) T.n_isinstance (by decide +kernel) (pa_cons (pv 0) (pa_cons (pe_bltn (v := .ty "tuple") (u := .type "tuple") (by rfl) T.n_tuple (by decide +kernel) rfl) pa_nil))))) (pw_or1 (pt_cmpR op_ne (pe_callB call_len_seq (by rfl) T.n_len PySem.boot_len (pa_cons (pv 0) pa_nil)) pe_int (nomark _)))))
    (pss_one (ps_ret pe_bl))
    pss_nil)
  (pss_cons (ps_asg (pv 0) (pg_tup rfl (pgs_cons (pg_name (i := 1) sc_is_entry.nd rfl (Or.inl rfl)) (pgs_cons (pg_name (i := 2) sc_is_entry.nd rfl (Or.inl rfl)) (pgs_cons (pg_name (i := 3) sc_is_entry.nd rfl (Or.inl rfl)) pgs_nil)))))
  (pss_one (ps_ret (pe_and (pe_fn D_is_key (hr.mono (by decide)) rfl (pa_cons (pv 1) pa_nil)) (pe_and (pe_fn D_is_name (hr.mono (by decide)) rfl (pa_cons (pv 2) pa_nil)) (pe_one (pe_fn D_is_value (hr.mono (by decide)) rfl (pa_cons (pv 3) pa_nil))))))))), ?_⟩
    refine rd_isi rfl hx (by simp) ⟨_, rfl, ?_⟩
    rw [isD_tuple]
    cases d with
    | int i => exact iteT (iteT (k H (Same.refl H)))
    | bool b => exact iteT (iteT (k H (Same.refl H)))
    | none => exact iteT (iteT (k H (Same.refl H)))
    | str x => exact iteT (iteT (k H (Same.refl H)))
    | list xs => exact iteT (iteT (k H (Same.refl H)))
    | dict kvs => exact iteT (iteT (k H (Same.refl H)))
    | tuple ds =>
      obtain ⟨a, vs, rfl, ht, hd⟩ := dx_tuple hx
      have hlen := sqT_len hd
      refine iteF ⟨_, rfl, _, _, rfl, Or.inr ht, rfl, _, rfl, ?_⟩
      match vs, ds, hd, hlen with
      | [], [], _, _ => exact iteT (k H (Same.refl H))
      | [_], [_], _, _ => exact iteT (k H (Same.refl H))
      | [_, _], [_, _], _, _ => exact iteT (k H (Same.refl H))
      | _ :: _ :: _ :: _ :: r, _ :: _ :: _ :: _ :: _, _, _ =>
        have e : (!decide (V.int ((r.length + 1 + 1 + 1 + 1 : Nat) : Int) = V.int 3)) = true := by
          rw [decide_eq_false]
          · rfl
          · intro z
            injection z with z
            omega
        show (if (!decide (V.int ((r.length + 1 + 1 + 1 + 1 : Nat) : Int) = V.int 3)) = true then _ else _)
        rw [e]
        exact iteT (k H (Same.refl H))
      | [kv, fv, av], [kd, fd', ad], .cons h1 (.cons h2 (.cons h3 .nil)), _ =>
        have w0 : kd.weight + 1 + (fd'.weight + 1 + (ad.weight + 1 + 0)) ≤ 100000 := by simpa [PyData.weight, PyData.weightAll] using hs.1
        refine iteF ⟨_, rfl, _, _, rfl, ht, rfl, _, _, rfl, _, _, rfl, _, _, rfl, rfl, ?_⟩
        refine ⟨_, rfl, _, _, rfl, .of h1, ⟨by omega, laid_tup hs.2 _ (by simp)⟩, fun H1 s1 => ⟨_, rfl, ?_⟩⟩
        have k2 : ∀ H', Same H H' → Q (.bl (mKey kd && (mName fd' && mVal ad))) H' := k
        cases e : mKey kd with
        | false =>
          refine iteF ?_
          have := k2 H1 s1
          rw [e] at this
          exact this
        | true =>
          refine iteT ⟨_, rfl, _, _, rfl, .of (dp_same s1 _ _ h2), ⟨by omega, laid_tup hs.2 _ (by simp)⟩, fun H2 s2 => ⟨_, rfl, ?_⟩⟩
          cases e2 : mName fd' with
          | false =>
            refine iteF ?_
            have := k2 H2 (s1.trans s2)
            rw [e, e2] at this
            exact this
          | true =>
            refine iteT ⟨_, rfl, _, _, rfl, .of (dp_same (s1.trans s2) _ _ h3), ⟨by omega, laid_tup hs.2 _ (by simp)⟩, fun H3 s3 => ?_⟩
            have := k2 H3 ((s1.trans s2).trans s3)
            rw [e, e2] at this
            exact this
theorem sc_l_bag : FnScope ["_law_script", "_law_at", "_law_cell", "_law_far"] ["_law_script", "_law_at"] (defScope s_l_bag) := ⟨rfl, rfl, rfl, by decide +kernel, rfl, by decide +kernel, by decide +kernel⟩
theorem ok_l_bag {f : Addr} {fd : FuncData} (F : Fun K "_law_bag" "_law_bag" s_l_bag f fd) (T : Txt K mg)
    : FnOk P w K mg base CX0 1 f fd ["_law_script", "_law_at"] (spBag K) := by
  refine F.ok sc_l_bag (fun vs H Q E h => ?_) (fun cdv A outer s H vs Q E hr h => ?_)
  · obtain ⟨p, ns, i, rfl, _⟩ := h; rfl
  · obtain ⟨p, ns, i, rfl, hS, hi, k⟩ := h
    have hu := hu_of hr
    have hu64 := hr.units
    refine ⟨_, (pss_cons (ps_set (i := 2) sc_l_bag.nd rfl (Or.inl rfl) (pe_ifExp (pt_cmpR op_lt (pv 1) (pe_callB call_len_seq (by rfl) T.n_len PySem.boot_len (pa_cons (pv 0) pa_nil)) (nomark _)) (pe_ix ix_list (pv 0) (pv 1) (fun _ _ => rfl)) pe_int))
  (pss_cons (ps_set (i := 3) sc_l_bag.nd rfl (Or.inl rfl) (pe_ifExp (pt_cmpR op_ge (pe_callB call_abs (by rfl) T.n_abs (by decide +kernel) (pa_cons (pv 2) pa_nil)) (pe_op op_pow pe_int pe_int) (nomark _)) (pe_callB call_abs (by rfl) T.n_abs (by decide +kernel) (pa_cons (pv 2) pa_nil)) pe_int))
  (pss_one (ps_ret (pe_lst (pa_cons (pv 3) (pa_cons (pe_op op_modN (pe_op op_mul (pe_op op_add (pe_op op_add (pe_op op_modN (pv 2) pe_int) (pe_op op_mul pe_int (pv 1))) pe_int) pe_int) pe_int) (pa_cons pe_int pa_nil)))))))), ?_⟩
    have go : ∀ (c far : Int), ∀ a, H a = none → Q (.ref a) (upd H a (.lst [.int far, .int ((((c.fmod 2305843009213693951) + 7919 * (i : Int) + 31) * 48271).fmod 2305843009213693951), .int 0])) := by
      intro c far a ha
      refine k a _ ha ⟨_, _, _, upd_same, ?_, ?_, Int.le_refl _, Int.le_refl _⟩
      · rw [Int.fmod_eq_emod_of_nonneg _ (by decide)]; exact Int.emod_nonneg _ (by decide)
      · rw [Int.fmod_eq_emod_of_nonneg _ (by decide)]; exact Int.emod_lt_of_pos _ (by decide)
    refine ⟨_, rfl, _, rfl, _, _, rfl, Or.inl hS, _, _, rfl, rfl, _, rfl, ?_⟩
    rw [List.length_map]
    refine ite2 (fun c => ?_) (fun c => ?_)
    · have hlt : i < ns.length := by simpa using c
      refine ⟨_, rfl, _, rfl, _, _, _, .int (ns[i]), rfl, rfl, hS, at_of rfl (by simp [hlt]), ?_⟩
      refine ⟨_, rfl, _, rfl, _, _, rfl, rfl, ⟨by decide, by decide, by decide⟩, _, _, rfl, rfl, _, rfl, ?_⟩
      refine ite2 (fun c => ?_) (fun c => ?_)
      · refine ⟨_, rfl, _, rfl, ?_⟩
        refine ⟨_, rfl, _, rfl, _, _, rfl, rfl, (by omega), _, rfl, _, _, rfl, rfl, Or.inl ⟨by decide, by decide⟩, _, _, rfl, rfl, _, _, rfl, rfl, _, _, rfl, rfl, Or.inr ⟨by decide, by decide⟩, _, _, rfl, rfl, (by omega), size_ok (by simp), fun a ha => go _ _ a ha⟩
      · refine ⟨_, rfl, _, rfl, _, _, rfl, rfl, (by omega), _, rfl, _, _, rfl, rfl, Or.inl ⟨by decide, by decide⟩, _, _, rfl, rfl, _, _, rfl, rfl, _, _, rfl, rfl, Or.inr ⟨by decide, by decide⟩, _, _, rfl, rfl, (by omega), size_ok (by simp), fun a ha => go _ _ a ha⟩
    · refine ⟨_, rfl, _, rfl, _, _, rfl, rfl, ⟨by decide, by decide, by decide⟩, _, _, rfl, rfl, _, rfl, ?_⟩
      refine ite2 (fun c => ?_) (fun c => ?_)
      · refine ⟨_, rfl, _, rfl, ?_⟩
        refine ⟨_, rfl, _, rfl, _, _, rfl, rfl, (by omega), _, rfl, _, _, rfl, rfl, Or.inl ⟨by decide, by decide⟩, _, _, rfl, rfl, _, _, rfl, rfl, _, _, rfl, rfl, Or.inr ⟨by decide, by decide⟩, _, _, rfl, rfl, (by omega), size_ok (by simp), fun a ha => go _ _ a ha⟩
      · refine ⟨_, rfl, _, rfl, _, _, rfl, rfl, (by omega), _, rfl, _, _, rfl, rfl, Or.inl ⟨by decide, by decide⟩, _, _, rfl, rfl, _, _, rfl, rfl, _, _, rfl, rfl, Or.inr ⟨by decide, by decide⟩, _, _, rfl, rfl, (by omega), size_ok (by simp), fun a ha => go _ _ a ha⟩
theorem sc_l_take : FnScope ["_law_bag_here", "_law_many", "_law_digit", "_law_mixed"] ["_law_bag_here", "_law_many"] (defScope s_l_take) := ⟨rfl, rfl, rfl, by decide +kernel, rfl, by decide +kernel, by decide +kernel⟩
theorem ok_l_take {f : Addr} {fd : FuncData} (F : Fun K "_law_take" "_law_take" s_l_take f fd) (T : Txt K mg)
    : FnOk P w K mg base CX0 1 f fd ["_law_bag_here", "_law_many"] spTake := by
  refine F.ok sc_l_take (fun vs H Q E h => ?_) (fun cdv A outer s H vs Q E hr h => ?_)
  · obtain ⟨a, m, n, rfl, _⟩ := h; rfl
  · obtain ⟨a, m, n, rfl, ⟨x, y, z, hb, y0, y1, z0, z1⟩, hn, m0, m1, k⟩ := h
    have hu := hu_of hr
    have hu64 := hr.units
    refine ⟨_, (pss_cons (ps_if (pt_cmpR op_gt (pe_ix ix_list (pv 0) pe_int (fun _ _ => rfl)) pe_int (nomark _))
    (pss_cons (ps_set (i := 2) sc_l_take.nd rfl (Or.inl rfl) (pe_op op_modN (pe_ix ix_list (pv 0) pe_int (fun _ _ => rfl)) (pv 1)))
      (pss_cons (ps_asg (pe_op op_fdivN (pe_ix ix_list (pv 0) pe_int (fun _ _ => rfl)) (pv 1)) (pg_sub (pv 0) pe_int set_list))
      (pss_one (ps_ret (pv 2)))))
    pss_nil)
  (pss_cons (ps_asg (pe_op op_add (pe_ix ix_list (pv 0) pe_int (fun _ _ => rfl)) pe_int) (pg_sub (pv 0) pe_int set_list))
  (pss_cons (ps_set (i := 3) sc_l_take.nd rfl (Or.inl rfl) (pe_op op_modN (pe_op op_pow (pe_op op_add (pe_ix ix_list (pv 0) pe_int (fun _ _ => rfl)) (pe_op op_mul pe_int (pe_ix ix_list (pv 0) pe_int (fun _ _ => rfl)))) pe_int) pe_int))
  (pss_cons (ps_set (i := 3) sc_l_take.nd rfl (Or.inl rfl) (pe_op op_modN (pe_op op_pow (pe_op op_add (pv 3) (pe_op op_mul pe_int (pe_ix ix_list (pv 0) pe_int (fun _ _ => rfl)))) pe_int) pe_int))
  (pss_one (ps_ret (pe_op op_modN (pe_op op_fdivN (pv 3) pe_int) (pv 1)))))))), ?_⟩
    refine ⟨_, rfl, _, _, _, _, rfl, rfl, SqL.of hb, rfl, _, _, rfl, rfl, _, rfl, ite2 (fun c => ?_) (fun c => ?_)⟩
    · refine ⟨_, rfl, _, _, _, _, rfl, rfl, SqL.of hb, rfl, _, rfl, _, _, rfl, rfl, (by omega), ?_⟩
      refine ⟨_, rfl, _, _, _, _, rfl, rfl, SqL.of hb, rfl, _, rfl, _, _, rfl, rfl, ⟨by omega, by omega⟩, _, rfl, _, _, _, _, rfl, rfl, hb, rfl, ?_⟩
      refine ⟨_, rfl, ?_⟩
      refine k _ _ ?_ ?_ But.upd ⟨_, y, z, upd_same, y0, y1, z0, by omega⟩
      · rw [Int.fmod_eq_emod_of_nonneg _ (by omega)]; exact Int.emod_nonneg _ (by omega)
      · rw [Int.fmod_eq_emod_of_nonneg _ (by omega)]; exact Int.emod_lt_of_pos _ (by omega)
    · refine ⟨_, rfl, _, _, _, _, rfl, rfl, SqL.of hb, rfl, _, _, rfl, rfl, _, rfl, _, _, _, _, rfl, rfl, hb, rfl, ?_⟩
      have hb2 := upd_same (H := H) (a := a) (o := .lst [.int x, .int y, .int (z + 1)])
      refine ⟨_, rfl, _, _, _, _, rfl, rfl, SqL.of hb2, rfl, _, rfl, _, _, _, _, rfl, rfl, SqL.of hb2, rfl, _, _, rfl, rfl, Or.inl ⟨by omega, by omega⟩, _, _, rfl, rfl, _, _, rfl, rfl, ⟨by decide, by decide, by omega⟩, _, _, rfl, rfl, (by omega), ?_⟩
      dsimp only
      generalize hg : Int.fmod _ 2305843009213693921 = mx
      have b1 : 0 ≤ mx ∧ mx < 2305843009213693921 := by
        rw [← hg, Int.fmod_eq_emod_of_nonneg _ (by decide)]
        exact ⟨Int.emod_nonneg _ (by decide), Int.emod_lt_of_pos _ (by decide)⟩
      refine ⟨_, rfl, _, rfl, _, _, _, _, rfl, rfl, SqL.of hb2, rfl, _, _, rfl, rfl, Or.inl ⟨by omega, by omega⟩, _, _, rfl, rfl, _, _, rfl, rfl, ⟨by decide, by decide, by omega⟩, _, _, rfl, rfl, (by omega), ?_⟩
      dsimp only
      generalize hg2 : Int.fmod _ 2305843009213693951 = my
      refine ⟨_, rfl, _, _, rfl, rfl, ⟨by decide, by decide⟩, _, rfl, _, _, rfl, rfl, (by omega), ?_⟩
      refine k _ _ ?_ ?_ But.upd ⟨x, y, z + 1, upd_same, y0, y1, by omega, by omega⟩
      · rw [Int.fmod_eq_emod_of_nonneg _ (by omega)]; exact Int.emod_nonneg _ (by omega)
      · rw [Int.fmod_eq_emod_of_nonneg _ (by omega)]; exact Int.emod_lt_of_pos _ (by omega)
theorem sc_l_word : FnScope ["_law_bag_here", "_law_some"] ["_law_bag_here"] (defScope s_l_word) := ⟨rfl, rfl, rfl, by decide +kernel, rfl, by decide +kernel, by decide +kernel⟩
theorem ok_l_word {f : Addr} {fd : FuncData} (F : Fun K "_law_word" "_law_word" s_l_word f fd) (T : Txt K mg)
    (D_l_take : Fn P w K mg base 1 "_law_take" ["_law_bag_here", "_law_many"] spTake)
    : FnOk P w K mg base CX0 2 f fd ["_law_bag_here"] spWord := by
  refine F.ok sc_l_word (fun vs H Q E h => ?_) (fun cdv A outer s H vs Q E hr h => ?_)
  · obtain ⟨a, n, rfl, _⟩ := h; rfl
  · obtain ⟨a, n, rfl, hb, hn, k⟩ := h
    have hu := hu_of hr
    have hu64 := hr.units
    refine ⟨_, (pss_cons (ps_set (i := 1) sc_l_word.nd rfl (Or.inl rfl) (pe_lst (pa_cons pe_str (pa_cons pe_str (pa_cons pe_str (pa_cons pe_str (pa_cons pe_str (pa_cons pe_str (pa_cons pe_str (pa_cons pe_str (pa_cons pe_str (pa_cons pe_str (pa_cons pe_str (pa_cons pe_str pa_nil))))))))))))))
  (pss_cons (ps_set (i := 1) sc_l_word.nd rfl (Or.inl rfl) (pe_op op_cat (pv 1) (pe_lst (pa_cons pe_str (pa_cons pe_str (pa_cons pe_str (pa_cons pe_str (pa_cons pe_str (pa_cons pe_str (pa_cons pe_str (pa_cons pe_str (pa_cons pe_str pa_nil))))))))))))
  (pss_cons (ps_expr (pe_bm PySem.F.plainAttrs_list PySem.F.slot_list_append PySem.F.type_list_append mt_append (pv 1) (pa_cons (pe_op op_mul_str pe_str (pe_op op_add pe_int (pe_fn D_l_take (hr.mono (by decide)) rfl (pa_cons (pv 0) (pa_cons pe_int pa_nil))))) pa_nil)))
  (pss_one (ps_ret (pe_ix ix_list (pv 1) (pe_fn D_l_take (hr.mono (by decide)) rfl (pa_cons (pv 0) (pa_cons pe_int pa_nil))) (fun _ _ => rfl))))))), ?_⟩
    refine ⟨size_ok (by simp), fun p hp => ?_⟩
    generalize e_p : upd H p _ = H1
    have s_p := new_same e_p hp
    have h_p := new_at e_p
    refine ⟨_, rfl, size_ok (by simp), fun q hq => ?_⟩
    generalize e_q : upd H1 q _ = H2
    have s_q := new_same e_q hq
    have h_q := new_at e_q
    refine ⟨_, _, _, _, rfl, rfl, s_q _ _ h_p, h_q, size_ok (by simp), fun r hr => ?_⟩
    generalize e_r : upd H2 r _ = H3
    have s_r := new_same e_r hr
    have h_r := new_at e_r
    have bag2 : Bag H2 a n := hb.same (s_p.trans s_q)
    have nr : r ≠ a := bag2.ne hr
    refine ⟨_, rfl, .inl ⟨rfl, _, SqL.of h_r⟩, _, rfl, a, 6, n, rfl, bag2.same s_r, by omega, by decide, by decide, fun i H4 i0 i1 b4 bag4 => ?_⟩
    have h4r := (b4 r nr).trans h_r
    refine ⟨_, _, rfl, rfl, _, _, rfl, rfl, by omega, by omega, by decide, by decide, _, _, _, rfl, rfl, h4r, size_lt (by simp), ?_⟩
    generalize e5 : upd H4 r _ = H5
    have h5 := new_at e5
    have bag5 : Bag H5 a (n + 1) := by
      obtain ⟨x, y, z, g, rest⟩ := bag4
      exact ⟨x, y, z, (new_ne e5 nr.symm).trans g, rest⟩
    have x25 : Ext a H2 H5 := fun b o nb e => by
      have nbr := ne_of_none e hr
      rw [new_ne e5 nbr, b4 b nb]
      exact s_r b o e
    refine ⟨_, rfl, _, rfl, a, 22, n + 1, rfl, bag5, by omega, by decide, by decide, fun j H6 j0 j1 b6 bag6 => ?_⟩
    have all := at_all (Pr := fun v => ∃ x, v = .str x ∧ okB (.str x) = true) (xs := words.map V.str ++ [.str (repS "x" (1 + i).toNat)]) j0
      (by show j < ((22 : Nat) : Int); omega) (fun v hv => by
        rcases List.mem_append.mp hv with hv | hv
        · obtain ⟨x, hx, rfl⟩ := List.mem_map.mp hv
          exact ⟨x, rfl, List.all_eq_true.mp words_ok x hx⟩
        · rw [List.mem_singleton] at hv
          exact ⟨_, hv, xs_ok _ (by omega)⟩)
    obtain ⟨v, hv, x, rfl, hx⟩ := all
    exact ⟨_, _, _, _, rfl, rfl, SqL.of ((b6 r nr).trans h5), hv, k x H6 hx (del_ext ((Ext.of (s_p.trans s_q)).trans (x25.trans (Ext.but b6)))) bag6⟩
theorem sc_l_number : FnScope ["_law_bag_here", "_law_some"] ["_law_bag_here"] (defScope s_l_number) := ⟨rfl, rfl, rfl, by decide +kernel, rfl, by decide +kernel, by decide +kernel⟩
theorem ok_l_number {f : Addr} {fd : FuncData} (F : Fun K "_law_number" "_law_number" s_l_number f fd) (T : Txt K mg)
    (D_l_take : Fn P w K mg base 1 "_law_take" ["_law_bag_here", "_law_many"] spTake)
    : FnOk P w K mg base CX0 2 f fd ["_law_bag_here"] (spNumber K) := by
  refine F.ok sc_l_number (fun vs H Q E h => ?_) (fun cdv A outer s H vs Q E hr h => ?_)
  · obtain ⟨a, n, rfl, _⟩ := h; rfl
  · obtain ⟨a, n, rfl, hb, hn, k⟩ := h
    have hu := hu_of hr
    have hu64 := hr.units
    refine ⟨_, (pss_cons (ps_set (i := 1) sc_l_number.nd rfl (Or.inl rfl) (pe_lst (pa_cons pe_int (pa_cons pe_int (pa_cons pe_int (pa_cons pe_int (pa_cons (pe_un un_neg pe_int) (pa_cons pe_bl (pa_cons pe_bl (pa_cons pe_non (pa_cons pe_str (pa_cons (pe_op op_sub (pe_op op_pow pe_int pe_int) pe_int) (pa_cons (pe_op op_sub pe_int (pe_op op_pow pe_int pe_int)) pa_nil)))))))))))))
  (pss_one (ps_ret (pe_ix ix_list (pe_op op_cat (pv 1) (pe_lst (pa_cons pe_int (pa_cons (pe_tup (pa_cons pe_int pa_nil)) (pa_cons (pe_lst (pa_cons pe_int pa_nil)) (pa_cons (pe_fn D_l_take (hr.mono (by decide)) rfl (pa_cons (pv 0) (pa_cons (pe_op op_pow pe_int pe_int) pa_nil))) pa_nil)))))) (pe_fn D_l_take (hr.mono (by decide)) rfl (pa_cons (pv 0) (pa_cons pe_int pa_nil))) (fun _ _ => rfl))))), ?_⟩
    refine ⟨_, rfl, _, _, rfl, rfl, ⟨by decide, by decide, by decide⟩, _, _, rfl, rfl, _, _, rfl, rfl, ⟨by decide, by decide, by decide⟩, _, _, rfl, rfl, size_ok (by simp), fun p hp => ?_⟩
    dsimp only
    generalize e_p : upd H p _ = H1
    have s_p := new_same e_p hp
    have h_p := new_at e_p
    refine ⟨_, rfl, size_ok (by simp), fun t ht => ?_⟩
    generalize e_t : upd H1 t _ = H2
    have s_t := new_same e_t ht
    have h_t := new_at e_t
    refine ⟨size_ok (by simp), fun l hl => ?_⟩
    generalize e_l : upd H2 l _ = H3
    have s_l := new_same e_l hl
    have h_l := new_at e_l
    have s03 := s_p.trans (s_t.trans s_l)
    have np : p ≠ a := hb.ne hp
    have nt : t ≠ a := (hb.same s_p).ne ht
    have nl : l ≠ a := (hb.same (s_p.trans s_t)).ne hl
    refine ⟨_, rfl, _, _, rfl, rfl, ⟨by decide, by decide, by decide⟩, a, _, n, rfl, hb.same s03, by omega, by decide, by decide, fun i H4 i0 i1 b4 bag4 => ?_⟩
    refine ⟨size_ok (by simp), fun q hq => ?_⟩
    generalize e_q : upd H4 q _ = H5
    have s_q := new_same e_q hq
    have h_q := new_at e_q
    have hp5 := s_q _ _ ((b4 p np).trans (s_l _ _ (s_t _ _ h_p)))
    refine ⟨_, _, _, _, rfl, rfl, hp5, h_q, size_ok (by simp), fun r hr => ?_⟩
    generalize e_r : upd H5 r _ = H6
    have s_r := new_same e_r hr
    have h_r := new_at e_r
    have bag6 := bag4.same (s_q.trans s_r)
    have nr : r ≠ a := (bag4.same s_q).ne hr
    refine ⟨_, rfl, a, 15, n + 1, rfl, bag6, by omega, by decide, by decide, fun j H7 j0 j1 b7 bag7 => ?_⟩
    have ht7 : del a H7 t = some (.tup [.int 1]) := (del_at nt).trans ((b7 t nt).trans (s_r _ _ (s_q _ _ ((b4 t nt).trans (s_l _ _ h_t)))))
    have hl7 : del a H7 l = some (.lst [.int 1]) := (del_at nl).trans ((b7 l nl).trans (s_r _ _ (s_q _ _ ((b4 l nl).trans h_l))))
    have hr7 := (b7 r nr).trans h_r
    have i6 : okB (.int i) = true := small_int i0 (Int.lt_of_lt_of_le i1 (by decide))
    have all := at_all (Pr := fun v => ∃ d, Dp K (del a H7) v d ∧ okB d = true) (xs := nums ++ [.ref t, .ref l, .int i]) j0
      (by show j < ((15 : Nat) : Int); omega) (fun v hv => by
        rcases List.mem_append.mp hv with hv | hv
        · have z := List.all_eq_true.mp nums_ok v hv
          cases e : flatD v with
          | none => rw [e] at z; cases z
          | some d =>
            rw [e] at z
            exact ⟨d, dp_flat e, z⟩
        · simp only [List.mem_cons, List.not_mem_nil, or_false] at hv
          rcases hv with rfl | rfl | rfl
          · exact ⟨_, .tup (SqT.of ht7) (.cons (.int 1) .nil), by decide +kernel⟩
          · exact ⟨_, .lst (SqL.of hl7) (.cons (.int 1) .nil), by decide +kernel⟩
          · exact ⟨_, .int i, i6⟩)
    obtain ⟨v, hv, d, dv, od⟩ := all
    refine ⟨_, _, _, _, rfl, rfl, SqL.of hr7, hv, k v d H7 dv od (del_ext ?_) bag7⟩
    exact (Ext.of s03).trans ((Ext.but b4).trans ((Ext.of (s_q.trans s_r)).trans (Ext.but b7)))
theorem sc_l_thing : FnScope ["_law_bag_here", "_law_word_here", "_law_key", "_law_amount", "_law_way", "_law_some"] ["_law_bag_here"] (defScope s_l_thing) := ⟨rfl, rfl, rfl, by decide +kernel, rfl, by decide +kernel, by decide +kernel⟩
theorem ok_l_thing {f : Addr} {fd : FuncData} (F : Fun K "_law_thing" "_law_thing" s_l_thing f fd) (T : Txt K mg)
    (D_l_take : Fn P w K mg base 1 "_law_take" ["_law_bag_here", "_law_many"] spTake)
    (D_l_word : Fn P w K mg base 2 "_law_word" ["_law_bag_here"] spWord)
    (D_l_number : Fn P w K mg base 2 "_law_number" ["_law_bag_here"] (spNumber K))
    : FnOk P w K mg base CX0 3 f fd ["_law_bag_here"] (spThing K) := by
  refine F.ok sc_l_thing (fun vs H Q E h => ?_) (fun cdv A outer s H vs Q E hr h => ?_)
  · obtain ⟨a, n, rfl, _⟩ := h; rfl
  · obtain ⟨a, n, rfl, hb, hn, k⟩ := h
    have hu := hu_of hr
    have hu64 := hr.units
    refine ⟨_, (pss_cons (ps_set (i := 1) sc_l_thing.nd rfl (Or.inl rfl) (pe_fn D_l_word (hr.mono (by decide)) rfl (pa_cons (pv 0) pa_nil)))
  (pss_cons (ps_par (i := 2) (j := 3) (by rfl) sc_l_thing.nd rfl rfl (by decide) rfl rfl (pa_cons (pe_fn D_l_number (hr.mono (by decide)) rfl (pa_cons (pv 0) pa_nil)) (pa_cons (pe_fn D_l_number (hr.mono (by decide)) rfl (pa_cons (pv 0) pa_nil)) pa_nil)) (by rfl))
  (pss_cons (ps_set (i := 4) sc_l_thing.nd rfl (Or.inl rfl) (pe_fn D_l_take (hr.mono (by decide)) rfl (pa_cons (pv 0) (pa_cons pe_int pa_nil))))
  (pss_cons (ps_if (pt_cmpR op_lt (pv 4) pe_int (nomark _))
    (pss_one (ps_ret (pe_ix ix_list (pe_lst (pa_cons (pv 1) (pa_cons (pv 2) pa_nil))) (pv 4) (fun _ _ => rfl))))
    pss_nil)
  (pss_cons (ps_if (pt_cmpR op_lt (pv 4) pe_int (nomark _))
    (pss_one (ps_ret (pe_tup (pa_cons (pv 2) (pa_cons (pv 1) pa_nil)))))
    pss_nil)
  (pss_cons (ps_if (pt_cmpR op_lt (pv 4) pe_int (nomark _))
    (pss_one (ps_ret (pe_tup (pa_cons (pv 2) (pa_cons (pv 1) (pa_cons (pv 3) pa_nil))))))
    pss_nil)
  (pss_cons (ps_set (i := 5) sc_l_thing.nd rfl (Or.inl rfl) (pe_lst (pa_cons (pe_lst (pa_cons (pv 2) (pa_cons (pv 1) pa_nil))) (pa_cons (pe_tup (pa_cons (pv 1) (pa_cons (pv 2) pa_nil))) (pa_cons (pe_tup (pa_cons (pv 2) pa_nil)) (pa_cons (pe_tup pa_nil) pa_nil))))))
  (pss_cons (ps_if (pt_cmpR op_lt (pv 4) pe_int (nomark _))
    (pss_one (ps_ret (pe_ix ix_list (pv 5) (pe_fn D_l_take (hr.mono (by decide)) rfl (pa_cons (pv 0) (pa_cons pe_int pa_nil))) (fun _ _ => rfl))))
    pss_nil)
  (pss_cons (ps_set (i := 5) sc_l_thing.nd rfl (Or.inl rfl) (pe_lst (pa_cons (pe_tup (pa_cons (pv 2) (pa_cons (pv 1) (pa_cons (pv 3) (pa_cons pe_int pa_nil))))) (pa_cons (pe_lst (pa_cons (pv 2) (pa_cons (pv 1) (pa_cons (pv 3) pa_nil)))) (pa_cons (pe_disp (pps_cons pe_int (pv 1) pps_nil) (by rfl) (by rfl) (fun z => by cases z) (by decide)) pa_nil)))))
  (pss_cons (ps_expr (pe_bm PySem.F.plainAttrs_list PySem.F.slot_list_append PySem.F.type_list_append mt_append (pv 5) (pa_cons (pe_tup (pa_cons (pe_tup (pa_cons (pv 2) (pa_cons (pv 1) pa_nil))) (pa_cons (pv 3) pa_nil))) pa_nil)))
  (pss_one (ps_ret (pe_ix ix_list (pv 5) (pe_fn D_l_take (hr.mono (by decide)) rfl (pa_cons (pv 0) (pa_cons pe_int pa_nil))) (fun _ _ => rfl)))))))))))))), ?_⟩
    refine ⟨_, rfl, a, n, rfl, hb, by omega, fun w H1 okw x1 bag1 => ?_⟩
    refine ⟨_, rfl, a, n + 2, rfl, bag1, by omega, fun kv kd H2 dk okk x2 bag2 => ?_⟩
    refine ⟨_, rfl, a, n + 4, rfl, bag2, by omega, fun av ad H3 da oka x3 bag3 => ⟨_, _, rfl, ?_⟩⟩
    refine ⟨_, rfl, a, 14, n + 6, rfl, bag3, by omega, by decide, by decide, fun i H4 i0 i1 b4 bag4 => ?_⟩
    have dk := dp_same x3 _ _ dk
    rw [← del_but b4] at dk da
    have fin : ∀ v d H', Ext a H4 H' → Bag H' a (n + 8) → Dx K H' v d → okT d → Q v H' := fun v d H' x b dx ok =>
      k v d H' dx ok ((x1.trans (x2.trans x3)).trans (by rw [← del_but b4]; exact del_ext x)) b
    have pw := okP_of okw
    have pk := okP_of okk
    have pa := okP_of oka
    have dw : Dp K (del a H4) (.str w) (.str w) := .str w
    refine ⟨_, rfl, _, _, rfl, rfl, _, rfl, ite2 (fun c => ?_) (fun c => ?_)⟩
    · refine ⟨_, rfl, _, rfl, size_ok (by simp), fun p hp => ?_⟩
      generalize e_p : upd H4 p _ = H5
      have s_p := new_same e_p hp
      have h_p := new_at e_p
      have dk5 := dp_same (del_sub.trans s_p) _ _ dk
      have all := at_all (Pr := fun v => ∃ d, Dx K H5 v d ∧ okT d) (xs := [.str w, kv]) i0 (by simpa using c) (fun v hv => by
        simp only [List.mem_cons, List.not_mem_nil, or_false] at hv
        rcases hv with rfl | rfl
        · exact ⟨_, .of (.str w), okT_of (okP_mono pw (by decide) (by decide))⟩
        · exact ⟨_, .of dk5, okT_of (okP_mono pk (by decide) (by decide))⟩)
      obtain ⟨v, hv, d, dv, od⟩ := all
      exact ⟨_, rfl, _, _, _, _, rfl, rfl, SqL.of h_p, hv, fin v d H5 (Ext.of s_p) ((bag4.same s_p).mono (by omega)) dv od⟩
    refine ⟨_, rfl, _, _, rfl, rfl, _, rfl, ite2 (fun c => ?_) (fun c => ?_)⟩
    · refine ⟨_, rfl, _, rfl, size_ok (by simp), fun p hp => ?_⟩
      generalize e_p : upd H4 p _ = H5
      have s_p := new_same e_p hp
      have h_p := new_at e_p
      have dk5 := dp_same (del_sub.trans s_p) _ _ dk
      exact fin _ (.tuple [kd, .str w]) H5 (Ext.of s_p) ((bag4.same s_p).mono (by omega)) (.of (.tup (SqT.of h_p) (.cons dk5 (.cons (.str w) .nil))))
        (okT_of (okP_tup (W := 1000) (D := 10) (by intro d hd; simp only [List.mem_cons, List.not_mem_nil, or_false] at hd; rcases hd with rfl | rfl <;> assumption) (by simp) (by decide)))
    refine ⟨_, rfl, _, _, rfl, rfl, _, rfl, ite2 (fun c => ?_) (fun c => ?_)⟩
    · refine ⟨_, rfl, _, rfl, _, rfl, size_ok (by simp), fun p hp => ?_⟩
      generalize e_p : upd H4 p _ = H5
      have s_p := new_same e_p hp
      have h_p := new_at e_p
      have dk5 := dp_same (del_sub.trans s_p) _ _ dk
      have da5 := dp_same (del_sub.trans s_p) _ _ da
      exact fin _ (.tuple [kd, .str w, ad]) H5 (Ext.of s_p) ((bag4.same s_p).mono (by omega)) (.of (.tup (SqT.of h_p) (.cons dk5 (.cons (.str w) (.cons da5 .nil)))))
        (okT_of (okP_tup (W := 1000) (D := 10) (by intro d hd; simp only [List.mem_cons, List.not_mem_nil, or_false] at hd; rcases hd with rfl | rfl | rfl <;> assumption) (by simp) (by decide)))
    refine ⟨_, rfl, _, rfl, size_ok (by simp), fun p hp => ?_⟩
    generalize e_p : upd H4 p _ = H5
    have s_p := new_same e_p hp
    have h_p := new_at e_p
    refine ⟨_, rfl, _, rfl, size_ok (by simp), fun q hq => ?_⟩
    generalize e_q : upd H5 q _ = H6
    have s_q := new_same e_q hq
    have h_q := new_at e_q
    refine ⟨_, rfl, size_ok (by simp), fun r hr => ?_⟩
    generalize e_r : upd H6 r _ = H7
    have s_r := new_same e_r hr
    have h_r := new_at e_r
    refine ⟨size_ok (by simp), fun t ht => ?_⟩
    generalize e_t : upd H7 t _ = H8
    have s_t := new_same e_t ht
    have h_t := new_at e_t
    refine ⟨size_ok (by simp), fun l hl => ?_⟩
    generalize e_l : upd H8 l _ = H9
    have s_l := new_same e_l hl
    have h_l := new_at e_l
    have s49 := s_p.trans (s_q.trans (s_r.trans (s_t.trans s_l)))
    have bag9 := bag4.same s49
    have nl : l ≠ a := (bag4.same (s_p.trans (s_q.trans (s_r.trans s_t)))).ne hl
    refine ⟨_, rfl, _, _, rfl, rfl, _, rfl, ite2 (fun c => ?_) (fun c => ?_)⟩
    · refine ⟨_, rfl, _, rfl, a, 4, n + 7, rfl, bag9, by omega, by decide, by decide, fun j Ha j0 j1 ba baga => ?_⟩
      have np : p ≠ a := bag4.ne hp
      have nq : q ≠ a := (bag4.same s_p).ne hq
      have nr : r ≠ a := (bag4.same (s_p.trans s_q)).ne hr
      have nt : t ≠ a := (bag4.same (s_p.trans (s_q.trans s_r))).ne ht
      have x : Ext a H4 Ha := (Ext.of s49).trans (Ext.but ba)
      have toA : ∀ {b o}, b ≠ a → H9 b = some o → Ha b = some o := fun nb e => (ba _ nb).trans e
      have dka := dp_same ((del_ext x).trans del_sub) _ _ dk
      have all := at_all (Pr := fun v => ∃ d, Dx K Ha v d ∧ okT d) (xs := [.ref p, .ref q, .ref r, .ref t]) j0 (by simpa using j1) (fun v hv => by
        simp only [List.mem_cons, List.not_mem_nil, or_false] at hv
        rcases hv with rfl | rfl | rfl | rfl
        · exact ⟨.list [kd, .str w], .of (.lst (SqL.of (toA np (s_l _ _ (s_t _ _ (s_r _ _ (s_q _ _ h_p)))))) (.cons dka (.cons (.str w) .nil))),
            okT_of (okP_list (W := 1000) (D := 10) (by intro d hd; simp only [List.mem_cons, List.not_mem_nil, or_false] at hd; rcases hd with rfl | rfl <;> assumption) (by simp) (by decide))⟩
        · exact ⟨.tuple [.str w, kd], .of (.tup (SqT.of (toA nq (s_l _ _ (s_t _ _ (s_r _ _ h_q))))) (.cons (.str w) (.cons dka .nil))),
            okT_of (okP_tup (W := 1000) (D := 10) (by intro d hd; simp only [List.mem_cons, List.not_mem_nil, or_false] at hd; rcases hd with rfl | rfl <;> assumption) (by simp) (by decide))⟩
        · exact ⟨.tuple [kd], .of (.tup (SqT.of (toA nr (s_l _ _ (s_t _ _ h_r)))) (.cons dka .nil)),
            okT_of (okP_tup (W := 1000) (D := 10) (by intro d hd; simp only [List.mem_cons, List.not_mem_nil, or_false] at hd; rcases hd with rfl; assumption) (by simp) (by decide))⟩
        · exact ⟨.tuple [], .of (.tup (SqT.of (toA nt (s_l _ _ h_t))) .nil),
            okT_of (okP_tup (W := 1000) (D := 10) (by intro d hd; cases hd) (by simp) (by decide))⟩)
      obtain ⟨v, hv, d, dv, od⟩ := all
      exact ⟨_, _, _, _, rfl, rfl, SqL.of (toA nl h_l), hv, fin v d Ha x baga dv od⟩
    refine ⟨_, rfl, _, rfl, _, rfl, size_ok (by simp), fun p2 hp2 => ?_⟩
    generalize e_p2 : upd H9 p2 _ = G1
    have s_p2 := new_same e_p2 hp2
    have h_p2 := new_at e_p2
    refine ⟨_, rfl, _, rfl, _, rfl, size_ok (by simp), fun q2 hq2 => ?_⟩
    generalize e_q2 : upd G1 q2 _ = G2
    have s_q2 := new_same e_q2 hq2
    have h_q2 := new_at e_q2
    refine fun r2 hr2 => ?_
    generalize e_r2 : upd G2 r2 _ = G3
    have s_r2 := new_same e_r2 hr2
    have h_r2 := new_at e_r2
    refine ⟨_, rfl, h_r2, [(.inl 0, .str w)], rfl, by simp, ?_⟩
    generalize e4 : upd G3 r2 _ = G4
    have h4 := new_at e4
    have s24 : Same G2 G4 := fun b o e => (new_ne e4 (ne_of_none e hr2)).trans (s_r2 _ _ e)
    refine ⟨size_ok (by simp), fun l2 hl2 => ?_⟩
    generalize e_l2 : upd G4 l2 _ = G5
    have s_l2 := new_same e_l2 hl2
    have h_l2 := new_at e_l2
    have sG := s49.trans (s_p2.trans (s_q2.trans (s24.trans s_l2)))
    have bagG := bag4.same sG
    refine ⟨_, rfl, .inl ⟨rfl, _, SqL.of h_l2⟩, _, rfl, _, rfl, size_ok (by simp), fun u hu2 => ?_⟩
    generalize e6 : upd G5 u _ = G6
    have s6 := new_same e6 hu2
    have h6 := new_at e6
    refine ⟨_, rfl, size_ok (by simp), fun y9 hy9 => ?_⟩
    generalize e7 : upd G6 y9 _ = G7
    have s7 := new_same e7 hy9
    have h7 := new_at e7
    have hl7 := s7 _ _ (s6 _ _ h_l2)
    refine ⟨_, _, _, rfl, rfl, hl7, size_lt (by simp), ?_⟩
    generalize e8 : upd G7 l2 _ = G8
    have h8 := new_at e8
    have nl2 : l2 ≠ a := (bag4.same (s49.trans (s_p2.trans (s_q2.trans s24)))).ne hl2
    have bag8 : Bag G8 a (n + 7) := by
      obtain ⟨x, y, z, g, rest⟩ := bagG.same (s6.trans s7)
      exact ⟨x, y, z, (new_ne e8 nl2.symm).trans g, rest⟩
    have to8 : ∀ {b o}, b ≠ l2 → G7 b = some o → G8 b = some o := fun nb e => (new_ne e8 nb).trans e
    refine ⟨_, rfl, _, rfl, a, 4, n + 7, rfl, bag8, by omega, by decide, by decide, fun j Ha j0 j1 ba baga => ?_⟩
    have toA : ∀ {b o}, b ≠ a → G8 b = some o → Ha b = some o := fun nb e => (ba _ nb).trans e
    have x : Ext a H4 Ha := fun b o nb e => toA nb (to8 (ne_of_none ((s49.trans (s_p2.trans (s_q2.trans s24))) _ _ e) hl2) (s7 _ _ (s6 _ _ (sG _ _ e))))
    have dka := dp_same ((del_ext x).trans del_sub) _ _ dk
    have daa := dp_same ((del_ext x).trans del_sub) _ _ da
    have n1 : p2 ≠ a := bag9.ne hp2
    have n2 : q2 ≠ a := (bag9.same s_p2).ne hq2
    have n3 : r2 ≠ a := (bag9.same (s_p2.trans s_q2)).ne hr2
    have n4 : u ≠ a := bagG.ne hu2
    have n5 : y9 ≠ a := (bagG.same s6).ne hy9
    have up : ∀ {b o}, b ≠ a → G4 b = some o → Ha b = some o := fun na e => toA na (to8 (ne_of_none e hl2) (s7 _ _ (s6 _ _ (s_l2 _ _ e))))
    have gp := up n1 (s24 _ _ (s_q2 _ _ h_p2))
    have gq := up n2 (s24 _ _ h_q2)
    have gr := up n3 h4
    have gu := toA n4 (to8 (Ne.symm (ne_of_none h_l2 hu2)) (s7 _ _ h6))
    have gy := toA n5 (to8 (Ne.symm (ne_of_none (s6 _ _ h_l2) hy9)) h7)
    have all := at_all (Pr := fun v => ∃ d, Dx K Ha v d ∧ okT d) (xs := [.ref p2, .ref q2, .ref r2, .ref y9]) j0 (by simpa using j1) (fun v hv => by
      simp only [List.mem_cons, List.not_mem_nil, or_false] at hv
      rcases hv with rfl | rfl | rfl | rfl
      · exact ⟨.tuple [kd, .str w, ad, .int 0], .of (.tup (SqT.of gp) (.cons dka (.cons (.str w) (.cons daa (.cons (.int 0) .nil))))),
          okT_of (okP_tup (W := 1000) (D := 10) (by intro d hd; simp only [List.mem_cons, List.not_mem_nil, or_false] at hd; rcases hd with rfl | rfl | rfl | rfl; exact pk; exact pw; exact pa; exact okP_int0) (by simp) (by decide))⟩
      · exact ⟨.list [kd, .str w, ad], .of (.lst (SqL.of gq) (.cons dka (.cons (.str w) (.cons daa .nil)))),
          okT_of (okP_list (W := 1000) (D := 10) (by intro d hd; simp only [List.mem_cons, List.not_mem_nil, or_false] at hd; rcases hd with rfl | rfl | rfl <;> assumption) (by simp) (by decide))⟩
      · exact ⟨.dict [(.int 0, .str w)], .dict gr (.cons rfl .nil), okT_dict okw⟩
      · exact ⟨.tuple [.tuple [kd, .str w], ad], .of (.tup (SqT.of gy) (.cons (.tup (SqT.of gu) (.cons dka (.cons (.str w) .nil))) (.cons daa .nil))),
          okT_of (okP_tup (W := 3000) (D := 12) (by
            intro d hd
            simp only [List.mem_cons, List.not_mem_nil, or_false] at hd
            rcases hd with rfl | rfl
            · exact okP_tup (W := 1000) (D := 10) (by intro d hd; simp only [List.mem_cons, List.not_mem_nil, or_false] at hd; rcases hd with rfl | rfl <;> assumption) (by simp) (by decide)
            · exact okP_mono pa (by decide) (by decide)) (by simp) (by decide))⟩)
    obtain ⟨v, hv, d, dv, od⟩ := all
    exact ⟨_, _, _, _, rfl, rfl, SqL.of (toA nl2 h8), hv, fin v d Ha x baga dv od⟩
theorem sc_l_is_whole : FnScope ["_law_thing_here", "_law_least", "_law_most"] ["_law_thing_here", "_law_least", "_law_most"] (defScope s_l_is_whole) := ⟨rfl, rfl, rfl, by decide +kernel, rfl, by decide +kernel, by decide +kernel⟩
theorem ok_l_is_whole {f : Addr} {fd : FuncData} (F : Fun K "_law_is_whole" "_law_is_whole" s_l_is_whole f fd) (T : Txt K mg)
    : FnOk P w K mg base CX0 1 f fd ["_law_thing_here", "_law_least", "_law_most"] (spBetween K) := by
  refine F.ok sc_l_is_whole (fun vs H Q E h => ?_) (fun cdv A outer s H vs Q E hr h => ?_)
  · obtain ⟨v, d, a, b, rfl, _⟩ := h; rfl
  · obtain ⟨v, d, a, b, rfl, hx, k⟩ := h
    have hu := hu_of hr
    have hu64 := hr.units
    refine ⟨_, (pss_one (ps_ret (pe_and (pe_callB call_isi (by rfl) T.n_isinstance (by decide +kernel) (pa_cons (pv 0) (pa_cons (pe_bltn (v := .ty "int") (u := .type "int") (by rfl) T.n_int (by decide +kernel) rfl) pa_nil))) (pe_and (pe_not (pe_callB call_isi (by rfl) T.n_isinstance (by decide +kernel) (pa_cons (pv 0) (pa_cons (pe_bltn (v := .ty "bool") (u := .type "bool") (by rfl) T.n_bool (by decide +kernel) rfl) pa_nil)))) (pe_one (pe_chain op_le op_le (pv 1) (pv 0) (pv 2))))))), ?_⟩
    refine rd_isi rfl hx (by simp) ⟨_, rfl, ?_⟩
    rw [isD_int]
    cases d with
    | int i =>
      obtain rfl := dx_int hx
      refine iteT (rd_isi rfl hx (by simp) ⟨_, rfl, ?_⟩)
      rw [isD_bool]
      refine ⟨_, rfl, iteT ?_⟩
      have k : Q (.bl (decide (a ≤ i) && decide (i ≤ b))) H := k
      refine ⟨_, rfl, _, rfl, _, _, rfl, rfl, _, rfl, ?_⟩
      by_cases h1 : a ≤ i
      · rw [decide_eq_true h1]
        refine iteT ⟨_, rfl, _, _, rfl, rfl, ?_⟩
        rw [decide_eq_true h1] at k
        exact k
      · rw [decide_eq_false h1]
        refine iteF ?_
        rw [decide_eq_false h1] at k
        exact k
    | bool b =>
      refine iteT (rd_isi rfl hx (by simp) ⟨_, rfl, ?_⟩)
      rw [isD_bool]
      exact ⟨_, rfl, k⟩
    | none => exact iteF k
    | str x => exact iteF k
    | list xs => exact iteF k
    | tuple xs => exact iteF k
    | dict kvs => exact iteF k
theorem sc_l_is_name : FnScope ["_law_thing_here", "_law_sign"] ["_law_thing_here"] (defScope s_l_is_name) := ⟨rfl, rfl, rfl, by decide +kernel, rfl, by decide +kernel, by decide +kernel⟩
theorem ok_l_is_name {f : Addr} {fd : FuncData} (F : Fun K "_law_is_name" "_law_is_name" s_l_is_name f fd) (T : Txt K mg)
    : FnOk P w K mg base CX0 1 f fd ["_law_thing_here"] (spIs K mName) := by
  refine F.ok sc_l_is_name (fun vs H Q E h => ?_) (fun cdv A outer s H vs Q E hr h => ?_)
  · obtain ⟨v, d, rfl, _⟩ := h; rfl
  · obtain ⟨v, d, rfl, hx, hs, k⟩ := h
    have hu := hu_of hr
    have hu64 := hr.units
    refine ⟨_, (pss_cons (ps_if (PW.pt (pw_or (pt_not (pt_val (pe_callB call_isi (by rfl) T.n_isinstance (by decide +kernel) (pa_cons (pv 0) (pa_cons (pe_bltn (v := .ty "str") (u := .type "str") (by rfl) T.n_str (by decide +kernel) rfl) pa_nil))))) (pw_or (pt_cmpR op_notIn_seq (pe_callB call_len_str (by rfl) T.n_len PySem.boot_len (pa_cons (pv 0) pa_nil)) (pe_lst (pa_cons pe_int (pa_cons pe_int (pa_cons pe_int (pa_cons pe_int pa_nil))))) (by rfl)) (pw_or1 (pt_cmpR op_in_seq (pv 0) (pe_lst (pa_cons pe_str (pa_cons pe_str (pa_cons pe_str pa_nil)))) (by rfl))))))
    (pss_one (ps_ret pe_bl))
    pss_nil)
  (pss_one (ps_ret (pe_cmpR (op_eqD hu64) (pe_lc (own := [("_law_sign", 1)]) (g := gName 1) rfl sc_l_is_name.nd (pi_str (pv 0)) (blkOk_by (own := [("_law_sign", 1)]) (N := ["_law_thing_here", "_law_sign"]) (sc := defScope s_l_is_name) (by decide +kernel)) (fun _ _ _ _ _ => (pg_name (i := 1) sc_l_is_name.nd rfl (Or.inl rfl))) (fun _ _ _ _ _ => (pts_one (pt_cmpR op_notIn_sign (pv 1) pe_str (by rfl)))) (fun _ _ _ _ _ => (pv 1))) (pe_lst pa_nil) (nomark _))))), ?_⟩
    refine rd_isi rfl hx (by simp) ⟨_, rfl, ?_⟩
    rw [isD_str]
    cases d with
    | int i => exact k H (Same.refl H)
    | bool b => exact k H (Same.refl H)
    | none => exact k H (Same.refl H)
    | list xs => exact k H (Same.refl H)
    | tuple xs => exact k H (Same.refl H)
    | dict kvs => exact k H (Same.refl H)
    | str x =>
      obtain rfl := dx_str hx
      have hl := len_le hs
      have k : ∀ H', Same H H' → Q (.bl (nameOk x)) H' := k
      refine iteF ⟨_, rfl, _, rfl, size_ok (by omega), size_ok (by simp), fun p hp => ⟨_, _, rfl, Or.inl (SqL.of upd_same), rfl, rfl, !(inV (.int x.length) [.int 1, .int 2, .int 3, .int 4]), rfl, ?_⟩⟩
      have s1 := same_new hp (o := .lst [.int 1, .int 2, .int 3, .int 4])
      generalize upd H p (.lst [.int 1, .int 2, .int 3, .int 4]) = H1 at s1 ⊢
      rw [inV_14]
      by_cases h1 : 1 ≤ x.length ∧ x.length ≤ 4
      · rw [decide_eq_true h1]
        refine ⟨_, rfl, size_ok (by simp), fun q hq => ⟨_, _, rfl, Or.inl (SqL.of upd_same), rfl, rfl, inV (.str x) [.str "keys", .str "look", .str "self"], rfl, ?_⟩⟩
        have s2 := s1.trans (same_new hq (o := .lst [.str "keys", .str "look", .str "self"]))
        generalize upd H1 q (.lst [.str "keys", .str "look", .str "self"]) = H2 at s2 ⊢
        cases e : inV (.str x) [.str "keys", .str "look", .str "self"] with
        | true =>
          have := k H2 s2
          have e2 : nameOk x = false := by unfold nameOk; rw [e]; simp
          rw [e2] at this
          exact this
        | false =>
          refine iteF ⟨_, rfl, _, rfl, fun D hD => lc_text (fun i H' => H' = upd H2 D (.lst (((x.cps.toList.take i).filter fun c => !inAbc c).map fun c => V.str ⟨#[c]⟩))) rfl ?_ ?_⟩
          · rintro i c H' hc rfl
            refine ⟨rfl, _, rfl, _, _, rfl, rfl, _, rfl, ?_⟩
            have e3 : (!decide (c ∈ (Str.ofString "abcdefghijklmnopqrstuvwxyz").cps.toList)) = !inAbc c := rfl
            rw [e3]
            cases e4 : inAbc c with
            | true =>
              show upd _ _ _ = _
              rw [take_snoc hc, List.filter_append]
              simp [e4]
            | false =>
              refine ⟨_, rfl, _, upd_same, ?_, ?_⟩
              · refine size_lt ?_
                rw [List.length_map]
                have h5 := List.length_filter_le (fun c => !inAbc c) (x.cps.toList.take i)
                rw [List.length_take] at h5
                have : x.cps.toList.length = x.length := rfl
                omega
              · show upd (upd _ _ _) _ _ = _
                rw [upd_upd, take_snoc hc, List.filter_append]
                simp [e4]
          · rintro H' rfl
            have e6 : x.cps.toList.take x.cps.size = x.cps.toList := List.take_of_length_le (Nat.le_of_eq Array.length_toList)
            rw [e6]
            have s3 := s2.trans (same_new hD (o := .lst ((x.cps.toList.filter fun c => !inAbc c).map fun c => V.str ⟨#[c]⟩)))
            refine ⟨size_ok (by simp), fun r hr => ⟨.list (chars (x.cps.toList.filter fun c => !inAbc c)), .list [], ?_, .lst (SqL.of upd_same) .nil, shaped_chars _ (fun c hc => laid_str hs.2 c ((List.mem_filter.mp hc).1)), rfl, ?_⟩⟩
            · exact .lst (SqL.of ((same_new hr) _ _ upd_same)) (dp_chars _)
            · rw [eqv_nil, filter_empty]
              have := k _ (s3.trans (same_new hr (o := .lst [])))
              unfold nameOk at this
              rw [e, decide_eq_true h1] at this
              exact this
      · rw [decide_eq_false h1]
        have := k H1 s1
        unfold nameOk at this
        rw [decide_eq_false h1] at this
        exact this
theorem sc_l_is_element : FnScope ["_law_thing_here"] ["_law_thing_here"] (defScope s_l_is_element) := ⟨rfl, rfl, rfl, by decide +kernel, rfl, by decide +kernel, by decide +kernel⟩
theorem ok_l_is_element {f : Addr} {fd : FuncData} (F : Fun K "_law_is_element" "_law_is_element" s_l_is_element f fd) (T : Txt K mg)
    (D_l_is_whole : Fn P w K mg base 1 "_law_is_whole" ["_law_thing_here", "_law_least", "_law_most"] (spBetween K))
    (D_l_is_name : Fn P w K mg base 1 "_law_is_name" ["_law_thing_here"] (spIs K mName))
    : FnOk P w K mg base CX0 2 f fd ["_law_thing_here"] (spIs K mEl) := by
  refine F.ok sc_l_is_element (fun vs H Q E h => ?_) (fun cdv A outer s H vs Q E hr h => ?_)
  · obtain ⟨v, d, rfl, _⟩ := h; rfl
  · obtain ⟨v, d, rfl, hx, hs, k⟩ := h
    have hu := hu_of hr
    have hu64 := hr.units
    refine ⟨_, (pss_cons (ps_if (PW.pt (pw_or (pt_not (pt_val (pe_callB call_isi (by rfl) T.n_isinstance (by decide +kernel) (pa_cons (pv 0) (pa_cons (pe_bltn (v := .ty "tuple") (u := .type "tuple") (by rfl) T.n_tuple (by decide +kernel) rfl) pa_nil))))) (pw_or1 (pt_cmpR op_ne (pe_callB call_len_seq (by rfl) T.n_len PySem.boot_len (pa_cons (pv 0) pa_nil)) pe_int (nomark _)))))
    (pss_one (ps_ret pe_bl))
    pss_nil)
  (pss_one (ps_ret (pe_and (pe_fn D_l_is_whole (hr.mono (by decide)) rfl (pa_cons (pe_ix ix_tup (pv 0) pe_int (fun _ _ => rfl)) (pa_cons pe_int (pa_cons pe_int pa_nil)))) (pe_one (pe_fn D_l_is_name (hr.mono (by decide)) rfl (pa_cons (pe_ix ix_tup (pv 0) pe_int (fun _ _ => rfl)) pa_nil))))))), ?_⟩
    refine rd_isi rfl hx (by simp) ⟨_, rfl, ?_⟩
    rw [isD_tuple]
    cases d with
    | int i => exact k H (Same.refl H)
    | bool b => exact k H (Same.refl H)
    | none => exact k H (Same.refl H)
    | str x => exact k H (Same.refl H)
    | list xs => exact k H (Same.refl H)
    | dict kvs => exact k H (Same.refl H)
    | tuple ds =>
      obtain ⟨a, vs, rfl, ht, hd⟩ := dx_tuple hx
      have hlen := sqT_len hd
      refine iteF ⟨_, rfl, _, _, rfl, Or.inr ht, rfl, _, rfl, ?_⟩
      match vs, ds, hd, hlen with
      | [], [], _, _ => exact k H (Same.refl H)
      | [_], [_], _, _ => exact k H (Same.refl H)
      | _ :: _ :: _ :: r, _ :: _ :: _ :: _, _, _ =>
        have e : (!decide (V.int ((r.length + 1 + 1 + 1 : Nat) : Int) = V.int 2)) = true := by
          rw [decide_eq_false]
          · rfl
          · intro z
            injection z with z
            omega
        show (if (!decide (V.int ((r.length + 1 + 1 + 1 : Nat) : Int) = V.int 2)) = true then _ else _)
        rw [e]
        exact k H (Same.refl H)
      | [kv, fv], [kd, fd'], .cons h1 (.cons h2 .nil), _ =>
        have w0 : kd.weight + 1 + (fd'.weight + 1 + 0) ≤ 100000 := by simpa [PyData.weight, PyData.weightAll] using hs.1
        have k2 : ∀ H', Same H H' → Q (.bl (mKey kd && mName fd')) H' := k
        refine ⟨_, rfl, _, _, _, _, rfl, rfl, ht, rfl, _, _, _, _, rfl, .of h1, ?_⟩
        refine ⟨_, rfl, ?_⟩
        have e0 : between 0 999999 kd = mKey kd := rfl
        rw [e0]
        cases e : mKey kd with
        | false =>
          refine iteF ?_
          have := k2 H (Same.refl H)
          rw [e] at this
          exact this
        | true =>
          refine iteT ⟨_, rfl, _, _, _, _, rfl, rfl, ht, rfl, _, _, rfl, .of h2, ⟨by omega, laid_tup hs.2 _ (by simp)⟩, fun H1 s1 => ?_⟩
          have := k2 H1 s1
          rw [e] at this
          exact this
theorem sc_l_is_entry : FnScope ["_law_thing_here"] ["_law_thing_here"] (defScope s_l_is_entry) := ⟨rfl, rfl, rfl, by decide +kernel, rfl, by decide +kernel, by decide +kernel⟩
theorem ok_l_is_entry {f : Addr} {fd : FuncData} (F : Fun K "_law_is_entry" "_law_is_entry" s_l_is_entry f fd) (T : Txt K mg)
    (D_l_is_whole : Fn P w K mg base 1 "_law_is_whole" ["_law_thing_here", "_law_least", "_law_most"] (spBetween K))
    (D_l_is_element : Fn P w K mg base 2 "_law_is_element" ["_law_thing_here"] (spIs K mEl))
    : FnOk P w K mg base CX0 3 f fd ["_law_thing_here"] (spIs K mEnt) := by
  refine F.ok sc_l_is_entry (fun vs H Q E h => ?_) (fun cdv A outer s H vs Q E hr h => ?_)
  · obtain ⟨v, d, rfl, _⟩ := h; rfl
  · obtain ⟨v, d, rfl, hx, hs, k⟩ := h
    have hu := hu_of hr
    have hu64 := hr.units
    refine ⟨_, (pss_cons (ps_if (PW.pt (pw_or (pt_not (pt_val (pe_callB call_isi (by rfl) T.n_isinstance (by decide +kernel) (pa_cons (pv 0) (pa_cons (pe_bltn (v := .ty "tuple") (u := .type "tuple") (by rfl) T.n_tuple (by decide +kernel) rfl) pa_nil))))) (pw_or (pt_cmpR op_ne (pe_callB call_len_seq (by rfl) T.n_len PySem.boot_len (pa_cons (pv 0) pa_nil)) pe_int (nomark _)) (pw_or1 (pt_not (pt_val (pe_fn D_l_is_element (hr.mono (by decide)) rfl (pa_cons (pe_slice sl_tupA (pv 0) po_none (po_some pe_int)) pa_nil))))))))
    (pss_one (ps_ret pe_bl))
    pss_nil)
  (pss_one (ps_ret (pe_fn D_l_is_whole (hr.mono (by decide)) rfl (pa_cons (pe_ix ix_tup (pv 0) pe_int (fun _ _ => rfl)) (pa_cons (pe_op op_sub pe_int (pe_op op_pow pe_int pe_int)) (pa_cons (pe_op op_sub (pe_op op_pow pe_int pe_int) pe_int) pa_nil))))))), ?_⟩
    refine rd_isi rfl hx (by simp) ⟨_, rfl, ?_⟩
    rw [isD_tuple]
    cases d with
    | int i => exact k H (Same.refl H)
    | bool b => exact k H (Same.refl H)
    | none => exact k H (Same.refl H)
    | str x => exact k H (Same.refl H)
    | list xs => exact k H (Same.refl H)
    | dict kvs => exact k H (Same.refl H)
    | tuple ds =>
      obtain ⟨a, vs, rfl, ht, hd⟩ := dx_tuple hx
      have hlen := sqT_len hd
      refine iteF ⟨_, rfl, _, _, rfl, Or.inr ht, rfl, _, rfl, ?_⟩
      match vs, ds, hd, hlen with
      | [], [], _, _ => exact k H (Same.refl H)
      | [_], [_], _, _ => exact k H (Same.refl H)
      | [_, _], [_, _], _, _ => exact k H (Same.refl H)
      | _ :: _ :: _ :: _ :: r, _ :: _ :: _ :: _ :: _, _, _ =>
        have e : (!decide (V.int ((r.length + 1 + 1 + 1 + 1 : Nat) : Int) = V.int 3)) = true := by
          rw [decide_eq_false]
          · rfl
          · intro z
            injection z with z
            omega
        show (if (!decide (V.int ((r.length + 1 + 1 + 1 + 1 : Nat) : Int) = V.int 3)) = true then _ else _)
        rw [e]
        exact k H (Same.refl H)
      | [kv, fv, av], [kd, fd', ad], .cons h1 (.cons h2 (.cons h3 .nil)), _ =>
        have w0 : kd.weight + 1 + (fd'.weight + 1 + (ad.weight + 1 + 0)) ≤ 100000 := by simpa [PyData.weight, PyData.weightAll] using hs.1
        have k2 : ∀ H', Same H H' → Q (.bl (mKey kd && (mName fd' && mVal ad))) H' := k
        have lay2 : laid (.tuple [kd, fd']) := by
          rcases hs.2 with z | ⟨_, z⟩
          · left
            have z2 : (kd.canLay0 && (fd'.canLay0 && (ad.canLay0 && true))) = true := z
            rw [Bool.and_eq_true, Bool.and_eq_true] at z2
            show (kd.canLay0 && (fd'.canLay0 && true)) = true
            rw [z2.1, z2.2.1]
            rfl
          · cases z
        refine ⟨_, rfl, _, rfl, _, _, rfl, ht, fun z => absurd z.2 (show ¬ HT.sIx 3 3 (some 2) = 3 by decide), fun _ p hp => ?_⟩
        have s1 := same_new hp (o := .tup [kv, fv])
        have hp1 : upd H p (.tup [kv, fv]) p = some (.tup [kv, fv]) := upd_same
        have ec : cutV [kv, fv, av] none (some 2) = [kv, fv] := rfl
        rw [ec]
        generalize upd H p (.tup [kv, fv]) = H1 at s1 hp1 ⊢
        refine ⟨_, .tuple [kd, fd'], rfl, .of (.tup (SqT.of hp1) (.cons (dp_same s1 _ _ h1) (.cons (dp_same s1 _ _ h2) .nil))), ⟨?_, lay2⟩, fun H2 s2 => ⟨_, rfl, ?_⟩⟩
        · show kd.weight + 1 + (fd'.weight + 1 + 0) ≤ 100000
          omega
        · have k3 := k2 H2 (s1.trans s2)
          have e1 : mEl (.tuple [kd, fd']) = (mKey kd && mName fd') := rfl
          rw [e1]
          cases e : (mKey kd && mName fd') with
          | false =>
            have e3 : (mKey kd && (mName fd' && mVal ad)) = false := by rw [← Bool.and_assoc, e]; rfl
            rw [e3] at k3
            exact k3
          | true =>
            have e3 : (mKey kd && (mName fd' && mVal ad)) = mVal ad := by rw [← Bool.and_assoc, e]; rfl
            rw [e3] at k3
            refine iteF ⟨_, rfl, _, _, _, _, rfl, rfl, same_seqT (s1.trans s2) ht, rfl, ?_⟩
            exact ⟨_, _, rfl, rfl, ⟨by decide, by decide, by decide⟩, _, _, rfl, rfl, _, _, rfl, rfl, ⟨by decide, by decide, by decide⟩, _, _, rfl, rfl, _, _, _, _, rfl, .of (dp_same (s1.trans s2) _ _ h3), k3⟩
theorem sc_law : FnScope ["_law_script", "_law_at", "_law_bag_here", "_law_turn", "_law_thing_here", "_law_kept", "_law_due", "_law_told"] ["_law_script"] (defScope s_law) := ⟨rfl, rfl, rfl, by decide +kernel, rfl, by decide +kernel, by decide +kernel⟩
theorem ok_law {f : Addr} {fd : FuncData} (F : Fun K "law" "law" s_law f fd) (T : Txt K mg)
    (D_is_name : Fn P w K mg base 1 "is_name" ["thing"] (spIs K mName))
    (D_is_element : Fn P w K mg base 3 "is_element" ["thing"] (spIs K mEl))
    (D_is_entry : Fn P w K mg base 3 "is_entry" ["thing"] (spIs K mEnt))
    (D_l_bag : Fn P w K mg base 1 "_law_bag" ["_law_script", "_law_at"] (spBag K))
    (D_l_thing : Fn P w K mg base 3 "_law_thing" ["_law_bag_here"] (spThing K))
    (D_l_is_name : Fn P w K mg base 1 "_law_is_name" ["_law_thing_here"] (spIs K mName))
    (D_l_is_element : Fn P w K mg base 2 "_law_is_element" ["_law_thing_here"] (spIs K mEl))
    (D_l_is_entry : Fn P w K mg base 3 "_law_is_entry" ["_law_thing_here"] (spIs K mEnt))
    : FnG P w K mg base CX0 4 f fd ["_law_script"] (spLaw K) := by
  refine okG F sc_law (fun vs H Q E h => ?_) (fun cdv A outer s H vs Q E hg hr h => ?_)
  · obtain ⟨p, ns, rfl, _⟩ := h; rfl
  · obtain ⟨p, ns, rfl, hS, hl, k⟩ := h
    have hu := hu_of hr
    have hu64 := hr.units
    refine ⟨_, (pss_cons (ps_for PassesOwn.never rfl (pi_range1 (by rfl) T.n_range (pa_cons (pe_callB (call_max2 rfl) (by rfl) T.n_max (by decide +kernel) (pa_cons pe_int (pa_cons (pe_callB (call_min2 rfl) (by rfl) T.n_min (by decide +kernel) (pa_cons pe_int (pa_cons (pe_callB call_len_seq (by rfl) T.n_len PySem.boot_len (pa_cons (pv 0) pa_nil)) pa_nil))) pa_nil))) pa_nil)) (pg_name (i := 1) sc_law.nd rfl (Or.inl rfl))
    (pss_cons (ps_set (i := 2) sc_law.nd rfl (Or.inl rfl) (pe_fn D_l_bag (hr.mono (by decide)) rfl (pa_cons (pv 0) (pa_cons (pv 1) pa_nil))))
      (pss_one (ps_for PassesOwn.never rfl (pi_range1 (by rfl) T.n_range (pa_cons pe_int pa_nil)) (pg_name (i := 3) sc_law.nd rfl (Or.inl rfl))
        (pss_cons (ps_set (i := 4) sc_law.nd rfl (Or.inl rfl) (pe_fn D_l_thing (hr.mono (by decide)) rfl (pa_cons (pv 2) pa_nil)))
          (pss_cons (ps_set (i := 5) sc_law.nd rfl (Or.inl rfl) (pe_callB (call_repr hg hu64) (by rfl) T.n_repr (by decide +kernel) (pa_cons (pv 4) pa_nil)))
          (pss_cons (ps_set (i := 6) sc_law.nd rfl (Or.inl rfl) (pe_lst (pa_cons (pe_fn D_l_is_name (hr.mono (by decide)) rfl (pa_cons (pv 4) pa_nil)) (pa_cons (pe_fn D_l_is_element (hr.mono (by decide)) rfl (pa_cons (pv 4) pa_nil)) (pa_cons (pe_fn D_l_is_entry (hr.mono (by decide)) rfl (pa_cons (pv 4) pa_nil)) pa_nil)))))
          (pss_cons (ps_set (i := 7) sc_law.nd rfl (Or.inl rfl) (pe_lst (pa_cons (pe_fn D_is_name (hr.mono (by decide)) rfl (pa_cons (pv 4) pa_nil)) (pa_cons (pe_fn D_is_element (hr.mono (by decide)) rfl (pa_cons (pv 4) pa_nil)) (pa_cons (pe_fn D_is_entry (hr.mono (by decide)) rfl (pa_cons (pv 4) pa_nil)) pa_nil)))))
          (pss_one (ps_if (PW.pt (pw_or (pt_cmpR op_ne (pe_callB (call_repr hg hu64) (by rfl) T.n_repr (by decide +kernel) (pa_cons (pv 7) pa_nil)) (pe_callB (call_repr hg hu64) (by rfl) T.n_repr (by decide +kernel) (pa_cons (pv 6) pa_nil)) (nomark _)) (pw_or1 (pt_cmpR op_ne (pe_callB (call_repr hg hu64) (by rfl) T.n_repr (by decide +kernel) (pa_cons (pv 4) pa_nil)) (pv 5) (nomark _)))))
            (pss_one (ps_ret pe_bl))
            pss_nil))))))))))
  (pss_one (ps_ret (pe_and (pe_fn D_is_name (hr.mono (by decide)) rfl (pa_cons pe_str pa_nil)) (pe_and (pe_fn D_is_element (hr.mono (by decide)) rfl (pa_cons (pe_tup (pa_cons pe_int (pa_cons pe_str pa_nil))) pa_nil)) (pe_and (pe_fn D_is_entry (hr.mono (by decide)) rfl (pa_cons (pe_tup (pa_cons pe_int (pa_cons pe_str (pa_cons (pe_un un_neg pe_int) pa_nil)))) pa_nil)) (pe_one (pe_not (pe_fn D_is_name (hr.mono (by decide)) rfl (pa_cons pe_str pa_nil)))))))))), ?_⟩
    have turns : ∀ z : Int, z ≤ 63 → 0 ≤ z → (if (if z < 6 then z else 6) > 2 then (if z < 6 then z else 6) else 2) ≤ 6 ∧ 2 ≤ (if (if z < 6 then z else 6) > 2 then (if z < 6 then z else 6) else 2) := by
      intro z z1 z2
      split <;> split <;> omega
    have t0 := turns (ns.map V.int).length (by rw [List.length_map]; omega) (by omega)
    refine ⟨_, rfl, _, _, rfl, Or.inl hS, _, _, rfl, _, _, rfl, _, rfl, by omega, by omega, ?_⟩
    refine for_range (lo := 0) (fun i σ H' => (∃ x1 x2 x3 x4 x5 x6 x7, σ = [some (.ref p), x1, x2, x3, x4, x5, x6, x7]) ∧ Same H H') ⟨⟨_, _, _, _, _, _, _, rfl⟩, Same.refl H⟩ ?_ ?_
    · rintro i σ H1 hi ⟨⟨x1, x2, x3, x4, x5, x6, x7, rfl⟩, s1⟩
      have hi6 : i < 6 := by omega
      refine ⟨_, rfl, _, rfl, p, ns, i, by simp, s1.seq hS, by omega, fun a o ha bag => ?_⟩
      have s2 := same_new ha (o := o)
      have na : H a = none := s1.free ha
      generalize upd H1 a o = H2 at s2 bag ⊢
      refine ⟨_, rfl, by decide, by decide, for_range (lo := 0) (fun j σ H' => (∃ x3 x4 x5 x6 x7, σ = [some (.ref p), some (.int (0 + i)), some (.ref a), x3, x4, x5, x6, x7]) ∧ Ext a H2 H' ∧ Bag H' a (8 * j)) ⟨⟨_, _, _, _, _, rfl⟩, fun _ _ _ e => e, bag⟩ ?_ ?_⟩
      · rintro j σ H3 hj ⟨⟨x3, x4, x5, x6, x7, rfl⟩, x3', bag3⟩
        have hj10 : j < 10 := hj
        refine ⟨_, rfl, a, 8 * j, rfl, bag3, by omega, fun v d H4 dv ok s4 bag4 => ?_⟩
        have ol := okT_len ok
        have os := okT_sm ok
        have od : d.depth ≤ 60 := Nat.le_trans ok.2.2.2.1 (by decide)
        refine ⟨_, rfl, _, d, rfl, dv, ok.1, od, ol, ?_⟩
        refine ⟨_, rfl, _, d, rfl, dv, os, fun H5 s5 => ?_⟩
        refine ⟨_, rfl, _, d, rfl, dv.same s5, os, fun H6 s6 => ?_⟩
        refine ⟨_, rfl, _, d, rfl, dv.same (s5.trans s6), os, fun H7 s7 => ⟨size_ok (by simp), fun q hq => ?_⟩⟩
        generalize e_q : upd H7 q _ = H8
        have s_q := new_same e_q hq
        have h_q := new_at e_q
        have s48 := s5.trans (s6.trans (s7.trans s_q))
        refine ⟨_, rfl, _, d, rfl, dv.same s48, os, fun H9 s9 => ?_⟩
        refine ⟨_, rfl, _, d, rfl, dv.same (s48.trans s9), os, fun G1 t1 => ?_⟩
        refine ⟨_, rfl, _, d, rfl, dv.same (s48.trans (s9.trans t1)), os, fun G2 t2 => ⟨size_ok (by simp), fun r hr2 => ?_⟩⟩
        generalize e_r : upd G2 r _ = G3
        have s_r := new_same e_r hr2
        have h_r := new_at e_r
        have s4G := s48.trans (s9.trans (t1.trans (t2.trans s_r)))
        have hq3 := s_r _ _ (t2 _ _ (t1 _ _ (s9 _ _ h_q)))
        have ob := ok_bools (mName d) (mEl d) (mEnt d)
        have obl := okT_len ob
        refine ⟨_, rfl, _, .list [.bool (mName d), .bool (mEl d), .bool (mEnt d)], rfl, .of (.lst (SqL.of h_r) (.cons (.bl _) (.cons (.bl _) (.cons (.bl _) .nil)))), ob.1, Nat.le_trans ob.2.2.2.1 (by decide), obl, ?_⟩
        refine ⟨_, rfl, _, .list [.bool (mName d), .bool (mEl d), .bool (mEnt d)], rfl, .of (.lst (SqL.of hq3) (.cons (.bl _) (.cons (.bl _) (.cons (.bl _) .nil)))), ob.1, Nat.le_trans ob.2.2.2.1 (by decide), obl, ?_⟩
        refine ⟨rfl, _, rfl, ?_⟩
        refine iteNS rfl ?_
        refine ⟨_, rfl, _, d, rfl, dv.same s4G, ok.1, od, ol, _, rfl, rfl, _, rfl, ?_⟩
        refine iteNS rfl ?_
        refine ⟨⟨_, _, _, _, _, rfl⟩, ?_, (bag4.same s4G).mono (by omega)⟩
        intro b o nb e
        have e3 := x3' b o nb e
        have e4 : del a H3 b = some o := (del_at nb).trans e3
        exact s4G _ _ ((del_at nb).symm.trans (s4 _ _ e4))
      · rintro σ H3 ⟨⟨x3, x4, x5, x6, x7, rfl⟩, x3', bag3⟩
        refine ⟨⟨_, _, _, _, _, _, _, rfl⟩, ?_⟩
        intro b o e
        exact x3' b o (ne_of_none e na) (s2 _ _ (s1 _ _ e))
    · rintro σ H1 ⟨⟨x1, x2, x3, x4, x5, x6, x7, rfl⟩, s1⟩
      have e1 : mName (.str "key") = true := by decide +kernel
      have e2 : mEl (.tuple [.int 0, .str "seld"]) = true := by decide +kernel
      have e3 : mEnt (.tuple [.int 999999, .str "a", .int (-7)]) = true := by decide +kernel
      have e4 : mName (.str "self") = false := by decide +kernel
      refine ⟨_, .str "key", rfl, .of (.str _), ⟨by decide +kernel, .inl (by decide +kernel)⟩, fun H2 s2 => ⟨_, rfl, ?_⟩⟩
      rw [e1]
      refine iteT ⟨size_ok (by simp), fun q hq => ?_⟩
      generalize e_q : upd H2 q _ = H3
      have s_q := new_same e_q hq
      have h_q := new_at e_q
      refine ⟨_, .tuple [.int 0, .str "seld"], rfl, .of (.tup (SqT.of h_q) (.cons (.int _) (.cons (.str _) .nil))), ⟨by decide +kernel, .inl (by decide +kernel)⟩, fun H4 s4 => ⟨_, rfl, ?_⟩⟩
      rw [e2]
      refine iteT ⟨_, rfl, size_ok (by simp), fun r hr2 => ?_⟩
      generalize e_r : upd H4 r _ = H5
      have h_r := new_at e_r
      refine ⟨_, .tuple [.int 999999, .str "a", .int (-7)], rfl, .of (.tup (SqT.of h_r) (.cons (.int _) (.cons (.str _) (.cons (.int _) .nil)))), ⟨by decide +kernel, .inl (by decide +kernel)⟩, fun H6 s6 => ⟨_, rfl, ?_⟩⟩
      rw [e3]
      refine iteT ⟨_, .str "self", rfl, .of (.str _), ⟨by decide +kernel, .inl (by decide +kernel)⟩, fun H7 s7 => ⟨_, rfl, ?_⟩⟩
      rw [e4]
      exact k H7
end
theorem all_mk {l : PySem.W.OpenLaw} {w : World} {K : PySem.W.Frag} {h : Heap} {mg : Str → Option Value} {fa : Addr} (X : K.In h) (G : h.Ns mainGlobals mg) (hfa : mg "law" = some (.ref fa))
    {f0 : Addr} {oc0 kV0 dc0 pm0 cd0 ct0 : Value} {od0 an0 : Option Addr} {sl0 : Array (Option Value)}
    {f1 : Addr} {oc1 kV1 dc1 pm1 cd1 ct1 : Value} {od1 an1 : Option Addr} {sl1 : Array (Option Value)}
    {f2 : Addr} {oc2 kV2 dc2 pm2 cd2 ct2 : Value} {od2 an2 : Option Addr} {sl2 : Array (Option Value)}
    {f3 : Addr} {oc3 kV3 dc3 pm3 cd3 ct3 : Value} {od3 an3 : Option Addr} {sl3 : Array (Option Value)}
    {f4 : Addr} {oc4 kV4 dc4 pm4 cd4 ct4 : Value} {od4 an4 : Option Addr} {sl4 : Array (Option Value)}
    {f5 : Addr} {oc5 kV5 dc5 pm5 cd5 ct5 : Value} {od5 an5 : Option Addr} {sl5 : Array (Option Value)}
    {f6 : Addr} {oc6 kV6 dc6 pm6 cd6 ct6 : Value} {od6 an6 : Option Addr} {sl6 : Array (Option Value)}
    {f7 : Addr} {oc7 kV7 dc7 pm7 cd7 ct7 : Value} {od7 an7 : Option Addr} {sl7 : Array (Option Value)}
    {f8 : Addr} {oc8 kV8 dc8 pm8 cd8 ct8 : Value} {od8 an8 : Option Addr} {sl8 : Array (Option Value)}
    {f9 : Addr} {oc9 kV9 dc9 pm9 cd9 ct9 : Value} {od9 an9 : Option Addr} {sl9 : Array (Option Value)}
    {f10 : Addr} {oc10 kV10 dc10 pm10 cd10 ct10 : Value} {od10 an10 : Option Addr} {sl10 : Array (Option Value)}
    {f11 : Addr} {oc11 kV11 dc11 pm11 cd11 ct11 : Value} {od11 an11 : Option Addr} {sl11 : Array (Option Value)}
    {f12 : Addr} {oc12 kV12 dc12 pm12 cd12 ct12 : Value} {od12 an12 : Option Addr} {sl12 : Array (Option Value)}
    {f13 : Addr} {oc13 kV13 dc13 pm13 cd13 ct13 : Value} {od13 an13 : Option Addr} {sl13 : Array (Option Value)}
    {f14 : Addr} {oc14 kV14 dc14 pm14 cd14 ct14 : Value} {od14 an14 : Option Addr} {sl14 : Array (Option Value)}
    {f15 : Addr} {oc15 kV15 dc15 pm15 cd15 ct15 : Value} {od15 an15 : Option Addr} {sl15 : Array (Option Value)}
    {t_LETTERS : Tok}
    {t_MOST_LETTERS : Tok}
    {r_RESERVED : Addr} {rd_RESERVED : Option Addr} {rn_RESERVED : Nat} {rs_RESERVED : Array (Option Value)} {rt_RESERVED_0 : Tok} {rt_RESERVED_1 : Tok} {rt_RESERVED_2 : Tok}
    {t_HIGHEST_KEY : Tok}
    {t_VALUE_LIMIT : Tok}
    (a0 : PySem.W.nsIn K mainGlobals "is_whole" = some (some (.ref f0)))
    (l0 : K.lookup f0 = some ⟨oc0, od0, .func (PySem.W.fnOf "is_whole" "is_whole" (defArgs s_is_whole) (defBody s_is_whole) (defScope s_is_whole) .none kV0 dc0 pm0 an0 cd0 ct0), sl0⟩)
    (c0 : PySem.W.codeIn K cd0 "is_whole" = true) (k0 : PySem.W.keepIn K (.ref f0) = true)
    (a1 : PySem.W.nsIn K mainGlobals "is_name" = some (some (.ref f1)))
    (l1 : K.lookup f1 = some ⟨oc1, od1, .func (PySem.W.fnOf "is_name" "is_name" (defArgs s_is_name) (defBody s_is_name) (defScope s_is_name) .none kV1 dc1 pm1 an1 cd1 ct1), sl1⟩)
    (c1 : PySem.W.codeIn K cd1 "is_name" = true) (k1 : PySem.W.keepIn K (.ref f1) = true)
    (a2 : PySem.W.nsIn K mainGlobals "is_key" = some (some (.ref f2)))
    (l2 : K.lookup f2 = some ⟨oc2, od2, .func (PySem.W.fnOf "is_key" "is_key" (defArgs s_is_key) (defBody s_is_key) (defScope s_is_key) .none kV2 dc2 pm2 an2 cd2 ct2), sl2⟩)
    (c2 : PySem.W.codeIn K cd2 "is_key" = true) (k2 : PySem.W.keepIn K (.ref f2) = true)
    (a3 : PySem.W.nsIn K mainGlobals "is_value" = some (some (.ref f3)))
    (l3 : K.lookup f3 = some ⟨oc3, od3, .func (PySem.W.fnOf "is_value" "is_value" (defArgs s_is_value) (defBody s_is_value) (defScope s_is_value) .none kV3 dc3 pm3 an3 cd3 ct3), sl3⟩)
    (c3 : PySem.W.codeIn K cd3 "is_value" = true) (k3 : PySem.W.keepIn K (.ref f3) = true)
    (a4 : PySem.W.nsIn K mainGlobals "is_element" = some (some (.ref f4)))
    (l4 : K.lookup f4 = some ⟨oc4, od4, .func (PySem.W.fnOf "is_element" "is_element" (defArgs s_is_element) (defBody s_is_element) (defScope s_is_element) .none kV4 dc4 pm4 an4 cd4 ct4), sl4⟩)
    (c4 : PySem.W.codeIn K cd4 "is_element" = true) (k4 : PySem.W.keepIn K (.ref f4) = true)
    (a5 : PySem.W.nsIn K mainGlobals "is_entry" = some (some (.ref f5)))
    (l5 : K.lookup f5 = some ⟨oc5, od5, .func (PySem.W.fnOf "is_entry" "is_entry" (defArgs s_is_entry) (defBody s_is_entry) (defScope s_is_entry) .none kV5 dc5 pm5 an5 cd5 ct5), sl5⟩)
    (c5 : PySem.W.codeIn K cd5 "is_entry" = true) (k5 : PySem.W.keepIn K (.ref f5) = true)
    (a6 : PySem.W.nsIn K mainGlobals "_law_bag" = some (some (.ref f6)))
    (l6 : K.lookup f6 = some ⟨oc6, od6, .func (PySem.W.fnOf "_law_bag" "_law_bag" (defArgs s_l_bag) (defBody s_l_bag) (defScope s_l_bag) .none kV6 dc6 pm6 an6 cd6 ct6), sl6⟩)
    (c6 : PySem.W.codeIn K cd6 "_law_bag" = true) (k6 : PySem.W.keepIn K (.ref f6) = true)
    (a7 : PySem.W.nsIn K mainGlobals "_law_take" = some (some (.ref f7)))
    (l7 : K.lookup f7 = some ⟨oc7, od7, .func (PySem.W.fnOf "_law_take" "_law_take" (defArgs s_l_take) (defBody s_l_take) (defScope s_l_take) .none kV7 dc7 pm7 an7 cd7 ct7), sl7⟩)
    (c7 : PySem.W.codeIn K cd7 "_law_take" = true) (k7 : PySem.W.keepIn K (.ref f7) = true)
    (a8 : PySem.W.nsIn K mainGlobals "_law_word" = some (some (.ref f8)))
    (l8 : K.lookup f8 = some ⟨oc8, od8, .func (PySem.W.fnOf "_law_word" "_law_word" (defArgs s_l_word) (defBody s_l_word) (defScope s_l_word) .none kV8 dc8 pm8 an8 cd8 ct8), sl8⟩)
    (c8 : PySem.W.codeIn K cd8 "_law_word" = true) (k8 : PySem.W.keepIn K (.ref f8) = true)
    (a9 : PySem.W.nsIn K mainGlobals "_law_number" = some (some (.ref f9)))
    (l9 : K.lookup f9 = some ⟨oc9, od9, .func (PySem.W.fnOf "_law_number" "_law_number" (defArgs s_l_number) (defBody s_l_number) (defScope s_l_number) .none kV9 dc9 pm9 an9 cd9 ct9), sl9⟩)
    (c9 : PySem.W.codeIn K cd9 "_law_number" = true) (k9 : PySem.W.keepIn K (.ref f9) = true)
    (a10 : PySem.W.nsIn K mainGlobals "_law_thing" = some (some (.ref f10)))
    (l10 : K.lookup f10 = some ⟨oc10, od10, .func (PySem.W.fnOf "_law_thing" "_law_thing" (defArgs s_l_thing) (defBody s_l_thing) (defScope s_l_thing) .none kV10 dc10 pm10 an10 cd10 ct10), sl10⟩)
    (c10 : PySem.W.codeIn K cd10 "_law_thing" = true) (k10 : PySem.W.keepIn K (.ref f10) = true)
    (a11 : PySem.W.nsIn K mainGlobals "_law_is_whole" = some (some (.ref f11)))
    (l11 : K.lookup f11 = some ⟨oc11, od11, .func (PySem.W.fnOf "_law_is_whole" "_law_is_whole" (defArgs s_l_is_whole) (defBody s_l_is_whole) (defScope s_l_is_whole) .none kV11 dc11 pm11 an11 cd11 ct11), sl11⟩)
    (c11 : PySem.W.codeIn K cd11 "_law_is_whole" = true) (k11 : PySem.W.keepIn K (.ref f11) = true)
    (a12 : PySem.W.nsIn K mainGlobals "_law_is_name" = some (some (.ref f12)))
    (l12 : K.lookup f12 = some ⟨oc12, od12, .func (PySem.W.fnOf "_law_is_name" "_law_is_name" (defArgs s_l_is_name) (defBody s_l_is_name) (defScope s_l_is_name) .none kV12 dc12 pm12 an12 cd12 ct12), sl12⟩)
    (c12 : PySem.W.codeIn K cd12 "_law_is_name" = true) (k12 : PySem.W.keepIn K (.ref f12) = true)
    (a13 : PySem.W.nsIn K mainGlobals "_law_is_element" = some (some (.ref f13)))
    (l13 : K.lookup f13 = some ⟨oc13, od13, .func (PySem.W.fnOf "_law_is_element" "_law_is_element" (defArgs s_l_is_element) (defBody s_l_is_element) (defScope s_l_is_element) .none kV13 dc13 pm13 an13 cd13 ct13), sl13⟩)
    (c13 : PySem.W.codeIn K cd13 "_law_is_element" = true) (k13 : PySem.W.keepIn K (.ref f13) = true)
    (a14 : PySem.W.nsIn K mainGlobals "_law_is_entry" = some (some (.ref f14)))
    (l14 : K.lookup f14 = some ⟨oc14, od14, .func (PySem.W.fnOf "_law_is_entry" "_law_is_entry" (defArgs s_l_is_entry) (defBody s_l_is_entry) (defScope s_l_is_entry) .none kV14 dc14 pm14 an14 cd14 ct14), sl14⟩)
    (c14 : PySem.W.codeIn K cd14 "_law_is_entry" = true) (k14 : PySem.W.keepIn K (.ref f14) = true)
    (a15 : PySem.W.nsIn K mainGlobals "law" = some (some (.ref f15)))
    (l15 : K.lookup f15 = some ⟨oc15, od15, .func (PySem.W.fnOf "law" "law" (defArgs s_law) (defBody s_law) (defScope s_law) .none kV15 dc15 pm15 an15 cd15 ct15), sl15⟩)
    (c15 : PySem.W.codeIn K cd15 "law" = true) (k15 : PySem.W.keepIn K (.ref f15) = true)
    (z_abs : PySem.W.nsIn K mainGlobals "abs" = some none)
    (z_all : PySem.W.nsIn K mainGlobals "all" = some none)
    (z_bool : PySem.W.nsIn K mainGlobals "bool" = some none)
    (z_int : PySem.W.nsIn K mainGlobals "int" = some none)
    (z_isinstance : PySem.W.nsIn K mainGlobals "isinstance" = some none)
    (z_len : PySem.W.nsIn K mainGlobals "len" = some none)
    (z_max : PySem.W.nsIn K mainGlobals "max" = some none)
    (z_min : PySem.W.nsIn K mainGlobals "min" = some none)
    (z_range : PySem.W.nsIn K mainGlobals "range" = some none)
    (z_repr : PySem.W.nsIn K mainGlobals "repr" = some none)
    (z_str : PySem.W.nsIn K mainGlobals "str" = some none)
    (z_tuple : PySem.W.nsIn K mainGlobals "tuple" = some none)
    (z_LETTERS : PySem.W.nsIn K mainGlobals "LETTERS" = some (some (.str "abcdefghijklmnopqrstuvwxyz" t_LETTERS)))
    (z_MOST_LETTERS : PySem.W.nsIn K mainGlobals "MOST_LETTERS" = some (some (.int 4 t_MOST_LETTERS)))
    (z_RESERVED : PySem.W.nsIn K mainGlobals "RESERVED" = some (some (.ref r_RESERVED)))
    (y_RESERVED : K.lookup r_RESERVED = some ⟨.type "tuple", rd_RESERVED, .seq #[.str "keys" rt_RESERVED_0, .str "look" rt_RESERVED_1, .str "self" rt_RESERVED_2] rn_RESERVED, rs_RESERVED⟩)
    (z_HIGHEST_KEY : PySem.W.nsIn K mainGlobals "HIGHEST_KEY" = some (some (.int 999999 t_HIGHEST_KEY)))
    (z_VALUE_LIMIT : PySem.W.nsIn K mainGlobals "VALUE_LIMIT" = some (some (.int 10000000000000000000000000000000000000000 t_VALUE_LIMIT)))
    : ∃ fd : FuncData, (∀ (s : Shared) (v : Value), BindsTo s fd ⟨[v], []⟩ [("_law_script", v)]) ∧ ∀ base : Heap, K.In base → base.Ns mainGlobals mg → FnG l.prog w K mg base CX0 4 fa fd ["_law_script"] (spLaw K) := by
  have e := hfa.symm.trans (PySem.W.mg_of X G a15)
  cases e
  have T : Txt K mg := ⟨PySem.W.mg_none_of X G z_abs, PySem.W.mg_none_of X G z_all, PySem.W.mg_none_of X G z_bool, PySem.W.mg_none_of X G z_int, PySem.W.mg_none_of X G z_isinstance, PySem.W.mg_none_of X G z_len, PySem.W.mg_none_of X G z_max, PySem.W.mg_none_of X G z_min, PySem.W.mg_none_of X G z_range, PySem.W.mg_none_of X G z_repr, PySem.W.mg_none_of X G z_str, PySem.W.mg_none_of X G z_tuple, ⟨t_LETTERS, PySem.W.mg_of X G z_LETTERS⟩, ⟨t_MOST_LETTERS, PySem.W.mg_of X G z_MOST_LETTERS⟩, ⟨r_RESERVED, PySem.W.mg_of X G z_RESERVED, fun H => .inr ⟨_, _, _, y_RESERVED, rfl, rfl, size_ok (by simp), .cons ⟨_, rfl⟩ (.cons ⟨_, rfl⟩ (.cons ⟨_, rfl⟩ (.nil)))⟩⟩, ⟨t_HIGHEST_KEY, PySem.W.mg_of X G z_HIGHEST_KEY⟩, ⟨t_VALUE_LIMIT, PySem.W.mg_of X G z_VALUE_LIMIT⟩⟩
  refine ⟨PySem.W.fnOf "law" "law" (defArgs s_law) (defBody s_law) (defScope s_law) .none kV15 dc15 pm15 an15 cd15 ct15, fun s v => .of_eq rfl, fun base hK hG => ?_⟩
  have F_is_whole := fun_mk (st := s_is_whole) l0 c0 k0
  have O_is_whole := ok_is_whole (P := l.prog) (w := w) (base := base) F_is_whole T  
  have b_is_whole := F_is_whole.binds (ps := ["thing"]) fun _ _ _ _ _ _ us hl => match us, hl with | [_], _ => rfl
  have D_is_whole : Fn l.prog w K mg base 1 "is_whole" ["thing"] (spIs K mWhole) := ⟨_, _, PySem.W.mg_of X G a0, O_is_whole, k0, b_is_whole⟩
  have F_is_name := fun_mk (st := s_is_name) l1 c1 k1
  have O_is_name := ok_is_name (P := l.prog) (w := w) (base := base) F_is_name T  
  have b_is_name := F_is_name.binds (ps := ["thing"]) fun _ _ _ _ _ _ us hl => match us, hl with | [_], _ => rfl
  have D_is_name : Fn l.prog w K mg base 1 "is_name" ["thing"] (spIs K mName) := ⟨_, _, PySem.W.mg_of X G a1, O_is_name, k1, b_is_name⟩
  have F_is_key := fun_mk (st := s_is_key) l2 c2 k2
  have O_is_key := ok_is_key (P := l.prog) (w := w) (base := base) F_is_key T D_is_whole 
  have b_is_key := F_is_key.binds (ps := ["thing"]) fun _ _ _ _ _ _ us hl => match us, hl with | [_], _ => rfl
  have D_is_key : Fn l.prog w K mg base 2 "is_key" ["thing"] (spIs K mKey) := ⟨_, _, PySem.W.mg_of X G a2, O_is_key, k2, b_is_key⟩
  have F_is_value := fun_mk (st := s_is_value) l3 c3 k3
  have O_is_value := ok_is_value (P := l.prog) (w := w) (base := base) F_is_value T D_is_whole 
  have b_is_value := F_is_value.binds (ps := ["thing"]) fun _ _ _ _ _ _ us hl => match us, hl with | [_], _ => rfl
  have D_is_value : Fn l.prog w K mg base 2 "is_value" ["thing"] (spIs K mVal) := ⟨_, _, PySem.W.mg_of X G a3, O_is_value, k3, b_is_value⟩
  have F_is_element := fun_mk (st := s_is_element) l4 c4 k4
  have O_is_element := ok_is_element (P := l.prog) (w := w) (base := base) F_is_element T D_is_name D_is_key 
  have b_is_element := F_is_element.binds (ps := ["thing"]) fun _ _ _ _ _ _ us hl => match us, hl with | [_], _ => rfl
  have D_is_element : Fn l.prog w K mg base 3 "is_element" ["thing"] (spIs K mEl) := ⟨_, _, PySem.W.mg_of X G a4, O_is_element, k4, b_is_element⟩
  have F_is_entry := fun_mk (st := s_is_entry) l5 c5 k5
  have O_is_entry := ok_is_entry (P := l.prog) (w := w) (base := base) F_is_entry T D_is_name D_is_key D_is_value 
  have b_is_entry := F_is_entry.binds (ps := ["thing"]) fun _ _ _ _ _ _ us hl => match us, hl with | [_], _ => rfl
  have D_is_entry : Fn l.prog w K mg base 3 "is_entry" ["thing"] (spIs K mEnt) := ⟨_, _, PySem.W.mg_of X G a5, O_is_entry, k5, b_is_entry⟩
  have F_l_bag := fun_mk (st := s_l_bag) l6 c6 k6
  have O_l_bag := ok_l_bag (P := l.prog) (w := w) (base := base) F_l_bag T  
  have b_l_bag := F_l_bag.binds (ps := ["_law_script", "_law_at"]) fun _ _ _ _ _ _ us hl => match us, hl with | [_, _], _ => rfl
  have D_l_bag : Fn l.prog w K mg base 1 "_law_bag" ["_law_script", "_law_at"] (spBag K) := ⟨_, _, PySem.W.mg_of X G a6, O_l_bag, k6, b_l_bag⟩
  have F_l_take := fun_mk (st := s_l_take) l7 c7 k7
  have O_l_take := ok_l_take (P := l.prog) (w := w) (base := base) F_l_take T  
  have b_l_take := F_l_take.binds (ps := ["_law_bag_here", "_law_many"]) fun _ _ _ _ _ _ us hl => match us, hl with | [_, _], _ => rfl
  have D_l_take : Fn l.prog w K mg base 1 "_law_take" ["_law_bag_here", "_law_many"] spTake := ⟨_, _, PySem.W.mg_of X G a7, O_l_take, k7, b_l_take⟩
  have F_l_word := fun_mk (st := s_l_word) l8 c8 k8
  have O_l_word := ok_l_word (P := l.prog) (w := w) (base := base) F_l_word T D_l_take 
  have b_l_word := F_l_word.binds (ps := ["_law_bag_here"]) fun _ _ _ _ _ _ us hl => match us, hl with | [_], _ => rfl
  have D_l_word : Fn l.prog w K mg base 2 "_law_word" ["_law_bag_here"] spWord := ⟨_, _, PySem.W.mg_of X G a8, O_l_word, k8, b_l_word⟩
  have F_l_number := fun_mk (st := s_l_number) l9 c9 k9
  have O_l_number := ok_l_number (P := l.prog) (w := w) (base := base) F_l_number T D_l_take 
  have b_l_number := F_l_number.binds (ps := ["_law_bag_here"]) fun _ _ _ _ _ _ us hl => match us, hl with | [_], _ => rfl
  have D_l_number : Fn l.prog w K mg base 2 "_law_number" ["_law_bag_here"] (spNumber K) := ⟨_, _, PySem.W.mg_of X G a9, O_l_number, k9, b_l_number⟩
  have F_l_thing := fun_mk (st := s_l_thing) l10 c10 k10
  have O_l_thing := ok_l_thing (P := l.prog) (w := w) (base := base) F_l_thing T D_l_take D_l_word D_l_number 
  have b_l_thing := F_l_thing.binds (ps := ["_law_bag_here"]) fun _ _ _ _ _ _ us hl => match us, hl with | [_], _ => rfl
  have D_l_thing : Fn l.prog w K mg base 3 "_law_thing" ["_law_bag_here"] (spThing K) := ⟨_, _, PySem.W.mg_of X G a10, O_l_thing, k10, b_l_thing⟩
  have F_l_is_whole := fun_mk (st := s_l_is_whole) l11 c11 k11
  have O_l_is_whole := ok_l_is_whole (P := l.prog) (w := w) (base := base) F_l_is_whole T  
  have b_l_is_whole := F_l_is_whole.binds (ps := ["_law_thing_here", "_law_least", "_law_most"]) fun _ _ _ _ _ _ us hl => match us, hl with | [_, _, _], _ => rfl
  have D_l_is_whole : Fn l.prog w K mg base 1 "_law_is_whole" ["_law_thing_here", "_law_least", "_law_most"] (spBetween K) := ⟨_, _, PySem.W.mg_of X G a11, O_l_is_whole, k11, b_l_is_whole⟩
  have F_l_is_name := fun_mk (st := s_l_is_name) l12 c12 k12
  have O_l_is_name := ok_l_is_name (P := l.prog) (w := w) (base := base) F_l_is_name T  
  have b_l_is_name := F_l_is_name.binds (ps := ["_law_thing_here"]) fun _ _ _ _ _ _ us hl => match us, hl with | [_], _ => rfl
  have D_l_is_name : Fn l.prog w K mg base 1 "_law_is_name" ["_law_thing_here"] (spIs K mName) := ⟨_, _, PySem.W.mg_of X G a12, O_l_is_name, k12, b_l_is_name⟩
  have F_l_is_element := fun_mk (st := s_l_is_element) l13 c13 k13
  have O_l_is_element := ok_l_is_element (P := l.prog) (w := w) (base := base) F_l_is_element T D_l_is_whole D_l_is_name 
  have b_l_is_element := F_l_is_element.binds (ps := ["_law_thing_here"]) fun _ _ _ _ _ _ us hl => match us, hl with | [_], _ => rfl
  have D_l_is_element : Fn l.prog w K mg base 2 "_law_is_element" ["_law_thing_here"] (spIs K mEl) := ⟨_, _, PySem.W.mg_of X G a13, O_l_is_element, k13, b_l_is_element⟩
  have F_l_is_entry := fun_mk (st := s_l_is_entry) l14 c14 k14
  have O_l_is_entry := ok_l_is_entry (P := l.prog) (w := w) (base := base) F_l_is_entry T D_l_is_whole D_l_is_element 
  have b_l_is_entry := F_l_is_entry.binds (ps := ["_law_thing_here"]) fun _ _ _ _ _ _ us hl => match us, hl with | [_], _ => rfl
  have D_l_is_entry : Fn l.prog w K mg base 3 "_law_is_entry" ["_law_thing_here"] (spIs K mEnt) := ⟨_, _, PySem.W.mg_of X G a14, O_l_is_entry, k14, b_l_is_entry⟩
  have F_law := fun_mk (st := s_law) l15 c15 k15
  have O_law := ok_law (P := l.prog) (w := w) (base := base) F_law T D_is_name D_is_element D_is_entry D_l_bag D_l_thing D_l_is_name D_l_is_element D_l_is_entry 
  exact O_law
theorem walk {l : PySem.W.OpenLaw} {q : Program} {loose : List Str} {XP : (Str → Option Value) → Heap → Prop} {YP : World → Heap → Prop} {d : DefRec} {K : Params → PySem.W.Frag} (hn : l.most = some 63) (hdf : d.params.defaults = [])
    (hY : ∀ (w : World) (h : Heap), YP w h → (K w.params).In h)
    (F : ∀ (w : World) (mg : Str → Option Value) (fa : Addr) (h : Heap), (K w.params).In h → h.Ns mainGlobals mg → mg d.name = some (.ref fa) →
      ∃ fd : FuncData, (∀ (s : Shared) (u : Value), BindsTo s fd ⟨[u], []⟩ [("_law_script", u)]) ∧ ∀ base : Heap, (K w.params).In base → base.Ns mainGlobals mg → FnG l.prog w (K w.params) mg base CX0 4 fa fd ["_law_script"] (spLaw (K w.params))) :
    PySem.W.WalkO q loose XP YP l.row.toRowW d [] (fun f vs => PySem.call f vs) :=
  walkG (n := 63) (k := 4) (x := "_law_script") (CX := fun _ => CX0) (sp := fun w => spLaw (K w.params)) hn (by decide) hdf ⟨rfl, by decide, by decide⟩ hY F (fun _ _ a ns hl _ hS => ⟨a, ns, rfl, hS, hl, fun _ => rfl⟩) fun _ _ _ _ _ z => z
end My
open PySem PySem.W PyProof.Rows in
set_option maxRecDepth 100000 in
set_option maxHeartbeats 0 in
theorem PySem.Challenge.cw_equalunlike_k01_names_and_elements_known_holds : PySem.Challenge.rw_equalunlike_k01_names_and_elements_known.Holds := by
  w_on; o_law; k_head; (case hw => w_witness2)
  k_fill
  refine My.walk (l := PySem.Challenge.rw_equalunlike_k01_names_and_elements_known) rfl rfl (fun w h Y => PySem.W.kIn_of Y) ?F
  case F =>
    intro w mg fa h KX G hmg
    refine' My.all_mk KX G hmg ?a0 ?l0 ?c0 ?k0 ?a1 ?l1 ?c1 ?k1 ?a2 ?l2 ?c2 ?k2 ?a3 ?l3 ?c3 ?k3 ?a4 ?l4 ?c4 ?k4 ?a5 ?l5 ?c5 ?k5 ?a6 ?l6 ?c6 ?k6 ?a7 ?l7 ?c7 ?k7 ?a8 ?l8 ?c8 ?k8 ?a9 ?l9 ?c9 ?k9 ?a10 ?l10 ?c10 ?k10 ?a11 ?l11 ?c11 ?k11 ?a12 ?l12 ?c12 ?k12 ?a13 ?l13 ?c13 ?k13 ?a14 ?l14 ?c14 ?k14 ?a15 ?l15 ?c15 ?k15 ?z_abs ?z_all ?z_bool ?z_int ?z_isinstance ?z_len ?z_max ?z_min ?z_range ?z_repr ?z_str ?z_tuple ?z_LETTERS ?z_MOST_LETTERS ?z_RESERVED ?y_RESERVED ?z_HIGHEST_KEY ?z_VALUE_LIMIT
    (case a0 => k_is)
    (case l0 => k_is)
    (case c0 => k_is)
    (case k0 => k_is)
    (case a1 => k_is)
    (case l1 => k_is)
    (case c1 => k_is)
    (case k1 => k_is)
    (case a2 => k_is)
    (case l2 => k_is)
    (case c2 => k_is)
    (case k2 => k_is)
    (case a3 => k_is)
    (case l3 => k_is)
    (case c3 => k_is)
    (case k3 => k_is)
    (case a4 => k_is)
    (case l4 => k_is)
    (case c4 => k_is)
    (case k4 => k_is)
    (case a5 => k_is)
    (case l5 => k_is)
    (case c5 => k_is)
    (case k5 => k_is)
    (case a6 => k_is)
    (case l6 => k_is)
    (case c6 => k_is)
    (case k6 => k_is)
    (case a7 => k_is)
    (case l7 => k_is)
    (case c7 => k_is)
    (case k7 => k_is)
    (case a8 => k_is)
    (case l8 => k_is)
    (case c8 => k_is)
    (case k8 => k_is)
    (case a9 => k_is)
    (case l9 => k_is)
    (case c9 => k_is)
    (case k9 => k_is)
    (case a10 => k_is)
    (case l10 => k_is)
    (case c10 => k_is)
    (case k10 => k_is)
    (case a11 => k_is)
    (case l11 => k_is)
    (case c11 => k_is)
    (case k11 => k_is)
    (case a12 => k_is)
    (case l12 => k_is)
    (case c12 => k_is)
    (case k12 => k_is)
    (case a13 => k_is)
    (case l13 => k_is)
    (case c13 => k_is)
    (case k13 => k_is)
    (case a14 => k_is)
    (case l14 => k_is)
    (case c14 => k_is)
    (case k14 => k_is)
    (case a15 => k_is)
    (case l15 => k_is)
    (case c15 => k_is)
    (case k15 => k_is)
    (case z_abs => k_is)
    (case z_all => k_is)
    (case z_bool => k_is)
    (case z_int => k_is)
    (case z_isinstance => k_is)
    (case z_len => k_is)
    (case z_max => k_is)
    (case z_min => k_is)
    (case z_range => k_is)
    (case z_repr => k_is)
    (case z_str => k_is)
    (case z_tuple => k_is)
    (case z_LETTERS => k_is)
    (case z_MOST_LETTERS => k_is)
    (case z_RESERVED => k_is)
    (case y_RESERVED => k_is)
    (case z_HIGHEST_KEY => k_is)
    (case z_VALUE_LIMIT => k_is)
#print axioms PySem.Challenge.cw_equalunlike_k01_names_and_elements_known_holds
