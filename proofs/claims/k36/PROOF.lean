import PyProof.Rows.All
import Wide.All
import OpenK.AllK
import Wide.FinOn
import HandS.ForMost
import HandS.IsInst
import HandS.TupAny
import HandS.RaiseMore
import HandS.DictComp
import HandS.SetKeys
import HandS.Star
import HandS.Defaults
import HandS.Zip
import HandS.Walk
import HandS.Wide
import PySem.Challenge.RW_equalunlike_k36_answers_by_hand
set_option Elab.async false
set_option maxRecDepth 100000
set_option maxHeartbeats 4000000
namespace My
open PySem PySem.Spec PyProof.Rows L2


section
variable {P : Program} {w : World} {K : PySem.W.Frag} {mg : Str → Option Value} {base : Heap} {CX : CXT}
structure FnG (P : Program) (w : World) (K : PySem.W.Frag) (mg : Str → Option Value) (base : Heap)
    (CX : CXT) (k : Nat) (f : Addr) (fd : FuncData) (ps : List Str) (sp : Sp) : Prop where
  len : ∀ vs H Q E, sp vs H Q E → vs.length = ps.length
  run : ∀ (A : Around) (outer : List Env) (s : Shared) (H : Hp) (args : Args) (us : List Value)
    (vs : List V) (Q : VK) (E : XK), A.guards = some [] → Room k A →
    Env0 P w K mg base A outer s H → BindsTo s fd args (ps.zip us) → Vals vs us →
    sp vs H Q E → codeAny (model P w) A (.call (.ref f) args) (CR CX outer P w H s Q E) s
theorem FnG.of {k : Nat} {f : Addr} {fd : FuncData} {ps : List Str} {sp : Sp}
    (F : FnOk P w K mg base CX k f fd ps sp) : FnG P w K mg base CX k f fd ps sp :=
  ⟨F.len, fun A outer s H args us vs Q E _ hr he hb hv hs => F.run A outer s H args us vs Q E hr he hb hv hs⟩
theorem deeper_guards (A : Around) (env : Env) (h : A.guards = some []) : (A.deeper env).guards = some [] := by
  first
  | exact h
  | (simp [Around.deeper]; exact h)


theorem okGX {x qual : Str} {st : Stmt} {f : Addr} {fd : FuncData} {N ps : List Str} {k : Nat} {sp : Sp}
    (F : Fun K x qual st f fd) (S : FnScope N ps (defScope st))
    (len : ∀ vs H Q E, sp vs H Q E → vs.length = ps.length)
    (body : ∀ (cdv : Value) (A : Around) (outer : List Env) (s : Shared) (H : Hp) (vs : List V) (Q : VK) (E : XK),
      (A.deeper (envOfC qual (defScope st) s.heap.objs.size f cdv)).guards = some [] →
      Room k (A.deeper (envOfC qual (defScope st) s.heap.objs.size f cdv)) → sp vs H Q E →
      ∃ t, PSs (cxOf CX P w K mg base N qual (defScope st) f cdv A outer s H E) (defBody st) t ∧
        t { nx := fun _ H' => Q .non H', rt := Q } (start N vs) H) :
    FnG P w K mg base CX (k + 1) f fd ps sp := by
  obtain ⟨oc, od, kV, doc, pm, an, cdv, ct, osl, rfl, lk, hcd⟩ := F.ex
  refine ⟨len, ?_⟩
  intro A outer s H args us vs Q E hg hr e0 hb r hsp
  have ln := len _ _ _ _ hsp
  have kin : K.In s.heap := e0.mod.kin.keeps fun b o e =>
    (e0.bs b o e).1
  have lim : s.heap.NoLimit := e0.mod.nolimit.keeps fun b o e =>
    (e0.bs b o e).1
  have kinds : ∀ y ∈ ps.zip us, (defScope st).names.lookup y.1 = some .local ∨
      ((defScope st).names.lookup y.1 = some .cell ∧
        ((cellsFrom (s.heap.objs.size + 1) (defScope st).names []).lookup y.1).isSome = true) := by
    rintro ⟨n, v⟩ hy
    rcases S.par n (List.of_mem_zip hy).1 with q | q
    · left; exact q
    · right; exact ⟨q, PySem.W.cellsFrom_some _ _ _ (.inl q)⟩
  refine codeAny_call_function hr.depth (kin _ _ lk) rfl S.co S.gen
    rfl (PySem.W.codeRec_of kin hcd) (hb _ _ _ _ ?_)
  refine wpAny_newFunctionEnv_cells S.kind kinds ?_
  intro env he s1 x
  subst he
  refine ⟨lim.keeps x.toInCall.keep, codeAny_func ?_⟩
  obtain ⟨t, ht, hq⟩ := body cdv A outer s H vs Q E
    (deeper_guards A _ hg) (hr.deeper _) hsp
  have I := inv_start (CX := CX) (P := P) (mg := mg) (base := base) (E := E) S hr.hd e0 ln r x
  refine wpAny_mono (ht.run [] s1 (start N vs) H _ I hq) ?_ (fun e s' hs => hs)
  intro fl s' hs
  cases fl with
  | ret u =>
    obtain ⟨v, σ', H', J, rv, q⟩ := hs
    exact ⟨v, H', J.os, J.bare, J.base, J.hok, rv, q⟩
  | next =>
    obtain ⟨σ', H', J, q⟩ := hs
    exact ⟨V.non, H', J.os, J.bare, J.base, J.hok, rfl, q⟩
  | brk => obtain ⟨_, _, _, z⟩ := hs; exact z.elim
  | cont => obtain ⟨_, _, _, z⟩ := hs; exact z.elim

theorem okG {x qual : Str} {st : Stmt} {f : Addr} {fd : FuncData} {N ps : List Str} {k : Nat} {sp : Sp}
    (F : Fun K x qual st f fd) (S : FnScope N ps (defScope st))
    (len : ∀ vs H Q E, sp vs H Q E → vs.length = ps.length)
    (body : ∀ (cdv : Value) (A : Around) (outer : List Env) (s : Shared) (H : Hp) (vs : List V) (Q : VK) (E : XK),
      (A.deeper (envOfC qual (defScope st) s.heap.objs.size f cdv)).guards = some [] →
      Room k (A.deeper (envOfC qual (defScope st) s.heap.objs.size f cdv)) → sp vs H Q E →
      ∃ t, PSs (cxOf CX P w K mg base N qual (defScope st) f cdv A outer s H E).nox (defBody st) t ∧
        t { nx := fun _ H' => Q .non H', rt := Q } (start N vs) H) :
    FnG P w K mg base CX (k + 1) f fd ps sp := by
  refine okGX F S len ?_
  intro cdv A outer s H vs Q E hg hr hsp
  obtain ⟨t, h, q⟩ := body cdv A outer s H vs Q E hg hr hsp
  exact ⟨t, h.nox, q⟩
end

section
variable {X : Cx} {CX : CXT} {k : Nat} {f : Addr} {fd : FuncData} {ps : List Str} {sp : Sp}
  {dvs : List V} {ds : List Value} {E : XK} {x : Str} {p pos : Pos} {e : Expr} {es : List Expr} {t : TA}
theorem run_fnG {pins : List (Addr × Obj)} {σ : L2.St} {H : Hp} {s : Shared} {Q : VK} {us : List Value} {vs : List V}
    (F : FnG X.prog X.w X.K X.mg X.base CX k f fd ps sp) (g : X.A.guards = some []) (hr : Room k X.A)
    (hb : Binds X.K fd ps ds) (hd : Vals dvs ds) (hx : Passes CX X E) (I : Inv X pins σ H s) (r : Vals vs us)
    (h : sp (vs ++ dvs) H Q E) :
    wpAny (model X.prog X.w) X.A (call (.ref f) us) (EP X pins σ Q) X.xe s := by
  have r2 := r.append hd
  have hl : (us ++ ds).length = ps.length :=
    r2.length.symm.trans (F.len _ _ _ _ h)
  have z := F.run X.A X.stack s H ⟨us, []⟩ (us ++ ds)
    (vs ++ dvs) Q E g hr I.env0 (hb s us I.kIn hl) r2 h
  refine wpAny_call (codeAny_mono z ?_)
  intro r s' hq
  match r, hq with
  | .error e, hq => exact hx pins σ H s e s' I hq
  | .ok (.ret u), hq => exact I.after hq
  | .ok .next, hq => exact hq.elim
  | .ok .brk, hq => exact hq.elim
  | .ok .cont, hq => exact hq.elim

theorem pe_callG (F : FnG X.prog X.w X.K X.mg X.base CX k f fd ps sp) (g : X.A.guards = some []) (hr : Room k X.A)
    (hg : Gl X x) (hm : X.mg x = some (.ref f)) (hk : PySem.W.keepIn X.K (.ref f) = true)
    (hb : Binds X.K fd ps ds) (hd : Vals dvs ds) (hx : Passes CX X E) (ha : PA X (e :: es) t)
    (hdb : (x == ("__debug__" : Str)) = false := by decide)
    (he : starEach (e :: es) X.env = (false, eval e X.env) :: starEach es X.env := by rfl)
    (hpl : (backTo pos (starEach es X.env)).any (·.1) = false := by rfl) :
    PE X (.Call (.Name x p) (e :: es) [] pos) (tCall sp dvs E t) := by
  constructor
  intro pins s σ H Q I h
  refine wpAny_Call_Name_kw (ld_glob I hg hm ?_ hdb)
  have a1 := ha.run pos pins s σ H _ I h
  refine PySem.W.callWith_K (h₀ := X.base) I.ok.mod.kin hk
    (thn a1 ?_) he hpl
  rintro us s1 ⟨vs, H1, I1, r, q⟩
  exact ⟨I1.kIn, run_fnG F g hr hb hd hx I1 r q⟩
end


section
variable {P : Program} {w : World} {K : PySem.W.Frag}

def only1 (a : Addr) (o : Obj) (u : HO) : Hp := fun b => if b = a then some (.frz o u) else none
theorem only1_at {a : Addr} {o : Obj} {u : HO} : only1 a o u a = some (.frz o u) := if_pos rfl
theorem only1_ne {a b : Addr} {o : Obj} {u : HO} (h : b ≠ a) : only1 a o u b = none := if_neg h
theorem callG {mg mb : Str → Option Value} {CX : CXT} {k : Nat} {fa a : Addr} {fd : FuncData} {x : Str} {sp : Sp}
    {s : Shared} {vs : List Value} {ns : List Int}
    (KX : K.In s.heap) (h1 : s.heap.Ns mainGlobals mg) (h2 : s.heap.Ns builtinsNs mb)
    (h3 : ∀ x : Str, x ≠ "__name__" → mb x = bootBuiltins x) (h4 : s.heap.NoLimit) (h5 : s.gens = #[])
    (ha : s.heap.get? a = some { cls := .type "list", data := .seq vs.toArray }) (hi : IntsAre vs ns)
    (hl : ns.length ≤ sizeLine) (hr : Room k callerA)
    (F : ∀ base : Heap, K.In base → base.Ns mainGlobals mg → FnG P w K mg base CX k fa fd [x] sp)
    (hb : ∀ (s : Shared) (u : Value), BindsTo s fd ⟨[u], []⟩ [(x, u)])
    (hsp : ∀ H : Hp, Only H → SqL K H a (ns.map V.int) → sp [.ref a] H (fun v _ => v = .bl true) fun _ _ _ => False)
    (hCX : ∀ H e s', CX [] H s (fun _ _ _ => False) e s' → False) :
    codeAny (model P w) callerA (.call (.ref fa) ⟨[.ref a], []⟩)
      (fun r s' => r = .ok (.ret (.bool true)) ∧ OldK s.heap s'.heap ∧ s'.os = s.os ∧ AllBare s'.gens) s := by
  have rv := vals_ints hi
  have main : ∀ H : Hp, Only H → SqL K H a (ns.map V.int) → HOk P w H s.heap →
      (∀ b u, H b = some u → b = a ∧ K.lookup a = none) →
      codeAny (model P w) callerA (.call (.ref fa) ⟨[.ref a], []⟩)
        (fun r s' => r = .ok (.ret (.bool true)) ∧ OldK s.heap s'.heap ∧ s'.os = s.os ∧ AllBare s'.gens) s := by
    intro H hO hS hok hA
    have isL : ∀ {b : Addr} {o : Obj} {u : HO}, s.heap.get? b = some o → H b = some u →
        o = { cls := .type "list", data := .seq vs.toArray } := by
      intro b o u e q
      obtain rfl := (hA b u q).1
      exact Option.some.inj (e.symm.trans ha)
    have up : ∀ {b : Addr} {o : Obj} {es : Array DictEntry} {n : Nat}, s.heap.get? b = some o →
        o.data = .dict es n → (hidT s.heap H).get? b = some o := by
      intro b o es n e d
      refine hidT_get e ?_
      cases q : H b with
      | none => rfl
      | some u => rw [isL e q] at d; cases d
    have upN : ∀ {b : Addr} {m : Str → Option Value}, s.heap.Ns b m → (hidT s.heap H).Ns b m := by
      rintro b m ⟨o, es, n, e, d, r⟩
      exact ⟨o, es, n, up e d, d, r⟩
    have KH : K.In (hidT s.heap H) := by
      intro b o e
      refine hidT_get (KX b o e) ?_
      cases q : H b with
      | none => rfl
      | some u =>
        obtain ⟨rfl, z⟩ := hA b u q
        rw [z] at e; cases e
    have M : Mod K mg (hidT s.heap H) := by
      refine ⟨KH, upN h1, ⟨mb, upN h2, h3⟩, ?_⟩
      obtain ⟨mc, l1, l2⟩ := h4
      exact ⟨mc, upN l1, l2⟩
    have e0 : Env0 P w K mg (hidT s.heap H) callerA [] s H :=
      { frames := rfl, mod := M, bs := fun b o e => of_hidT e, bsz := Nat.le_of_eq (hidT_size _ _)
        funs := trivial, frf := fun b z => absurd z (List.not_mem_nil), hok := hok, bare := .of_eq h5 }
    have run := (F _ KH (upN h1)).run callerA [] s H ⟨[.ref a], []⟩ [.ref a] [.ref a] _ _
      rfl hr e0 (hb s (.ref a)) (.cons rfl .nil) (hsp H hO hS)
    refine codeAny_mono run ?_
    intro r s' h
    match r, h with
    | .error e, h => exact (hCX H e s' h).elim
    | .ok .next, h => exact h.elim
    | .ok .brk, h => exact h.elim
    | .ok .cont, h => exact h.elim
    | .ok (.ret u), h =>
      obtain ⟨v, H', os, bare, un, hok', r', q⟩ := h
      obtain rfl : v = .bl true := q
      obtain rfl : u = Value.bool true := r'
      refine ⟨rfl, OldK.of_keep ?_, os, bare⟩
      intro b o e
      cases q : H b with
      | none => exact un.keep b o e q (fun z => absurd z (List.not_mem_nil)) (List.not_mem_nil)
      | some u =>
        rcases hO b with z | ⟨ob, xs, z⟩
        · rw [q] at z; cases z
        · obtain ⟨g1, _⟩ := hok b _ z
          obtain ⟨g2, _⟩ := hok' b _ (un.frzs b ob _ z)
          rw [e] at g1; cases g1
          exact g2
  cases hk : K.lookup a with
  | some o =>
    obtain rfl := Option.some.inj ((KX a o hk).symm.trans ha)
    refine main (fun _ => none) (fun _ => Or.inl rfl) (Or.inr ?_) (fun b u z => ?_) fun b u z => ?_
    · exact ⟨_, vs.toArray, _, hk, rfl, rfl, rfl, by rw [List.size_toArray, hi.length]; exact hl, by simpa using rv⟩
    · cases (show (none : Option HO) = some u from z)
    · cases (show (none : Option HO) = some u from z)
  | none =>
    refine main (only1 a { cls := .type "list", data := .seq vs.toArray } (.lst (ns.map V.int))) (fun b => ?_)
      (Or.inl (Or.inr ⟨_, only1_at⟩)) (fun b u z => ?_) fun b u z => ?_
    · by_cases e : b = a
      · subst e; exact Or.inr ⟨_, _, only1_at⟩
      · exact Or.inl (only1_ne e)
    · by_cases e : b = a
      · subst e
        obtain rfl := Option.some.inj (only1_at.symm.trans z)
        exact ⟨ha, by rw [List.length_map]; exact hl, vs, _, rv, ha⟩
      · rw [only1_ne e] at z; cases z
    · by_cases e : b = a
      · exact ⟨e, hk⟩
      · rw [only1_ne e] at z; cases z
end

theorem walkG {l : PySem.W.OpenLaw} {n k : Nat} {q : Program} {loose : List Str}
    {XP : (Str → Option Value) → Heap → Prop} {YP : World → Heap → Prop} {d : DefRec} {K : Params → PySem.W.Frag}
    {CX : World → CXT} {sp : World → Sp} {x : Str} (hn : l.most = some n) (hn2 : n ≤ sizeLine)
    (hdf : d.params.defaults = []) (hr : Room k callerA) (hY : ∀ (w : World) (h : Heap), YP w h → (K w.params).In h)
    (F : ∀ (w : World) (mg : Str → Option Value) (fa : Addr) (h : Heap), (K w.params).In h → h.Ns mainGlobals mg →
      mg d.name = some (.ref fa) → ∃ fd : FuncData, (∀ (s : Shared) (u : Value), BindsTo s fd ⟨[u], []⟩ [(x, u)]) ∧
        ∀ base : Heap, (K w.params).In base → base.Ns mainGlobals mg →
          FnG l.prog w (K w.params) mg base (CX w) k fa fd [x] (sp w))
    (hsp : ∀ (w : World) (H : Hp) (a : Addr) (ns : List Int), ns.length ≤ n → Only H →
      SqL (K w.params) H a (ns.map V.int) → sp w [.ref a] H (fun v _ => v = .bl true) fun _ _ _ => False)
    (hCX : ∀ (w : World) (H : Hp) (s : Shared) (e : Value) (s' : Shared),
      CX w [] H s (fun _ _ _ => False) e s' → False) :
    PySem.W.WalkO q loose XP YP l.row.toRowW d [] (fun f vs => PySem.call f vs) := by
  refine Att.attach_call hn hdf ?_
  intro w s₀ s₁ mg mb fa o pm cd doc a vs ns G Y ho hd hcd hmg hobj hints hlen hg
  have KX := hY w _ Y
  obtain ⟨fd, hb, hF⟩ := F w mg fa _ KX G.T.g hmg
  exact callG KX G.T.g G.T.b G.T.builtins G.T.nolimit hg hobj hints
    (Nat.le_trans hlen hn2) hr hF hb (fun H hO hS => hsp w H a ns hlen hO hS) fun H e s' => hCX w H s₁ e s'
end My
set_option Elab.async false
set_option maxRecDepth 100000
set_option maxHeartbeats 4000000
namespace My
open PySem PySem.Spec PyProof.Rows L2


def flatD : V → Option PyData
  | .non => some .none
  | .bl b => some (.bool b)
  | .int i => some (.int i)
  | .str x => some (.str x)
  | _ => none
def keyD : Key → PyData
  | .inl i => .int i
  | .inr x => .str x
inductive FlatKv : List (Key × V) → List (PyData × PyData) → Prop
  | nil : FlatKv [] []
  | cons {k : Key} {v : V} {d : PyData} {r : List (Key × V)} {ds : List (PyData × PyData)} :
      flatD v = some d → FlatKv r ds → FlatKv ((k, v) :: r) ((keyD k, d) :: ds)
inductive Dx (K : PySem.W.Frag) (H : Hp) : V → PyData → Prop
  | of {v : V} {d : PyData} : Dp K H v d → Dx K H v d
  | dict {a : Addr} {kvs : List (Key × V)} {ds : List (PyData × PyData)} :
      H a = some (.dK kvs) → FlatKv kvs ds → Dx K H (.ref a) (.dict ds)

theorem same_seqT {K : PySem.W.Frag} {H H' : Hp} {a : Addr} {xs : List V} (s : Same H H') (h : SqT K H a xs) : SqT K H' a xs := by
  rcases h with (h | ⟨o, h⟩) | h
  · exact Or.inl (Or.inl (s _ _ h))
  · exact Or.inl (Or.inr ⟨o, s _ _ h⟩)
  · exact Or.inr h
mutual
theorem dp_same {K : PySem.W.Frag} {H H' : Hp} (s : Same H H') : ∀ (d : PyData) (v : V), Dp K H v d → Dp K H' v d
  | .none, _, h => by cases h; exact .non
  | .bool b, _, h => by cases h; exact .bl b
  | .int i, _, h => by cases h; exact .int i
  | .str x, _, h => by cases h; exact .str x
  | .list ds, _, h => by
    cases h with
    | lst hs ha => exact .lst (s.seq hs) (dpAll_same s ds _ ha)
  | .tuple ds, _, h => by
    cases h with
    | tup hs ha =>
      refine .tup ?_ (dpAll_same s ds _ ha)
      exact same_seqT s hs
  | .dict _, _, h => by cases h
theorem dpAll_same {K : PySem.W.Frag} {H H' : Hp} (s : Same H H') : ∀ (ds : List PyData) (vs : List V), DpAll K H vs ds → DpAll K H' vs ds
  | [], _, h => by cases h; exact .nil
  | d :: ds, _, h => by
    cases h with
    | cons h1 h2 => exact .cons (dp_same s d _ h1) (dpAll_same s ds _ h2)
end
theorem Dx.same {K : PySem.W.Frag} {H H' : Hp} {v : V} {d : PyData} (h : Dx K H v d) (s : Same H H') : Dx K H' v d := by
  cases h with
  | of h => exact .of (dp_same s _ _ h)
  | dict h f => exact .dict (s _ _ h) f

section
variable {X : Cx} {pins : List (Addr × Obj)} {σ : L2.St} {H : Hp} {s : Shared}
theorem flat_reads {h : Heap} {v : V} {d : PyData} {u : Value} (e : flatD v = some d) (r : RelV v u) : Reads h u d [] := by
  cases v with
  | non => cases e; cases r; exact .none
  | bl b => cases e; cases r; exact .bool b
  | int i => cases e; obtain ⟨t, rfl⟩ := r; exact .int i t
  | str x => cases e; obtain ⟨t, rfl⟩ := r; exact .str x t
  | byt b => cases e
  | flt b => cases e
  | ref a => cases e
  | ty n => cases e
theorem key_reads {h : Heap} {prog : Program} {w : World} {k : Key} {u : Value} (e : (mixKind prog w).is k u = true) : Reads h u (keyD k) [] := by
  rw [mixKind_is] at e
  rcases keyIs_shape e with ⟨i, t, rfl, rfl⟩ | ⟨x, t, rfl, rfl⟩
  · exact .int i t
  · exact .str x t
theorem readsAll_flat {h : Heap} {prog : Program} {w : World} : ∀ {es : List DictEntry} {vs : List (Key × Value)}
    {kvs : List (Key × V)} {ds : List (PyData × PyData)}, Pairs (mixKind prog w) es vs → KV kvs vs → FlatKv kvs ds →
    ReadsAll h (es.map (·.key)) (ds.map (·.1)) [] ∧ ReadsAll h (es.map (·.val)) (ds.map (·.2)) []
  | _, _, _, _, .nil, r, f => by
    cases r; cases f
    exact ⟨.nil, .nil⟩
  | _, _, _, _, .cons h1 h2 p, r, f => by
    cases r with
    | cons r1 r2 =>
      cases f with
      | cons f1 f2 =>
        obtain ⟨z1, z2⟩ := readsAll_flat (h := h) p r2 f2
        obtain ⟨e1, e2⟩ := r1
        rw [← e1] at h1
        rw [← h2] at e2
        exact ⟨.cons (as := []) (bs := []) (key_reads h1) z1, .cons (as := []) (bs := []) (flat_reads f1 e2) z2⟩
theorem dp_noDict {K : PySem.W.Frag} {H : Hp} : ∀ (d : PyData) (v : V), Dp K H v d → d.hasDict = false
  | .none, _, _ => by simp only [PyData.hasDict]
  | .bool _, _, _ => by simp only [PyData.hasDict]
  | .int _, _, _ => by simp only [PyData.hasDict]
  | .str _, _, _ => by simp only [PyData.hasDict]
  | .list ds, _, h => by
    cases h with
    | lst hs ha => simp only [PyData.hasDict]; exact all ds _ ha
  | .tuple ds, _, h => by
    cases h with
    | tup hs ha => simp only [PyData.hasDict]; exact all ds _ ha
  | .dict _, _, h => by cases h
where all {K : PySem.W.Frag} {H : Hp} : ∀ (ds : List PyData) (vs : List V), DpAll K H vs ds → PyData.hasDictAll ds = false
  | [], _, _ => by simp only [PyData.hasDictAll]
  | d :: ds, _, h => by
    cases h with
    | cons h1 h2 => simp only [PyData.hasDictAll, dp_noDict d _ h1, all ds _ h2, Bool.or_self]

def rRepr (K : PySem.W.Frag) : List V → Hp → VK → Prop := fun xs H Q => ∃ x d, xs = [x] ∧ Dx K H x d ∧
  d.showable = true ∧ d.depth ≤ 60 ∧ d.shown.length ≤ sizeLine ∧ Q (.str d.shown) H
theorem call_repr (g : X.A.guards = some []) (hu : X.A.units + 64 < cLine) : CallR X (.builtin "repr") (rRepr X.K) := by
  intro pins s σ H xs us Q I r h
  obtain ⟨x, d, rfl, hx, hs, hd, hz, q⟩ := h
  obtain ⟨u, rfl, ru⟩ := vals1 r
  have fin : ∀ h' t tk, (∀ b o, s.heap.get? b = some o → h'.get? b = some o) →
      EP X pins σ Q (.str d.shown t) { s with heap := h', toks := tk } :=
    fun h' t tk k => ⟨.str d.shown, H, I.kept k, ⟨t, rfl⟩, q⟩
  have ref : ∀ {a : Addr} {as : List Addr}, Reads s.heap (.ref a) d as → (d.hasDict = true → sysModules ∉ as) →
      wpAny (model X.prog X.w) X.A (call (.builtin "repr") [.ref a]) (EP X pins σ Q) X.xe s := by
    intro a as rd nm
    exact repr_of_reads' rd hs nm g (by omega) (fun _ _ e => e) fin hz
  cases hx with
  | of hp =>
    have nd := dp_noDict d x hp
    obtain ⟨as, rd⟩ := Dp.reads I d x u hp ru
    cases hp with
    | non => cases ru; exact PySem.P.repr_of_none (by simpa [PyData.shown] using fin s.heap s.toks (s.toks + 1) fun _ _ e => e)
    | bl b => cases ru; exact PySem.P.repr_of_bool (by simpa [PyData.shown] using fin s.heap s.toks (s.toks + 1) fun _ _ e => e)
    | int i =>
      obtain ⟨t, rfl⟩ := ru
      exact PySem.P.repr_of_int (by simpa [PyData.showable] using hs) (by simpa [PyData.shown] using fin s.heap s.toks (s.toks + 1) fun _ _ e => e)
    | str y =>
      obtain ⟨t, rfl⟩ := ru
      exact PySem.P.repr_of_str (by simpa [PyData.shown] using fin s.heap s.toks (s.toks + 1) fun _ _ e => e) (by simpa [PyData.shown] using hz)
    | lst h1 h2 => cases ru; exact ref rd fun z => by rw [nd] at z; cases z
    | tup h1 h2 => cases ru; exact ref rd fun z => by rw [nd] at z; cases z
  | @dict a kvs ds ha f =>
    cases ru
    obtain ⟨_, ne, vs, kv, o, es, ep, e1, e2, e3, _, p, _⟩ := I.hok a _ ha
    obtain ⟨z1, z2⟩ := readsAll_flat (h := s.heap) p kv f
    refine ref (Reads.dict e1 e2.1 e3 z1 z2) fun _ m => ?_
    have m2 : sysModules ∈ [a] := by simpa using m
    rw [List.mem_singleton] at m2
    subst m2
    simp at ne
end


def repS (x : Str) (n : Nat) : Str := ⟨(List.replicate n x.cps).foldl (· ++ ·) #[]⟩
theorem repS_one (x : Str) : repS x 1 = x := by
  unfold repS
  simp
theorem repFold : ∀ (n : Nat) (x a : Array Nat), ((List.replicate n x).foldl (· ++ ·) a).size = a.size + n * x.size
  | 0, x, a => by simp
  | n + 1, x, a => by
    rw [List.replicate_succ, List.foldl_cons, repFold n x (a ++ x), Array.size_append, Nat.succ_mul]
    omega
theorem repS_len (x : Str) (n : Nat) : (repS x n).length = n * x.length := by
  show ((List.replicate n x.cps).foldl (· ++ ·) #[]).size = n * x.cps.size
  rw [repFold]
  simp
theorem op_mul_str {X : Cx} : OpR X (binaryOp .Mult) (fun x y H Q => ∃ z n, x = .str z ∧ y = .int n ∧ 1 ≤ n ∧ n ≤ 1000 ∧
    0 < z.length ∧ z.length ≤ 1000 ∧ Q (.str (repS z n.toNat)) H) := by
  intro pins s σ H x y v u Q I rx ry h
  obtain ⟨z, n, rfl, rfl, h1, h2, h3, h4, q⟩ := h
  obtain ⟨t, rfl⟩ := rx
  obtain ⟨t', rfl⟩ := ry
  refine PySem.P.mul_str ?_ ?_ ?_ ?_
  · have a1 : ¬ n < -(2 ^ 63 : Int) := by omega
    have a2 : ¬ n ≥ 2 ^ 63 := by omega
    rw [decide_eq_false a1, decide_eq_false a2]; rfl
  · intro _ _ hgt
    have : (1000 : Int) ≤ (2 ^ 63 - 1) / n := (Int.le_ediv_iff_mul_le (by omega)).mpr (by
      have := Int.mul_le_mul_of_nonneg_left h2 (show (0 : Int) ≤ 1000 by decide)
      omega)
    omega
  · intro _ _
    unfold Builtin.Str.tooLong
    refine decide_eq_false ?_
    have a : z.length * n.toNat ≤ 1000 * 1000 := Nat.mul_le_mul h4 (by omega)
    have b : (1000 * 1000 : Nat) ≤ sizeLine := by decide
    omega
  · rw [if_neg (by omega)]
    by_cases e : n = 1
    · subst e
      rw [if_pos (by simp)]
      exact ⟨.str z, H, I, ⟨t, rfl⟩, by rw [← repS_one z]; exact q⟩
    · rw [if_neg (by simp; omega)]
      have sz : (repS z n.toNat).length ≤ sizeLine := by
        have a : (repS z n.toNat).length = n.toNat * z.length := repS_len z n.toNat
        have b : n.toNat * z.length ≤ 1000 * 1000 := Nat.mul_le_mul (by omega) h4
        have c : (1000 * 1000 : Nat) ≤ sizeLine := by decide
        omega
      exact ⟨sz, .str (repS z n.toNat), H, I.tok _, ⟨_, rfl⟩, q⟩
end My
set_option Elab.async false
set_option maxRecDepth 100000
set_option maxHeartbeats 4000000
namespace My
open PySem PySem.Spec PyProof.Rows L2

def Fn (P : Program) (w : World) (K : PySem.W.Frag) (mg : Str → Option Value) (base : Heap) (k : Nat) (x : Str) (ps : List Str) (sp : Sp) : Prop :=
  ∃ f fd, mg x = some (.ref f) ∧ FnOk P w K mg base CX0 k f fd ps sp ∧ PySem.W.keepIn K (.ref f) = true ∧ Binds K fd ps []
def FnGr (P : Program) (w : World) (K : PySem.W.Frag) (mg : Str → Option Value) (base : Heap) (k : Nat) (x : Str) (ps : List Str) (sp : Sp) : Prop :=
  ∃ f fd, mg x = some (.ref f) ∧ FnG P w K mg base CX0 k f fd ps sp ∧ PySem.W.keepIn K (.ref f) = true ∧ Binds K fd ps []
section
variable {X : Cx} {k : Nat} {ps : List Str} {sp : Sp} {x : Str} {p pos : Pos} {e : Expr} {es : List Expr} {t : TA}
theorem pe_fn (D : Fn X.prog X.w X.K X.mg X.base k x ps sp) (hr : Room k X.A) (hg : Gl X x) (ha : PA X (e :: es) t)
    (hdb : (x == ("__debug__" : Str)) = false := by decide)
    (he : starEach (e :: es) X.env = (false, eval e X.env) :: starEach es X.env := by rfl)
    (hpl : (backTo pos (starEach es X.env)).any (·.1) = false := by rfl) :
    PE X (.Call (.Name x p) (e :: es) [] pos) (tCall sp [] E0 t) := by
  obtain ⟨f, fd, hm, F, kp, b⟩ := D
  exact pe_call F hr hg hm kp b .nil pass0 ha hdb he hpl
theorem pe_fnG (D : FnGr X.prog X.w X.K X.mg X.base k x ps sp) (g : X.A.guards = some []) (hr : Room k X.A) (hg : Gl X x) (ha : PA X (e :: es) t)
    (hdb : (x == ("__debug__" : Str)) = false := by decide)
    (he : starEach (e :: es) X.env = (false, eval e X.env) :: starEach es X.env := by rfl)
    (hpl : (backTo pos (starEach es X.env)).any (·.1) = false := by rfl) :
    PE X (.Call (.Name x p) (e :: es) [] pos) (tCall sp [] E0 t) := by
  obtain ⟨f, fd, hm, F, kp, b⟩ := D
  exact pe_callG F g hr hg hm kp b .nil pass0 ha hdb he hpl
end

def Bag (H : Hp) (a : Addr) (n : Nat) : Prop := ∃ x y z : Int, H a = some (.lst [.int x, .int y, .int z]) ∧ 0 ≤ y ∧ y < 2305843009213693951 ∧ 0 ≤ z ∧ z ≤ n

def But (a : Addr) (H H' : Hp) : Prop := ∀ b, b ≠ a → H' b = H b
theorem But.refl (a : Addr) (H : Hp) : But a H H := fun _ _ => rfl
theorem But.upd {a : Addr} {H : Hp} {o : HO} : But a H (upd H a o) := fun _ h => upd_ne h
theorem But.trans {a : Addr} {H H1 H2 : Hp} (x : But a H H1) (y : But a H1 H2) : But a H H2 := fun b h => (y b h).trans (x b h)
def spBag (K : PySem.W.Frag) : Sp := fun vs H Q _ => ∃ (p : Addr) (ns : List Int) (i : Nat), vs = [.ref p, .int (i : Int)] ∧ SqL K H p (ns.map V.int) ∧ i < 64 ∧
  ∀ (a : Addr) (o : HO), H a = none → Bag (upd H a o) a 0 → Q (.ref a) (upd H a o)
def spTake : Sp := fun vs H Q _ => ∃ (a : Addr) (m : Int) (n : Nat), vs = [.ref a, .int m] ∧ Bag H a n ∧ n < 1000000 ∧ 0 < m ∧ m < 1073741824 ∧
  ∀ (i : Int) (H' : Hp), 0 ≤ i → i < m → But a H H' → Bag H' a (n + 1) → Q (.int i) H'
end My
set_option Elab.async false
set_option maxRecDepth 100000
set_option maxHeartbeats 4000000
namespace My
open PySem PySem.Spec PyProof.Rows L2

theorem same_new {H : Hp} {p : Addr} {o : HO} (h : H p = none) : Same H (upd H p o) := fun _ _ e => (upd_ne (ne_of_none e h)).trans e
theorem new_same {H H1 : Hp} {p : Addr} {o : HO} (e : upd H p o = H1) (h : H p = none) : Same H H1 := e ▸ same_new h
theorem new_at {H H1 : Hp} {p : Addr} {o : HO} (e : upd H p o = H1) : H1 p = some o := e ▸ upd_same
theorem new_ne {H H1 : Hp} {p b : Addr} {o : HO} (e : upd H p o = H1) (n : b ≠ p) : H1 b = H b := e ▸ upd_ne n

def Ext (a : Addr) (H H' : Hp) : Prop := ∀ b o, b ≠ a → H b = some o → H' b = some o
theorem Ext.of {a : Addr} {H H' : Hp} (s : Same H H') : Ext a H H' := fun b o _ e => s b o e
theorem Ext.but {a : Addr} {H H' : Hp} (s : But a H H') : Ext a H H' := fun b o n e => (s b n).trans e
theorem Ext.trans {a : Addr} {H H1 H2 : Hp} (x : Ext a H H1) (y : Ext a H1 H2) : Ext a H H2 := fun b o n e => y b o n (x b o n e)

def del (a : Addr) (H : Hp) : Hp := fun b => if b = a then none else H b
theorem del_but {a : Addr} {H H' : Hp} (h : But a H H') : del a H' = del a H := by
  funext b
  unfold del
  by_cases e : b = a
  · rw [if_pos e, if_pos e]
  · rw [if_neg e, if_neg e, h b e]
theorem del_same {a : Addr} {H H' : Hp} (h : Same H H') : Same (del a H) (del a H') := by
  intro b o e
  unfold del at e ⊢
  by_cases q : b = a
  · rw [if_pos q] at e; cases e
  · rw [if_neg q] at e ⊢; exact h b o e
theorem del_ext {a : Addr} {H H' : Hp} (h : Ext a H H') : Same (del a H) (del a H') := by
  intro b o e
  unfold del at e ⊢
  by_cases q : b = a
  · rw [if_pos q] at e; cases e
  · rw [if_neg q] at e ⊢; exact h b o q e
theorem del_sub {a : Addr} {H : Hp} : Same (del a H) H := by
  intro b o e
  unfold del at e
  by_cases q : b = a
  · rw [if_pos q] at e; cases e
  · rw [if_neg q] at e; exact e
theorem del_at {a b : Addr} {H : Hp} (h : b ≠ a) : del a H b = H b := if_neg h
theorem del_none {a b : Addr} {H : Hp} (h : H b = none) : del a H b = none := by
  unfold del
  by_cases q : b = a
  · rw [if_pos q]
  · rw [if_neg q, h]
theorem Bag.ne {H : Hp} {a b : Addr} {n : Nat} (h : Bag H a n) (e : H b = none) : b ≠ a := by
  rintro rfl
  obtain ⟨x, y, z, h, _⟩ := h
  rw [h] at e; cases e
theorem Bag.same {H H' : Hp} {a : Addr} {n : Nat} (h : Bag H a n) (s : Same H H') : Bag H' a n := by
  obtain ⟨x, y, z, h, r⟩ := h
  exact ⟨x, y, z, s _ _ h, r⟩
theorem Bag.mono {H : Hp} {a : Addr} {n m : Nat} (h : Bag H a n) (l : n ≤ m) : Bag H a m := by
  obtain ⟨x, y, z, h, r1, r2, r3, r4⟩ := h
  exact ⟨x, y, z, h, r1, r2, r3, by omega⟩

theorem at_all {xs : List V} {i : Int} {Pr : V → Prop} (h0 : 0 ≤ i) (h1 : i < xs.length) (h : ∀ v, v ∈ xs → Pr v) : ∃ v, atI xs i = some v ∧ Pr v := by
  have hlt : i.toNat < xs.length := by omega
  refine ⟨xs[i.toNat], ?_, h _ (List.getElem_mem hlt)⟩
  unfold atI ixN
  rw [if_pos h0, if_pos h1]
  simp [hlt]

theorem lc_text {x : Str} {g : TG} {tt : TT} {te : TE} {vs : List Nat} {σ : L2.St} {H1 : Hp} {D : Addr} {Qd : Hp → Prop}
    (Pv : Nat → Hp → Prop) (h0 : Pv 0 (upd H1 D (.lst [])))
    (hs : ∀ i c H, x.cps[i]? = some c → Pv i H → g (.str ⟨#[c]⟩) (wipe σ vs) H fun σ2 H2 =>
      wipe σ2 vs = wipe σ vs ∧ tt σ2 H2 fun b H3 => if b = true then te σ2 H3 fun y H4 =>
        ∃ acc, H4 D = some (.lst acc) ∧ acc.length < sizeLine ∧ Pv (i + 1) (upd H4 D (.lst (acc ++ [y])))
      else Pv (i + 1) H3)
    (hd : ∀ H, Pv x.cps.size H → Qd H) :
    ∃ W : Nat → Nat → Hp → Prop, (∃ m, W 0 m (upd H1 D (.lst []))) ∧ ∀ i m H, W i m H →
      ((Its x).stop i H ∧ Qd H) ∨ ((Its x).go i H ∧ ∃ Nx : Hp → Prop, (∀ H', Nx H' → ∃ m', m' < m ∧ W (i + 1) m' H') ∧
        ∀ v H', (Its x).yld i H v H' → g v (wipe σ vs) H' fun σ2 H2 => wipe σ2 vs = wipe σ vs ∧ tt σ2 H2 fun b H3 =>
          if b = true then te σ2 H3 fun y H4 => ∃ acc, H4 D = some (.lst acc) ∧ acc.length < sizeLine ∧
            Nx (upd H4 D (.lst (acc ++ [y]))) else Nx H3) := by
  refine ⟨fun i m H => i ≤ x.cps.size ∧ m + i = x.cps.size ∧ Pv i H, ⟨x.cps.size, Nat.zero_le _, rfl, h0⟩, ?_⟩
  rintro i m H ⟨hi, hm, p⟩
  by_cases l : i < x.cps.size
  · right
    refine ⟨l, Pv (i + 1), fun H' z => ⟨m - 1, by omega, by omega, by omega, z⟩, ?_⟩
    rintro v H' ⟨rfl, c, hc, rfl⟩
    exact hs i c H' hc p
  · left
    obtain rfl : i = x.cps.size := by omega
    exact ⟨Nat.le_refl _, hd H p⟩

def tyD : PyData → String
  | .none => "NoneType"
  | .bool _ => "bool"
  | .int _ => "int"
  | .str _ => "str"
  | .list _ => "list"
  | .tuple _ => "tuple"
  | .dict _ => "dict"
theorem ty_of {K : PySem.W.Frag} {H : Hp} {v : V} {d : PyData} (h : Dx K H v d) : TyX K H v (.type (tyD d)) := by
  cases h with
  | of h =>
    cases h with
    | non => exact .base .non
    | bl b => exact .base (.bl b)
    | int i => exact .base (.int i)
    | str x => exact .base (.str x)
    | lst hs _ =>
      rcases hs with (h | ⟨o, h⟩) | ⟨o, its, n, h, c, _⟩
      · exact .base (.lst h)
      · exact .base (.frz h)
      · exact .kList h c
    | tup hs _ =>
      rcases hs with (h | ⟨o, h⟩) | ⟨o, its, n, h, c, _⟩
      · exact .base (.tup h)
      · exact .fTuple h
      · exact .kTuple h c
  | dict h f => exact .base (.dK h)
def isD (T : String) (d : PyData) : Bool := (kitB (tyD d) T).getD false
theorem kit_all : ∀ S ∈ ["NoneType", "bool", "int", "str", "list", "tuple", "dict"], ∀ T ∈ ["int", "bool", "str", "tuple", "list", "dict"],
    (kitB S T).isSome = true := by decide +kernel
theorem isD_some {T : String} {d : PyData} (h : T = "int" ∨ T = "bool" ∨ T = "str" ∨ T = "tuple" ∨ T = "list" ∨ T = "dict") : kitB (tyD d) T = some (isD T d) := by
  have e : (kitB (tyD d) T).isSome = true := by
    refine kit_all (tyD d) ?_ T ?_
    · cases d <;> simp [tyD]
    · simpa using h
  unfold isD
  cases q : kitB (tyD d) T with
  | none => rw [q] at e; cases e
  | some b => rfl
theorem isi_of {K : PySem.W.Frag} {H : Hp} {v : V} {d : PyData} {T : String} {Q : VK} (h : Dx K H v d)
    (hT : T = "int" ∨ T = "bool" ∨ T = "str" ∨ T = "tuple" ∨ T = "list" ∨ T = "dict") (q : Q (.bl (isD T d)) H) : rIsi K [v, .ty T] H Q :=
  ⟨v, .ty T, _, _, _, rfl, .ty T, ty_of h, kit_ty (isD_some hT), q⟩
def isS (S T : String) : Bool := (kitB S T).getD false
theorem isD_int (d : PyData) : isD "int" d = (match d with | .int _ => true | .bool _ => true | _ => false) := by
  cases d with
  | none => exact (by decide +kernel : isS "NoneType" "int" = false)
  | bool b => exact (by decide +kernel : isS "bool" "int" = true)
  | int i => exact (by decide +kernel : isS "int" "int" = true)
  | str x => exact (by decide +kernel : isS "str" "int" = false)
  | list xs => exact (by decide +kernel : isS "list" "int" = false)
  | tuple xs => exact (by decide +kernel : isS "tuple" "int" = false)
  | dict kvs => exact (by decide +kernel : isS "dict" "int" = false)
theorem isD_bool (d : PyData) : isD "bool" d = (match d with | .bool _ => true | _ => false) := by
  cases d with
  | none => exact (by decide +kernel : isS "NoneType" "bool" = false)
  | bool b => exact (by decide +kernel : isS "bool" "bool" = true)
  | int i => exact (by decide +kernel : isS "int" "bool" = false)
  | str x => exact (by decide +kernel : isS "str" "bool" = false)
  | list xs => exact (by decide +kernel : isS "list" "bool" = false)
  | tuple xs => exact (by decide +kernel : isS "tuple" "bool" = false)
  | dict kvs => exact (by decide +kernel : isS "dict" "bool" = false)
theorem isD_str (d : PyData) : isD "str" d = (match d with | .str _ => true | _ => false) := by
  cases d with
  | none => exact (by decide +kernel : isS "NoneType" "str" = false)
  | bool b => exact (by decide +kernel : isS "bool" "str" = false)
  | int i => exact (by decide +kernel : isS "int" "str" = false)
  | str x => exact (by decide +kernel : isS "str" "str" = true)
  | list xs => exact (by decide +kernel : isS "list" "str" = false)
  | tuple xs => exact (by decide +kernel : isS "tuple" "str" = false)
  | dict kvs => exact (by decide +kernel : isS "dict" "str" = false)
theorem isD_tuple (d : PyData) : isD "tuple" d = (match d with | .tuple _ => true | _ => false) := by
  cases d with
  | none => exact (by decide +kernel : isS "NoneType" "tuple" = false)
  | bool b => exact (by decide +kernel : isS "bool" "tuple" = false)
  | int i => exact (by decide +kernel : isS "int" "tuple" = false)
  | str x => exact (by decide +kernel : isS "str" "tuple" = false)
  | list xs => exact (by decide +kernel : isS "list" "tuple" = false)
  | tuple xs => exact (by decide +kernel : isS "tuple" "tuple" = true)
  | dict kvs => exact (by decide +kernel : isS "dict" "tuple" = false)
theorem isD_list (d : PyData) : isD "list" d = (match d with | .list _ => true | _ => false) := by
  cases d with
  | none => exact (by decide +kernel : isS "NoneType" "list" = false)
  | bool b => exact (by decide +kernel : isS "bool" "list" = false)
  | int i => exact (by decide +kernel : isS "int" "list" = false)
  | str x => exact (by decide +kernel : isS "str" "list" = false)
  | list xs => exact (by decide +kernel : isS "list" "list" = true)
  | tuple xs => exact (by decide +kernel : isS "tuple" "list" = false)
  | dict kvs => exact (by decide +kernel : isS "dict" "list" = false)
end My
set_option Elab.async false
set_option maxRecDepth 100000
set_option maxHeartbeats 4000000
namespace My
open PySem PySem.Spec PyProof.Rows L2

section
variable {X : Cx} {pins : List (Addr × Obj)} {σ : L2.St} {H : Hp} {s : Shared}
theorem fr_of (I : Inv X pins σ H s) : ∃ m, Fr X.base X.env.locals s.heap m := by
  obtain ⟨m, n, _⟩ := I.loc
  exact ⟨m, n, fun b o e => (I.bs b o e).1, Nat.le_trans I.ok.bsz I.ok.above⟩
theorem inst_of {a C dx : Addr} {fs : List (Str × V)} (I : Inv X pins σ H s) (e : H a = some (.ins C dx fs)) :
    ∃ ox od, PySem.W.InstAt s.heap a ox C (some od) := by
  obtain ⟨mA, O, _⟩ := ins_get I.hok e
  obtain ⟨od, J, _⟩ := O.look
  exact ⟨_, od, J⟩
theorem cmp_back {Q : VK} {u : Value} {s' : Shared} (h : EP X pins σ Q u s') : PySem.W.CmpBack (EP X pins σ Q) u s' := by
  obtain ⟨v, H', I', r, q⟩ := h
  cases u with
  | notImplemented =>
    cases v with
    | int i => obtain ⟨t, z⟩ := r; cases z
    | str x => obtain ⟨t, z⟩ := r; cases z
    | byt x => obtain ⟨t, z⟩ := r; cases z
    | flt x => obtain ⟨t, z⟩ := r; cases z
    | non => cases r
    | bl b => cases r
    | ref a => cases r
    | ty n => cases r
  | _ => exact ⟨v, H', I', r, q⟩

structure OwnOp (X : Cx) (C : Addr) (name : Str) (k : Nat) (ps : List Str) (sp : Sp) : Prop where
  ex : ∃ f fd, PySem.W.findIn X.K (.ref C) name = some (some (.ref f)) ∧ PySem.W.isFn X.K (.ref f) = true ∧
    FnOk X.prog X.w X.K X.mg X.base CX0 k f fd ps sp ∧ Binds X.K fd ps []
def rBin (C : Addr) (sp : Sp) : R2 := fun x y H Q => ∃ a b dx fs dy gs, x = .ref a ∧ y = .ref b ∧ H a = some (.ins C dx fs) ∧
  H b = some (.ins C dy gs) ∧ sp [x, y] H Q E0
theorem op_own2 {op : Operator} {C : Addr} {k : Nat} {ps : List Str} {sp : Sp} (O : OwnOp X C (PySem.dunder op.info.2) k ps sp)
    (hr : Room k X.A) (hc : PySem.W.selfFirst X.K C = true) : OpR X (binaryOp op) (rBin C sp) := by
  intro pins s σ H x y v u Q I rx ry h
  obtain ⟨a, b, dx, fs, dy, gs, rfl, rfl, ha, hb, q⟩ := h
  cases rx; cases ry
  obtain ⟨f, fd, hs, hf, F, bd⟩ := O.ex
  obtain ⟨m, Fr⟩ := fr_of I
  obtain ⟨ox, od, J⟩ := inst_of I ha
  obtain ⟨oy, oe, J2⟩ := inst_of I hb
  refine PySem.W.binop_K Fr I.ok.mod.kin J J2.type hc hs hf ?_
  refine thn (run_fn (us := [.ref a, .ref b]) (vs := [.ref a, .ref b]) F hr bd .nil pass0 I (.cons rfl (.cons rfl .nil)) q) ?_
  intro u s' z
  exact cmp_back z
def rIn1 (C : Addr) (sp : Sp) (neg : Bool) : R2 := fun x y H Q => ∃ b dy gs, y = .ref b ∧ H b = some (.ins C dy gs) ∧
  sp [y, x] H (fun v H' => ∃ c, v = .bl c ∧ Q (.bl (if neg = true then !c else c)) H') E0
theorem truthy_bool {M : Model} {A : Around} {E : Value → Shared → Prop} {s : Shared} {b : Bool} {Q : Bool → Shared → Prop} (h : Q b s) :
    wpAny M A (truthy (.bool b)) Q E s := by
  unfold truthy
  exact wpAny_pure h
theorem op_ownIn {C : Addr} {k : Nat} {ps : List Str} {sp : Sp} (O : OwnOp X C "__contains__" k ps sp) (hr : Room k X.A) :
    OpR X (compareOp .In) (rIn1 C sp false) := by
  intro pins s σ H x y v u Q I rx ry h
  obtain ⟨b, dy, gs, rfl, hb, q⟩ := h
  cases ry
  obtain ⟨f, fd, hs, hf, F, bd⟩ := O.ex
  obtain ⟨m, Fr⟩ := fr_of I
  obtain ⟨ox, od, J⟩ := inst_of I hb
  refine PySem.W.in_K Fr I.ok.mod.kin J hs hf ?_
  refine thn (run_fn (us := [.ref b, v]) (vs := [.ref b, x]) F hr bd .nil pass0 I (.cons rfl (.cons rx .nil)) q) ?_
  rintro u s' ⟨_, H', I', r, c, rfl, z⟩
  cases r
  exact truthy_bool ⟨.bl c, H', I', rfl, z⟩
theorem op_ownNotIn {C : Addr} {k : Nat} {ps : List Str} {sp : Sp} (O : OwnOp X C "__contains__" k ps sp) (hr : Room k X.A) :
    OpR X (compareOp .NotIn) (rIn1 C sp true) := by
  intro pins s σ H x y v u Q I rx ry h
  obtain ⟨b, dy, gs, rfl, hb, q⟩ := h
  cases ry
  obtain ⟨f, fd, hs, hf, F, bd⟩ := O.ex
  obtain ⟨m, Fr⟩ := fr_of I
  obtain ⟨ox, od, J⟩ := inst_of I hb
  refine PySem.W.notIn_K Fr I.ok.mod.kin J hs hf ?_
  refine thn (run_fn (us := [.ref b, v]) (vs := [.ref b, x]) F hr bd .nil pass0 I (.cons rfl (.cons rx .nil)) q) ?_
  rintro u s' ⟨_, H', I', r, c, rfl, z⟩
  cases r
  exact truthy_bool ⟨.bl (!c), H', I', rfl, z⟩

theorem run_in1 {k : Nat} {f : Addr} {fd : FuncData} {ps : List Str} {sp : Sp} {Q : VK} {us : List Value} {vs : List V}
    (F : FnOk X.prog X.w X.K X.mg X.base CX0 k f fd ps sp) (hr : Room (k + 1) X.A) (hb : Binds X.K fd ps []) (I : Inv X pins σ H s)
    (r : Vals vs us) (h : sp vs H Q E0) {E : Value → Shared → Prop} :
    wpAny (model X.prog X.w) X.A.in1 (call (.ref f) us) (EP X pins σ Q) E s := by
  have hl : us.length = ps.length := r.length.symm.trans (F.len _ _ _ _ h)
  have b0 : BindsTo s fd ⟨us, []⟩ (ps.zip us) := by
    have := hb s us I.kIn (by simpa using hl)
    simpa using this
  have z := F.run X.A.in1 X.stack s H ⟨us, []⟩ us vs Q E0 hr.in1 I.env0.in1 b0 r h
  refine wpAny_call (codeAny_mono z ?_)
  intro r s' hq
  match r, hq with
  | .error e, hq => exact hq.elim
  | .ok (.ret u), hq => exact I.after hq
  | .ok .next, hq => exact hq.elim
  | .ok .brk, hq => exact hq.elim
  | .ok .cont, hq => exact hq.elim
def rLen1 (C : Addr) (sp : Sp) : List V → Hp → VK → Prop := fun vs H Q => ∃ b dy gs, vs = [.ref b] ∧ H b = some (.ins C dy gs) ∧
  sp [.ref b] H (fun v H' => ∃ n : Int, v = .int n ∧ 0 ≤ n ∧ n < 2 ^ 63 ∧ Q (.int n) H') E0
theorem call_ownLen {C : Addr} {k : Nat} {ps : List Str} {sp : Sp} (O : OwnOp X C "__len__" k ps sp) (hr : Room (k + 1) X.A) :
    CallR X (.builtin "len") (rLen1 C sp) := by
  intro pins s σ H vs us Q I r h
  obtain ⟨b, dy, gs, rfl, hb, q⟩ := h
  obtain ⟨u, rfl, ru⟩ := vals1 r
  cases ru
  obtain ⟨f, fd, hs, hf, F, bd⟩ := O.ex
  obtain ⟨m, Fr⟩ := fr_of I
  obtain ⟨ox, od, J⟩ := inst_of I hb
  refine PySem.W.len_K Fr I.ok.mod.kin J hs hf ?_
  refine thn (run_in1 (us := [.ref b]) (vs := [.ref b]) F hr bd I (.cons rfl .nil) q) ?_
  rintro u s' ⟨_, H', I', r, n, rfl, n0, n1, z⟩
  obtain ⟨t, rfl⟩ := r
  exact ⟨⟨n0, n1⟩, .int n, H', I'.tok _, ⟨_, rfl⟩, z⟩
end
end My
set_option Elab.async false
set_option maxRecDepth 100000
set_option maxHeartbeats 4000000
namespace My
open PySem PySem.Spec PyProof.Rows L2

theorem lock_same {H H' : Hp} {d : Addr} {od : Obj} {u : HO} (s : Same (upd H d (.frz od u)) H') (e : H d = some u) : Same H (upd H' d u) := by
  intro b o q
  by_cases hb : b = d
  · subst hb
    rw [e] at q
    cases q
    exact upd_same
  · rw [upd_ne hb]
    exact s b o ((upd_ne hb).trans q)
theorem for_items {d : Addr} {od : Obj} {kvs : List (Key × V)} {g : TG} {tb : TS} {D : Ends} {σ : L2.St} {H : Hp} (Pv : Nat → L2.St → Hp → Prop)
    (h0 : Pv 0 σ H) (hl : ∀ i σ H, i ≤ kvs.length → Pv i σ H → H d = some (.frz od (.dK kvs)))
    (hs : ∀ i k v T σ H, kvs[i]? = some (k, v) → Pv i σ H → H T = none → g (.ref T) σ (upd H T (.tup [kV k, v])) fun σ2 H2 =>
      tb { D with nx := Pv (i + 1), ct := Pv (i + 1), bk := D.nx } σ2 H2)
    (hd : ∀ σ H, Pv kvs.length σ H → D.nx σ H) :
    ∃ W : Nat → Nat → L2.St → Hp → Prop, (∃ m, W 0 m σ H) ∧ ∀ i m σ H, W i m σ H → ((Iti d od kvs).stop i H ∧ D.nx σ H) ∨
      ((Iti d od kvs).go i H ∧ ∃ N : L2.St → Hp → Prop, (∀ σ' H', N σ' H' → ∃ m', m' < m ∧ W (i + 1) m' σ' H') ∧
        ∀ x H', (Iti d od kvs).yld i H x H' → g x σ H' fun σ2 H2 => tb { D with nx := N, ct := N, bk := D.nx } σ2 H2) := by
  refine ⟨fun i m σ H => i ≤ kvs.length ∧ m + i = kvs.length ∧ Pv i σ H, ⟨kvs.length, Nat.zero_le _, rfl, h0⟩, ?_⟩
  rintro i m σ H ⟨hi, hm, p⟩
  have q := hl i σ H hi p
  by_cases l : i < kvs.length
  · right
    refine ⟨⟨q, l⟩, Pv (i + 1), fun σ' H' z => ⟨m - 1, by omega, by omega, by omega, z⟩, ?_⟩
    rintro x H' ⟨T, k, v, e, rfl, hT, rfl⟩
    exact hs i k v T σ H e p hT
  · left
    obtain rfl : i = kvs.length := by omega
    exact ⟨⟨q, Nat.le_refl _⟩, hd σ H p⟩
theorem dc_items {d : Addr} {od : Obj} {kvs : List (Key × V)} {g : TG} {tt : TT} {tk tv : TE} {vs : List Nat} {σ : L2.St} {H1 : Hp} {D : Addr} {Qd : Hp → Prop}
    (Pv : Nat → Hp → Prop) (h0 : Pv 0 (upd H1 D (.dK []))) (hl : ∀ i H, i ≤ kvs.length → Pv i H → H d = some (.frz od (.dK kvs)))
    (hs : ∀ i k v T H, kvs[i]? = some (k, v) → Pv i H → H T = none → g (.ref T) (wipe σ vs) (upd H T (.tup [kV k, v])) fun σ2 H2 =>
      wipe σ2 vs = wipe σ vs ∧ tt σ2 H2 fun b H3 => if b = true then tk σ2 H3 fun y H4 => tv σ2 H4 fun z H5 => ∃ kvs k, y = kV k ∧
        H5 D = some (.dK kvs) ∧ kvs.length < sizeLine ∧ Pv (i + 1) (upd H5 D (.dK (putK kvs k z))) else Pv (i + 1) H3)
    (hd : ∀ H, Pv kvs.length H → Qd H) :
    ∃ W : Nat → Nat → Hp → Prop, (∃ m, W 0 m (upd H1 D (.dK []))) ∧ ∀ i m H, W i m H → ((Iti d od kvs).stop i H ∧ Qd H) ∨
      ((Iti d od kvs).go i H ∧ ∃ Nx : Hp → Prop, (∀ H', Nx H' → ∃ m', m' < m ∧ W (i + 1) m' H') ∧
        ∀ x H', (Iti d od kvs).yld i H x H' → g x (wipe σ vs) H' fun σ2 H2 => wipe σ2 vs = wipe σ vs ∧ tt σ2 H2 fun b H3 =>
          if b = true then tk σ2 H3 fun y H4 => tv σ2 H4 fun z H5 => ∃ kvs k, y = kV k ∧ H5 D = some (.dK kvs) ∧ kvs.length < sizeLine ∧
            Nx (upd H5 D (.dK (putK kvs k z))) else Nx H3) := by
  refine ⟨fun i m H => i ≤ kvs.length ∧ m + i = kvs.length ∧ Pv i H, ⟨kvs.length, Nat.zero_le _, rfl, h0⟩, ?_⟩
  rintro i m H ⟨hi, hm, p⟩
  have q := hl i H hi p
  by_cases l : i < kvs.length
  · right
    refine ⟨⟨q, l⟩, Pv (i + 1), fun H' z => ⟨m - 1, by omega, by omega, by omega, z⟩, ?_⟩
    rintro x H' ⟨T, k, v, e, rfl, hT, rfl⟩
    exact hs i k v T H e p hT
  · left
    obtain rfl : i = kvs.length := by omega
    exact ⟨⟨q, Nat.le_refl _⟩, hd H p⟩

def ents (es : List (Int × Str)) : List (Key × V) := es.map fun p => (Sum.inl p.1, V.str p.2)
def keys (es : List (Int × Str)) : List Int := es.map (·.1)
theorem ents_len (es : List (Int × Str)) : (ents es).length = es.length := List.length_map _
theorem ents_app (xs ys : List (Int × Str)) : ents (xs ++ ys) = ents xs ++ ents ys := List.map_append
theorem ents_at {es : List (Int × Str)} {i : Nat} {k : Key} {v : V} (h : (ents es)[i]? = some (k, v)) : ∃ n x, es[i]? = some (n, x) ∧ k = .inl n ∧ v = .str x := by
  unfold ents at h
  rw [List.getElem?_map] at h
  cases e : es[i]? with
  | none => rw [e] at h; cases h
  | some p =>
    rw [e] at h
    cases h
    exact ⟨p.1, p.2, rfl, rfl, rfl⟩
def look (es : List (Int × Str)) (k : Int) : Option Str := (es.find? fun p => decide (p.1 = k)).map (·.2)
theorem look_nil (k : Int) : look [] k = none := rfl
theorem look_cons (p : Int × Str) (es : List (Int × Str)) (k : Int) : look (p :: es) k = if p.1 = k then some p.2 else look es k := by
  unfold look
  rw [List.find?_cons]
  by_cases e : p.1 = k
  · rw [if_pos e, decide_eq_true e]; rfl
  · rw [if_neg e, decide_eq_false e]
theorem valV_ents (k : Int) : ∀ es : List (Int × Str), valV (ents es) (.inl k) = (look es k).map V.str
  | [] => rfl
  | p :: es => by
    rw [look_cons]
    show valV ((Sum.inl p.1, V.str p.2) :: ents es) (.inl k) = _
    by_cases e : p.1 = k
    · rw [valV_pos (show (Sum.inl p.1 : Key) = .inl k by rw [e]), if_pos e]; rfl
    · rw [valV_neg (show ¬ (Sum.inl p.1 : Key) = .inl k from fun z => e (Sum.inl.inj z)), if_neg e, valV_ents k es]
theorem look_none {es : List (Int × Str)} {k : Int} : look es k = none ↔ k ∉ keys es := by
  induction es with
  | nil => exact ⟨fun _ => List.not_mem_nil, fun _ => rfl⟩
  | cons p es ih =>
    rw [look_cons]
    unfold keys at ih ⊢
    rw [List.map_cons, List.mem_cons, not_or]
    by_cases e : p.1 = k
    · rw [if_pos e]
      exact ⟨fun z => (nomatch z), fun z => absurd e.symm z.1⟩
    · rw [if_neg e, ih]
      exact ⟨fun z => ⟨fun q => e q.symm, z⟩, fun z => z.2⟩
theorem look_some {es : List (Int × Str)} {k : Int} : (look es k).isSome = true ↔ k ∈ keys es := by
  cases e : look es k with
  | none =>
    refine ⟨fun z => ?_, fun z => absurd z (look_none.mp e)⟩
    cases z
  | some x =>
    refine ⟨fun _ => Decidable.byContradiction fun n => ?_, fun _ => rfl⟩
    rw [look_none.mpr n] at e
    cases e
theorem put_new {es : List (Int × Str)} {k : Int} {x : Str} (h : k ∉ keys es) : putK (ents es) (.inl k) (.str x) = ents (es ++ [(k, x)]) := by
  unfold putK
  rw [valV_any, valV_ents, look_none.mpr h, if_neg (by simp), ents_app]
  rfl
end My
set_option Elab.async false
set_option maxRecDepth 100000
set_option maxHeartbeats 4000000
namespace My
open PySem PySem.Spec PyProof.Rows L2

section
open PySem.W
variable {prog : Program} {w : World} {A : Around} {E : Value → Shared → Prop} {s : Shared} {K : Frag} {x C f : Addr} {ox : Obj} {od : Option Obj} {b : Value}
theorem one_bool {M : Model} {A : Around} {E : Value → Shared → Prop} {Q : Fin → Shared → Prop} {c : Bool} {s : Shared} (h : Q (.done (.ret (.bool (!c)))) s) :
    wpAny M A (do ret (.bool (!(← truthy (.bool c))))) Q E s := by
  unfold truthy
  refine wpAny_bind (wpAny_pure ?_)
  exact wpAny_pure h
theorem one_ne (X : K.In s.heap) (I : InstAt s.heap x ox C od) (hs : findIn K (.ref C) "__eq__" = some (some (.ref f))) (hf : isFn K (.ref f) = true) (hu : A.units < cLine) {Q : Fin → Shared → Prop}
    (h : wpAny (model prog w) A (call (.ref f) [.ref x, b]) (fun v s' => ∃ c, v = .bool c ∧ Q (.done (.ret (.bool (!c)))) s') E s) :
    wpAny (model prog w) A (Builtin.«object.__ne__» ⟨[.ref x, b], []⟩) Q E s := by
  unfold Builtin.«object.__ne__»
  show wpAny _ _ (cRoomFor "comparison" [.ref x, b] >>= fun _ => callSpecialIfBound? (.ref x) "__eq__" [b] >>= _) _ _ _
  refine wpAny_bind (wpAny_cRoomFor hu ?_)
  refine wpAny_bind (ifBound_K X I hs hf (wpAny_mono h (fun v s' hv => ?_) fun _ _ e => e))
  obtain ⟨c, rfl, q⟩ := hv
  exact one_bool q
theorem ne_own (hu : A.units + 1 < cLine) (X : K.In s.heap) (I : InstAt s.heap x ox C od) {tb : Value} (hb : Looks (model prog w) s.heap (typeOf b) tb) (hn : notFirst K C tb = true)
    (ht : mroIn K C (.type "object") = some true)
    (hd : findIn K (.ref C) "__ne__" = some (some (.builtin "object.__ne__"))) (hs : findIn K (.ref C) "__eq__" = some (some (.ref f))) (hf : isFn K (.ref f) = true) {Q : Value → Shared → Prop}
    (h : wpAny (model prog w) A.in1 (call (.ref f) [.ref x, b]) (fun v s' => ∃ c, v = .bool c ∧ Q (.bool (!c)) s') E s) :
    wpAny (model prog w) A (compareOp .NotEq (.ref x) b) Q E s := by
  have one : wpAny (model prog w) A (tryCompare (.ref x) "__ne__" b) (fun r s' => ∃ v, r = some v ∧ Q v s') E s := by
    unfold tryCompare
    refine wpAny_bind ?_
    simp only [callSpecialIfBound?, bindSpecialIfBound?]
    refine wpAny_holding (wpAny_bind (wpAny_bind (wpAny_bind (I.type.here ((looks_findIn X hd).here ?_)))))
    refine wpAny_bind (wpAny_askSetting (wpAny_ite ?_))
    have L : Looks (model prog w) s.heap (isInstance (.ref x) (.type "object")) true := I.type.andThen (looks_mroIn X ht)
    have bnd := PySem.F.cmp_object.ne.bind (.ref x)
    split
    rotate_left
    refine wpAny_tryCatch ?_
    all_goals
      refine wpAny_bind ?_
      rw [bnd]
      refine wpAny_pure (wpAny_pure (wpAny_bind (wpAny_call (codeAny_call_builtin PySem.F.cmp_object.ne.plain F.cmpEntry_ne
        (@PySem.W.check_slot (model prog w) _ _ _ "object.__ne__" "object" "__ne__" (.ref x) [b] [] _ F.cmpKind_ne F.cmpSplit_ne L (F.cmpArgs_ne _ _) ?_)))))
      refine one_ne (A := A.in1) X I hs hf hu (wpAny_mono h (fun y s' hy => ?_) fun _ _ z => z)
      obtain ⟨c, rfl, q⟩ := hy
      exact ⟨c, rfl, wpAny_pure (wpAny_pure ⟨_, rfl, q⟩)⟩
  show wpAny _ _ (richCompare .NotEq (.ref x) b) _ _ _
  unfold richCompare
  simp only [oneThing_ref]
  refine wpAny_holding (wpAny_bind (wpAny_cRoomFor (Nat.lt_of_succ_lt hu) ?_))
  refine wpAny_bind (I.type.here ?_)
  refine wpAny_bind (hb.here ?_)
  rw [PySem.cmpInfo_NotEq]
  dsimp only
  have last : ∀ {f : Option Value → Sem Value}, (∀ v, f (some v) = pure v) → wpAny (model prog w) A (tryCompare (.ref x) "__ne__" b >>= f) Q E s := by
    intro f hf2
    refine wpAny_bind (wpAny_mono one (fun y s' hy => ?_) fun _ _ z => z)
    obtain ⟨v, rfl, q⟩ := hy
    rw [hf2]
    exact wpAny_pure q
  split
  · rename_i q
    have no : subIn K tb (.ref C) = some false := by
      cases hq : tb == .ref C with
      | true => rw [beq_iff_eq.mp hq] at q; simp at q
      | false =>
        unfold notFirst at hn
        rw [hq, Bool.false_or] at hn
        exact beq_iff_eq.mp hn
    refine wpAny_bind ((looks_subIn X no).here ?_)
    rw [if_neg (by simp)]
    exact last fun _ => rfl
  · refine wpAny_bind (wpAny_pure (a := false) ?_)
    rw [if_neg (by simp)]
    exact last fun _ => rfl
end
section
variable {X : Cx}

def rEq1 (C : Addr) (sp : Sp) (neg : Bool) : R2 := fun x y H Q => ∃ a b dx fs dy gs, x = .ref a ∧ y = .ref b ∧ H a = some (.ins C dx fs) ∧
  H b = some (.ins C dy gs) ∧ sp [x, y] H (fun v H' => ∃ c, v = .bl c ∧ Q (.bl (if neg = true then !c else c)) H') E0
theorem op_ownEq {C : Addr} {k : Nat} {ps : List Str} {sp : Sp} (O : OwnOp X C "__eq__" k ps sp) (hr : Room k X.A) (hu : X.A.units < cLine) :
    OpR X (compareOp .Eq) (rEq1 C sp false) := by
  intro pins s σ H x y v u Q I rx ry h
  obtain ⟨a, b, dx, fs, dy, gs, rfl, rfl, ha, hb, q⟩ := h
  cases rx; cases ry
  obtain ⟨f, fd, hs, hf, F, bd⟩ := O.ex
  obtain ⟨m, Fr⟩ := fr_of I
  obtain ⟨ox, od, J⟩ := inst_of I ha
  obtain ⟨oy, oe, J2⟩ := inst_of I hb
  show wpAny _ _ (richCompare .Eq _ _) _ _ _
  refine PySem.W.cmp_K hu Fr I.ok.mod.kin J J2.type (by unfold PySem.W.notFirst; simp) hs hf ?_
  refine thn (run_fn (us := [.ref a, .ref b]) (vs := [.ref a, .ref b]) F hr bd .nil pass0 I (.cons rfl (.cons rfl .nil)) q) ?_
  rintro u s' ⟨_, H', I', r, c, rfl, z⟩
  cases r
  exact ⟨.bl c, H', I', rfl, z⟩
theorem op_ownNe {C : Addr} {k : Nat} {ps : List Str} {sp : Sp} (O : OwnOp X C "__eq__" k ps sp) (hr : Room (k + 1) X.A) (hu : X.A.units + 1 < cLine)
    (ht : PySem.W.mroIn X.K C (.type "object") = some true)
    (hd : PySem.W.findIn X.K (.ref C) "__ne__" = some (some (.builtin "object.__ne__"))) :
    OpR X (compareOp .NotEq) (rEq1 C sp true) := by
  intro pins s σ H x y v u Q I rx ry h
  obtain ⟨a, b, dx, fs, dy, gs, rfl, rfl, ha, hb, q⟩ := h
  cases rx; cases ry
  obtain ⟨f, fd, hs, hf, F, bd⟩ := O.ex
  obtain ⟨m, Fr⟩ := fr_of I
  obtain ⟨ox, od, J⟩ := inst_of I ha
  obtain ⟨oy, oe, J2⟩ := inst_of I hb
  refine ne_own hu I.kIn J J2.type (by unfold PySem.W.notFirst; simp) ht hd hs hf ?_
  refine thn (run_in1 (us := [.ref a, .ref b]) (vs := [.ref a, .ref b]) F hr bd I (.cons rfl (.cons rfl .nil)) q) ?_
  rintro u s' ⟨_, H', I', r, c, rfl, z⟩
  cases r
  exact ⟨c, rfl, .bl (!c), H', I', rfl, z⟩
end
end My
set_option Elab.async false
set_option maxRecDepth 100000
set_option maxHeartbeats 4000000
namespace My
open PySem PySem.Spec PyProof.Rows L2



def laid (d : PyData) : Prop := d.canLay0 = true ∨ ∃ kvs, d = .dict kvs
def sm (d : PyData) : Prop := d.weight ≤ 100000 ∧ laid d
def mWhole : PyData → Bool
  | .int _ => true
  | _ => false
def between (a b : Int) : PyData → Bool
  | .int i => decide (a ≤ i) && decide (i ≤ b)
  | _ => false
def mKey (d : PyData) : Bool := between 0 999999 d
def mVal (d : PyData) : Bool := between (1 - 10 ^ 40) (10 ^ 40 - 1) d
def abc : Str := "abcdefghijklmnopqrstuvwxyz"
def nameOk (x : Str) : Bool := decide (1 ≤ x.length ∧ x.length ≤ 4) && !(inV (.str x) [.str "keys", .str "look", .str "self"]) &&
  x.cps.toList.all fun c => decide (c ∈ abc.cps.toList)
def mName : PyData → Bool
  | .str x => nameOk x
  | _ => false
def mEl : PyData → Bool
  | .tuple [k, f] => mKey k && mName f
  | _ => false
def mEnt : PyData → Bool
  | .tuple [k, f, v] => mKey k && (mName f && mVal v)
  | _ => false

def spIs (K : PySem.W.Frag) (m : PyData → Bool) : Sp := fun vs H Q _ => ∃ v d, vs = [v] ∧ Dx K H v d ∧ sm d ∧ ∀ H', Same H H' → Q (.bl (m d)) H'
def spBetween (K : PySem.W.Frag) : Sp := fun vs H Q _ => ∃ v d a b, vs = [v, .int a, .int b] ∧ Dx K H v d ∧ Q (.bl (between a b d)) H
def okB (d : PyData) : Bool := d.showable && (d.leavesShort 100 && (decide (d.weight ≤ 1000) && (decide (d.depth ≤ 10) && d.canLay0)))
def okT (d : PyData) : Prop := d.showable = true ∧ d.leavesShort 100 = true ∧ d.weight ≤ 10000 ∧ d.depth ≤ 30 ∧ laid d
def okD (d : PyData) : Prop := d.showable = true ∧ d.leavesShort 100 = true ∧ d.weight ≤ 1000 ∧ d.depth ≤ 10
def spWord : Sp := fun vs H Q _ => ∃ (a : Addr) (n : Nat), vs = [.ref a] ∧ Bag H a n ∧ n < 10000 ∧
  ∀ (x : Str) (H' : Hp), okB (.str x) = true → Same (del a H) (del a H') → Bag H' a (n + 2) → Q (.str x) H'
def spNumber (K : PySem.W.Frag) : Sp := fun vs H Q _ => ∃ (a : Addr) (n : Nat), vs = [.ref a] ∧ Bag H a n ∧ n < 10000 ∧
  ∀ (v : V) (d : PyData) (H' : Hp), Dp K (del a H') v d → okB d = true → Same (del a H) (del a H') → Bag H' a (n + 2) → Q v H'
def spThing (K : PySem.W.Frag) : Sp := fun vs H Q _ => ∃ (a : Addr) (n : Nat), vs = [.ref a] ∧ Bag H a n ∧ n < 9000 ∧
  ∀ (v : V) (d : PyData) (H' : Hp), Dx K H' v d → okT d → Same (del a H) (del a H') → Bag H' a (n + 8) → Q v H'
def spLaw (K : PySem.W.Frag) : Sp := fun vs H Q _ => ∃ (a : Addr) (ns : List Int), vs = [.ref a] ∧ SqL K H a (ns.map V.int) ∧ ns.length ≤ 63 ∧ ∀ H', Q (.bl true) H'
theorem sqT_len {K : PySem.W.Frag} {H : Hp} : ∀ {vs : List V} {ds : List PyData}, DpAll K H vs ds → vs.length = ds.length
  | _, _, .nil => rfl
  | _, _, .cons _ r => by rw [List.length_cons, List.length_cons, sqT_len r]
theorem dx_tuple {K : PySem.W.Frag} {H : Hp} {v : V} {ds : List PyData} (h : Dx K H v (.tuple ds)) : ∃ a vs, v = .ref a ∧ SqT K H a vs ∧ DpAll K H vs ds := by
  cases h with
  | of h => cases h with | tup h1 h2 => exact ⟨_, _, rfl, h1, h2⟩
theorem dx_str {K : PySem.W.Frag} {H : Hp} {v : V} {x : Str} (h : Dx K H v (.str x)) : v = .str x := by
  cases h with
  | of h => cases h; rfl
theorem dx_int {K : PySem.W.Frag} {H : Hp} {v : V} {i : Int} (h : Dx K H v (.int i)) : v = .int i := by
  cases h with
  | of h => cases h; rfl
theorem rd_isi {K : PySem.W.Frag} {i : Nat} {σ : L2.St} {H : Hp} {v : V} {d : PyData} {T : String} {Q : VK} (hσ : σ[i]? = some (some v)) (hx : Dx K H v d)
    (hT : T = "int" ∨ T = "bool" ∨ T = "str" ∨ T = "tuple" ∨ T = "list" ∨ T = "dict") (q : Q (.bl (isD T d)) H) :
    tCB (rIsi K) (tCons (tVar i) (tCons (tC (.ty T)) tNil)) σ H Q := ⟨v, hσ, isi_of hx hT q⟩
theorem isNot (b : Bool) : (if (!b) = true then true else false) = !b := by cases b <;> rfl

theorem take_snoc {xs : Array Nat} {i c : Nat} (h : xs[i]? = some c) : xs.toList.take (i + 1) = xs.toList.take i ++ [c] := by
  rw [List.take_add_one]
  have e : xs.toList[i]? = some c := by rw [Array.getElem?_toList]; exact h
  rw [e]
  rfl
def inAbc (c : Nat) : Bool := decide (c ∈ abc.cps.toList)
theorem len_le {x : Str} (h : sm (.str x)) : x.length ≤ 100000 := h.1
theorem laid_str {x : Str} (h : laid (.str x)) : ∀ c ∈ x.cps.toList, c < 0x110000 := by
  rcases h with h | ⟨_, h⟩
  · intro c hc
    have h2 : x.cps.all (· < 0x110000) = true := h
    rw [Array.all_eq_true'] at h2
    simpa using h2 c (by simpa using hc)
  · cases h
theorem laid_tup {ds : List PyData} (h : laid (.tuple ds)) : ∀ d ∈ ds, laid d := by
  rcases h with h | ⟨_, h⟩
  · have h2 : PyData.canLayAll0 ds = true := h
    intro d hd
    left
    induction ds with
    | nil => cases hd
    | cons a r ih =>
      rw [PyData.canLayAll0, Bool.and_eq_true] at h2
      rcases List.mem_cons.mp hd with rfl | hd
      · exact h2.1
      · exact ih h2.2 h2.2 hd
  · cases h
theorem size_ok {n : Nat} (h : n ≤ 1000000) : n ≤ sizeLine := Nat.le_trans h (by decide)
theorem size_lt {n : Nat} (h : n ≤ 1000000) : n < sizeLine := Nat.lt_of_le_of_lt h (by decide)
theorem all_ids (l : List Nat) (p : Nat → Bool) : (l.map p).all id = l.all p := by
  induction l with
  | nil => rfl
  | cons a r ih => rw [List.map_cons, List.all_cons, List.all_cons, ih]; rfl

theorem inV_14 (n : Nat) : inV (.int n) [.int 1, .int 2, .int 3, .int 4] = decide (1 ≤ n ∧ n ≤ 4) := by
  match n with
  | 0 => rfl
  | 1 => rfl
  | 2 => rfl
  | 3 => rfl
  | 4 => rfl
  | k + 5 =>
    rw [decide_eq_false (by omega)]
    simp only [inV, eqV, List.any_cons, List.any_nil, Bool.or_false, Bool.or_eq_false_iff, beq_eq_false_iff_ne, ne_eq]
    omega
def chars (l : List Nat) : List PyData := l.map fun c => .str ⟨#[c]⟩
theorem dp_chars {K : PySem.W.Frag} {H : Hp} : ∀ l : List Nat, DpAll K H (l.map fun c => V.str ⟨#[c]⟩) (chars l)
  | [] => .nil
  | c :: r => .cons (.str _) (dp_chars r)
theorem lay_chars : ∀ l : List Nat, (∀ c ∈ l, c < 0x110000) → PyData.canLayAll0 (chars l) = true
  | [], _ => rfl
  | c :: r, h => by
    show (PyData.canLay0 (.str ⟨#[c]⟩) && PyData.canLayAll0 (chars r)) = true
    rw [lay_chars r fun x hx => h x (List.mem_cons_of_mem _ hx), Bool.and_true]
    show (#[c].all fun x => decide (x < 0x110000)) = true
    simpa using h c List.mem_cons_self
theorem deep_chars : ∀ l : List Nat, PyData.depthAll (chars l) = 0
  | [] => rfl
  | c :: r => by
    show max (PyData.depth (.str ⟨#[c]⟩)) (PyData.depthAll (chars r)) = 0
    rw [deep_chars r]
    rfl
theorem shaped_chars (l : List Nat) (h : ∀ c ∈ l, c < 0x110000) : SeqAt.shaped (.list (chars l)) = true := by
  show (PyData.canLayAll0 (chars l) && decide (PyData.depthAll (chars l) + 1 ≤ 64)) = true
  rw [lay_chars l h, deep_chars]
  rfl
theorem eqv_nil (l : List Nat) : PyData.eqv (.list (chars l)) (.list []) = l.isEmpty := by
  cases l with
  | nil => rfl
  | cons c r => rfl
theorem filter_empty (l : List Nat) (p : Nat → Bool) : (l.filter fun c => !p c).isEmpty = l.all p := by
  induction l with
  | nil => rfl
  | cons a r ih =>
    rw [List.filter_cons, List.all_cons]
    cases p a with
    | true => simpa using ih
    | false => rfl

theorem okD_of {d : PyData} (h : okB d = true) : okD d ∧ d.canLay0 = true := by
  unfold okB at h
  simp only [Bool.and_eq_true, decide_eq_true_eq] at h
  exact ⟨⟨h.1, h.2.1, h.2.2.1, h.2.2.2.1⟩, h.2.2.2.2⟩
def words : List Str := ["a", "z", "ab", "keyz", "key", "look", "keys", "self", "seld", "looks", "abcde", "", "A", "aB", "a1", "a b", "a\n", " a", "a_", "loo", "zzzz"]
theorem words_ok : words.all (fun x => okB (.str x)) = true := by decide +kernel
theorem xs_ok : ∀ n, n < 7 → okB (.str (repS "x" n)) = true := by decide +kernel
def nums : List V := [.int 0, .int 1, .int 999999, .int 1000000, .int (-1), .bl true, .bl false, .non, .str "1", .int (10 ^ Int.toNat 40 - 1), .int (1 - 10 ^ Int.toNat 40), .int 999998]
theorem nums_ok : nums.all (fun v => match flatD v with | some d => okB d | none => false) = true := by decide +kernel
theorem dp_flat {K : PySem.W.Frag} {H : Hp} {v : V} {d : PyData} (h : flatD v = some d) : Dp K H v d := by
  cases v with
  | non => cases h; exact .non
  | bl b => cases h; exact .bl b
  | int i => cases h; exact .int i
  | str x => cases h; exact .str x
  | byt b => cases h
  | flt b => cases h
  | ref a => cases h
  | ty n => cases h
theorem small_int {i : Int} (h0 : 0 ≤ i) (h1 : i < 1000000) : okB (.int i) = true := by
  unfold okB
  have a1 : i.natAbs < 10 ^ 12 := by omega
  have a2 : i.natAbs.log2 < 1920 := log2_small (by
    have : (1000000 : Nat) < 2 ^ 1920 := by decide
    omega)
  have a3 := PyData.shown_int_le a1
  have a4 : (PyData.int i).weight ≤ 1000 := by
    show (if i == 0 then 0 else i.natAbs.log2 + 1) ≤ 1000
    have : i.natAbs.log2 < 20 := by
      by_cases e : i.natAbs = 0
      · rw [e]; decide
      · exact (Nat.log2_lt e).mpr (by omega)
    split <;> omega
  have b1 : (PyData.int i).showable = true := by simp only [PyData.showable]; exact decide_eq_true a2
  have b2 : (PyData.int i).leavesShort 100 = true := by simp only [PyData.leavesShort]; exact decide_eq_true (by omega)
  rw [b1, b2, decide_eq_true a4]
  rfl

def okP (W D : Nat) (d : PyData) : Prop := d.showable = true ∧ d.leavesShort 100 = true ∧ d.weight ≤ W ∧ d.depth ≤ D ∧ d.canLay0 = true
theorem okP_of {d : PyData} (h : okB d = true) : okP 1000 10 d :=
  let ⟨⟨h1, h2, h3, h4⟩, h5⟩ := okD_of h
  ⟨h1, h2, h3, h4, h5⟩
theorem okP_all {W D : Nat} : ∀ {ds : List PyData}, (∀ d ∈ ds, okP W D d) → PyData.showableAll ds = true ∧ PyData.leavesShortAll 100 ds = true ∧
    PyData.weightAll ds ≤ ds.length * (W + 1) ∧ PyData.depthAll ds ≤ D ∧ PyData.canLayAll0 ds = true
  | [], _ => ⟨rfl, rfl, Nat.zero_le _, Nat.zero_le _, rfl⟩
  | d :: r, h => by
    obtain ⟨a1, a2, a3, a4, a5⟩ := h d List.mem_cons_self
    obtain ⟨b1, b2, b3, b4, b5⟩ := okP_all (W := W) (D := D) fun x hx => h x (List.mem_cons_of_mem _ hx)
    refine ⟨?_, ?_, ?_, ?_, ?_⟩
    · rw [PyData.showableAll, a1, b1]; rfl
    · rw [PyData.leavesShortAll, a2, b2]; rfl
    · rw [PyData.weightAll, List.length_cons, Nat.succ_mul]; omega
    · rw [PyData.depthAll]; exact Nat.max_le.mpr ⟨a4, b4⟩
    · rw [PyData.canLayAll0, a5, b5]; rfl
theorem okP_list {W D W' D' : Nat} {ds : List PyData} (h : ∀ d ∈ ds, okP W D d) (hw : ds.length * (W + 1) ≤ W') (hd : D + 1 ≤ D') : okP W' D' (.list ds) := by
  obtain ⟨b1, b2, b3, b4, b5⟩ := okP_all h
  refine ⟨?_, ?_, Nat.le_trans b3 hw, ?_, b5⟩
  · rw [PyData.showable]; exact b1
  · rw [PyData.leavesShort]; exact b2
  · rw [PyData.depth]; omega
theorem okP_tup {W D W' D' : Nat} {ds : List PyData} (h : ∀ d ∈ ds, okP W D d) (hw : ds.length * (W + 1) ≤ W') (hd : D + 1 ≤ D') : okP W' D' (.tuple ds) := by
  obtain ⟨b1, b2, b3, b4, b5⟩ := okP_all h
  refine ⟨?_, ?_, Nat.le_trans b3 hw, ?_, b5⟩
  · rw [PyData.showable]; exact b1
  · rw [PyData.leavesShort]; exact b2
  · rw [PyData.depth]; omega
theorem okT_of {d : PyData} (h : okP 10000 30 d) : okT d := ⟨h.1, h.2.1, h.2.2.1, h.2.2.2.1, .inl h.2.2.2.2⟩
theorem okP_mono {W D W' D' : Nat} {d : PyData} (h : okP W D d) (hw : W ≤ W') (hd : D ≤ D') : okP W' D' d :=
  ⟨h.1, h.2.1, Nat.le_trans h.2.2.1 hw, Nat.le_trans h.2.2.2.1 hd, h.2.2.2.2⟩
theorem okT_dict {w : Str} (h : okB (.str w) = true) : okT (.dict [(.int 0, .str w)]) := by
  obtain ⟨a1, a2, a3, a4, a5⟩ := okP_of h
  refine ⟨?_, ?_, ?_, ?_, .inr ⟨_, rfl⟩⟩
  · rw [PyData.showable, PyData.showableKv, a1]
    rw [show PyData.showable (.int 0) = true by decide +kernel]
    rfl
  · rw [PyData.leavesShort, PyData.leavesShortKv, a2]
    rw [show PyData.leavesShort 100 (.int 0) = true by decide +kernel]
    rfl
  · rw [PyData.weight, PyData.weightKv, show PyData.weight (.int 0) = 0 from rfl, PyData.weightKv]; omega
  · rw [PyData.depth, PyData.depthKv, show PyData.depth (.int 0) = 0 from rfl, PyData.depthKv, show PyData.depth (.str w) = 0 from rfl]; decide
theorem okP_int0 : okP 1000 10 (.int 0) := okP_of (by decide +kernel)

theorem okT_len {d : PyData} (h : okT d) : d.shown.length ≤ sizeLine := by
  have a := PyData.shown_le 100 (by decide) d h.2.1
  have b : (100 + 2) * d.weight + 100 ≤ 102 * 10000 + 100 := by have := h.2.2.1; omega
  exact Nat.le_trans a (Nat.le_trans b (by decide))
theorem okT_sm {d : PyData} (h : okT d) : sm d := ⟨by have := h.2.2.1; omega, h.2.2.2.2⟩
theorem ok_bools (a b c : Bool) : okT (.list [.bool a, .bool b, .bool c]) := okT_of (okP_list (W := 1000) (D := 10) (by
  intro d hd
  simp only [List.mem_cons, List.not_mem_nil, or_false] at hd
  rcases hd with rfl | rfl | rfl
  · cases a <;> exact okP_of (by decide +kernel)
  · cases b <;> exact okP_of (by decide +kernel)
  · cases c <;> exact okP_of (by decide +kernel)) (by simp) (by decide))

end My
set_option Elab.async false
set_option maxRecDepth 100000
set_option maxHeartbeats 4000000
namespace My
open PySem PySem.Spec PyProof.Rows L2

structure FunV (K : PySem.W.Frag) (x qual : Str) (st : Stmt) (dV : Value) (f : Addr) (fd : FuncData) : Prop where
  ex : ∃ (oc : Value) (od : Option Addr) (kV doc pm : Value) (an : Option Addr) (cdv ct : Value) (osl : Array (Option Value)),
    fd = PySem.W.fnOf x qual (defArgs st) (defBody st) (defScope st) dV kV doc pm an cdv ct ∧ K.lookup f = some ⟨oc, od, .func fd, osl⟩ ∧ PySem.W.codeIn K cdv qual = true
section
variable {P : Program} {w : World} {K : PySem.W.Frag} {mg : Str → Option Value} {base : Heap} {x qual : Str} {st : Stmt} {f : Addr} {fd : FuncData} {dV : Value}
theorem funV_mk {oc : Value} {od an : Option Addr} {osl : Array (Option Value)} {kV doc pm cdv ct : Value}
    (l : K.lookup f = some ⟨oc, od, .func (PySem.W.fnOf x qual (defArgs st) (defBody st) (defScope st) dV kV doc pm an cdv ct), osl⟩) (c : PySem.W.codeIn K cdv qual = true) :
    FunV K x qual st dV f (PySem.W.fnOf x qual (defArgs st) (defBody st) (defScope st) dV kV doc pm an cdv ct) := ⟨⟨oc, od, kV, doc, pm, an, cdv, ct, osl, rfl, l, c⟩⟩
theorem FunV.ok {N ps : List Str} {k : Nat} {sp : Sp} (F : FunV K x qual st dV f fd) (S : FnScope N ps (defScope st))
    (len : ∀ vs H Q E, sp vs H Q E → vs.length = ps.length)
    (hbody : ∀ (cdv : Value) (A : Around) (outer : List Env) (s : Shared) (H : Hp) (vs : List V) (Q : VK) (E : XK), Room k (A.deeper (envOfC qual (defScope st) s.heap.objs.size f cdv)) → sp vs H Q E →
      ∃ t, PSs (cxOf CX0 P w K mg base N qual (defScope st) f cdv A outer s H E).nox (defBody st) t ∧ t { nx := fun _ H' => Q .non H', rt := Q } (start N vs) H) : FnOk P w K mg base CX0 (k + 1) f fd ps sp := by
  obtain ⟨oc, od, kV, doc, pm, an, cdv, ct, osl, rfl, lk, hcd⟩ := F.ex
  refine fn_of lk hcd S len fun A outer s H vs Q E hr hsp => ?_
  obtain ⟨t, h, q⟩ := hbody cdv A outer s H vs Q E hr hsp
  exact ⟨t, h.nox, q⟩

theorem FunV.binds1 {t : Addr} {o : Obj} {v : Value} {m : Nat} {ps : List Str} {n : Nat} (F : FunV K x qual st (.ref t) f fd) (lt : K.lookup t = some o) (ot : o.data = .seq #[v] m) (hn : n + 1 = ps.length)
    (h : ∀ (kV doc pm : Value) (an : Option Addr) (cdv ct : Value) (us : List Value), us.length = n →
      ∃ k, bindArgs (PySem.W.fnOf x qual (defArgs st) (defBody st) (defScope st) (.ref t) kV doc pm an cdv ct) ⟨us, []⟩ = seqItems? (.ref t) >>= k ∧ k (some #[v]) = pure (ps.zip (us ++ [v]))) : Binds K fd ps [v] := by
  obtain ⟨oc, od, kV, doc, pm, an, cdv, ct, osl, rfl, lk, hcd⟩ := F.ex
  intro s us X hlen
  have l2 : us.length = n := by
    rw [List.length_append, List.length_singleton] at hlen
    omega
  obtain ⟨k, e1, e2⟩ := h kV doc pm an cdv ct us l2
  refine BindsTo.of_looks fun M => ?_
  rw [e1]
  exact looks_items X lt ot (.of_pure e2)
theorem FunV.bindsAll {ps : List Str} (F : FunV K x qual st dV f fd)
    (h : ∀ (kV doc pm : Value) (an : Option Addr) (cdv ct : Value) (us : List Value), us.length = ps.length →
      bindArgs (PySem.W.fnOf x qual (defArgs st) (defBody st) (defScope st) dV kV doc pm an cdv ct) ⟨us, []⟩ = pure (ps.zip us)) : Binds K fd ps [] := by
  obtain ⟨oc, od, kV, doc, pm, an, cdv, ct, osl, rfl, lk, hcd⟩ := F.ex
  exact .all (h kV doc pm an cdv ct)

def spStar (ps : List Str) (sp : Sp) : Sp := fun vs H Q E => ∃ ws rest, vs = ws ++ rest ∧ ws.length = ps.length ∧ rest.length ≤ sizeLine ∧
  ∀ p, H p = Option.none → sp (ws ++ [V.ref p]) (upd H p (.tup rest)) Q E
theorem Fun.star {N ps : List Str} {pv : Str} {k : Nat} {sp : Sp} (F : Fun K x qual st f fd) (S : FnScope N (ps ++ [pv]) (defScope st))
    (hb : ∀ (kV doc pm : Value) (an : Option Addr) (cdv ct : Value) (us rest : List Value), us.length = ps.length →
      bindArgs (PySem.W.fnOf x qual (defArgs st) (defBody st) (defScope st) .none kV doc pm an cdv ct) ⟨us ++ rest, []⟩ = (newTuple rest >>= fun t => pure (ps.zip us ++ [(pv, t)])))
    (hbody : ∀ (cdv : Value) (A : Around) (outer : List Env) (s : Shared) (H : Hp) (vs : List V) (Q : VK) (E : XK), Room k (A.deeper (envOfC qual (defScope st) s.heap.objs.size f cdv)) → sp vs H Q E →
      ∃ t, PSs (cxOf CX0 P w K mg base N qual (defScope st) f cdv A outer s H E).nox (defBody st) t ∧ t { nx := fun _ H' => Q .non H', rt := Q } (start N vs) H) :
    FnR P w K mg base CX0 (k + 1) f (spStar ps sp) := by
  obtain ⟨oc, od, kV, doc, pm, an, cdv, ct, osl, rfl, lk, hcd⟩ := F.ex
  refine StX.fn_star lk hcd S StX.cxUp_none (hb kV doc pm an cdv ct) fun A outer s H vs Q E hr hsp => ?_
  obtain ⟨t, h, q⟩ := hbody cdv A outer s H vs Q E hr hsp
  exact ⟨t, h.nox, q⟩
end

def Mt (P : Program) (w : World) (K : PySem.W.Frag) (mg : Str → Option Value) (base : Heap) (C : Addr) (m : Str) (k : Nat) (ps : List Str) (sp : Sp) : Prop :=
  ∃ f fd, PySem.W.findIn K (.ref C) m = some (some (.ref f)) ∧ PySem.W.isFn K (.ref f) = true ∧ PySem.W.keepIn K (.ref f) = true ∧
    FnOk P w K mg base CX0 k f fd ps sp ∧ Binds K fd ps []

def MtR (P : Program) (w : World) (K : PySem.W.Frag) (mg : Str → Option Value) (base : Heap) (C : Addr) (m : Str) (k : Nat) (ps : List Str) (sp : Sp) : Prop :=
  ∃ f, PySem.W.findIn K (.ref C) m = some (some (.ref f)) ∧ PySem.W.isFn K (.ref f) = true ∧ PySem.W.keepIn K (.ref f) = true ∧
    FnR P w K mg base CX0 k f (spStar ps sp)

def MkFn (P : Program) (w : World) (K : PySem.W.Frag) (mg : Str → Option Value) (base : Heap) (C : Addr) (k : Nat) (ps : List Str) (sp : Sp) : Prop :=
  ∃ f fd, Mk K C f ∧ FnOk P w K mg base CX0 k f fd ps sp ∧ Binds K fd ps [] ∧ ∃ t ds, Vals [V.ref t] ds ∧ Binds K fd ps ds ∧ ∀ H, SqT K H t []
section
variable {X : Cx} {k : Nat} {C : Addr} {ps : List Str} {sp : Sp} {x m : Str} {p pos apos : Pos} {e o : Expr} {es : List Expr} {ta : TE} {t : TA}
theorem Mt.op (D : Mt X.prog X.w X.K X.mg X.base C m k ps sp) : OwnOp X C m k ps sp := by
  obtain ⟨f, fd, h1, h2, _, h4, h5⟩ := D
  exact ⟨f, fd, h1, h2, h4, h5⟩
theorem op_own {op : Operator} {nm : Str} (D : Mt X.prog X.w X.K X.mg X.base C nm k ps sp) (hr : Room k X.A) (hc : PySem.W.selfFirst X.K C = true) (hn : PySem.dunder op.info.2 = nm) : OpR X (binaryOp op) (rBin C sp) := by
  subst hn
  exact op_own2 D.op hr hc
theorem pe_mt {pl : Sem Bool} (D : Mt X.prog X.w X.K X.mg X.base C m k ps sp) (hr : Room k X.A) (c : Cls X.K C) (he : PE X o ta) (ha : PA X (e :: es) t)
    (hst : starEach (e :: es) X.env = (false, eval e X.env) :: starEach es X.env := by rfl) (hpl : (backTo pos (starEach es X.env)).any (·.1) = false := by rfl)
    (ht : eval (.Call (.Attribute o m apos) (e :: es) [] pos) X.env = (do
      let ov ← eval o X.env
      standAt apos.atName
      let (f, first) ← holding [ov] (getMethod ov m pl)
      callWith pos f first (backTo pos (starEach (e :: es) X.env)) (backToKw pos (keywordEach [] X.env))) := by rfl) :
    PE X (.Call (.Attribute o m apos) (e :: es) [] pos) (tMeth C m sp [] E0 ta t) := by
  obtain ⟨f, fd, h1, h2, h3, F, b⟩ := D
  exact pe_meth (ds := []) he c ⟨h1, h2, h3⟩ F hr b .nil pass0 ha hst hpl ht
theorem pe_mt0 {pl : Sem Bool} (D : Mt X.prog X.w X.K X.mg X.base C m k ps sp) (hr : Room k X.A) (c : Cls X.K C) (he : PE X o ta)
    (ht : eval (.Call (.Attribute o m apos) [] [] pos) X.env = (do
      let ov ← eval o X.env
      standAt apos.atName
      let (f, first) ← holding [ov] (getMethod ov m pl)
      callWith pos f first (backTo pos (starEach [] X.env)) (backToKw pos (keywordEach [] X.env))) := by rfl) :
    PE X (.Call (.Attribute o m apos) [] [] pos) (tMeth C m sp [] E0 ta tNil) := by
  obtain ⟨f, fd, h1, h2, h3, F, b⟩ := D
  exact pe_meth0 (ds := []) he c ⟨h1, h2, h3⟩ F hr b .nil pass0 ht
theorem pe_mk (D : MkFn X.prog X.w X.K X.mg X.base C k ps sp) (hr : Room (k + 1) X.A) (hg : Gl X x) (hm : X.mg x = some (.ref C)) (ha : PA X (e :: es) t)
    (hdb : (x == ("__debug__" : Str)) = false := by decide) (he : starEach (e :: es) X.env = (false, eval e X.env) :: starEach es X.env := by rfl) (hpl : (backTo pos (starEach es X.env)).any (·.1) = false := by rfl) :
    PE X (.Call (.Name x p) (e :: es) [] pos) (tMake C sp [] E0 t) := by
  obtain ⟨f, fd, M, F, b, _⟩ := D
  exact pe_make (ds := []) M F hr hg hm b .nil pass0 ha hdb he hpl
def tMk0 (K : PySem.W.Frag) (C : Addr) (sp : Sp) : TE := fun σ H Q => ∀ t, (∀ H, SqT K H t []) → tMake C sp [V.ref t] E0 tNil σ H Q
theorem pe_mk0 (D : MkFn X.prog X.w X.K X.mg X.base C k ps sp) (hr : Room (k + 1) X.A) (hg : Gl X x) (hm : X.mg x = some (.ref C))
    (hdb : (x == ("__debug__" : Str)) = false := by decide) : PE X (.Call (.Name x p) [] [] pos) (tMk0 X.K C sp) := by
  obtain ⟨f, fd, M, F, _, t, ds, hv, b, hT⟩ := D
  refine ⟨fun pins s σ H Q I h => ?_⟩
  exact (pe_make0 M F hr hg hm b hv pass0 hdb).run pins s σ H Q I (h t hT)
end

def Good (U : List Int) (es : List (Int × Str)) : Prop := (keys es).Nodup ∧ (∀ k ∈ keys es, k ∈ U) ∧ U.length ≤ 1000
def FD (U : List Int) (H : Hp) (d : Addr) (es : List (Int × Str)) : Prop := H d = some (.dK (ents es)) ∧ Good U es
def FS (C : Addr) (U : List Int) (H : Hp) (x : Addr) (es : List (Int × Str)) : Prop := ∃ dx d, H x = some (.ins C dx [("_forms", .ref d)]) ∧ FD U H d es
theorem FD.same {U : List Int} {H H' : Hp} {d : Addr} {es : List (Int × Str)} (h : FD U H d es) (s : Same H H') : FD U H' d es := ⟨s _ _ h.1, h.2⟩
theorem FS.same {C : Addr} {U : List Int} {H H' : Hp} {d : Addr} {es : List (Int × Str)} (h : FS C U H d es) (s : Same H H') : FS C U H' d es := by
  obtain ⟨dx, d, h1, h2⟩ := h
  exact ⟨dx, d, s _ _ h1, h2.same s⟩
theorem nodup_sub : ∀ {l U : List Int}, l.Nodup → (∀ k ∈ l, k ∈ U) → l.length ≤ U.length
  | [], U, _, _ => Nat.zero_le _
  | a :: r, U, nd, h => by
    have ha : a ∈ U := h a List.mem_cons_self
    have := nodup_sub (l := r) (U := U.erase a) (List.nodup_cons.mp nd).2 fun k hk =>
      (List.mem_erase_of_ne (fun e : k = a => (List.nodup_cons.mp nd).1 (by rw [← e]; exact hk))).mpr (h k (List.mem_cons_of_mem _ hk))
    rw [List.length_erase_of_mem ha] at this
    have p := List.length_pos_of_mem ha
    rw [List.length_cons]
    omega
theorem Good.len {U : List Int} {es : List (Int × Str)} (g : Good U es) : es.length ≤ 1000 := by
  have := nodup_sub g.1 g.2.1
  unfold keys at this
  rw [List.length_map] at this
  exact Nat.le_trans this g.2.2
def has (es : List (Int × Str)) (k : Int) : Bool := (look es k).isSome
theorem has_iff {es : List (Int × Str)} {k : Int} : has es k = true ↔ k ∈ keys es := look_some
def united (es fs : List (Int × Str)) : List (Int × Str) := es ++ fs.filter fun p => !has es p.1
def common (es fs : List (Int × Str)) : List (Int × Str) := es.filter fun p => has fs p.1
def rest (es fs : List (Int × Str)) : List (Int × Str) := es.filter fun p => !has fs p.1
theorem look_app (es gs : List (Int × Str)) (k : Int) : look (es ++ gs) k = (look es k).or (look gs k) := by
  induction es with
  | nil => rfl
  | cons p r ih =>
    rw [List.cons_append, look_cons, look_cons]
    by_cases e : p.1 = k
    · rw [if_pos e, if_pos e]; rfl
    · rw [if_neg e, if_neg e, ih]
theorem look_filter (c : Int → Bool) (es : List (Int × Str)) (k : Int) : look (es.filter fun p => c p.1) k = if c k = true then look es k else none := by
  induction es with
  | nil => rw [List.filter_nil, look_nil, ite_self]
  | cons p r ih =>
    rw [List.filter_cons]
    by_cases e : p.1 = k
    · rw [e]
      by_cases q : c k = true
      · rw [if_pos q, if_pos q, look_cons, look_cons, if_pos e, if_pos e]
      · rw [if_neg q, if_neg q, ih, if_neg q]
    · by_cases q : c p.1 = true
      · rw [if_pos q, look_cons, if_neg e, ih, look_cons, if_neg e]
      · rw [if_neg q, ih, look_cons, if_neg e]
theorem look_united (es fs : List (Int × Str)) (k : Int) : look (united es fs) k = (look es k).or (look fs k) := by
  unfold united
  rw [look_app, look_filter fun k => !has es k]
  unfold has
  cases look es k <;> rfl
theorem look_common (es fs : List (Int × Str)) (k : Int) : look (common es fs) k = if (look fs k).isSome = true then look es k else none :=
  look_filter (fun k => has fs k) es k
theorem look_rest (es fs : List (Int × Str)) (k : Int) : look (rest es fs) k = if (look fs k).isSome = true then none else look es k := by
  refine (look_filter (fun k => !has fs k) es k).trans ?_
  unfold has
  cases look fs k <;> rfl
theorem keys_filter_sub (c : Int × Str → Bool) (es : List (Int × Str)) : (keys (es.filter c)).Sublist (keys es) := List.Sublist.map _ List.filter_sublist
theorem Good.filter {U : List Int} {es : List (Int × Str)} (g : Good U es) (c : Int × Str → Bool) : Good U (es.filter c) :=
  ⟨g.1.sublist (keys_filter_sub c es), fun k hk => g.2.1 k ((keys_filter_sub c es).subset hk), g.2.2⟩
theorem Good.common {U : List Int} {es : List (Int × Str)} (g : Good U es) (fs : List (Int × Str)) : Good U (common es fs) := g.filter _
theorem Good.rest {U : List Int} {es : List (Int × Str)} (g : Good U es) (fs : List (Int × Str)) : Good U (rest es fs) := g.filter _
theorem mem_keys_filter {c : Int → Bool} {es : List (Int × Str)} {k : Int} : k ∈ keys (es.filter fun p => c p.1) ↔ k ∈ keys es ∧ c k = true := by
  unfold keys
  simp only [List.mem_map, List.mem_filter]
  constructor
  · rintro ⟨p, ⟨h1, h2⟩, rfl⟩; exact ⟨⟨p, h1, rfl⟩, h2⟩
  · rintro ⟨⟨p, h1, rfl⟩, h2⟩; exact ⟨p, ⟨h1, h2⟩, rfl⟩
theorem keys_app (es fs : List (Int × Str)) : keys (es ++ fs) = keys es ++ keys fs := List.map_append
theorem Good.united {U : List Int} {es fs : List (Int × Str)} (g : Good U es) (h : Good U fs) : Good U (united es fs) := by
  refine ⟨?_, ?_, g.2.2⟩
  · unfold My.united
    rw [keys_app]
    refine List.nodup_append.mpr ⟨g.1, (h.filter _).1, fun a ha b hb e => ?_⟩
    subst e
    have := (mem_keys_filter (c := fun k => !has es k)).mp hb
    have q := this.2
    rw [has_iff.mpr ha] at q
    cases q
  · intro k hk
    unfold My.united at hk
    rw [keys_app] at hk
    rcases List.mem_append.mp hk with hk | hk
    · exact g.2.1 k hk
    · exact (h.filter _).2.1 k hk

def spRaw (f : List (Int × Str) → List (Int × Str) → List (Int × Str)) : Sp := fun vs H Q _ => ∃ U a b es fs, vs = [.ref a, .ref b] ∧ FD U H a es ∧ FD U H b fs ∧
  ∀ d H', Same H H' → FD U H' d (f es fs) → Q (.ref d) H'
def spSetOf (C : Addr) : Sp := fun vs H Q _ => ∃ U d es, vs = [.ref d] ∧ FD U H d es ∧ ∀ x H', Same H H' → FS C U H' x es → Q (.ref x) H'
def spOp (C : Addr) (f : List (Int × Str) → List (Int × Str) → List (Int × Str)) : Sp := fun vs H Q _ => ∃ U a b es fs, vs = [.ref a, .ref b] ∧ FS C U H a es ∧ FS C U H b fs ∧
  ∀ d H', Same H H' → FS C U H' d (f es fs) → Q (.ref d) H'
def spLen (C : Addr) : Sp := fun vs H Q _ => ∃ U a es, vs = [.ref a] ∧ FS C U H a es ∧ Q (.int (es.length : Nat)) H
def alike (es fs : List (Int × Str)) : Prop := es.length = fs.length ∧ ∀ p ∈ es, look fs p.1 = some p.2
def spEqT (C : Addr) : Sp := fun vs H Q _ => ∃ U a b es fs, vs = [.ref a, .ref b] ∧ FS C U H a es ∧ FS C U H b fs ∧ alike es fs ∧ Q (.bl true) H
def smaller (es fs : List (Int × Str)) : List (Int × Str) := if es.length < fs.length then common es fs else common fs es
def apart (es fs : List (Int × Str)) : List (Int × Str) := united (rest es fs) (rest fs es)
theorem look_ents {es : List (Int × Str)} {p : Int × Str} (nd : (keys es).Nodup) (h : p ∈ es) : look es p.1 = some p.2 := by
  induction es with
  | nil => cases h
  | cons q r ih =>
    rw [look_cons]
    have nd2 : q.1 ∉ keys r ∧ (keys r).Nodup := List.nodup_cons.mp nd
    rcases List.mem_cons.mp h with rfl | h
    · rw [if_pos rfl]
    · rw [if_neg (fun e : q.1 = p.1 => nd2.1 (by rw [e]; exact List.mem_map_of_mem h)), ih nd2.2 h]

inductive ElAll (K : PySem.W.Frag) (H : Hp) : List V → List (Int × Str) → Prop
  | nil : ElAll K H [] []
  | cons {t : Addr} {k : Int} {x : Str} {vs : List V} {es : List (Int × Str)} (h : SqT K H t [.int k, .str x]) (hk : 0 ≤ k ∧ k ≤ 999999) (hx : nameOk x = true) (r : ElAll K H vs es) : ElAll K H (.ref t :: vs) ((k, x) :: es)
theorem sqT_same {K : PySem.W.Frag} {H H' : Hp} {a : Addr} {xs : List V} (e : Same H H') (h : SqT K H a xs) : SqT K H' a xs := by
  rcases h with h | h
  · rcases h with h | ⟨o, h⟩
    · exact .inl (.inl (e _ _ h))
    · exact .inl (.inr ⟨o, e _ _ h⟩)
  · exact .inr h
theorem ElAll.same {K : PySem.W.Frag} {H H' : Hp} (s : Same H H') : ∀ {vs : List V} {es : List (Int × Str)}, ElAll K H vs es → ElAll K H' vs es
  | _, _, .nil => .nil
  | _, _, .cons h hk hx r => .cons (sqT_same s h) hk hx (ElAll.same s r)
theorem ElAll.len {K : PySem.W.Frag} {H : Hp} : ∀ {vs : List V} {es : List (Int × Str)}, ElAll K H vs es → vs.length = es.length
  | _, _, .nil => rfl
  | _, _, .cons _ _ _ r => by rw [List.length_cons, List.length_cons, r.len]
theorem ElAll.at {K : PySem.W.Frag} {H : Hp} : ∀ {vs : List V} {es : List (Int × Str)} {i : Nat} {v : V}, ElAll K H vs es → vs[i]? = some v →
    ∃ t k x, v = .ref t ∧ es[i]? = some (k, x) ∧ SqT K H t [.int k, .str x] ∧ (0 ≤ k ∧ k ≤ 999999) ∧ nameOk x = true
  | _, _, i, v, .nil, h => by simp at h
  | _, _, 0, v, .cons h1 hk hx r, h => by
    cases Option.some.inj h
    exact ⟨_, _, _, rfl, rfl, h1, hk, hx⟩
  | _, _, i + 1, v, .cons h1 hk hx r, h => r.at h
def firsts (l : List (Int × Str)) : List (Int × Str) := l.foldl (fun acc p => if has acc p.1 = true then acc else acc ++ [p]) []
end My
set_option Elab.async false
set_option maxRecDepth 100000
set_option maxHeartbeats 4000000
namespace My
open PySem PySem.Spec PyProof.Rows L2
section
variable {X : Cx} {k : Nat} {C : Addr} {ps : List Str} {sp : Sp} {x m : Str} {p pos apos : Pos} {e o : Expr} {es : List Expr} {ta : TE} {t : TA}
theorem pe_mtR {pl : Sem Bool} (D : MtR X.prog X.w X.K X.mg X.base C m k ps sp) (hr : Room k X.A) (c : Cls X.K C) (he : PE X o ta) (ha : PA X (e :: es) t)
    (hst : starEach (e :: es) X.env = (false, eval e X.env) :: starEach es X.env := by rfl) (hpl : (backTo pos (starEach es X.env)).any (·.1) = false := by rfl)
    (ht : eval (.Call (.Attribute o m apos) (e :: es) [] pos) X.env = (do
      let ov ← eval o X.env
      standAt apos.atName
      let (f, first) ← holding [ov] (getMethod ov m pl)
      callWith pos f first (backTo pos (starEach (e :: es) X.env)) (backToKw pos (keywordEach [] X.env))) := by rfl) :
    PE X (.Call (.Attribute o m apos) (e :: es) [] pos) (tMethR C m (spStar ps sp) E0 ta t) := by
  obtain ⟨f, h1, h2, h3, F⟩ := D
  exact pe_methR he c ⟨h1, h2, h3⟩ F hr pass0 ha hst hpl ht
end

def spFirst (K : PySem.W.Frag) : Sp := fun vs H Q _ => ∃ (a : Addr) (xs : List V) (l : List (Int × Str)), vs = [.ref a] ∧ (H a = some (.lst xs) ∨ SqT K H a xs) ∧ ElAll K H xs l ∧ l.length ≤ 1000 ∧
  ∀ d H', Same H H' → H' d = some (.dK (ents (firsts l))) → Q (.ref d) H'
def spInit (K : PySem.W.Frag) (C : Addr) : Sp := fun vs H Q _ => ∃ (x dx a : Addr) (xs : List V) (l : List (Int × Str)), vs = [.ref x, .ref a] ∧ H x = some (.ins C dx []) ∧
  (H a = some (.lst xs) ∨ SqT K H a xs) ∧ ElAll K H xs l ∧ l.length ≤ 1000 ∧
  ∀ d H', Same (del x H) (del x H') → H' x = some (.ins C dx [("_forms", .ref d)]) → H' d = some (.dK (ents (firsts l))) → Q .non H'
def joinAll (es : List (Int × Str)) (ls : List (List (Int × Str))) : List (Int × Str) := ls.foldl united es
inductive FSs (C : Addr) (U : List Int) (H : Hp) : List V → List (List (Int × Str)) → Prop
  | nil : FSs C U H [] []
  | cons {x : Addr} {es : List (Int × Str)} {vs : List V} {ls : List (List (Int × Str))} (h : FS C U H x es) (r : FSs C U H vs ls) : FSs C U H (.ref x :: vs) (es :: ls)
theorem FSs.same {C : Addr} {U : List Int} {H H' : Hp} (s : Same H H') : ∀ {vs : List V} {ls : List (List (Int × Str))}, FSs C U H vs ls → FSs C U H' vs ls
  | _, _, .nil => .nil
  | _, _, .cons h r => .cons (h.same s) (FSs.same s r)
theorem FSs.len {C : Addr} {U : List Int} {H : Hp} : ∀ {vs : List V} {ls : List (List (Int × Str))}, FSs C U H vs ls → vs.length = ls.length
  | _, _, .nil => rfl
  | _, _, .cons _ r => by rw [List.length_cons, List.length_cons, r.len]
theorem FSs.at {C : Addr} {U : List Int} {H : Hp} : ∀ {vs : List V} {ls : List (List (Int × Str))} {i : Nat} {v : V}, FSs C U H vs ls → vs[i]? = some v → ∃ x es, v = .ref x ∧ ls[i]? = some es ∧ FS C U H x es
  | _, _, i, v, .nil, h => by simp at h
  | _, _, 0, v, .cons h1 r, h => by
    cases Option.some.inj h
    exact ⟨_, _, rfl, rfl, h1⟩
  | _, _, i + 1, v, .cons h1 r, h => r.at h
def spJoin (K : PySem.W.Frag) (C : Addr) : Sp := fun vs H Q _ => ∃ U a p es xs ls, vs = [.ref a, .ref p] ∧ FS C U H a es ∧ SqT K H p xs ∧ FSs C U H xs ls ∧
  ∀ d H', Same H H' → FS C U H' d (joinAll es ls) → Q (.ref d) H'
def likeKeys (es fs : List (Int × Str)) : Prop := ∀ k, has es k = has fs k
def spEqK (C : Addr) : Sp := fun vs H Q _ => ∃ U a b es fs, vs = [.ref a, .ref b] ∧ FS C U H a es ∧ FS C U H b fs ∧ likeKeys es fs ∧ ∀ H', Same H H' → Q (.bl true) H'
def spAll3 (C : Addr) : Sp := fun vs H Q _ => ∃ U a b c es fs gs, vs = [.ref a, .ref b, .ref c] ∧ FS C U H a es ∧ FS C U H b fs ∧ FS C U H c gs ∧ ∀ H', Same H H' → Q (.bl true) H'
def spAll2 (C : Addr) : Sp := fun vs H Q _ => ∃ U a b es fs, vs = [.ref a, .ref b] ∧ FS C U H a es ∧ FS C U H b fs ∧ ∀ H', Same H H' → Q (.bl true) H'
def below (m : Nat) : List Int := (List.range m).map fun i : Nat => (i : Int)
def spSet (C : Addr) : Sp := fun vs H Q _ => ∃ (a : Addr) (n m : Nat) (x : Str), vs = [.ref a, .int m, .str x] ∧ Bag H a n ∧ n < 1000 ∧ 1 ≤ m ∧ m ≤ 20 ∧ (x = "p" ∨ x = "q" ∨ x = "r") ∧
  ∀ z es H', Same (del a H) (del a H') → Bag H' a (n + 100) → FS C (below m) H' z es → Q (.ref z) H'
theorem FD.app {U : List Int} {es fs : List (Int × Str)} (g : Good U es) (h : Good U fs) (i : Nat) : (ents (es ++ (fs.take i).filter fun p => !has es p.1)).length < sizeLine := by
  rw [ents_len, List.length_append]
  have h1 := g.len
  have h2 := h.len
  have h3 : ((fs.take i).filter fun p => !has es p.1).length ≤ fs.length := Nat.le_trans (List.length_filter_le _ _) (by rw [List.length_take]; omega)
  exact Nat.lt_of_le_of_lt (Nat.le_trans (Nat.add_le_add h1 (Nat.le_trans h3 h2)) (by decide : 1000 + 1000 ≤ 2000)) (by decide)
theorem take_one {α : Type} {l : List α} {i : Nat} {x : α} (h : l[i]? = some x) : l.take (i + 1) = l.take i ++ [x] := by
  rw [List.take_add_one, h]
  rfl
theorem look_part {fs : List (Int × Str)} {i : Nat} {n : Int} {x : Str} (nd : (keys fs).Nodup) (h : fs[i]? = some (n, x)) : look (fs.take i) n = none := by
  refine look_none.mpr fun z => ?_
  have e := List.take_append_drop i fs
  have q : keys fs = keys (fs.take i) ++ keys (fs.drop i) := by rw [← keys_app, e]
  rw [q] at nd
  have := (List.nodup_append.mp nd).2.2 n z n ?_
  · exact this rfl
  · obtain ⟨hi, e2⟩ := List.getElem?_eq_some_iff.mp h
    have : (n, x) ∈ fs.drop i := by
      rw [List.mem_iff_getElem?]
      exact ⟨0, by rw [List.getElem?_drop]; exact h⟩
    exact List.mem_map_of_mem this
theorem united_old {es fs : List (Int × Str)} {i : Nat} {n : Int} {x : Str} {v : V} (nd : (keys fs).Nodup) (h : fs[i]? = some (n, x))
    (e : valV (ents (es ++ (fs.take i).filter fun q => !has es q.1)) (.inl n) = some v) :
    (es ++ (fs.take (i + 1)).filter fun q => !has es q.1) = es ++ (fs.take i).filter fun q => !has es q.1 := by
  rw [take_one h, List.filter_append]
  rw [valV_ents, look_app, look_filter fun k => !has es k, look_part nd h, ite_self, Option.or_none] at e
  have : has es n = true := by
    unfold has
    cases q : look es n with
    | none => rw [q] at e; cases e
    | some y => rfl
  rw [List.filter_cons, this]
  simp
theorem united_new {es fs : List (Int × Str)} {i : Nat} {n : Int} {x : Str} (nd : (keys fs).Nodup) (h : fs[i]? = some (n, x))
    (e : valV (ents (es ++ (fs.take i).filter fun q => !has es q.1)) (.inl n) = none) :
    putK (ents (es ++ (fs.take i).filter fun q => !has es q.1)) (.inl n) (.str x) = ents (es ++ (fs.take (i + 1)).filter fun q => !has es q.1) := by
  have e0 := e
  rw [valV_ents, look_app, look_filter fun k => !has es k, look_part nd h, ite_self, Option.or_none] at e
  have h0 : look es n = none := by
    cases q : look es n with
    | none => rfl
    | some y => rw [q] at e; cases e
  have : has es n = false := by unfold has; rw [h0]; rfl
  rw [take_one h, List.filter_append, List.filter_cons, this, ← List.append_assoc]
  refine put_new ?_
  refine look_none.mp ?_
  rw [valV_ents] at e0
  cases q : look (es ++ (fs.take i).filter fun q => !has es q.1) n with
  | none => rfl
  | some y => rw [q] at e0; cases e0
def iOr (w1 w2 : TI) : TI := fun σ H R => w1 σ H R ∨ w2 σ H R
theorem pi_or {X : Cx} {tg e : Expr} {w1 w2 : TI} (h1 : PI X tg e w1) (h2 : PI X tg e w2) : PI X tg e (iOr w1 w2) := by
  refine ⟨fun pins s σ H R I h => ?_⟩
  rcases h with h | h
  · exact h1.run pins s σ H R I h
  · exact h2.run pins s σ H R I h
theorem for_either {K : PySem.W.Frag} {a : Addr} {xs : List V} {g : TG} {tb : TS} {D : Ends} {σ : L2.St} {H : Hp} {tl : TE} {L : Hp → Prop} (hv : ∀ Q : VK, Q (.ref a) H → tl σ H Q)
    (hL : (∀ H, L H → SqL K H a xs) ∨ (∀ H, L H → SqT K H a xs)) (Pv : Nat → L2.St → Hp → Prop) (h0 : Pv 0 σ H) (hl : ∀ i σ H, i ≤ xs.length → Pv i σ H → L H)
    (hs : ∀ i x σ H, xs[i]? = some x → Pv i σ H → g x σ H fun σ2 H2 => tb { D with nx := Pv (i + 1), ct := Pv (i + 1), bk := D.nx } σ2 H2) (hd : ∀ σ H, Pv xs.length σ H → D.nx σ H) :
    tFor (iOr (iList K tl) (iTup K tl)) g tb D σ H := by
  rcases hL with h | h
  · exact .inl (hv _ ⟨a, rfl, ⟨xs, h _ (hl 0 _ _ (Nat.zero_le _) h0)⟩, for_list Pv h0 (fun i σ H hi p => h _ (hl i σ H hi p)) hs hd⟩)
  · exact .inr (hv _ ⟨a, rfl, ⟨xs, h _ (hl 0 _ _ (Nat.zero_le _) h0)⟩, for_tup Pv h0 (fun i σ H hi p => h _ (hl i σ H hi p)) hs hd⟩)
theorem kit_list (K : PySem.W.Frag) : PySem.W.kitAny K (.type "list") [.type "list", .type "tuple"] = some true :=
  kitAny_cons (b := true) (kit_ty (by decide +kernel)) (fun z => (nomatch z)) (fun _ => rfl)
theorem kit_tuple (K : PySem.W.Frag) : PySem.W.kitAny K (.type "tuple") [.type "list", .type "tuple"] = some true :=
  kitAny_cons (b := false) (kit_ty (by decide +kernel)) (fun _ => kitAny_cons (b := true) (kit_ty (by decide +kernel)) (fun z => (nomatch z)) (fun _ => rfl)) (fun z => (nomatch z))
theorem lt_ty {K : PySem.W.Frag} {H : Hp} {a : Addr} {xs : List V} (h : H a = some (.lst xs) ∨ SqT K H a xs) :
    ∃ t, TyX K H (.ref a) t ∧ PySem.W.kitAny K t [.type "list", .type "tuple"] = some true := by
  rcases h with h | (h | ⟨o, h⟩) | ⟨o, its, n, h1, h2, _⟩
  · exact ⟨_, .base (.lst h), kit_list K⟩
  · exact ⟨_, .base (.tup h), kit_tuple K⟩
  · exact ⟨_, .fTuple h, kit_tuple K⟩
  · exact ⟨_, .kTuple h1 h2, kit_tuple K⟩
theorem sqT_ext {K : PySem.W.Frag} {H H' : Hp} {a p : Addr} {xs : List V} (hp : H p = none) (e : Ext p H H') (h : SqT K H a xs) : SqT K H' a xs := by
  rcases h with (h | ⟨o, h⟩) | h
  · exact .inl (.inl (e _ _ (ne_of_none h hp) h))
  · exact .inl (.inr ⟨o, e _ _ (ne_of_none h hp) h⟩)
  · exact .inr h
theorem firsts_app (l : List (Int × Str)) (q : Int × Str) : firsts (l ++ [q]) = if has (firsts l) q.1 = true then firsts l else firsts l ++ [q] := by
  unfold firsts
  rw [List.foldl_append]
  rfl
theorem firsts_len (l : List (Int × Str)) : ∀ i, (firsts (l.take i)).length ≤ i
  | 0 => by rw [List.take_zero]; exact Nat.le_refl _
  | i + 1 => by
    have ih := firsts_len l i
    rw [List.take_add_one]
    cases h : l[i]? with
    | none => rw [Option.toList_none, List.append_nil]; omega
    | some q =>
      show (firsts (l.take i ++ [q])).length ≤ i + 1
      rw [firsts_app]
      split
      · omega
      · rw [List.length_append, List.length_singleton]; omega
theorem name_sm {x : Str} (h : nameOk x = true) : sm (.str x) := by
  unfold nameOk at h
  rw [Bool.and_eq_true, Bool.and_eq_true] at h
  have h1 := of_decide_eq_true h.1.1
  refine ⟨?_, .inl ?_⟩
  · show x.length ≤ 100000
    omega
  · show x.cps.all (· < 0x110000) = true
    rw [Array.all_eq_true']
    intro c hc
    have := List.all_eq_true.mp h.2 c (by simpa using hc)
    have m := of_decide_eq_true this
    have : ∀ c ∈ abc.cps.toList, c < 0x110000 := by decide
    exact decide_eq_true (this c m)
theorem el_sm {k : Int} {x : Str} (hk : 0 ≤ k ∧ k ≤ 999999) (h : nameOk x = true) : sm (.tuple [.int k, .str x]) := by
  have s := name_sm h
  unfold nameOk at h
  rw [Bool.and_eq_true, Bool.and_eq_true] at h
  have h1 := of_decide_eq_true h.1.1
  refine ⟨?_, .inl ?_⟩
  · show PyData.weightAll [.int k, .str x] ≤ 100000
    have e : x.cps.size = x.length := rfl
    have b : (if (k == 0) = true then 0 else k.natAbs.log2 + 1) ≤ 21 := by
      split
      · omega
      · rename_i z
        have nz : k.natAbs ≠ 0 := by
          intro q
          apply z
          rw [Int.natAbs_eq_zero.mp q]
          rfl
        have := (Nat.log2_lt nz (k := 20)).mpr (by omega)
        omega
    simp only [PyData.weightAll, PyData.weight]
    omega
  · rcases s.2 with q | ⟨_, q⟩
    · show (PyData.canLay0 (.int k) && (PyData.canLay0 (.str x) && true)) = true
      rw [q]; rfl
    · cases q
theorem el_ok {k : Int} {x : Str} (hk : 0 ≤ k ∧ k ≤ 999999) (h : nameOk x = true) : mEl (.tuple [.int k, .str x]) = true := by
  show ((decide (0 ≤ k) && decide (k ≤ 999999)) && nameOk x) = true
  rw [h, decide_eq_true hk.1, decide_eq_true hk.2]
  rfl
theorem el_dx {K : PySem.W.Frag} {H : Hp} {t : Addr} {k : Int} {x : Str} (h : SqT K H t [.int k, .str x]) : Dx K H (.ref t) (.tuple [.int k, .str x]) :=
  .of (.tup h (.cons (.int k) (.cons (.str x) .nil)))
end My
set_option Elab.async false
set_option maxRecDepth 100000
set_option maxHeartbeats 4000000
set_option linter.unusedVariables false
namespace My
open PySem PySem.Spec PyProof.Rows L2

def LitE (K : PySem.W.Frag) (σ : L2.St) (t : TE) (d : PyData) : Prop := ∀ (H : Hp) (Q : VK), (∀ v H', Same H H' → Dp K H' v d → Q v H') → t σ H Q
def LitA (K : PySem.W.Frag) (σ : L2.St) (t : TA) (ds : List PyData) : Prop := ∀ (H : Hp) (Q : List V → Hp → Prop), (∀ vs H', Same H H' → DpAll K H' vs ds → Q vs H') → t σ H Q
section
variable {K : PySem.W.Frag} {σ : L2.St}
theorem dpAll_len {H : Hp} : ∀ {vs : List V} {ds : List PyData}, DpAll K H vs ds → vs.length = ds.length
  | _, _, .nil => rfl
  | _, _, .cons _ r => by rw [List.length_cons, List.length_cons, dpAll_len r]
theorem lit_c {v : V} {d : PyData} (h : ∀ H, Dp K H v d) : LitE K σ (tC v) d := fun H Q k => k v H (Same.refl H) (h H)
theorem lit_int (i : Int) : LitE K σ (tC (.int i)) (.int i) := lit_c fun _ => .int i
theorem lit_str (x : Str) : LitE K σ (tC (.str x)) (.str x) := lit_c fun _ => .str x
theorem lit_bl (b : Bool) : LitE K σ (tC (.bl b)) (.bool b) := lit_c fun _ => .bl b
theorem lit_non : LitE K σ (tC .non) .none := lit_c fun _ => .non
theorem lit_var {i : Nat} {v : V} {d : PyData} (e : σ[i]? = some (some v)) (h : ∀ H, Dp K H v d) : LitE K σ (tVar i) d := fun H Q k => ⟨v, e, k v H (Same.refl H) (h H)⟩
theorem lit_nil : LitA K σ tNil [] := fun H Q k => k [] H (Same.refl H) .nil
theorem lit_cons {t : TE} {u : TA} {d : PyData} {ds : List PyData} (h : LitE K σ t d) (r : LitA K σ u ds) : LitA K σ (tCons t u) (d :: ds) := by
  intro H Q k
  refine h H _ fun v H1 s1 hv => r H1 _ fun vs H2 s2 hvs => ?_
  exact k _ _ (s1.trans s2) (.cons (dp_same s2 _ _ hv) hvs)
theorem lit_len {n : Nat} (h : n ≤ 1000) : n ≤ sizeLine := Nat.le_trans h (by decide)
theorem lit_tup {u : TA} {ds : List PyData} (r : LitA K σ u ds) (hl : ds.length ≤ 1000) : LitE K σ (tTup u) (.tuple ds) := by
  intro H Q k
  refine r H _ fun vs H1 s1 hvs => ⟨lit_len (by rw [dpAll_len hvs]; exact hl), fun p hp => ?_⟩
  have s2 : Same H1 (upd H1 p (.tup vs)) := same_new hp
  exact k _ _ (s1.trans s2) (.tup (.inl (.inl upd_same)) (dpAll_same s2 _ _ hvs))
theorem lit_lst {u : TA} {ds : List PyData} (r : LitA K σ u ds) (hl : ds.length ≤ 1000) : LitE K σ (tLst u) (.list ds) := by
  intro H Q k
  refine r H _ fun vs H1 s1 hvs => ⟨lit_len (by rw [dpAll_len hvs]; exact hl), fun p hp => ?_⟩
  have s2 : Same H1 (upd H1 p (.lst vs)) := same_new hp
  exact k _ _ (s1.trans s2) (.lst (.inl (.inl upd_same)) (dpAll_same s2 _ _ hvs))

def LsD (K : PySem.W.Frag) (H : Hp) (a : Addr) (ds : List PyData) : Prop := ∃ vs, H a = some (.lst vs) ∧ DpAll K H vs ds
theorem LsD.dp {H : Hp} {a : Addr} {ds : List PyData} (h : LsD K H a ds) : Dp K H (.ref a) (.list ds) := by
  obtain ⟨vs, h1, h2⟩ := h
  exact .lst (.inl (.inl h1)) h2
theorem LsD.same {H H' : Hp} {a : Addr} {ds : List PyData} (h : LsD K H a ds) (s : Same H H') : LsD K H' a ds := by
  obtain ⟨vs, h1, h2⟩ := h
  exact ⟨vs, s _ _ h1, dpAll_same s _ _ h2⟩
theorem LsD.len {H : Hp} {a : Addr} {ds : List PyData} {vs : List V} (h : LsD K H a ds) (e : H a = some (.lst vs)) : vs.length = ds.length := by
  obtain ⟨ws, h1, h2⟩ := h
  rw [h1] at e
  cases e
  exact dpAll_len h2

theorem lit_new {u : TA} {ds : List PyData} (r : LitA K σ u ds) (hl : ds.length ≤ 1000) {H : Hp} {Q : VK} (k : ∀ a H', Same H H' → H a = none → LsD K H' a ds → Q (.ref a) H') : tLst u σ H Q := by
  refine r H _ fun vs H1 s1 hvs => ⟨lit_len (by rw [dpAll_len hvs]; exact hl), fun p hp => ?_⟩
  have s2 : Same H1 (upd H1 p (.lst vs)) := same_new hp
  exact k _ _ (s1.trans s2) (s1.free hp) ⟨vs, upd_same, dpAll_same s2 _ _ hvs⟩
theorem lit_pow {i j : Int} (h : CPow i j) : LitE K σ (tOp (rI CPow fun i j => .int (i ^ j.toNat)) (tC (.int i)) (tC (.int j))) (.int (i ^ j.toNat)) := fun H Q k => ⟨_, _, rfl, rfl, h, k _ H (Same.refl H) (.int _)⟩
theorem lit_powadd {i j n : Int} (h : CPow i j) : LitE K σ (tOp (rI0 fun i j => .int (i + j)) (tOp (rI CPow fun i j => .int (i ^ j.toNat)) (tC (.int i)) (tC (.int j))) (tC (.int n))) (.int (i ^ j.toNat + n)) := fun H Q k => ⟨_, _, rfl, rfl, h, _, _, rfl, rfl, k _ H (Same.refl H) (.int _)⟩
theorem lit_neg (i : Int) : LitE K σ (tUn (rU fun i => .int (-i)) (tC (.int i))) (.int (-i)) := fun H Q k => ⟨_, rfl, k _ H (Same.refl H) (.int _)⟩
theorem dpAll_app {H : Hp} : ∀ {vs ws : List V} {ds es : List PyData}, DpAll K H vs ds → DpAll K H ws es → DpAll K H (vs ++ ws) (ds ++ es)
  | _, _, _, _, .nil, h => h
  | _, _, _, _, .cons h r, h2 => .cons h (dpAll_app r h2)
theorem dpAll_at {H : Hp} : ∀ {vs : List V} {ds : List PyData} {i : Nat} {v : V}, DpAll K H vs ds → vs[i]? = some v → ∃ d, ds[i]? = some d ∧ Dp K H v d
  | _, _, _, _, .nil, h => by cases h
  | _, _, 0, _, .cons (d := d) h r, e => by cases e; exact ⟨d, rfl, h⟩
  | _, _, i + 1, _, .cons h r, e => by
    have z := dpAll_at (i := i) r (by simpa using e)
    simpa using z
theorem dpAll_at' {H : Hp} : ∀ {vs : List V} {ds : List PyData} {i : Nat} {d : PyData}, DpAll K H vs ds → ds[i]? = some d → ∃ v, vs[i]? = some v ∧ Dp K H v d
  | _, _, _, _, .nil, h => by cases h
  | _, _, 0, _, .cons (v := v) h r, e => by cases e; exact ⟨v, rfl, h⟩
  | _, _, i + 1, _, .cons h r, e => by
    have z := dpAll_at' (i := i) r (by simpa using e)
    simpa using z
theorem dpAll_bools {H : Hp} : ∀ bs : List Bool, DpAll K H (bs.map V.bl) (bs.map PyData.bool)
  | [] => .nil
  | b :: r => .cons (.bl b) (dpAll_bools r)
theorem dpAll_ints {H : Hp} : ∀ {vs : List V} {ns : List Int}, DpAll K H vs (ns.map PyData.int) → vs = ns.map V.int
  | _, [], .nil => rfl
  | _, n :: ns, .cons h r => by
    cases h
    rw [List.map_cons, dpAll_ints r]
theorem lsd_cat {H : Hp} {a b : Addr} {ds es : List PyData} {Q : VK} (h1 : LsD K H a ds) (h2 : LsD K H b es) (hl : ds.length + es.length ≤ 1000) (k : ∀ p H', Same H H' → H p = none → LsD K H' p (ds ++ es) → Q (.ref p) H') : rCat (.ref a) (.ref b) H Q := by
  obtain ⟨vs, e1, d1⟩ := h1
  obtain ⟨ws, e2, d2⟩ := h2
  refine ⟨a, b, vs, ws, rfl, rfl, e1, e2, lit_len (by rw [dpAll_len d1, dpAll_len d2]; exact hl), fun p hp => ?_⟩
  have s := same_new hp (o := .lst (vs ++ ws))
  exact k p _ s hp ⟨_, upd_same, dpAll_same s _ _ (dpAll_app d1 d2)⟩
theorem seq_lit {u : TA} {ds : List PyData} {i : Nat} {rest : TS} {D : Ends} {H : Hp} (r : LitA K σ u ds) (hl : ds.length ≤ 1000) (k : ∀ a H', Same H H' → H a = none → LsD K H' a ds → rest D (σ.set i (some (.ref a))) H') :
    tSeq (tAsg (tLst u) (gName i)) rest D σ H := by
  show tLst u σ H fun x H1 => rest D (σ.set i (some x)) H1
  exact lit_new r hl k
theorem asg_lit {u : TA} {ds : List PyData} {i : Nat} {D : Ends} {H : Hp} (r : LitA K σ u ds) (hl : ds.length ≤ 1000) (k : ∀ a H', Same H H' → H a = none → LsD K H' a ds → D.nx (σ.set i (some (.ref a))) H') :
    tAsg (tLst u) (gName i) D σ H := by
  show tLst u σ H fun x H1 => D.nx (σ.set i (some x)) H1
  exact lit_new r hl k
theorem seq_cat {u : TA} {a : Addr} {es ds : List PyData} {i j : Nat} {rest : TS} {D : Ends} {H : Hp} (e : σ[i]? = some (some (.ref a))) (h : LsD K H a es) (r : LitA K σ u ds) (hl : es.length + ds.length ≤ 1000)
    (k : ∀ p H', Same H H' → H p = none → LsD K H' p (es ++ ds) → rest D (σ.set j (some (.ref p))) H') : tSeq (tAsg (tOp rCat (tVar i) (tLst u)) (gName j)) rest D σ H := by
  refine ⟨_, e, lit_new r (by omega) fun b H1 s1 n1 h1 => ?_⟩
  exact lsd_cat (h.same s1) h1 hl fun p H2 s2 n2 h2 => k p H2 (s1.trans s2) (s1.free n2) h2
theorem q_true {Q : VK} {b : Bool} {H : Hp} (h : b = true) (q : Q (.bl true) H) : Q (.bl b) H := h ▸ q
theorem args3 {u : TA} {ds : List PyData} {x y : V} {H : Hp} {Q : List V → Hp → Prop} (r : LitA K σ u ds) (hl : ds.length ≤ 1000) (k : ∀ a H', Same H H' → H a = none → LsD K H' a ds → Q [x, y, .ref a] H') :
    tCons (tC x) (tCons (tC y) (tCons (tLst u) tNil)) σ H Q := by
  show tLst u σ H fun v H1 => Q [x, y, v] H1
  exact lit_new r hl k
theorem args4 {u w : TA} {ds es : List PyData} {x y : V} {H : Hp} {Q : List V → Hp → Prop} (r : LitA K σ u ds) (hl : ds.length ≤ 1000) (r2 : LitA K σ w es) (hl2 : es.length ≤ 1000)
    (k : ∀ a b H', Same H H' → LsD K H' a ds → LsD K H' b es → Q [.ref a, x, y, .ref b] H') : tCons (tLst u) (tCons (tC x) (tCons (tC y) (tCons (tLst w) tNil))) σ H Q := by
  show tLst u σ H fun v H1 => tLst w σ H1 fun v2 H2 => Q [v, x, y, v2] H2
  refine lit_new r hl fun a H1 s1 n1 h1 => lit_new r2 hl2 fun b H2 s2 n2 h2 => ?_
  exact k a b H2 (s1.trans s2) (h1.same s2) h2
theorem args_ans {t : TE} {d : PyData} {i : Nat} {x y z : V} {H : Hp} {Q : List V → Hp → Prop} (e : σ[i]? = some (some z)) (r : LitE K σ t d) (k : ∀ v H', Same H H' → Dp K H' v d → Q [x, z, y, v] H') :
    tCons (tC x) (tCons (tVar i) (tCons (tC y) (tCons t tNil))) σ H Q := ⟨z, e, r _ _ k⟩
theorem iter_cat {u : TA} {a : Addr} {es ds : List PyData} {i : Nat} {H : Hp} {R : It → Hp → Prop} (e : σ[i]? = some (some (.ref a))) (h : LsD K H a es) (r : LitA K σ u ds) (hl : es.length + ds.length ≤ 1000)
    (k : ∀ p H', Same H H' → LsD K H' p (es ++ ds) → R (Itl K p) H') : iList K (tOp rCat (tVar i) (tLst u)) σ H R := by
  refine ⟨_, e, lit_new r (by omega) fun b H1 s1 n1 h1 => ?_⟩
  refine lsd_cat (h.same s1) h1 hl fun p H2 s2 n2 h2 => ?_
  have h3 := h2
  obtain ⟨vs, e2, _⟩ := h3
  exact ⟨p, rfl, ⟨vs, SqL.of e2⟩, k p H2 (s1.trans s2) h2⟩
theorem flat_bools : ∀ bs : List Bool, (bs.map V.bl).all flatV = true
  | [] => rfl
  | b :: r => flat_bools r
theorem flat_ints : ∀ bs : List Int, (bs.map V.int).all flatV = true
  | [] => rfl
  | b :: r => flat_ints r
end
theorem ix_tupN {X : Cx} {K : PySem.W.Frag} (h : X.K = K) : IxR X (rIxT K) := by
  subst h
  exact ix_tup
theorem op_in_seqN {X : Cx} {K : PySem.W.Frag} (h : X.K = K) : OpR X (compareOp .In) (rIn K false) := by
  subst h
  exact op_in_seq
section
variable {X : Cx} {k : Nat} {ps : List Str} {sp : Sp} {x : Str} {p pos : Pos}
theorem pe_fn0 (D : Fn X.prog X.w X.K X.mg X.base k x ps sp) (hr : Room k X.A) (hg : Gl X x)
    (hdb : (x == ("__debug__" : Str)) = false := by decide) : PE X (.Call (.Name x p) [] [] pos) (tCall sp [] E0 tNil) := by
  obtain ⟨f, fd, hm, F, kp, b⟩ := D
  exact pe_call0 F hr hg hm kp b .nil pass0 hdb
end

theorem lc_w {α : Type} {J : It} {n : Nat} {G : Hp → Prop} {Y : Nat → Hp → V → Hp → Prop} (w : Walk J n G Y) {g : TG} {tt : TT} {te : TE} {vs : List Nat} {σ : L2.St} {H1 : Hp} {D : Addr} {Qd : Hp → Prop}
    (as : List α) (F : α → Option V) (hn : as.length = n) (hsz : n ≤ 1000) (hD : H1 D = none) (hG : ∀ H2, Same H1 H2 → G H2)
    (hs : ∀ (i : Nat) (a : α) (x : V) (H H' : Hp) (R : Option V → Hp → Prop), as[i]? = some a → Same H1 H → Y i H x H' → (∀ H2, Same H H2 → R (F a) H2) →
      g x (wipe σ vs) H' fun σ2 H2 => wipe σ2 vs = wipe σ vs ∧ tt σ2 H2 fun b H3 => if b = true then te σ2 H3 fun y H4 => R (some y) H4 else R none H3)
    (hd : ∀ H2, Same H1 H2 → H2 D = some (.lst (as.filterMap F)) → Qd H2) :
    ∃ W : Nat → Nat → Hp → Prop, (∃ m, W 0 m (upd H1 D (.lst []))) ∧ ∀ i m H, W i m H →
      (J.stop i H ∧ Qd H) ∨ (J.go i H ∧ ∃ Nx : Hp → Prop, (∀ H', Nx H' → ∃ m', m' < m ∧ W (i + 1) m' H') ∧ ∀ x H', J.yld i H x H' → g x (wipe σ vs) H' fun σ2 H2 => wipe σ2 vs = wipe σ vs ∧ tt σ2 H2 fun b H3 =>
        if b = true then te σ2 H3 fun y H4 => ∃ acc, H4 D = some (.lst acc) ∧ acc.length < sizeLine ∧ Nx (upd H4 D (.lst (acc ++ [y]))) else Nx H3) := by
  refine lc_it w (fun i H => Same H1 H ∧ H D = some (.lst ((as.take i).filterMap F))) ⟨same_new hD, upd_same⟩ (fun i H _ p => hG H p.1) ?_
    (fun H p => hd H p.1 (by rw [p.2, ← hn, List.take_length]))
  intro i x H H' hi p y
  obtain ⟨s, hd'⟩ := p
  have hlt : i < as.length := by omega
  have ha : as[i]? = some as[i] := List.getElem?_eq_getElem hlt
  have et : (as.take (i + 1)).filterMap F = (as.take i).filterMap F ++ (F as[i]).toList := by
    rw [List.take_add_one, ha, List.filterMap_append]
    cases q : F as[i] with
    | none => simp [q]
    | some z => simp [q]
  refine hs i as[i] x H H' (fun o H4 => match o with
    | some y => ∃ acc, H4 D = some (.lst acc) ∧ acc.length < sizeLine ∧ (Same H1 (upd H4 D (.lst (acc ++ [y]))) ∧ upd H4 D (.lst (acc ++ [y])) D = some (.lst ((as.take (i + 1)).filterMap F)))
    | none => Same H1 H4 ∧ H4 D = some (.lst ((as.take (i + 1)).filterMap F))) ha s y ?_
  intro H2 s2
  cases q : F as[i] with
  | none =>
    refine ⟨s.trans s2, ?_⟩
    rw [et, q]
    simpa using s2 _ _ hd'
  | some z =>
    refine ⟨_, s2 _ _ hd', ?_, fun b o e => (upd_ne (ne_of_none e hD)).trans ((s.trans s2) b o e), ?_⟩
    · refine Nat.lt_of_le_of_lt (Nat.le_trans (List.length_filterMap_le _ _) ?_) (show 1000 < sizeLine by decide)
      rw [List.length_take]
      omega
    · rw [upd_same, et, q]
      rfl
theorem walk_zipTT {K : PySem.W.Frag} {a b : Addr} {xs ys : List V} {n : Nat} (hn : n = min xs.length ys.length) : Walk (RZ.ItzT K a b) n (fun H => SqT K H a xs ∧ SqT K H b ys) (YPair (fun i => xs[i]?) (fun i => ys[i]?)) := by
  subst hn
  refine ⟨fun i _ hi q => ?_, fun _ q => ⟨xs, ys, q.1, q.2, by omega⟩, fun i H v H' _ q y => ?_⟩
  · have h1 : i < xs.length := by omega
    have h2 : i < ys.length := by omega
    exact ⟨xs, ys, xs[i], ys[i], q.1, q.2, by simp [h1], by simp [h2]⟩
  · obtain ⟨T, x, z, h1, h2, h3, h4, h5⟩ := y
    exact ⟨T, x, z, h1, h2, h3, h4 xs q.1, h5 ys q.2⟩
theorem zip_get {α β : Type} {xs : List α} {ys : List β} {i : Nat} {q : α × β} (h : (xs.zip ys)[i]? = some q) : xs[i]? = some q.1 ∧ ys[i]? = some q.2 := by
  rw [List.getElem?_zip_eq_some] at h
  exact h
theorem filterMap_some {α : Type} (f : α → V) : ∀ as : List α, as.filterMap (fun a => some (f a)) = as.map f
  | [] => rfl
  | a :: r => by rw [List.filterMap_cons, List.map_cons, filterMap_some f r]
end My
set_option Elab.async false
set_option maxRecDepth 100000
set_option maxHeartbeats 4000000
set_option linter.unusedVariables false
namespace My
open PySem PySem.Spec PyProof.Rows L2

structure Cond where
  l : List Int
  r : List Int
  left : Bool
def partD (l : List Int) : PyData := .tuple (l.map PyData.int)
def sideS (b : Bool) : Str := if b = true then "left" else "right"
def condD (c : Cond) : PyData := .tuple [partD c.l, partD c.r, .str (sideS c.left)]
def pat3 (i : Int) : Bool := decide (1 ≤ i) && decide (i ≤ 3)
def ups : List Int → Bool
  | a :: b :: r => decide (a < b) && ups (b :: r)
  | _ => true
def okPart (l : List Int) : Bool := l.all pat3 && (ups l && decide (l.length ≤ 8))
def okCond (c : Cond) : Bool := okPart c.l && okPart c.r
def okConds (cs : List Cond) : Bool := cs.all okCond && decide (cs.length ≤ 8)
def okX (d : PyData) : Bool := d.canLay0 && decide (d.depth ≤ 60)
def toI : PyData → Int
  | .int i => i
  | _ => 0
def mNat : PyData → Bool
  | .int i => decide (0 ≤ i)
  | _ => false
def sumOf (l : List Int) (ns : List Int) : Int := (l.map fun i => ns.getD (i - 1).toNat 0).sum
def sat (ns : List Int) (c : Cond) : Bool := decide (sumOf c.l ns < sumOf c.r ns) == c.left
def mSol (cs : List Cond) (p : Int) : PyData → Bool
  | .tuple ds => decide (ds.length = 3) && (ds.all mNat && (!decide ((ds.map toI).getD (p - 1).toNat 0 = 0) && cs.all (sat (ds.map toI))))
  | _ => false
def fac (c : Cond) (i : Int) : Int := 
  let m := if c.left = true then c.r else c.l
  let l := if c.left = true then c.l else c.r
  (if decide (i ∈ m) = true then 1 else 0) - (if decide (i ∈ l) = true then 1 else 0)
def facs (c : Cond) : List Int := [fac c 1, fac c 2, fac c 3]
def addW (ws : List Int) (c : Cond) (m : Int) : List Int := List.zipWith (fun w f => w + m * f) ws (facs c)
def weights (cs : List Cond) (ms : List Int) : List Int := (cs.zip ms).foldl (fun ws q => addW ws q.1 q.2) [0, 0, 0]
def leftsOf (cs : List Cond) (ms : List Int) : List Int := (cs.zip ms).filterMap fun q => if q.1.left = true then some q.2 else none
def mRef (cs : List Cond) (p : Int) : PyData → Bool
  | .list ds => decide (ds.length = cs.length) && (ds.all mNat &&
      (!((weights cs (ds.map toI)).any fun w => decide (0 < w)) && (decide ((weights cs (ds.map toI)).getD (p - 1).toNat 0 < 0) || decide (0 < (leftsOf cs (ds.map toI)).sum))))
  | _ => false
def mWord (cs : List Cond) (p : Int) (t : PyData) : PyData → Bool
  | .str w => if w = "possible" then mSol cs p t else decide (w = "impossible") && mRef cs p t
  | _ => false
def mTwo (cs : List Cond) (p : Int) : List PyData → Bool
  | [w, t] => mWord cs p t w
  | _ => false
def mAns (cs : List Cond) (p : Int) : PyData → Bool
  | .tuple ds => mTwo cs p ds
  | _ => false
def ConL (K : PySem.W.Frag) (H : Hp) (a : Addr) (cs : List Cond) : Prop := ∃ vs, SqL K H a vs ∧ DpAll K H vs (cs.map condD)
theorem ConL.same {K : PySem.W.Frag} {H H' : Hp} {a : Addr} {cs : List Cond} (h : ConL K H a cs) (s : Same H H') : ConL K H' a cs := by
  obtain ⟨vs, h1, h2⟩ := h
  exact ⟨vs, s.seq h1, dpAll_same s _ _ h2⟩
def spPat : Sp := fun vs H Q _ => ∃ n i, vs = [.int n, .int i] ∧ ∀ H', Same H H' → Q (.bl (decide (1 ≤ i) && decide (i ≤ n))) H'
def spPart3 (K : PySem.W.Frag) : Sp := fun vs H Q _ => ∃ a ns, vs = [.int 3, .ref a] ∧ SqT K H a (ns.map V.int) ∧ okPart ns = true ∧ ∀ H', Same H H' → Q (.bl true) H'
def spCond (K : PySem.W.Frag) : Sp := fun vs H Q _ => ∃ v c, vs = [.int 3, v] ∧ Dp K H v (condD c) ∧ okCond c = true ∧ ∀ H', Same H H' → Q (.bl true) H'
def spQuest (K : PySem.W.Frag) : Sp := fun vs H Q _ => ∃ a cs p, vs = [.int 3, .ref a, .int p] ∧ ConL K H a cs ∧ okConds cs = true ∧ pat3 p = true ∧ ∀ H', Same H H' → Q (.bl true) H'
def spSumOf (K : PySem.W.Frag) : Sp := fun vs H Q _ => ∃ a b l ns, vs = [.ref a, .ref b] ∧ SqT K H a (l.map V.int) ∧ okPart l = true ∧ SqT K H b (ns.map V.int) ∧ ns.length = 3 ∧ ∀ H', Same H H' → Q (.int (sumOf l ns)) H'
def spSat (K : PySem.W.Frag) : Sp := fun vs H Q _ => ∃ v b c ns, vs = [v, .ref b] ∧ Dp K H v (condD c) ∧ okCond c = true ∧ SqT K H b (ns.map V.int) ∧ ns.length = 3 ∧ ∀ H', Same H H' → Q (.bl (sat ns c)) H'
def spFactors (K : PySem.W.Frag) : Sp := fun vs H Q _ => ∃ v c, vs = [.int 3, v] ∧ Dp K H v (condD c) ∧ okCond c = true ∧ ∀ a H', Same H H' → H a = none → H' a = some (.lst ((facs c).map V.int)) → Q (.ref a) H'
def spZeroOn (K : PySem.W.Frag) : Sp := fun vs H Q _ => ∃ a xs ds, vs = [.ref a] ∧ (SqL K H a xs ∨ SqT K H a xs) ∧ DpAll K H xs ds ∧ ds.length ≤ 1000 ∧ ∀ H', Same H H' → Q (.bl (ds.all mNat)) H'
def mCounts : PyData → Bool
  | .tuple ds => decide (ds.length = 3) && ds.all mNat
  | _ => false
def spCounts (K : PySem.W.Frag) : Sp := fun vs H Q _ => ∃ v d, vs = [.int 3, v] ∧ Dp K H v d ∧ ∀ H', Same H H' → Q (.bl (mCounts d)) H'
def spSol (K : PySem.W.Frag) : Sp := fun vs H Q _ => ∃ a cs p v d, vs = [.int 3, .ref a, .int p, v] ∧ ConL K H a cs ∧ okConds cs = true ∧ pat3 p = true ∧ Dp K H v d ∧ okX d = true ∧ ∀ H', Same H H' → Q (.bl (mSol cs p d)) H'
def spRef (K : PySem.W.Frag) : Sp := fun vs H Q _ => ∃ a cs p v d, vs = [.int 3, .ref a, .int p, v] ∧ ConL K H a cs ∧ okConds cs = true ∧ pat3 p = true ∧ Dp K H v d ∧ okX d = true ∧ ∀ H', Same H H' → Q (.bl (mRef cs p d)) H'
def spAns (K : PySem.W.Frag) : Sp := fun vs H Q _ => ∃ a cs p v d, vs = [.int 3, .ref a, .int p, v] ∧ ConL K H a cs ∧ okConds cs = true ∧ pat3 p = true ∧ Dp K H v d ∧ okX d = true ∧ ∀ H', Same H H' → Q (.bl (mAns cs p d)) H'
def Bag2 (H : Hp) (a : Addr) : Prop := ∃ x y : Int, H a = some (.lst [.int x, .int y])
def spBag2 (K : PySem.W.Frag) : Sp := fun vs H Q _ => ∃ (p : Addr) (ns : List Int) (i : Nat), vs = [.ref p, .int (i : Int)] ∧ SqL K H p (ns.map V.int) ∧ i < 64 ∧
  ∀ (a : Addr) (o : HO), H a = none → Bag2 (upd H a o) a → Q (.ref a) (upd H a o)
def spTake2 : Sp := fun vs H Q _ => ∃ (a : Addr) (m : Int), vs = [.ref a, .int m] ∧ Bag2 H a ∧ 0 < m ∧ m.natAbs.log2 < 9000 ∧
  ∀ (i : Int) (H' : Hp), 0 ≤ i → i < m → But a H H' → Bag2 H' a → Q (.int i) H'
theorem eqv_int (a b : Int) : PyData.eqv (.int a) (.int b) = decide (a = b) := Bool.eq_iff_iff.mpr (by simp [PyData.eqv])
theorem eqv_str (a b : Str) : PyData.eqv (.str a) (.str b) = decide (a = b) := Bool.eq_iff_iff.mpr (by simp [PyData.eqv])
theorem mSol_no {cs : List Cond} {p : Int} {d : PyData} (h : mCounts d = false) : mSol cs p d = false := by
  cases d with
  | tuple ds =>
    have h2 : (decide (ds.length = 3) && ds.all mNat) = false := h
    show (decide (ds.length = 3) && (ds.all mNat && _)) = false
    rw [← Bool.and_assoc, h2]
    rfl
  | _ => rfl
theorem mCounts_yes {d : PyData} (h : mCounts d = true) : ∃ ds, d = .tuple ds ∧ ds.length = 3 ∧ ds.all mNat = true := by
  cases d with
  | tuple ds =>
    have h2 : (decide (ds.length = 3) && ds.all mNat) = true := h
    rw [Bool.and_eq_true, decide_eq_true_eq] at h2
    exact ⟨ds, rfl, h2⟩
  | _ => cases h
theorem nats_ints : ∀ {ds : List PyData}, ds.all mNat = true → ds = (ds.map toI).map PyData.int
  | [], _ => rfl
  | d :: r, h => by
    rw [List.all_cons, Bool.and_eq_true] at h
    have ih := nats_ints h.2
    cases d with
    | int i => rw [List.map_cons, List.map_cons, ← ih]; rfl
    | _ => cases h.1
theorem fac_small (c : Cond) (i : Int) : -1 ≤ fac c i ∧ fac c i ≤ 1 := by
  have h : ∀ a b : Bool, -1 ≤ ((if a = true then 1 else 0) - (if b = true then 1 else 0) : Int) ∧ ((if a = true then 1 else 0) - (if b = true then 1 else 0) : Int) ≤ 1 := by decide
  exact h _ _
theorem facs_small {c : Cond} {f : Int} (h : f ∈ facs c) : -1 ≤ f ∧ f ≤ 1 := by
  unfold facs at h
  simp only [List.mem_cons, List.not_mem_nil, or_false] at h
  rcases h with rfl | rfl | rfl <;> exact fac_small c _
theorem lefts_map : ∀ l : List (Cond × Int), l.filterMap (fun q => if q.1.left = true then some (V.int q.2) else none) = (l.filterMap fun q => if q.1.left = true then some q.2 else none).map V.int
  | [] => rfl
  | q :: r => by
    rw [List.filterMap_cons, List.filterMap_cons, lefts_map r]
    cases q.1.left <;> rfl
theorem zipW (m : Int) : ∀ ws fs : List Int, ((ws.zip fs).map fun q => q.1 + m * q.2) = List.zipWith (fun w f => w + m * f) ws fs
  | [], _ => rfl
  | _ :: _, [] => rfl
  | w :: ws, f :: fs => by rw [List.zip_cons_cons, List.map_cons, zipW m ws fs]; rfl
theorem addW_len {ws : List Int} {c : Cond} {m : Int} (h : ws.length = 3) : (addW ws c m).length = 3 := by
  unfold addW facs
  rw [List.length_zipWith, h]
  rfl
theorem foldW_len : ∀ (l : List (Cond × Int)) (ws : List Int), ws.length = 3 → (l.foldl (fun ws q => addW ws q.1 q.2) ws).length = 3
  | [], ws, h => h
  | q :: r, ws, h => foldW_len r _ (addW_len h)
theorem weights_len (cs : List Cond) (ms : List Int) : (weights cs ms).length = 3 := foldW_len _ _ rfl
theorem zip_take {α β : Type} (xs : List α) (ys : List β) (i : Nat) : (xs.take i).zip (ys.take i) = (xs.zip ys).take i := by
  rw [List.zip_eq_zipWith, List.zip_eq_zipWith, List.take_zipWith]
theorem weights_step {cs : List Cond} {ms : List Int} {i : Nat} {c : Cond} {m : Int} (h1 : cs[i]? = some c) (h2 : ms[i]? = some m) :
    weights (cs.take (i + 1)) (ms.take (i + 1)) = addW (weights (cs.take i) (ms.take i)) c m := by
  unfold weights
  rw [zip_take, zip_take]
  have : (cs.zip ms)[i]? = some (c, m) := by rw [List.getElem?_zip_eq_some]; exact ⟨h1, h2⟩
  rw [List.take_add_one, this, List.foldl_append]
  rfl
theorem eqv_side (b : Bool) : PyData.eqv (.str (sideS b)) (.str "left") = b := by cases b <;> decide +kernel
theorem shaped_side (b : Bool) : SeqAt.shaped (.str (sideS b)) = true := by cases b <;> decide +kernel
theorem any_max {ns : List Int} {M : Int} (h1 : M ∈ ns) (h2 : ∀ y, y ∈ ns → y ≤ M) : (ns.any fun w => decide (0 < w)) = decide (0 < M) := by
  by_cases h : 0 < M
  · rw [decide_eq_true h, List.any_eq_true]
    exact ⟨M, h1, decide_eq_true h⟩
  · rw [decide_eq_false h, List.any_eq_false]
    intro y hy
    have := h2 y hy
    simp
    omega
def spOf (K : PySem.W.Frag) : Sp := fun vs H Q _ => ∃ a cs p w b ds, vs = [.ref a, .int p, .str w, .ref b] ∧ ConL K H a cs ∧ okConds cs = true ∧ pat3 p = true ∧ LsD K H b ds ∧ ds.length ≤ 100 ∧ (ds.all fun d => okX (.tuple [.str w, d])) = true ∧
  ∀ r H', Same H H' → H' r = some (.lst ((ds.map fun d => mAns cs p (.tuple [.str w, d])).map V.bl)) → Q (.ref r) H'
def spTrue0 : Sp := fun vs H Q _ => vs = [] ∧ ∀ H', Same H H' → Q (.bl true) H'
def spTrue1 : Sp := fun vs H Q _ => ∃ m : Int, vs = [.int m] ∧ 1 ≤ m ∧ ∀ H', Same H H' → Q (.bl true) H'
def spWh (K : PySem.W.Frag) : Sp := fun vs H Q _ => ∃ v d, vs = [v] ∧ Dp K H v d ∧ ∀ H', Same H H' → Q (.bl (mWhole d)) H'
theorem lsd_con {K : PySem.W.Frag} {H : Hp} {a : Addr} {cs : List Cond} (h : LsD K H a (cs.map condD)) : ConL K H a cs := by
  obtain ⟨vs, h1, h2⟩ := h
  exact ⟨vs, SqL.of h1, h2⟩
theorem okX_all : ∀ {ds : List PyData}, PyData.canLayAll0 ds = true → PyData.depthAll ds ≤ 60 → ∀ d ∈ ds, okX d = true
  | d :: r, h, h2, e, he => by
    rw [PyData.canLayAll0, Bool.and_eq_true] at h
    have h2' : max d.depth (PyData.depthAll r) ≤ 60 := h2
    rcases List.mem_cons.mp he with rfl | he
    · unfold okX
      rw [h.1, decide_eq_true (show e.depth ≤ 60 by omega)]
      rfl
    · exact okX_all h.2 (by omega) e he
theorem okX_tup {ds : List PyData} (h : okX (.tuple ds) = true) : ∀ d ∈ ds, okX d = true := by
  unfold okX at h
  rw [Bool.and_eq_true] at h
  have h2 : PyData.depthAll ds + 1 ≤ 60 := of_decide_eq_true h.2
  exact okX_all h.1 (by omega)
theorem okX_lst {ds : List PyData} (h : okX (.list ds) = true) : ∀ d ∈ ds, okX d = true := by
  unfold okX at h
  rw [Bool.and_eq_true] at h
  have h2 : PyData.depthAll ds + 1 ≤ 60 := of_decide_eq_true h.2
  exact okX_all h.1 (by omega)
theorem okX_shaped {d : PyData} (h : okX d = true) : SeqAt.shaped d = true := by
  unfold okX at h
  rw [Bool.and_eq_true] at h
  unfold SeqAt.shaped
  have h2 : d.depth ≤ 60 := of_decide_eq_true h.2
  rw [h.1, decide_eq_true (show d.depth ≤ 64 by omega)]
  rfl
theorem dp_int {K : PySem.W.Frag} {H : Hp} {v : V} {i : Int} (h : Dp K H v (.int i)) : v = .int i := by cases h; rfl
theorem dp_str {K : PySem.W.Frag} {H : Hp} {v : V} {x : Str} (h : Dp K H v (.str x)) : v = .str x := by cases h; rfl
theorem dp_tup {K : PySem.W.Frag} {H : Hp} {v : V} {ds : List PyData} (h : Dp K H v (.tuple ds)) : ∃ a xs, v = .ref a ∧ SqT K H a xs ∧ DpAll K H xs ds := by
  cases h with | tup h1 h2 => exact ⟨_, _, rfl, h1, h2⟩
theorem dp_lst {K : PySem.W.Frag} {H : Hp} {v : V} {ds : List PyData} (h : Dp K H v (.list ds)) : ∃ a xs, v = .ref a ∧ SqL K H a xs ∧ DpAll K H xs ds := by
  cases h with | lst h1 h2 => exact ⟨_, _, rfl, h1, h2⟩
theorem dp_part {K : PySem.W.Frag} {H : Hp} {v : V} {l : List Int} (h : Dp K H v (partD l)) : ∃ a, v = .ref a ∧ SqT K H a (l.map V.int) := by
  obtain ⟨a, xs, rfl, h1, h2⟩ := dp_tup h
  rw [dpAll_ints h2] at h1
  exact ⟨a, rfl, h1⟩
theorem dp_cond {K : PySem.W.Frag} {H : Hp} {v : V} {c : Cond} (h : Dp K H v (condD c)) : ∃ a x y, v = .ref a ∧ SqT K H a [.ref x, .ref y, .str (sideS c.left)] ∧ SqT K H x (c.l.map V.int) ∧ SqT K H y (c.r.map V.int) := by
  obtain ⟨a, xs, rfl, h1, h2⟩ := dp_tup h
  cases h2 with
  | cons p1 h2 => cases h2 with
    | cons p2 h2 => cases h2 with
      | cons p3 h2 =>
        cases h2
        cases p3
        obtain ⟨x, rfl, hx⟩ := dp_part p1
        obtain ⟨y, rfl, hy⟩ := dp_part p2
        exact ⟨a, x, y, rfl, h1, hx, hy⟩
theorem dx_cond {K : PySem.W.Frag} {H : Hp} {v : V} {c : Cond} (h : Dp K H v (condD c)) : isD "tuple" (condD c) = true := isD_tuple _
theorem all_ids2 (l : List Bool) : l.all id = l.all fun b => b := rfl
theorem sum_ok {n : Nat} (h : n ≤ 1000) : n < sizeLine := Nat.lt_of_le_of_lt h (by decide)
theorem okPart_len {l : List Int} (h : okPart l = true) : l.length ≤ 8 := by
  unfold okPart at h
  rw [Bool.and_eq_true, Bool.and_eq_true] at h
  exact of_decide_eq_true h.2.2
theorem okPart_pat {l : List Int} (h : okPart l = true) : ∀ i ∈ l, pat3 i = true := by
  unfold okPart at h
  rw [Bool.and_eq_true] at h
  exact List.all_eq_true.mp h.1
theorem okPart_ups {l : List Int} (h : okPart l = true) : ups l = true := by
  unfold okPart at h
  rw [Bool.and_eq_true, Bool.and_eq_true] at h
  exact h.2.1
theorem okConds_len {cs : List Cond} (h : okConds cs = true) : cs.length ≤ 8 := by
  unfold okConds at h
  rw [Bool.and_eq_true] at h
  exact of_decide_eq_true h.2
theorem okConds_at {cs : List Cond} (h : okConds cs = true) : ∀ c ∈ cs, okCond c = true := by
  unfold okConds at h
  rw [Bool.and_eq_true] at h
  exact List.all_eq_true.mp h.1
theorem okCond_l {c : Cond} (h : okCond c = true) : okPart c.l = true := by
  unfold okCond at h
  rw [Bool.and_eq_true] at h
  exact h.1
theorem okCond_r {c : Cond} (h : okCond c = true) : okPart c.r = true := by
  unfold okCond at h
  rw [Bool.and_eq_true] at h
  exact h.2
theorem ups_all : ∀ {l : List Int}, ups l = true → (l.zip (l.drop 1)).all (fun q => decide (q.1 < q.2)) = true
  | [], _ => rfl
  | [_], _ => rfl
  | a :: b :: r, h => by
    rw [ups, Bool.and_eq_true] at h
    show (decide (a < b) && _) = true
    rw [h.1]
    exact ups_all h.2
theorem dpAll_of_ints {K : PySem.W.Frag} {H : Hp} : ∀ ns : List Int, DpAll K H (ns.map V.int) (ns.map PyData.int)
  | [] => .nil
  | n :: r => .cons (.int n) (dpAll_of_ints r)
theorem all_true {α : Type} : ∀ l : List α, (l.map fun _ => true).all id = true
  | [] => rfl
  | a :: r => all_true r
theorem at_ns {ns : List Int} {i : Int} (hn : ns.length = 3) (h : pat3 i = true) : atI (ns.map V.int) (i - 1) = some (.int (ns.getD (i - 1).toNat 0)) := by
  unfold pat3 at h
  rw [Bool.and_eq_true, decide_eq_true_eq, decide_eq_true_eq] at h
  unfold atI ixN
  rw [if_pos (by omega), if_pos (by rw [List.length_map]; omega)]
  have hlt : (i - 1).toNat < ns.length := by omega
  have e : ns[(i - 1).toNat]? = some ns[(i - 1).toNat] := List.getElem?_eq_getElem hlt
  show (ns.map V.int)[(i - 1).toNat]? = _
  rw [List.getElem?_map, List.getD_eq_getElem?_getD, e]
  rfl
theorem inV_ints (i : Int) : ∀ l : List Int, inV (.int i) (l.map V.int) = decide (i ∈ l)
  | [] => by simp [inV]
  | j :: r => by
    have ih := inV_ints i r
    unfold inV at ih ⊢
    rw [List.map_cons, List.any_cons, ih]
    show ((j == i) || _) = _
    by_cases e : j = i
    · subst e; simp
    · have e2 : ¬ i = j := fun z => e z.symm
      rw [show (j == i) = false from by simpa using e]
      simp [e2]
theorem dec_bl (a b : Bool) : decide (V.bl a = V.bl b) = (a == b) := by cases a <;> cases b <;> rfl
theorem dec_side (b : Bool) : decide (V.str (sideS b) = V.str "left") = b := by cases b <;> decide +kernel
theorem dec_side2 (b : Bool) : decide (V.str (sideS b) = V.str "right") = !b := by cases b <;> decide +kernel
theorem in_side (b : Bool) : inV (.str (sideS b)) [.str "left", .str "right"] = true := by cases b <;> decide +kernel
end My
set_option Elab.async false
set_option maxRecDepth 100000
set_option maxHeartbeats 4000000
set_option linter.unusedVariables false
namespace My
open PySem PySem.Spec PyProof.Rows L2
def cP : List Cond := [⟨[1], [2], true⟩, ⟨[2], [3], false⟩]
def cS : List Cond := [⟨[1], [2], true⟩, ⟨[2], [1, 3], true⟩, ⟨[], [3], false⟩]
def cW : List Cond := [⟨[1], [1, 2], false⟩, ⟨[3], [1, 3], false⟩]
def cE : List Cond := [⟨[2], [2], true⟩]
def cN : List Cond := [⟨[], [], true⟩]
theorem ans_imp (cs : List Cond) (p : Int) (d : PyData) : mAns cs p (.tuple [.str "impossible", d]) = mRef cs p d := by
  show (if ("impossible" : Str) = "possible" then mSol cs p d else decide (("impossible" : Str) = "impossible") && mRef cs p d) = _
  rw [if_neg (by decide +kernel), decide_eq_true rfl]
  rfl
theorem strict_m {m : Int} (h : 1 ≤ m) : mRef cS 1 (.list [.int m, .int m, .int m]) = true := by
  simp [mRef, mNat, toI, weights, addW, facs, fac, leftsOf, cS]
  omega
theorem weak_m2 {m : Int} (h : 1 ≤ m) : mRef cW 2 (.list [.int m, .int 0]) = true := by
  simp [mRef, mNat, toI, weights, addW, facs, fac, leftsOf, cW]
  omega
theorem weak_m1 {m : Int} (h : 1 ≤ m) : mRef cW 1 (.list [.int m, .int 0]) = false := by
  simp [mRef, mNat, toI, weights, addW, facs, fac, leftsOf, cW]
theorem even_m {m : Int} (h : 1 ≤ m) : mRef cE 2 (.list [.int m]) = true := by
  simp [mRef, mNat, toI, weights, addW, facs, fac, leftsOf, cE]
  omega
theorem depth_ints : ∀ ns : List Int, PyData.depthAll (ns.map PyData.int) = 0
  | [] => rfl
  | n :: r => by
    show max (PyData.depth (.int n)) (PyData.depthAll (r.map PyData.int)) = 0
    rw [depth_ints r]
    rfl
theorem lay_ints : ∀ ns : List Int, PyData.canLayAll0 (ns.map PyData.int) = true
  | [] => rfl
  | n :: r => by
    show (true && PyData.canLayAll0 (r.map PyData.int)) = true
    rw [lay_ints r]
    rfl
theorem okX_ints (ns : List Int) : okX (.tuple [.str "impossible", .list (ns.map PyData.int)]) = true := by
  have h1 : PyData.canLay0 (.str "impossible") = true := by decide +kernel
  have h2 : PyData.canLay0 (.tuple [.str "impossible", .list (ns.map PyData.int)]) = true := by
    show (PyData.canLay0 (.str "impossible") && (PyData.canLayAll0 (ns.map PyData.int) && true)) = true
    rw [h1, lay_ints]
    rfl
  have h3 : PyData.depth (.tuple [.str "impossible", .list (ns.map PyData.int)]) ≤ 60 := by
    show max (PyData.depth (.str "impossible")) (max (PyData.depthAll (ns.map PyData.int) + 1) 0) + 1 ≤ 60
    rw [depth_ints]
    decide
  unfold okX
  rw [h2, decide_eq_true h3]
  rfl
theorem ok_all (l : List (List Int)) : ((l.map fun ns => PyData.list (ns.map PyData.int)).all fun d => okX (.tuple [.str "impossible", d])) = true := by
  rw [List.all_map, List.all_eq_true]
  intro ns _
  exact okX_ints ns
theorem ans_one {K : PySem.W.Frag} {σ : L2.St} {t1 : TE} {d1 : PyData} {i : Nat} {a : Addr} {cs : List Cond} {p : Int} {H : Hp} {Q : VK} (e : σ[i]? = some (some (.ref a))) (hC : ConL K H a cs) (h1 : okConds cs = true) (h2 : pat3 p = true)
    (r1 : LitE K σ t1 d1) (o1 : okX d1 = true) (k : ∀ H', Same H H' → Q (.bl (mAns cs p d1)) H') :
    tCall (spAns K) [] E0 (tCons (tC (.int 3)) (tCons (tVar i) (tCons (tC (.int p)) (tCons t1 tNil)))) σ H Q := by
  show tCons (tC (.int 3)) (tCons (tVar i) (tCons (tC (.int p)) (tCons t1 tNil))) σ H fun vs H1 => spAns K (vs ++ []) H1 Q E0
  refine args_ans e r1 fun v3 H3 s3 d3 => ?_
  exact ⟨a, cs, p, v3, d1, rfl, hC.same s3, h1, h2, d3, o1, fun H4 s4 => k H4 (s3.trans s4)⟩
theorem ans_two {K : PySem.W.Frag} {σ : L2.St} {t1 t2 : TE} {d1 d2 : PyData} {i : Nat} {a : Addr} {cs : List Cond} {p : Int} {H : Hp} {Q : VK} (e : σ[i]? = some (some (.ref a))) (hC : ConL K H a cs) (h1 : okConds cs = true) (h2 : pat3 p = true)
    (r1 : LitE K σ t1 d1) (r2 : LitE K σ t2 d2) (o1 : okX d1 = true) (o2 : okX d2 = true) (k : ∀ q H', Same H H' → H' q = some (.lst [.bl (mAns cs p d1), .bl (mAns cs p d2)]) → Q (.ref q) H') :
    tLst (tCons (tCall (spAns K) [] E0 (tCons (tC (.int 3)) (tCons (tVar i) (tCons (tC (.int p)) (tCons t1 tNil))))) (tCons (tCall (spAns K) [] E0 (tCons (tC (.int 3)) (tCons (tVar i) (tCons (tC (.int p)) (tCons t2 tNil))))) tNil)) σ H Q := by
  show tCall (spAns K) [] E0 (tCons (tC (.int 3)) (tCons (tVar i) (tCons (tC (.int p)) (tCons t1 tNil)))) σ H fun x H1 => tCall (spAns K) [] E0 (tCons (tC (.int 3)) (tCons (tVar i) (tCons (tC (.int p)) (tCons t2 tNil)))) σ H1 fun y H2 =>
    ([x, y] : List V).length ≤ sizeLine ∧ ∀ p, H2 p = none → Q (.ref p) (upd H2 p (.lst [x, y]))
  refine ans_one e hC h1 h2 r1 o1 fun H3 s3 => ans_one e (hC.same s3) h1 h2 r2 o2 fun H4 s4 => ⟨lit_len (by simp), fun q hq => ?_⟩
  exact k q _ (s3.trans (s4.trans (same_new hq))) upd_same
theorem good_s {m : Int} (h : 1 ≤ m) : ([.list [.int m, .int m, .int m], .list [.int 1, .int 1, .int 1], .list [.int 2, .int 2, .int 2], .list [.int 1, .int 1, .int 2]] : List PyData).map (fun d => mAns cS 1 (.tuple [.str "impossible", d])) = [true, true, true, true] := by
  have e : mAns cS 1 (.tuple [.str "impossible", .list [.int m, .int m, .int m]]) = true := (ans_imp _ _ _).trans (strict_m h)
  rw [List.map_cons, e]
  decide +kernel
theorem weak_2 {m : Int} (h : 1 ≤ m) : ([.list [.int m, .int 0], .list [.int 1, .int 1], .list [.int 0, .int 1], .list [.int 0, .int 0]] : List PyData).map (fun d => mAns cW 2 (.tuple [.str "impossible", d])) = [true, true, false, false] := by
  have e : mAns cW 2 (.tuple [.str "impossible", .list [.int m, .int 0]]) = true := (ans_imp _ _ _).trans (weak_m2 h)
  rw [List.map_cons, e]
  decide +kernel
theorem weak_1 {m : Int} (h : 1 ≤ m) : ([.list [.int m, .int 0], .list [.int 1, .int 1], .list [.int 0, .int 1], .list [.int 0, .int 0]] : List PyData).map (fun d => mAns cW 1 (.tuple [.str "impossible", d])) = [false, true, true, false] := by
  have e : mAns cW 1 (.tuple [.str "impossible", .list [.int m, .int 0]]) = false := (ans_imp _ _ _).trans (weak_m1 h)
  rw [List.map_cons, e]
  decide +kernel
theorem even_1 {m : Int} (h : 1 ≤ m) : ([.list [.int m]] : List PyData).map (fun d => mAns cE 2 (.tuple [.str "impossible", d])) = [true] := by
  have e : mAns cE 2 (.tuple [.str "impossible", .list [.int m]]) = true := (ans_imp _ _ _).trans (even_m h)
  rw [List.map_cons, e]
  rfl
end My
set_option Elab.async false
set_option linter.all false
set_option maxRecDepth 100000
set_option maxHeartbeats 4000000
namespace My
open PySem PySem.Spec PyProof.Rows L2
def top (i : Nat) : Stmt := PySem.Challenge.pw_equalunlike_k36_answers_by_hand.main.body.getD i (.Pass ⟨0, 0, 0, 0⟩)
abbrev s_is_whole : Stmt := top 1
abbrev s_is_pattern : Stmt := top 4
abbrev s_p_is_part : Stmt := top 9
abbrev s_p_is_condition : Stmt := top 8
abbrev s_is_question : Stmt := top 5
abbrev s_p_sum_of : Stmt := top 10
abbrev s_is_satisfied : Stmt := top 6
abbrev s_factors_of : Stmt := top 7
abbrev s_p_are_from_zero_on : Stmt := top 17
abbrev s_p_are_any_counts : Stmt := top 16
abbrev s_p_is_solution : Stmt := top 15
abbrev s_p_is_refuted : Stmt := top 18
abbrev s_is_answer : Stmt := top 14
abbrev s_l_bag : Stmt := top 20
abbrev s_l_take : Stmt := top 21
abbrev s_l_of : Stmt := top 22
abbrev s_l_possible_right : Stmt := top 23
abbrev s_l_strict_right : Stmt := top 24
abbrev s_l_weak_right : Stmt := top 25
abbrev s_law : Stmt := top 26
structure Txt (K : PySem.W.Frag) (mg : Str → Option Value) : Prop where
  n_abs : mg "abs" = none
  n_all : mg "all" = none
  n_bool : mg "bool" = none
  n_int : mg "int" = none
  n_isinstance : mg "isinstance" = none
  n_len : mg "len" = none
  n_list : mg "list" = none
  n_max : mg "max" = none
  n_min : mg "min" = none
  n_range : mg "range" = none
  n_sum : mg "sum" = none
  n_tuple : mg "tuple" = none
  n_zip : mg "zip" = none
  g_MOST_CONDITIONS : ∃ t, mg "MOST_CONDITIONS" = some (.int 8 t)

section
variable {P : Program} {w : World} {K : PySem.W.Frag} {mg : Str → Option Value} {base : Heap}
theorem sc_is_whole : FnScope ["thing"] ["thing"] (defScope s_is_whole) := ⟨rfl, rfl, rfl, by decide +kernel, rfl, by decide +kernel, by decide +kernel⟩
theorem ok_is_whole {f : Addr} {fd : FuncData} (F : Fun K "is_whole" "is_whole" s_is_whole f fd) (T : Txt K mg)
    : FnOk P w K mg base CX0 1 f fd ["thing"] (spWh K) := by
  refine F.ok sc_is_whole (fun vs H Q E h => ?_) (fun cdv A outer s H vs Q E hr h => ?_)
  · obtain ⟨v, d, rfl, _⟩ := h; rfl
  · obtain ⟨v, d, rfl, hx, k⟩ := h
    have hu := hu_of hr
    have hu64 := hr.units
    refine ⟨_, (pss_one (ps_ret (pe_and (pe_callB call_isi (by rfl) T.n_isinstance (by decide +kernel) (pa_cons (pv 0) (pa_cons (pe_bltn (v := .ty "int") (u := .type "int") (by rfl) T.n_int (by decide +kernel) rfl) pa_nil))) (pe_one (pe_not (pe_callB call_isi (by rfl) T.n_isinstance (by decide +kernel) (pa_cons (pv 0) (pa_cons (pe_bltn (v := .ty "bool") (u := .type "bool") (by rfl) T.n_bool (by decide +kernel) rfl) pa_nil)))))))), ?_⟩
    refine rd_isi rfl (Dx.of hx) (by simp) ⟨_, rfl, ?_⟩
    rw [isD_int]
    have k := k H (Same.refl H)
    cases d with
    | int i => refine iteT (rd_isi rfl (Dx.of hx) (by simp) ⟨_, rfl, ?_⟩); rw [isD_bool]; exact k
    | bool b => refine iteT (rd_isi rfl (Dx.of hx) (by simp) ⟨_, rfl, ?_⟩); rw [isD_bool]; exact k
    | none => exact iteF k
    | str x => exact iteF k
    | list xs => exact iteF k
    | tuple xs => exact iteF k
    | dict kvs => exact iteF k
theorem sc_is_pattern : FnScope ["patterns", "thing"] ["patterns", "thing"] (defScope s_is_pattern) := ⟨rfl, rfl, rfl, by decide +kernel, rfl, by decide +kernel, by decide +kernel⟩
theorem ok_is_pattern {f : Addr} {fd : FuncData} (F : Fun K "is_pattern" "is_pattern" s_is_pattern f fd) (T : Txt K mg)
    (D_is_whole : Fn P w K mg base 1 "is_whole" ["thing"] (spWh K))
    : FnOk P w K mg base CX0 2 f fd ["patterns", "thing"] spPat := by
  refine F.ok sc_is_pattern (fun vs H Q E h => ?_) (fun cdv A outer s H vs Q E hr h => ?_)
  · obtain ⟨n, i, rfl, _⟩ := h; rfl
  · obtain ⟨n, i, rfl, k⟩ := h
    have hu := hu_of hr
    have hu64 := hr.units
    refine ⟨_, (pss_one (ps_ret (pe_and (pe_fn D_is_whole (hr.mono (by decide)) rfl (pa_cons (pv 1) pa_nil)) (pe_one (pe_chain op_le op_le pe_int (pv 1) (pv 0)))))), ?_⟩
    refine ⟨_, rfl, .int i, .int i, rfl, .int i, fun H1 s1 => ⟨_, rfl, ?_⟩⟩
    have k := k H1 s1
    refine iteT ⟨_, rfl, _, _, rfl, rfl, _, rfl, ?_⟩
    by_cases h1 : (1 : Int) ≤ i
    · rw [decide_eq_true h1] at k ⊢
      exact iteT ⟨_, rfl, _, _, rfl, rfl, k⟩
    · rw [decide_eq_false h1] at k ⊢
      exact iteF k
theorem sc_p_is_part : FnScope ["patterns", "thing", "item", "low", "high"] ["patterns", "thing"] (defScope s_p_is_part) := ⟨rfl, rfl, rfl, by decide +kernel, rfl, by decide +kernel, by decide +kernel⟩
theorem ok_p_is_part {f : Addr} {fd : FuncData} (F : Fun K "_is_part" "_is_part" s_p_is_part f fd) (T : Txt K mg)
    (D_is_pattern : Fn P w K mg base 2 "is_pattern" ["patterns", "thing"] spPat)
    : FnOk P w K mg base CX0 3 f fd ["patterns", "thing"] (spPart3 K) := by
  refine F.ok sc_p_is_part (fun vs H Q E h => ?_) (fun cdv A outer s H vs Q E hr h => ?_)
  · obtain ⟨a, ns, rfl, _⟩ := h; rfl
  · obtain ⟨a, ns, rfl, ha, hok, k⟩ := h
    have hu := hu_of hr
    have hu64 := hr.units
    refine ⟨_, (pss_cons (ps_if (PW.pt (pw_or (pt_not (pt_val (pe_callB call_isi (by rfl) T.n_isinstance (by decide +kernel) (pa_cons (pv 1) (pa_cons (pe_bltn (v := .ty "tuple") (u := .type "tuple") (by rfl) T.n_tuple (by decide +kernel) rfl) pa_nil))))) (pw_or1 (pt_not (pt_val (pe_callB (cr_all rfl) (by rfl) T.n_all (by decide +kernel) (pa_cons (pe_lc (own := [("item", 2)]) (g := gName 2) (tt := tYes) rfl sc_p_is_part.nd (pi_tup (pv 1)) (blkOk_by (own := [("item", 2)]) (N := ["patterns", "thing", "item", "low", "high"]) (sc := defScope s_p_is_part) (by decide +kernel)) (fun _ _ _ _ _ => (pg_name (i := 2) sc_p_is_part.nd rfl (Or.inl rfl))) (fun _ _ _ _ _ => pts_nil) (fun _ _ _ _ _ => (pe_fn D_is_pattern (hr.mono (by decide)) rfl (pa_cons (pv 0) (pa_cons (pv 2) pa_nil))))) pa_nil)))))))
    (pss_one (ps_ret pe_bl))
    pss_nil)
  (pss_one (ps_ret (pe_callB (cr_all rfl) (by rfl) T.n_all (by decide +kernel) (pa_cons (pe_lc (own := [("low", 3), ("high", 4)]) (g := gTup K 2 (gCons (gName 3) (gCons (gName 4) gNil))) (tt := tYes) rfl sc_p_is_part.nd (RZ.pi_zipA (by rfl) T.n_zip (pa_cons (pv 1) (pa_cons (pe_slice sl_tupA (pv 1) (po_some pe_int) po_none) pa_nil))) (blkOk_by (own := [("low", 3), ("high", 4)]) (N := ["patterns", "thing", "item", "low", "high"]) (sc := defScope s_p_is_part) (by decide +kernel)) (fun _ _ _ _ _ => (pg_tup rfl (pgs_cons (pg_name (i := 3) sc_p_is_part.nd rfl (Or.inl rfl)) (pgs_cons (pg_name (i := 4) sc_p_is_part.nd rfl (Or.inl rfl)) pgs_nil)))) (fun _ _ _ _ _ => pts_nil) (fun _ _ _ _ _ => (pe_cmpR op_lt (pv 3) (pv 4) (nomark _)))) pa_nil))))), ?_⟩
    have hdx : Dp K H (.ref a) (.tuple (ns.map PyData.int)) := .tup ha (dpAll_of_ints ns)
    refine rd_isi rfl (.of hdx) (by simp) ⟨_, rfl, ?_⟩
    rw [isD_tuple]
    refine iteF ⟨_, rfl, a, rfl, ⟨_, ha⟩, fun D hD => ?_⟩
    have hl := okPart_len hok
    refine lc_w (walk_tup (xs := ns.map V.int)) ns (fun _ => some (.bl true)) (by rw [List.length_map]) (by rw [List.length_map]; omega) hD (fun H2 s2 => same_seqT s2 ha) ?_ ?_
    · rintro i n x H1 H' R hn s1 ⟨rfl, hx⟩ hR
      rw [List.getElem?_map, hn] at hx
      cases hx
      refine ⟨rfl, _, rfl, _, rfl, 3, n, rfl, fun H2 s2 => ?_⟩
      have hp := okPart_pat hok n (List.mem_of_getElem? hn)
      unfold pat3 at hp
      rw [hp]
      exact hR H2 s2
    · intro H2 s2 hd
      rw [filterMap_some] at hd
      refine ⟨D, ns.map fun _ => true, rfl, SqL.of (by rw [List.map_map]; exact hd), ?_⟩
      rw [all_true]
      refine ⟨_, rfl, iteF ?_⟩
      clear hd
      have key : ∀ (b : Addr) (H3 : Hp), Same H2 H3 → SqT K H3 b ((ns.drop 1).map V.int) →
          tCB (rAll K) (tCons (tLc (RZ.iZipA K (tCons (tC (.ref a)) (tCons (tC (.ref b)) tNil))) (gTup K 2 (gCons (gName 3) (gCons (gName 4) gNil))) tYes (tOp (rI0 fun i j => .bl (decide (i < j))) (tVar 3) (tVar 4)) [3, 4]) tNil) [some (.int 3), some (.ref a), none, none, none] H3 Q := by
        intro b H3 s3 hb
        have ha3 := same_seqT (s2.trans s3) ha
        refine ⟨a, b, _, _, rfl, .inr ⟨ha3, hb, fun D hD => ?_⟩⟩
        refine lc_w (walk_zipTT (xs := ns.map V.int) (ys := (ns.drop 1).map V.int) rfl) (ns.zip (ns.drop 1)) (fun q => some (.bl (decide (q.1 < q.2)))) (by rw [List.length_zip, List.length_map, List.length_map]) (by rw [List.length_map]; omega) hD (fun H4 s4 => ⟨same_seqT s4 ha3, same_seqT s4 hb⟩) ?_ ?_
        · rintro i q x H1 H' R hq s1 ⟨T, u, v, rfl, hT, rfl, hu', hv'⟩ hR
          obtain ⟨g1, g2⟩ := zip_get hq
          have e1 : (ns.map V.int)[i]? = some (.int q.1) := by rw [List.getElem?_map, g1]; rfl
          have e2 : ((ns.drop 1).map V.int)[i]? = some (.int q.2) := by rw [List.getElem?_map, g2]; rfl
          cases e1.symm.trans hu'
          cases e2.symm.trans hv'
          refine ⟨T, _, rfl, .inl (.inl upd_same), rfl, _, _, rfl, _, _, rfl, rfl, rfl, ?_⟩
          exact ⟨_, rfl, _, rfl, _, _, rfl, rfl, hR _ (same_new hT)⟩
        · intro H4 s4 hd
          rw [filterMap_some] at hd
          refine ⟨D, (ns.zip (ns.drop 1)).map fun q => decide (q.1 < q.2), rfl, SqL.of (by rw [List.map_map]; exact hd), ?_⟩
          rw [List.all_map]
          have := ups_all (okPart_ups hok)
          rw [show ((ns.zip (ns.drop 1)).all (id ∘ fun q => decide (q.1 < q.2))) = true from this]
          exact k _ (s2.trans (s3.trans s4))
      refine ⟨_, rfl, _, rfl, 1, rfl, a, ns.map V.int, rfl, same_seqT s2 ha, fun hw => ?_, fun hw p hp => ?_⟩
      · have : ns = [] := by
          obtain ⟨h1, h2⟩ := hw
          rw [List.length_map] at h1 h2
          have e : HT.sIx ns.length 0 (some ((1 : Nat) : Int)) = 0 := h1
          rw [HT.sIx_nat] at e
          cases ns with
          | nil => rfl
          | cons x r => rw [List.length_cons] at e; omega
        subst this
        exact key a H2 (Same.refl _) (same_seqT s2 ha)
      · generalize e_p : upd H2 p _ = H3
        have s_p := new_same e_p hp
        have h_p := new_at e_p
        refine key p H3 s_p (.inl (.inl (h_p.trans ?_)))
        have e : cutV (ns.map V.int) (some ((1 : Nat) : Int)) none = (ns.drop 1).map V.int := by
          unfold cutV
          rw [HT.sIx_nat, HT.sIx_none, List.length_map, List.map_drop, List.take_of_length_le]
          · cases ns with
            | nil => rfl
            | cons x r => rw [show min 1 (x :: r).length = 1 by rw [List.length_cons]; omega]
          · rw [List.length_drop, List.length_map]
            omega
        exact congrArg (fun z => some (HO.tup z)) e
theorem sc_p_is_condition : FnScope ["patterns", "thing", "first", "second", "side"] ["patterns", "thing"] (defScope s_p_is_condition) := ⟨rfl, rfl, rfl, by decide +kernel, rfl, by decide +kernel, by decide +kernel⟩
theorem ok_p_is_condition {f : Addr} {fd : FuncData} (F : Fun K "_is_condition" "_is_condition" s_p_is_condition f fd) (T : Txt K mg)
    (D_p_is_part : Fn P w K mg base 3 "_is_part" ["patterns", "thing"] (spPart3 K))
    : FnOk P w K mg base CX0 4 f fd ["patterns", "thing"] (spCond K) := by
  refine F.ok sc_p_is_condition (fun vs H Q E h => ?_) (fun cdv A outer s H vs Q E hr h => ?_)
  · obtain ⟨v, c, rfl, _⟩ := h; rfl
  · obtain ⟨v, c, rfl, hx, hok, k⟩ := h
    have hu := hu_of hr
    have hu64 := hr.units
    refine ⟨_, (pss_cons (ps_if (PW.pt (pw_or (pt_not (pt_val (pe_callB call_isi (by rfl) T.n_isinstance (by decide +kernel) (pa_cons (pv 1) (pa_cons (pe_bltn (v := .ty "tuple") (u := .type "tuple") (by rfl) T.n_tuple (by decide +kernel) rfl) pa_nil))))) (pw_or1 (pt_cmpR op_ne (pe_callB call_len_seq (by rfl) T.n_len PySem.boot_len (pa_cons (pv 1) pa_nil)) pe_int (nomark _)))))
    (pss_one (ps_ret pe_bl))
    pss_nil)
  (pss_cons (ps_asg (pv 1) (pg_tup rfl (pgs_cons (pg_name (i := 2) sc_p_is_condition.nd rfl (Or.inl rfl)) (pgs_cons (pg_name (i := 3) sc_p_is_condition.nd rfl (Or.inl rfl)) (pgs_cons (pg_name (i := 4) sc_p_is_condition.nd rfl (Or.inl rfl)) pgs_nil)))))
  (pss_one (ps_ret (pe_and (pe_fn D_p_is_part (hr.mono (by decide)) rfl (pa_cons (pv 0) (pa_cons (pv 2) pa_nil))) (pe_and (pe_fn D_p_is_part (hr.mono (by decide)) rfl (pa_cons (pv 0) (pa_cons (pv 3) pa_nil))) (pe_one (pe_cmpR op_in_seq (pv 4) (pe_tup (pa_cons pe_str (pa_cons pe_str pa_nil))) (by rfl))))))))), ?_⟩
    obtain ⟨a, x, y, rfl, ha, h1, h2⟩ := dp_cond hx
    refine rd_isi rfl (.of hx) (by simp) ⟨_, rfl, ?_⟩
    rw [show isD "tuple" (condD c) = true from isD_tuple _]
    refine iteF ⟨_, rfl, _, _, rfl, .inr ha, rfl, _, rfl, ?_⟩
    refine iteF ⟨_, rfl, _, _, rfl, ha, rfl, _, _, rfl, _, _, rfl, _, _, rfl, rfl, ?_⟩
    refine ⟨_, rfl, _, rfl, x, c.l, rfl, h1, okCond_l hok, fun H1 s1 => ⟨_, rfl, iteT ?_⟩⟩
    refine ⟨_, rfl, _, rfl, y, c.r, rfl, same_seqT s1 h2, okCond_r hok, fun H2 s2 => ⟨_, rfl, iteT ?_⟩⟩
    refine ⟨_, rfl, size_ok (by simp), fun p hp => ?_⟩
    generalize e_p : upd H2 p _ = H3
    have s_p := new_same e_p hp
    have h_p := new_at e_p
    refine ⟨p, _, rfl, .inr (.inl (.inl h_p)), rfl, rfl, ?_⟩
    show Q (.bl (inV _ _)) _
    rw [in_side]
    exact k _ (s1.trans (s2.trans s_p))
theorem sc_is_question : FnScope ["patterns", "conditions", "pattern", "item"] ["patterns", "conditions", "pattern"] (defScope s_is_question) := ⟨rfl, rfl, rfl, by decide +kernel, rfl, by decide +kernel, by decide +kernel⟩
theorem ok_is_question {f : Addr} {fd : FuncData} (F : Fun K "is_question" "is_question" s_is_question f fd) (T : Txt K mg)
    (D_is_whole : Fn P w K mg base 1 "is_whole" ["thing"] (spWh K))
    (D_is_pattern : Fn P w K mg base 2 "is_pattern" ["patterns", "thing"] spPat)
    (D_p_is_condition : Fn P w K mg base 4 "_is_condition" ["patterns", "thing"] (spCond K))
    : FnOk P w K mg base CX0 5 f fd ["patterns", "conditions", "pattern"] (spQuest K) := by
  obtain ⟨t_MOST_CONDITIONS, g_MOST_CONDITIONS⟩ := T.g_MOST_CONDITIONS
  refine F.ok sc_is_question (fun vs H Q E h => ?_) (fun cdv A outer s H vs Q E hr h => ?_)
  · obtain ⟨a, cs, p, rfl, _⟩ := h; rfl
  · obtain ⟨a, cs, p, rfl, hC, hok, hp, k⟩ := h
    have hu := hu_of hr
    have hu64 := hr.units
    refine ⟨_, (pss_cons (ps_if (PW.pt (pw_or (pt_not (pt_val (pe_fn D_is_whole (hr.mono (by decide)) rfl (pa_cons (pv 0) pa_nil)))) (pw_or1 (pt_cmpR op_notIn_seq (pv 0) (pe_tup (pa_cons pe_int (pa_cons pe_int (pa_cons pe_int pa_nil)))) (by rfl)))))
    (pss_one (ps_ret pe_bl))
    pss_nil)
  (pss_cons (ps_if (PW.pt (pw_or (pt_not (pt_val (pe_callB call_isi (by rfl) T.n_isinstance (by decide +kernel) (pa_cons (pv 1) (pa_cons (pe_bltn (v := .ty "list") (u := .type "list") (by rfl) T.n_list (by decide +kernel) rfl) pa_nil))))) (pw_or1 (pt_cmpR op_gt (pe_callB call_len_seq (by rfl) T.n_len PySem.boot_len (pa_cons (pv 1) pa_nil)) (pe_glob (v := .int 8) rfl g_MOST_CONDITIONS ⟨_, rfl⟩) (nomark _)))))
    (pss_one (ps_ret pe_bl))
    pss_nil)
  (pss_one (ps_ret (pe_and (pe_callB (cr_all rfl) (by rfl) T.n_all (by decide +kernel) (pa_cons (pe_lc (own := [("item", 3)]) (g := gName 3) (tt := tYes) rfl sc_is_question.nd (pi_list (pv 1)) (blkOk_by (own := [("item", 3)]) (N := ["patterns", "conditions", "pattern", "item"]) (sc := defScope s_is_question) (by decide +kernel)) (fun _ _ _ _ _ => (pg_name (i := 3) sc_is_question.nd rfl (Or.inl rfl))) (fun _ _ _ _ _ => pts_nil) (fun _ _ _ _ _ => (pe_fn D_p_is_condition (hr.mono (by decide)) rfl (pa_cons (pv 0) (pa_cons (pv 3) pa_nil))))) pa_nil)) (pe_one (pe_fn D_is_pattern (hr.mono (by decide)) rfl (pa_cons (pv 0) (pa_cons (pv 2) pa_nil))))))))), ?_⟩
    refine ⟨_, rfl, .int 3, .int 3, rfl, .int 3, fun H1 s1 => ⟨_, rfl, ?_⟩⟩
    refine iteF ⟨_, rfl, size_ok (by simp), fun q hq => ?_⟩
    generalize e_q : upd H1 q _ = H2
    have s_q := new_same e_q hq
    have h_q := new_at e_q
    refine ⟨q, _, rfl, .inr (.inl (.inl h_q)), rfl, rfl, _, rfl, iteF ?_⟩
    obtain ⟨xs, hl, hd⟩ := hC.same (s1.trans s_q)
    refine rd_isi rfl (.of (.lst hl hd)) (by simp) ⟨_, rfl, ?_⟩
    rw [isD_list]
    have hcl := okConds_len hok
    have hxl : xs.length = cs.length := by rw [dpAll_len hd, List.length_map]
    refine iteF ⟨_, rfl, _, _, rfl, .inl hl, _, _, rfl, rfl, _, rfl, ?_⟩
    rw [decide_eq_false (by omega)]
    refine iteF ⟨_, rfl, a, rfl, ⟨_, hl⟩, fun D hD => ?_⟩
    refine lc_w (walk_list (xs := xs)) cs (fun _ => some (.bl true)) hxl.symm (by omega) hD (fun H3 s3 => s3.seq hl) ?_ ?_
    · rintro i c x H3 H' R hc s3 ⟨rfl, hx⟩ hR
      obtain ⟨d, hd1, hd2⟩ := dpAll_at hd hx
      rw [List.getElem?_map, hc] at hd1
      cases hd1
      exact ⟨rfl, _, rfl, _, rfl, x, c, rfl, dp_same s3 _ _ hd2, okConds_at hok c (List.mem_of_getElem? hc), fun H4 s4 => hR H4 s4⟩
    · intro H3 s3 hD3
      rw [filterMap_some] at hD3
      refine ⟨D, cs.map fun _ => true, rfl, SqL.of (by rw [List.map_map]; exact hD3), ?_⟩
      rw [all_true]
      refine ⟨_, rfl, iteT ⟨_, rfl, _, rfl, 3, p, rfl, fun H4 s4 => ?_⟩⟩
      have hp2 : (decide (1 ≤ p) && decide (p ≤ 3)) = true := hp
      rw [hp2]
      exact k _ (s1.trans (s_q.trans (s3.trans s4)))
theorem sc_p_sum_of : FnScope ["part", "counts", "pattern"] ["part", "counts"] (defScope s_p_sum_of) := ⟨rfl, rfl, rfl, by decide +kernel, rfl, by decide +kernel, by decide +kernel⟩
theorem ok_p_sum_of {f : Addr} {fd : FuncData} (F : Fun K "_sum_of" "_sum_of" s_p_sum_of f fd) (T : Txt K mg)
    : FnOk P w K mg base CX0 1 f fd ["part", "counts"] (spSumOf K) := by
  refine F.ok sc_p_sum_of (fun vs H Q E h => ?_) (fun cdv A outer s H vs Q E hr h => ?_)
  · obtain ⟨a, b, l, ns, rfl, _⟩ := h; rfl
  · obtain ⟨a, b, l, ns, rfl, ha, hok, hb, hn, k⟩ := h
    have hu := hu_of hr
    have hu64 := hr.units
    refine ⟨_, (pss_one (ps_ret (pe_callB (cr_sum rfl) (by rfl) T.n_sum (by decide +kernel) (pa_cons (pe_lc (own := [("pattern", 2)]) (g := gName 2) (tt := tYes) rfl sc_p_sum_of.nd (pi_tup (pv 0)) (blkOk_by (own := [("pattern", 2)]) (N := ["part", "counts", "pattern"]) (sc := defScope s_p_sum_of) (by decide +kernel)) (fun _ _ _ _ _ => (pg_name (i := 2) sc_p_sum_of.nd rfl (Or.inl rfl))) (fun _ _ _ _ _ => pts_nil) (fun _ _ _ _ _ => (pe_ix (ix_tupN (K := K) rfl) (pv 1) (pe_op op_sub (pv 2) pe_int) (fun _ _ => rfl)))) pa_nil)))), ?_⟩
    have hl := okPart_len hok
    refine ⟨_, rfl, a, rfl, ⟨_, ha⟩, fun D hD => ?_⟩
    refine lc_w (walk_tup (xs := l.map V.int)) l (fun i => some (.int (ns.getD (i - 1).toNat 0))) (by rw [List.length_map]) (by rw [List.length_map]; omega) hD (fun H2 s2 => same_seqT s2 ha) ?_ ?_
    · rintro i n x H1 H' R hi s1 ⟨rfl, hx⟩ hR
      rw [List.getElem?_map, hi] at hx
      cases hx
      exact ⟨rfl, _, rfl, _, rfl, _, _, rfl, rfl, b, _, _, _, rfl, rfl, same_seqT s1 hb, at_ns hn (okPart_pat hok n (List.mem_of_getElem? hi)), hR _ (Same.refl _)⟩
    · intro H2 s2 hd
      rw [filterMap_some] at hd
      refine ⟨D, l.map fun i => ns.getD (i - 1).toNat 0, rfl, SqL.of (by rw [List.map_map]; exact hd), ?_⟩
      exact k _ s2
theorem sc_is_satisfied : FnScope ["condition", "counts", "first", "second", "side", "is_less"] ["condition", "counts"] (defScope s_is_satisfied) := ⟨rfl, rfl, rfl, by decide +kernel, rfl, by decide +kernel, by decide +kernel⟩
theorem ok_is_satisfied {f : Addr} {fd : FuncData} (F : Fun K "is_satisfied" "is_satisfied" s_is_satisfied f fd) (T : Txt K mg)
    (D_p_sum_of : Fn P w K mg base 1 "_sum_of" ["part", "counts"] (spSumOf K))
    : FnOk P w K mg base CX0 2 f fd ["condition", "counts"] (spSat K) := by
  refine F.ok sc_is_satisfied (fun vs H Q E h => ?_) (fun cdv A outer s H vs Q E hr h => ?_)
  · obtain ⟨v, b, c, ns, rfl, _⟩ := h; rfl
  · obtain ⟨v, b, c, ns, rfl, hx, hok, hb, hn, k⟩ := h
    have hu := hu_of hr
    have hu64 := hr.units
    refine ⟨_, (pss_cons (ps_asg (pv 0) (pg_tup rfl (pgs_cons (pg_name (i := 2) sc_is_satisfied.nd rfl (Or.inl rfl)) (pgs_cons (pg_name (i := 3) sc_is_satisfied.nd rfl (Or.inl rfl)) (pgs_cons (pg_name (i := 4) sc_is_satisfied.nd rfl (Or.inl rfl)) pgs_nil)))))
  (pss_cons (ps_set (i := 5) sc_is_satisfied.nd rfl (Or.inl rfl) (pe_cmpR op_lt (pe_fn D_p_sum_of (hr.mono (by decide)) rfl (pa_cons (pv 2) (pa_cons (pv 1) pa_nil))) (pe_fn D_p_sum_of (hr.mono (by decide)) rfl (pa_cons (pv 3) (pa_cons (pv 1) pa_nil))) (nomark _)))
  (pss_one (ps_ret (pe_cmpR op_eq (pv 5) (pe_cmpR op_eq (pv 4) pe_str (nomark _)) (nomark _)))))), ?_⟩
    obtain ⟨a, x, y, rfl, ha, h1, h2⟩ := dp_cond hx
    refine ⟨_, rfl, _, _, rfl, ha, rfl, _, _, rfl, _, _, rfl, _, _, rfl, rfl, ?_⟩
    refine ⟨_, rfl, _, rfl, x, b, c.l, ns, rfl, h1, okCond_l hok, hb, hn, fun H1 s1 => ?_⟩
    refine ⟨_, rfl, _, rfl, y, b, c.r, ns, rfl, same_seqT s1 h2, okCond_r hok, same_seqT s1 hb, hn, fun H2 s2 => ?_⟩
    refine ⟨_, _, rfl, rfl, ?_⟩
    refine ⟨_, rfl, _, rfl, rfl, rfl, ?_⟩
    rw [dec_side, dec_bl]
    exact k _ (s1.trans s2)
theorem sc_factors_of : FnScope ["patterns", "condition", "less", "more", "side", "pattern"] ["patterns", "condition"] (defScope s_factors_of) := ⟨rfl, rfl, rfl, by decide +kernel, rfl, by decide +kernel, by decide +kernel⟩
theorem ok_factors_of {f : Addr} {fd : FuncData} (F : Fun K "factors_of" "factors_of" s_factors_of f fd) (T : Txt K mg)
    : FnOk P w K mg base CX0 1 f fd ["patterns", "condition"] (spFactors K) := by
  refine F.ok sc_factors_of (fun vs H Q E h => ?_) (fun cdv A outer s H vs Q E hr h => ?_)
  · obtain ⟨v, c, rfl, _⟩ := h; rfl
  · obtain ⟨v, c, rfl, hx, hok, k⟩ := h
    have hu := hu_of hr
    have hu64 := hr.units
    refine ⟨_, (pss_cons (ps_asg (pv 1) (pg_tup rfl (pgs_cons (pg_name (i := 2) sc_factors_of.nd rfl (Or.inr rfl)) (pgs_cons (pg_name (i := 3) sc_factors_of.nd rfl (Or.inr rfl)) (pgs_cons (pg_name (i := 4) sc_factors_of.nd rfl (Or.inl rfl)) pgs_nil)))))
  (pss_cons (ps_if (pt_cmpR op_eq (pv 4) pe_str (nomark _))
    (pss_one (ps_asg (pe_tup (pa_cons (pv 3) (pa_cons (pv 2) pa_nil))) (pg_tup rfl (pgs_cons (pg_name (i := 2) sc_factors_of.nd rfl (Or.inr rfl)) (pgs_cons (pg_name (i := 3) sc_factors_of.nd rfl (Or.inr rfl)) pgs_nil)))))
    pss_nil)
  (pss_one (ps_ret (pe_lc (own := [("pattern", 5)]) (g := gName 5) (tt := tYes) rfl sc_factors_of.nd (pi_range2 (by rfl) T.n_range (pa_cons pe_int (pa_cons (pe_op op_add (pv 0) pe_int) pa_nil))) (blkOk_by (own := [("pattern", 5)]) (N := ["patterns", "condition", "less", "more", "side", "pattern"]) (sc := defScope s_factors_of) (by decide +kernel)) (fun _ _ _ _ _ => (pg_name (i := 5) sc_factors_of.nd rfl (Or.inl rfl))) (fun _ _ _ _ _ => pts_nil) (fun _ _ _ _ _ => (pe_op op_sub (pe_callTy call_int1 (by rfl) T.n_int (by decide +kernel) (pa_cons (pe_cmpR (op_in_seqN (K := K) rfl) (pv 5) (pv 3) (by rfl)) pa_nil)) (pe_callTy call_int1 (by rfl) T.n_int (by decide +kernel) (pa_cons (pe_cmpR (op_in_seqN (K := K) rfl) (pv 5) (pv 2) (by rfl)) pa_nil))))))))), ?_⟩
    have key : ∀ (x y : Addr) (l m : List Int) (H1 : Hp) (S : V), Same H H1 → SqT K H1 x (l.map V.int) → SqT K H1 y (m.map V.int) → (∀ i : Int, ((if decide (i ∈ m) = true then 1 else 0) - (if decide (i ∈ l) = true then 1 else 0) : Int) = fac c i) →
        tLc (iRng2 (tCons (tC (.int 1)) (tCons (tOp (rI0 fun i j => .int (i + j)) (tVar 0) (tC (.int 1))) tNil))) (gName 5) tYes
          (tOp (rI0 fun i j => .int (i - j)) (tCB (fun xs H Q => (∃ i, xs = [.int i] ∧ Q (.int i) H) ∨ ∃ k, xs = [.bl k] ∧ Q (.int (if k then 1 else 0)) H) (tCons (tOp (rIn K false) (tVar 5) (tVar 3)) tNil))
            (tCB (fun xs H Q => (∃ i, xs = [.int i] ∧ Q (.int i) H) ∨ ∃ k, xs = [.bl k] ∧ Q (.int (if k then 1 else 0)) H) (tCons (tOp (rIn K false) (tVar 5) (tVar 2)) tNil))) [5]
          [some (.int 3), some v, some (.ref x), some (.ref y), some S, none] H1 Q := by
      intro x y l m H1 S s1 hx hy hf
      refine ⟨_, rfl, _, _, rfl, rfl, _, _, rfl, ⟨by decide, by decide, by decide, by decide⟩, fun D hD => ?_⟩
      refine lc_w (walk_range (lo := 1) (n := 3)) ((List.range 3).map fun i : Nat => (1 : Int) + (i : Int)) (fun i => some (.int (fac c i))) rfl (by decide) hD (fun _ _ => trivial) ?_ ?_
      · rintro i n x2 H2 H' R hi s2 ⟨rfl, rfl⟩ hR
        have hn : n = 1 + (i : Int) := by
          rw [List.getElem?_map] at hi
          cases e : (List.range 3)[i]? with
          | none => rw [e] at hi; cases hi
          | some j =>
            rw [e] at hi
            cases hi
            have := List.getElem?_eq_some_iff.mp e
            obtain ⟨h1, h2⟩ := this
            rw [List.getElem_range] at h2
            rw [h2]
        subst hn
        refine ⟨rfl, _, rfl, _, rfl, y, _, rfl, .inr (same_seqT s2 hy), rfl, flat_ints _, .inr ⟨_, rfl, ?_⟩⟩
        refine ⟨_, rfl, _, rfl, x, _, rfl, .inr (same_seqT s2 hx), rfl, flat_ints _, .inr ⟨_, rfl, ?_⟩⟩
        refine ⟨_, _, rfl, rfl, ?_⟩
        have e := hf (1 + (i : Int))
        rw [← inV_ints, ← inV_ints] at e
        have hR2 := hR _ (Same.refl H')
        rw [← e] at hR2
        exact hR2
      · intro H2 s2 hd
        exact k D H2 (s1.trans s2) (s1.free hD) hd
    obtain ⟨a, x, y, rfl, ha, h1, h2⟩ := dp_cond hx
    refine ⟨_, rfl, _, _, rfl, ha, rfl, _, _, rfl, _, _, rfl, _, _, rfl, rfl, ?_⟩
    refine ⟨_, rfl, rfl, _, rfl, ?_⟩
    rw [dec_side2]
    cases hL : c.left with
    | true => exact iteF (key x y c.l c.r H _ (Same.refl H) h1 h2 fun i => by unfold fac; rw [hL]; rfl)
    | false =>
      refine iteT ⟨_, rfl, _, rfl, size_ok (by simp), fun p hp => ?_⟩
      generalize e_p : upd H p _ = H1
      have s_p := new_same e_p hp
      have h_p := new_at e_p
      refine ⟨p, _, rfl, .inl (.inl h_p), rfl, _, _, rfl, _, _, rfl, rfl, ?_⟩
      exact key y x c.r c.l H1 _ s_p (same_seqT s_p h2) (same_seqT s_p h1) fun i => by unfold fac; rw [hL]; rfl
theorem sc_p_are_from_zero_on : FnScope ["things", "thing"] ["things"] (defScope s_p_are_from_zero_on) := ⟨rfl, rfl, rfl, by decide +kernel, rfl, by decide +kernel, by decide +kernel⟩
theorem ok_p_are_from_zero_on {f : Addr} {fd : FuncData} (F : Fun K "_are_from_zero_on" "_are_from_zero_on" s_p_are_from_zero_on f fd) (T : Txt K mg)
    (D_is_whole : Fn P w K mg base 1 "is_whole" ["thing"] (spWh K))
    : FnOk P w K mg base CX0 2 f fd ["things"] (spZeroOn K) := by
  refine F.ok sc_p_are_from_zero_on (fun vs H Q E h => ?_) (fun cdv A outer s H vs Q E hr h => ?_)
  · obtain ⟨a, xs, ds, rfl, _⟩ := h; rfl
  · obtain ⟨a, xs, ds, rfl, hs, hd, hlen, k⟩ := h
    have hu := hu_of hr
    have hu64 := hr.units
    refine ⟨_, (pss_one (ps_ret (pe_callB (cr_all rfl) (by rfl) T.n_all (by decide +kernel) (pa_cons (pe_lc (own := [("thing", 1)]) (g := gName 1) (tt := tYes) rfl sc_p_are_from_zero_on.nd (pi_or (pi_list (pv 0)) (pi_tup (pv 0))) (blkOk_by (own := [("thing", 1)]) (N := ["things", "thing"]) (sc := defScope s_p_are_from_zero_on) (by decide +kernel)) (fun _ _ _ _ _ => (pg_name (i := 1) sc_p_are_from_zero_on.nd rfl (Or.inl rfl))) (fun _ _ _ _ _ => pts_nil) (fun _ _ _ _ _ => (pe_and (pe_fn D_is_whole (hr.mono (by decide)) rfl (pa_cons (pv 1) pa_nil)) (pe_one (pe_cmpR op_ge (pv 1) pe_int (nomark _)))))) pa_nil)))), ?_⟩
    have hxl := dpAll_len hd
    have step : ∀ (d : PyData) (v : V) (H1 : Hp) (R : Option V → Hp → Prop), Dp K H1 v d → (∀ H2, Same H1 H2 → R (some (.bl (mNat d))) H2) →
        tAndV (tCall (spWh K) [] E0 (tCons (tVar 1) tNil)) (tOp (rI0 fun i j => .bl (decide (j ≤ i))) (tVar 1) (tC (.int 0))) [some (.ref a), some v] H1 fun y H4 => R (some y) H4 := by
      intro d v H1 R hv hR
      refine ⟨_, rfl, v, d, rfl, hv, fun H2 s2 => ⟨_, rfl, ?_⟩⟩
      cases d with
      | int i =>
        cases hv
        exact iteT ⟨_, rfl, _, _, rfl, rfl, hR H2 s2⟩
      | _ => exact iteF (hR H2 s2)
    have fin : ∀ (D : Addr) (H2 : Hp), Same H H2 → H2 D = some (.lst (ds.filterMap fun d => some (.bl (mNat d)))) → rAll K [.ref D] H2 Q := by
      intro D H2 s2 hD
      rw [filterMap_some] at hD
      refine ⟨D, ds.map mNat, rfl, SqL.of (by rw [List.map_map]; exact hD), ?_⟩
      rw [List.all_map]
      exact k H2 s2
    rcases hs with hs | hs
    · refine .inl ⟨_, rfl, a, rfl, ⟨_, hs⟩, fun D hD => ?_⟩
      refine lc_w (walk_list (xs := xs)) ds (fun d => some (.bl (mNat d))) hxl.symm (by omega) hD (fun H3 s3 => s3.seq hs) ?_ (fin D)
      rintro i d x H3 H' R hdi s3 ⟨rfl, hx⟩ hR
      obtain ⟨d2, hd1, hd2⟩ := dpAll_at hd hx
      cases hdi.symm.trans hd1
      exact ⟨rfl, step d x H' R (dp_same s3 _ _ hd2) hR⟩
    · refine .inr ⟨_, rfl, a, rfl, ⟨_, hs⟩, fun D hD => ?_⟩
      refine lc_w (walk_tup (xs := xs)) ds (fun d => some (.bl (mNat d))) hxl.symm (by omega) hD (fun H3 s3 => same_seqT s3 hs) ?_ (fin D)
      rintro i d x H3 H' R hdi s3 ⟨rfl, hx⟩ hR
      obtain ⟨d2, hd1, hd2⟩ := dpAll_at hd hx
      cases hdi.symm.trans hd1
      exact ⟨rfl, step d x H' R (dp_same s3 _ _ hd2) hR⟩
theorem sc_p_are_any_counts : FnScope ["patterns", "thing"] ["patterns", "thing"] (defScope s_p_are_any_counts) := ⟨rfl, rfl, rfl, by decide +kernel, rfl, by decide +kernel, by decide +kernel⟩
theorem ok_p_are_any_counts {f : Addr} {fd : FuncData} (F : Fun K "_are_any_counts" "_are_any_counts" s_p_are_any_counts f fd) (T : Txt K mg)
    (D_p_are_from_zero_on : Fn P w K mg base 2 "_are_from_zero_on" ["things"] (spZeroOn K))
    : FnOk P w K mg base CX0 3 f fd ["patterns", "thing"] (spCounts K) := by
  refine F.ok sc_p_are_any_counts (fun vs H Q E h => ?_) (fun cdv A outer s H vs Q E hr h => ?_)
  · obtain ⟨v, d, rfl, _⟩ := h; rfl
  · obtain ⟨v, d, rfl, hx, k⟩ := h
    have hu := hu_of hr
    have hu64 := hr.units
    refine ⟨_, (pss_one (ps_ret (pe_and (pe_callB call_isi (by rfl) T.n_isinstance (by decide +kernel) (pa_cons (pv 1) (pa_cons (pe_bltn (v := .ty "tuple") (u := .type "tuple") (by rfl) T.n_tuple (by decide +kernel) rfl) pa_nil))) (pe_and (pe_cmpR op_eq (pe_callB call_len_seq (by rfl) T.n_len PySem.boot_len (pa_cons (pv 1) pa_nil)) (pv 0) (nomark _)) (pe_one (pe_fn D_p_are_from_zero_on (hr.mono (by decide)) rfl (pa_cons (pv 1) pa_nil))))))), ?_⟩
    refine rd_isi rfl (.of hx) (by simp) ⟨_, rfl, ?_⟩
    rw [isD_tuple]
    cases d with
    | tuple ds =>
      obtain ⟨a, xs, rfl, h1, h2⟩ := dp_tup hx
      have hxl := dpAll_len h2
      refine iteT ⟨_, rfl, _, _, rfl, .inr h1, _, rfl, rfl, _, rfl, ?_⟩
      have k2 : ∀ H', Same H H' → Q (.bl (decide (ds.length = 3) && ds.all mNat)) H' := k
      by_cases e : ds.length = 3
      · rw [decide_eq_true (by rw [hxl, e]; rfl)]
        refine iteT ⟨_, rfl, a, xs, ds, rfl, .inr h1, h2, by omega, ?_⟩
        intro H' s'
        have := k2 H' s'
        rw [decide_eq_true e] at this
        exact this
      · rw [decide_eq_false (by rw [hxl]; intro z; injection z with z; omega)]
        refine iteF ?_
        have := k2 H (Same.refl H)
        rw [decide_eq_false e] at this
        exact this
    | _ => exact iteF (k H (Same.refl H))
theorem sc_p_is_solution : FnScope ["patterns", "conditions", "pattern", "counts", "condition"] ["patterns", "conditions", "pattern", "counts"] (defScope s_p_is_solution) := ⟨rfl, rfl, rfl, by decide +kernel, rfl, by decide +kernel, by decide +kernel⟩
theorem ok_p_is_solution {f : Addr} {fd : FuncData} (F : Fun K "_is_solution" "_is_solution" s_p_is_solution f fd) (T : Txt K mg)
    (D_is_satisfied : Fn P w K mg base 2 "is_satisfied" ["condition", "counts"] (spSat K))
    (D_p_are_any_counts : Fn P w K mg base 3 "_are_any_counts" ["patterns", "thing"] (spCounts K))
    : FnOk P w K mg base CX0 4 f fd ["patterns", "conditions", "pattern", "counts"] (spSol K) := by
  refine F.ok sc_p_is_solution (fun vs H Q E h => ?_) (fun cdv A outer s H vs Q E hr h => ?_)
  · obtain ⟨a, cs, p, v, d, rfl, _⟩ := h; rfl
  · obtain ⟨a, cs, p, v, d, rfl, hC, hok, hp, hx, hox, k⟩ := h
    have hu := hu_of hr
    have hu64 := hr.units
    refine ⟨_, (pss_cons (ps_if (PW.pt (pw_or (pt_not (pt_val (pe_fn D_p_are_any_counts (hr.mono (by decide)) rfl (pa_cons (pv 0) (pa_cons (pv 3) pa_nil))))) (pw_or1 (pt_cmpR (op_eqD hu64) (pe_ix ix_tup (pv 3) (pe_op op_sub (pv 2) pe_int) (fun _ _ => rfl)) pe_int (nomark _)))))
    (pss_one (ps_ret pe_bl))
    pss_nil)
  (pss_one (ps_ret (pe_callB (cr_all rfl) (by rfl) T.n_all (by decide +kernel) (pa_cons (pe_lc (own := [("condition", 4)]) (g := gName 4) (tt := tYes) rfl sc_p_is_solution.nd (pi_list (pv 1)) (blkOk_by (own := [("condition", 4)]) (N := ["patterns", "conditions", "pattern", "counts", "condition"]) (sc := defScope s_p_is_solution) (by decide +kernel)) (fun _ _ _ _ _ => (pg_name (i := 4) sc_p_is_solution.nd rfl (Or.inl rfl))) (fun _ _ _ _ _ => pts_nil) (fun _ _ _ _ _ => (pe_fn D_is_satisfied (hr.mono (by decide)) rfl (pa_cons (pv 4) (pa_cons (pv 3) pa_nil))))) pa_nil))))), ?_⟩
    refine ⟨_, rfl, _, rfl, v, d, rfl, hx, fun H1 s1 => ⟨_, rfl, ?_⟩⟩
    cases hm : mCounts d with
    | false =>
      have z := k H1 s1
      rw [mSol_no hm] at z
      exact iteT (iteT z)
    | true =>
      obtain ⟨ds, rfl, h3, hn⟩ := mCounts_yes hm
      obtain ⟨x, xs, rfl, h1, h2⟩ := dp_tup hx
      have hxs := h2
      rw [nats_ints hn] at hxs
      rw [dpAll_ints hxs] at h1
      have hn3 : (ds.map toI).length = 3 := by rw [List.length_map, h3]
      have z : ∀ H', Same H H' → Q (.bl (!decide ((ds.map toI).getD (p - 1).toNat 0 = 0) && cs.all (sat (ds.map toI)))) H' := by
        intro H' s'
        have this : Q (.bl (decide (ds.length = 3) && (ds.all mNat && (!decide ((ds.map toI).getD (p - 1).toNat 0 = 0) && cs.all (sat (ds.map toI)))))) H' := k H' s'
        rw [decide_eq_true h3, hn] at this
        exact this
      generalize ds.map toI = ns at h1 hn3 z
      have h11 := same_seqT s1 h1
      refine iteF ⟨_, rfl, _, rfl, _, _, rfl, rfl, x, _, _, _, rfl, rfl, h11, at_ns hn3 hp, .int _, .int 0, .int _, .int _, rfl, rfl, _, rfl, ?_⟩
      rw [eqv_int]
      cases e : decide (ns.getD (p - 1).toNat 0 = 0) with
      | true =>
        have y := z H1 s1
        rw [e] at y
        exact iteT y
      | false =>
        rw [e] at z
        obtain ⟨ys, hl, hd⟩ := hC.same s1
        have hcl := okConds_len hok
        have hyl : ys.length = cs.length := by rw [dpAll_len hd, List.length_map]
        refine iteF ⟨_, rfl, a, rfl, ⟨_, hl⟩, fun D hD => ?_⟩
        refine lc_w (walk_list (xs := ys)) cs (fun c => some (.bl (sat ns c))) hyl.symm (by omega) hD (fun H3 s3 => s3.seq hl) ?_ ?_
        · rintro i c x H3 H' R hc s3 ⟨rfl, hx⟩ hR
          obtain ⟨d, hd1, hd2⟩ := dpAll_at hd hx
          rw [List.getElem?_map, hc] at hd1
          cases hd1
          exact ⟨rfl, _, rfl, _, rfl, x, _, c, ns, rfl, dp_same s3 _ _ hd2, okConds_at hok c (List.mem_of_getElem? hc), same_seqT s3 h11, hn3, fun H4 s4 => hR H4 s4⟩
        · intro H3 s3 hD3
          rw [filterMap_some] at hD3
          refine ⟨D, cs.map fun c => sat ns c, rfl, SqL.of (by rw [List.map_map]; exact hD3), ?_⟩
          rw [List.all_map]
          exact z _ (s1.trans s3)
theorem sc_p_is_refuted : FnScope ["patterns", "conditions", "pattern", "multipliers", "weights", "condition", "multiplier", "factors", "weight", "factor", "lefts", "times"] ["patterns", "conditions", "pattern", "multipliers"] (defScope s_p_is_refuted) := ⟨rfl, rfl, rfl, by decide +kernel, rfl, by decide +kernel, by decide +kernel⟩
theorem ok_p_is_refuted {f : Addr} {fd : FuncData} (F : Fun K "_is_refuted" "_is_refuted" s_p_is_refuted f fd) (T : Txt K mg)
    (D_factors_of : Fn P w K mg base 1 "factors_of" ["patterns", "condition"] (spFactors K))
    (D_p_are_from_zero_on : Fn P w K mg base 2 "_are_from_zero_on" ["things"] (spZeroOn K))
    : FnOk P w K mg base CX0 3 f fd ["patterns", "conditions", "pattern", "multipliers"] (spRef K) := by
  refine F.ok sc_p_is_refuted (fun vs H Q E h => ?_) (fun cdv A outer s H vs Q E hr h => ?_)
  · obtain ⟨a, cs, p, v, d, rfl, _⟩ := h; rfl
  · obtain ⟨a, cs, p, v, d, rfl, hC, hok, hp, hx, hox, k⟩ := h
    have hu := hu_of hr
    have hu64 := hr.units
    refine ⟨_, (pss_cons (ps_if (PW.pt (pw_or (pt_not (pt_val (pe_callB call_isi (by rfl) T.n_isinstance (by decide +kernel) (pa_cons (pv 3) (pa_cons (pe_bltn (v := .ty "list") (u := .type "list") (by rfl) T.n_list (by decide +kernel) rfl) pa_nil))))) (pw_or1 (pt_cmpR op_ne (pe_callB call_len_seq (by rfl) T.n_len PySem.boot_len (pa_cons (pv 3) pa_nil)) (pe_callB call_len_seq (by rfl) T.n_len PySem.boot_len (pa_cons (pv 1) pa_nil)) (nomark _)))))
    (pss_one (ps_ret pe_bl))
    pss_nil)
  (pss_cons (ps_if (pt_not (pt_val (pe_fn D_p_are_from_zero_on (hr.mono (by decide)) rfl (pa_cons (pv 3) pa_nil))))
    (pss_one (ps_ret pe_bl))
    pss_nil)
  (pss_cons (ps_set (i := 4) sc_p_is_refuted.nd rfl (Or.inl rfl) (pe_op op_rep (pe_lst (pa_cons pe_int pa_nil)) (pv 0)))
  (pss_cons (ps_for PassesOwn.never rfl (RZ.pi_zipA (by rfl) T.n_zip (pa_cons (pv 1) (pa_cons (pv 3) pa_nil))) (pg_tup rfl (pgs_cons (pg_name (i := 5) sc_p_is_refuted.nd rfl (Or.inl rfl)) (pgs_cons (pg_name (i := 6) sc_p_is_refuted.nd rfl (Or.inr rfl)) pgs_nil)))
    (pss_cons (ps_set (i := 7) sc_p_is_refuted.nd rfl (Or.inl rfl) (pe_fn D_factors_of (hr.mono (by decide)) rfl (pa_cons (pv 0) (pa_cons (pv 5) pa_nil))))
      (pss_one (ps_setLc (i := 4) (own := [("weight", 8), ("factor", 9)]) (g := gTup K 2 (gCons (gName 8) (gCons (gName 9) gNil))) (tt := tYes) rfl sc_p_is_refuted.nd rfl rfl (sw_true rfl rfl rfl (by decide +kernel)) (RZ.pi_zipA (by rfl) T.n_zip (pa_cons (pv 4) (pa_cons (pv 7) pa_nil))) (blkOk_by (own := [("weight", 8), ("factor", 9)]) (N := ["patterns", "conditions", "pattern", "multipliers", "weights", "condition", "multiplier", "factors", "weight", "factor", "lefts", "times"]) (sc := defScope s_p_is_refuted) (by decide +kernel)) (fun _ _ _ _ _ => (pg_tup rfl (pgs_cons (pg_name (i := 8) sc_p_is_refuted.nd rfl (Or.inl rfl)) (pgs_cons (pg_name (i := 9) sc_p_is_refuted.nd rfl (Or.inl rfl)) pgs_nil)))) (fun _ _ _ _ _ => pts_nil) (fun _ _ _ _ _ => (pe_op op_add (pv 8) (pe_op op_mul (pv 6) (pv 9))))))))
  (pss_cons (ps_if (pt_cmpR op_gt (pe_callB (cr_max rfl) (by rfl) T.n_max (by decide +kernel) (pa_cons (pv 4) pa_nil)) pe_int (nomark _))
    (pss_one (ps_ret pe_bl))
    pss_nil)
  (pss_cons (ps_setLc (i := 10) (own := [("condition", 5), ("times", 11)]) (g := gTup K 2 (gCons (gName 5) (gCons (gName 11) gNil))) rfl sc_p_is_refuted.nd rfl rfl (sw_true rfl rfl rfl (by decide +kernel)) (RZ.pi_zipA (by rfl) T.n_zip (pa_cons (pv 1) (pa_cons (pv 3) pa_nil))) (blkOk_by (own := [("condition", 5), ("times", 11)]) (N := ["patterns", "conditions", "pattern", "multipliers", "weights", "condition", "multiplier", "factors", "weight", "factor", "lefts", "times"]) (sc := defScope s_p_is_refuted) (by decide +kernel)) (fun _ _ _ _ _ => (pg_tup rfl (pgs_cons (pg_name (i := 5) sc_p_is_refuted.nd rfl (Or.inl rfl)) (pgs_cons (pg_name (i := 11) sc_p_is_refuted.nd rfl (Or.inl rfl)) pgs_nil)))) (fun _ _ _ _ _ => (pts_one (pt_cmpR op_eq (pe_ix (ix_tupN (K := K) rfl) (pv 5) pe_int (fun _ _ => rfl)) pe_str (nomark _)))) (fun _ _ _ _ _ => (pv 11)))
  (pss_one (ps_ret (pe_or (pe_cmpR op_lt (pe_ix ix_list (pv 4) (pe_op op_sub (pv 2) pe_int) (fun _ _ => rfl)) pe_int (nomark _)) (pe_one (pe_cmpR op_gt (pe_callB (cr_sum rfl) (by rfl) T.n_sum (by decide +kernel) (pa_cons (pv 10) pa_nil)) pe_int (nomark _)))))))))))), ?_⟩
    refine rd_isi rfl (.of hx) (by simp) ⟨_, rfl, ?_⟩
    rw [isD_list]
    cases d with
    | list ds =>
      obtain ⟨m, xs, rfl, hm, hd⟩ := dp_lst hx
      have hC0 := hC
      obtain ⟨ys, hl, hcd⟩ := hC0
      have hcl := okConds_len hok
      have hyl : ys.length = cs.length := by rw [dpAll_len hcd, List.length_map]
      have hxl := dpAll_len hd
      refine iteF ⟨_, rfl, _, _, rfl, .inl hm, _, rfl, _, _, rfl, .inl hl, rfl, _, rfl, ?_⟩
      by_cases e : ds.length = cs.length
      case neg =>
        rw [decide_eq_false (by rw [hxl, hyl]; intro z; injection z with z; omega)]
        have z : Q (.bl (decide (ds.length = cs.length) && (ds.all mNat && (!((weights cs (ds.map toI)).any fun w => decide (0 < w)) && (decide ((weights cs (ds.map toI)).getD (p - 1).toNat 0 < 0) || decide (0 < (leftsOf cs (ds.map toI)).sum)))))) H := k H (Same.refl H)
        rw [decide_eq_false e] at z
        exact iteT z
      rw [decide_eq_true (by rw [hxl, hyl, e])]
      refine iteF ⟨_, rfl, m, xs, ds, rfl, .inl hm, hd, by omega, fun H1 s1 => ⟨_, rfl, ?_⟩⟩
      cases hz : ds.all mNat with
      | false =>
        have z : Q (.bl (decide (ds.length = cs.length) && (ds.all mNat && (!((weights cs (ds.map toI)).any fun w => decide (0 < w)) && (decide ((weights cs (ds.map toI)).getD (p - 1).toNat 0 < 0) || decide (0 < (leftsOf cs (ds.map toI)).sum)))))) H1 := k H1 s1
        rw [hz, decide_eq_true e] at z
        exact iteT z
      | true =>
      have z : ∀ H', Same H H' → Q (.bl (!((weights cs (ds.map toI)).any fun w => decide (0 < w)) && (decide ((weights cs (ds.map toI)).getD (p - 1).toNat 0 < 0) || decide (0 < (leftsOf cs (ds.map toI)).sum)))) H' := by
        intro H' s'
        have this : Q (.bl (decide (ds.length = cs.length) && (ds.all mNat && (!((weights cs (ds.map toI)).any fun w => decide (0 < w)) && (decide ((weights cs (ds.map toI)).getD (p - 1).toNat 0 < 0) || decide (0 < (leftsOf cs (ds.map toI)).sum)))))) H' := k H' s'
        rw [decide_eq_true e, hz] at this
        exact this
      have hds := hd
      rw [nats_ints hz] at hds
      have hxs := dpAll_ints hds
      have hnl : (ds.map toI).length = cs.length := by rw [List.length_map, e]
      generalize ds.map toI = ns at z hxs hnl
      subst hxs
      clear hds hd k hz e hxl hx hox
      refine iteF ⟨size_ok (by simp), fun q hq => ⟨_, rfl, q, 3, _, rfl, rfl, upd_same, by decide, by decide, size_ok (by decide), fun w hw => ?_⟩⟩
      generalize e_q : upd H1 q _ = H2 at hw ⊢
      have s_q := new_same e_q hq
      generalize e_w : upd H2 w _ = H3
      have s_w := new_same e_w hw
      have h_w : H3 w = some (.lst ([0, 0, 0].map V.int)) := new_at e_w
      have s3 := s1.trans (s_q.trans s_w)
      have s13 := s_q.trans s_w
      have hC3 := hC.same s3
      have hl3 := s3.seq hl
      have hm3 := s3.seq hm
      refine ⟨_, rfl, _, rfl, a, m, ys, ns.map V.int, rfl, .inl ⟨hl3, hm3, ?_⟩⟩
      refine RZ.for_zipL (K := K) (a := a) (b := m) (xs := ys) (ys := ns.map V.int) (by rw [List.length_map]; omega)
        (fun i σ H' => ∃ w v5 v6 v7, σ = [some (.int 3), some (.ref a), some (.int p), some (.ref m), some (.ref w), v5, v6, v7, none, none, none, none] ∧ Same H3 H' ∧ H' w = some (.lst ((weights (cs.take i) (ns.take i)).map V.int))) ?_ ?_ ?_ ?_
      · exact ⟨w, _, _, _, rfl, Same.refl _, h_w⟩
      · rintro i σ H' ⟨w, v5, v6, v7, rfl, s', hw'⟩
        exact ⟨s'.seq hl3, s'.seq hm3⟩
      · rintro i x y T σ H' hx hy ⟨w, v5, v6, v7, rfl, s', hw'⟩ hT
        obtain ⟨d, hd1, hd2⟩ := dpAll_at hcd hx
        have hc : ∃ c, cs[i]? = some c ∧ d = condD c := by
          rw [List.getElem?_map] at hd1
          cases q : cs[i]? with
          | none => rw [q] at hd1; cases hd1
          | some c => rw [q] at hd1; cases hd1; exact ⟨c, rfl, rfl⟩
        obtain ⟨c, hc, rfl⟩ := hc
        have hn : ∃ n, ns[i]? = some n ∧ y = .int n := by
          rw [List.getElem?_map] at hy
          cases q : ns[i]? with
          | none => rw [q] at hy; cases hy
          | some c => rw [q] at hy; cases hy; exact ⟨c, rfl, rfl⟩
        obtain ⟨n, hn, rfl⟩ := hn
        have s_T := same_new hT (o := .tup [x, .int n])
        have h_T := upd_same (H := H') (a := T) (o := .tup [x, .int n])
        generalize upd H' T (.tup [x, .int n]) = H4 at s_T h_T ⊢
        refine ⟨T, _, rfl, .inl (.inl h_T), rfl, _, _, rfl, _, _, rfl, rfl, ?_⟩
        have s4 := s3.trans (s'.trans s_T)
        refine ⟨_, rfl, _, rfl, x, c, rfl, dp_same s4 _ _ hd2, okConds_at hok c (List.mem_of_getElem? hc), fun f H5 s5 hf0 hf => ?_⟩
        have hw5 := s5 _ _ (s_T _ _ hw')
        refine ⟨_, rfl, _, rfl, w, f, _, _, rfl, .inl ⟨SqL.of hw5, SqL.of hf, fun D hD => ?_⟩⟩
        have wl := weights_len (cs.take i) (ns.take i)
        refine lc_w (walk_zip (xs := (weights (cs.take i) (ns.take i)).map V.int) (ys := (facs c).map V.int) rfl) ((weights (cs.take i) (ns.take i)).zip (facs c)) (fun q => some (.int (q.1 + n * q.2)))
          (by rw [List.length_zip, List.length_map, List.length_map]) (by rw [List.length_map, wl]; omega) hD (fun H6 s6 => ⟨s6.seq (SqL.of hw5), s6.seq (SqL.of hf)⟩) ?_ ?_
        · rintro j q x6 H6 H6' R hq s6 ⟨T6, u, v, rfl, hT6, rfl, hu6, hv6⟩ hR
          obtain ⟨g1, g2⟩ := zip_get hq
          have e1 : ((weights (cs.take i) (ns.take i)).map V.int)[j]? = some (.int q.1) := by rw [List.getElem?_map, g1]; rfl
          have e2 : ((facs c).map V.int)[j]? = some (.int q.2) := by rw [List.getElem?_map, g2]; rfl
          cases e1.symm.trans hu6
          cases e2.symm.trans hv6
          refine ⟨T6, _, rfl, .inl (.inl upd_same), rfl, _, _, rfl, _, _, rfl, rfl, rfl, ?_⟩
          have fs := facs_small (List.mem_of_getElem? g2)
          exact ⟨_, rfl, _, rfl, _, rfl, _, _, rfl, rfl, .inr ⟨by omega, by omega⟩, _, _, rfl, rfl, hR _ (same_new hT6)⟩
        · intro H6 s6 hD6
          rw [filterMap_some] at hD6
          refine ⟨D, _, _, _, rfl, s'.trans (s_T.trans (s5.trans s6)), hD6.trans ?_⟩
          rw [weights_step hc hn]
          unfold addW
          rw [← zipW, List.map_map]
          rfl
      · rintro σ H4 ⟨w, v5, v6, v7, rfl, s', hw'⟩
        rw [hyl, List.take_length, ← hnl, List.take_length] at hw'
        have wl := weights_len cs ns
        refine ⟨_, rfl, w, weights cs ns, rfl, SqL.of hw', by omega, fun M hM1 hM2 => ?_⟩
        refine ⟨_, _, rfl, rfl, _, rfl, ?_⟩
        rw [any_max hM1 hM2] at z
        have s4 := s3.trans s'
        by_cases hM : 0 < M
        · have y := z H4 s4
          rw [decide_eq_true hM] at y ⊢
          exact iteT y
        rw [decide_eq_false hM] at z ⊢
        have hl4 := s'.seq hl3
        have hm4 := s'.seq hm3
        refine iteF ⟨_, rfl, _, rfl, a, m, ys, ns.map V.int, rfl, .inl ⟨hl4, hm4, fun D hD => ?_⟩⟩
        refine lc_w (walk_zip (xs := ys) (ys := ns.map V.int) rfl) (cs.zip ns) (fun q => if q.1.left = true then some (.int q.2) else none)
          (by rw [List.length_zip, List.length_map, hyl]) (by rw [List.length_map]; omega) hD (fun H6 s6 => ⟨s6.seq hl4, s6.seq hm4⟩) ?_ ?_
        · rintro j q x6 H6 H6' R hq s6 ⟨T6, u, v, rfl, hT6, rfl, hu6, hv6⟩ hR
          obtain ⟨g1, g2⟩ := zip_get hq
          have e2 : (ns.map V.int)[j]? = some (.int q.2) := by rw [List.getElem?_map, g2]; rfl
          cases e2.symm.trans hv6
          obtain ⟨d, hd1, hd2⟩ := dpAll_at hcd hu6
          rw [List.getElem?_map, g1] at hd1
          cases hd1
          have hd7 := dp_same (s4.trans (s6.trans (same_new hT6 (o := .tup [u, .int q.2])))) _ _ hd2
          obtain ⟨ac, x1, y1, rfl, hac, _, _⟩ := dp_cond hd7
          refine ⟨T6, _, rfl, .inl (.inl upd_same), rfl, _, _, rfl, _, _, rfl, rfl, rfl, ?_⟩
          refine ⟨_, rfl, _, _, _, _, rfl, rfl, hac, rfl, rfl, _, rfl, ?_⟩
          rw [dec_side]
          have hR2 := hR _ (same_new hT6 (o := .tup [.ref ac, .int q.2]))
          cases hL : q.1.left with
          | true => rw [hL] at hR2; exact iteT ⟨_, rfl, hR2⟩
          | false => rw [hL] at hR2; exact iteF hR2
        · intro H6 s6 hD6
          refine ⟨_, rfl, _, rfl, _, _, rfl, rfl, w, _, _, _, rfl, rfl, SqL.of (s6 _ _ hw'), at_ns wl hp, _, _, rfl, rfl, _, rfl, ?_⟩
          have z6 := z H6 (s4.trans s6)
          cases e1 : decide ((weights cs ns).getD (p - 1).toNat 0 < 0) with
          | true => rw [e1] at z6; exact iteT z6
          | false =>
            rw [e1] at z6
            refine iteF ⟨_, rfl, D, leftsOf cs ns, rfl, SqL.of (hD6.trans ?_), _, _, rfl, rfl, z6⟩
            unfold leftsOf
            rw [lefts_map]
    | _ => exact iteT (iteT (k H (Same.refl H)))
theorem sc_is_answer : FnScope ["patterns", "conditions", "pattern", "answer", "word", "told"] ["patterns", "conditions", "pattern", "answer"] (defScope s_is_answer) := ⟨rfl, rfl, rfl, by decide +kernel, rfl, by decide +kernel, by decide +kernel⟩
theorem ok_is_answer {f : Addr} {fd : FuncData} (F : Fun K "is_answer" "is_answer" s_is_answer f fd) (T : Txt K mg)
    (D_is_question : Fn P w K mg base 5 "is_question" ["patterns", "conditions", "pattern"] (spQuest K))
    (D_p_is_solution : Fn P w K mg base 4 "_is_solution" ["patterns", "conditions", "pattern", "counts"] (spSol K))
    (D_p_is_refuted : Fn P w K mg base 3 "_is_refuted" ["patterns", "conditions", "pattern", "multipliers"] (spRef K))
    : FnOk P w K mg base CX0 6 f fd ["patterns", "conditions", "pattern", "answer"] (spAns K) := by
  refine F.ok sc_is_answer (fun vs H Q E h => ?_) (fun cdv A outer s H vs Q E hr h => ?_)
  · obtain ⟨a, cs, p, v, d, rfl, _⟩ := h; rfl
  · obtain ⟨a, cs, p, v, d, rfl, hC, hok, hp, hx, hox, k⟩ := h
    have hu := hu_of hr
    have hu64 := hr.units
    refine ⟨_, (pss_cons (ps_if (pt_not (pt_val (pe_fn D_is_question (hr.mono (by decide)) rfl (pa_cons (pv 0) (pa_cons (pv 1) (pa_cons (pv 2) pa_nil))))))
    (pss_one ps_never)
    pss_nil)
  (pss_cons (ps_if (PW.pt (pw_or (pt_not (pt_val (pe_callB call_isi (by rfl) T.n_isinstance (by decide +kernel) (pa_cons (pv 3) (pa_cons (pe_bltn (v := .ty "tuple") (u := .type "tuple") (by rfl) T.n_tuple (by decide +kernel) rfl) pa_nil))))) (pw_or1 (pt_cmpR op_ne (pe_callB call_len_seq (by rfl) T.n_len PySem.boot_len (pa_cons (pv 3) pa_nil)) pe_int (nomark _)))))
    (pss_one (ps_ret pe_bl))
    pss_nil)
  (pss_cons (ps_asg (pv 3) (pg_tup rfl (pgs_cons (pg_name (i := 4) sc_is_answer.nd rfl (Or.inl rfl)) (pgs_cons (pg_name (i := 5) sc_is_answer.nd rfl (Or.inl rfl)) pgs_nil))))
  (pss_cons (ps_if (pt_cmpR (op_eqD hu64) (pv 4) pe_str (nomark _))
    (pss_one (ps_ret (pe_fn D_p_is_solution (hr.mono (by decide)) rfl (pa_cons (pv 0) (pa_cons (pv 1) (pa_cons (pv 2) (pa_cons (pv 5) pa_nil)))))))
    pss_nil)
  (pss_one (ps_ret (pe_and (pe_cmpR (op_eqD hu64) (pv 4) pe_str (nomark _)) (pe_one (pe_fn D_p_is_refuted (hr.mono (by decide)) rfl (pa_cons (pv 0) (pa_cons (pv 1) (pa_cons (pv 2) (pa_cons (pv 5) pa_nil))))))))))))), ?_⟩
    refine ⟨_, rfl, _, rfl, _, rfl, a, cs, p, rfl, hC, hok, hp, fun H1 s1 => ⟨_, rfl, iteF ?_⟩⟩
    refine rd_isi rfl (.of (dp_same s1 _ _ hx)) (by simp) ⟨_, rfl, ?_⟩
    rw [isD_tuple]
    cases d with
    | tuple ds =>
      obtain ⟨x, xs, rfl, ht, hd⟩ := dp_tup (dp_same s1 _ _ hx)
      have hlen := dpAll_len hd
      refine iteF ⟨_, rfl, _, _, rfl, .inr ht, rfl, _, rfl, ?_⟩
      match xs, ds, hd, hlen with
      | [], [], _, _ => exact iteT (k H1 s1)
      | [_], [_], _, _ => exact iteT (k H1 s1)
      | _ :: _ :: _ :: r, _ :: _ :: _ :: _, _, _ =>
        have e : (!decide (V.int ((r.length + 1 + 1 + 1 : Nat) : Int) = V.int 2)) = true := by
          rw [decide_eq_false]
          · rfl
          · intro z
            injection z with z
            omega
        show (if (!decide (V.int ((r.length + 1 + 1 + 1 : Nat) : Int) = V.int 2)) = true then _ else _)
        rw [e]
        exact iteT (k H1 s1)
      | [wv, tv], [wd, td], .cons h1 (.cons h2 .nil), _ =>
        refine iteF ⟨_, rfl, _, _, rfl, ht, rfl, _, _, rfl, _, _, rfl, rfl, ?_⟩
        have hw := okX_tup hox wd (by simp)
        have ht2 := okX_tup hox td (by simp)
        refine ⟨_, rfl, wd, .str "possible", h1, .str _, okX_shaped hw, (by decide +kernel), _, rfl, ?_⟩
        have hC1 := hC.same s1
        cases wd with
        | str w =>
          cases h1
          rw [eqv_str]
          by_cases e : w = "possible"
          · rw [decide_eq_true e]
            refine iteT ⟨_, rfl, _, rfl, _, rfl, _, rfl, a, cs, p, tv, td, rfl, hC1, hok, hp, h2, ht2, fun H2 s2 => ?_⟩
            have z : Q (.bl (if w = "possible" then mSol cs p td else decide (w = "impossible") && mRef cs p td)) H2 := k H2 (s1.trans s2)
            rw [if_pos e] at z
            exact z
          · have z : ∀ H', Same H H' → Q (.bl (if w = "possible" then mSol cs p td else decide (w = "impossible") && mRef cs p td)) H' := k
            rw [if_neg e] at z
            rw [decide_eq_false e]
            refine iteF ⟨_, rfl, .str w, .str "impossible", .str _, .str _, okX_shaped hw, (by decide +kernel), _, rfl, ?_⟩
            rw [eqv_str]
            by_cases e2 : w = "impossible"
            · rw [decide_eq_true e2] at z ⊢
              exact iteT ⟨_, rfl, _, rfl, _, rfl, _, rfl, a, cs, p, tv, td, rfl, hC1, hok, hp, h2, ht2, fun H2 s2 => z H2 (s1.trans s2)⟩
            · rw [decide_eq_false e2] at z ⊢
              exact iteF (z H1 s1)
        | _ => exact iteF ⟨_, rfl, _, .str "impossible", h1, .str _, okX_shaped hw, (by decide +kernel), _, rfl, iteF (k H1 s1)⟩
    | _ => exact iteT (iteT (k H1 s1))
theorem sc_l_bag : FnScope ["_law_script", "_law_at", "_law_cell", "_law_digits"] ["_law_script", "_law_at"] (defScope s_l_bag) := ⟨rfl, rfl, rfl, by decide +kernel, rfl, by decide +kernel, by decide +kernel⟩
theorem ok_l_bag {f : Addr} {fd : FuncData} (F : Fun K "_law_bag" "_law_bag" s_l_bag f fd) (T : Txt K mg)
    : FnOk P w K mg base CX0 1 f fd ["_law_script", "_law_at"] (spBag2 K) := by
  refine F.ok sc_l_bag (fun vs H Q E h => ?_) (fun cdv A outer s H vs Q E hr h => ?_)
  · obtain ⟨p, ns, i, rfl, _⟩ := h; rfl
  · obtain ⟨p, ns, i, rfl, hS, hi, k⟩ := h
    have hu := hu_of hr
    have hu64 := hr.units
    refine ⟨_, (pss_cons (ps_set (i := 2) sc_l_bag.nd rfl (Or.inl rfl) pe_int)
  (pss_cons (ps_if (pt_cmpR op_lt (pv 1) (pe_callB call_len_seq (by rfl) T.n_len PySem.boot_len (pa_cons (pv 0) pa_nil)) (nomark _))
    (pss_one (ps_set (i := 2) sc_l_bag.nd rfl (Or.inl rfl) (pe_ix ix_list (pv 0) (pv 1) (fun _ _ => rfl))))
    pss_nil)
  (pss_cons (ps_set (i := 3) sc_l_bag.nd rfl (Or.inl rfl) (pe_op op_mul (pe_callB call_abs (by rfl) T.n_abs (by decide +kernel) (pa_cons (pv 2) pa_nil)) (pe_callTy call_int1 (by rfl) T.n_int (by decide +kernel) (pa_cons (pe_cmpR op_ge (pe_callB call_abs (by rfl) T.n_abs (by decide +kernel) (pa_cons (pv 2) pa_nil)) (pe_op op_pow pe_int pe_int) (nomark _)) pa_nil))))
  (pss_one (ps_ret (pe_lst (pa_cons (pv 3) (pa_cons (pe_op op_add (pe_op op_modN (pe_op op_add (pe_op op_add (pe_op op_mul (pe_op op_modN (pv 2) pe_int) pe_int) (pe_op op_mul pe_int (pv 1))) pe_int) pe_int) pe_int) pa_nil)))))))), ?_⟩
    have go : ∀ (x y : Int) a, H a = none → Q (.ref a) (upd H a (.lst [.int x, .int y])) := fun x y a ha => k a _ ha ⟨_, _, upd_same⟩
    refine ⟨_, rfl, _, rfl, _, _, rfl, Or.inl hS, _, _, rfl, rfl, _, rfl, ?_⟩
    rw [List.length_map]
    refine ite2 (fun c => ?_) (fun c => ?_)
    · have hlt : i < ns.length := by simpa using c
      refine ⟨_, rfl, _, rfl, _, _, _, .int (ns[i]), rfl, rfl, hS, at_of rfl (by simp [hlt]), ?_⟩
      refine ⟨_, rfl, _, rfl, _, rfl, _, rfl, _, _, rfl, rfl, ⟨by decide, by decide, by decide⟩, _, _, rfl, rfl, .inr ⟨_, rfl, _, _, rfl, rfl, .inr ⟨by split <;> omega, by split <;> omega⟩, ?_⟩⟩
      exact ⟨_, rfl, _, rfl, _, _, rfl, rfl, (by omega), _, _, rfl, rfl, Or.inr ⟨by decide, by decide⟩, _, rfl, _, _, rfl, rfl, Or.inl ⟨by decide, by decide⟩, _, _, rfl, rfl, _, _, rfl, rfl, _, _, rfl, rfl, (by omega), _, _, rfl, rfl, size_ok (by simp), fun a ha => go _ _ a ha⟩
    · refine ⟨_, rfl, _, rfl, _, rfl, _, rfl, _, _, rfl, rfl, ⟨by decide, by decide, by decide⟩, _, _, rfl, rfl, .inr ⟨_, rfl, _, _, rfl, rfl, .inr ⟨by split <;> omega, by split <;> omega⟩, ?_⟩⟩
      exact ⟨_, rfl, _, rfl, _, _, rfl, rfl, (by omega), _, _, rfl, rfl, Or.inr ⟨by decide, by decide⟩, _, rfl, _, _, rfl, rfl, Or.inl ⟨by decide, by decide⟩, _, _, rfl, rfl, _, _, rfl, rfl, _, _, rfl, rfl, (by omega), _, _, rfl, rfl, size_ok (by simp), fun a ha => go _ _ a ha⟩
theorem sc_l_take : FnScope ["_law_bag_here", "_law_many", "_law_digit"] ["_law_bag_here", "_law_many"] (defScope s_l_take) := ⟨rfl, rfl, rfl, by decide +kernel, rfl, by decide +kernel, by decide +kernel⟩
theorem ok_l_take {f : Addr} {fd : FuncData} (F : Fun K "_law_take" "_law_take" s_l_take f fd) (T : Txt K mg)
    : FnOk P w K mg base CX0 1 f fd ["_law_bag_here", "_law_many"] spTake2 := by
  refine F.ok sc_l_take (fun vs H Q E h => ?_) (fun cdv A outer s H vs Q E hr h => ?_)
  · obtain ⟨a, m, rfl, _⟩ := h; rfl
  · obtain ⟨a, m, rfl, ⟨x, y, hb⟩, m0, m1, k⟩ := h
    have hu := hu_of hr
    have hu64 := hr.units
    refine ⟨_, (pss_cons (ps_if (pt_cmpR op_gt (pe_ix ix_list (pv 0) pe_int (fun _ _ => rfl)) pe_int (nomark _))
    (pss_cons (ps_set (i := 2) sc_l_take.nd rfl (Or.inl rfl) (pe_op op_modN (pe_ix ix_list (pv 0) pe_int (fun _ _ => rfl)) (pv 1)))
      (pss_cons (ps_asg (pe_op op_fdivW (pe_ix ix_list (pv 0) pe_int (fun _ _ => rfl)) (pv 1)) (pg_sub (pv 0) pe_int set_list))
      (pss_one (ps_ret (pv 2)))))
    pss_nil)
  (pss_cons (ps_asg (pe_op op_modN (pe_op op_mul (pe_ix ix_list (pv 0) pe_int (fun _ _ => rfl)) pe_int) pe_int) (pg_sub (pv 0) pe_int set_list))
  (pss_one (ps_ret (pe_op op_modN (pe_op op_fdivW (pe_op op_modN (pe_op op_mul (pe_ix ix_list (pv 0) pe_int (fun _ _ => rfl)) (pe_op op_add (pe_op op_fdivW (pe_ix ix_list (pv 0) pe_int (fun _ _ => rfl)) pe_int) pe_int)) pe_int) pe_int) (pv 1)))))), ?_⟩
    refine ⟨_, rfl, _, _, _, _, rfl, rfl, SqL.of hb, rfl, _, _, rfl, rfl, _, rfl, ite2 (fun c => ?_) (fun c => ?_)⟩
    · refine ⟨_, rfl, _, _, _, _, rfl, rfl, SqL.of hb, rfl, _, rfl, _, _, rfl, rfl, (by omega), ?_⟩
      refine ⟨_, rfl, _, _, _, _, rfl, rfl, SqL.of hb, rfl, _, rfl, _, _, rfl, rfl, ⟨m0, m1⟩, _, rfl, _, _, _, _, rfl, rfl, hb, rfl, ?_⟩
      refine ⟨_, rfl, ?_⟩
      refine k _ _ ?_ ?_ But.upd ⟨_, y, upd_same⟩
      · rw [Int.fmod_eq_emod_of_nonneg _ (by omega)]; exact Int.emod_nonneg _ (by omega)
      · rw [Int.fmod_eq_emod_of_nonneg _ (by omega)]; exact Int.emod_lt_of_pos _ (by omega)
    · refine ⟨_, rfl, _, _, _, _, rfl, rfl, SqL.of hb, rfl, _, _, rfl, rfl, Or.inr ⟨by decide, by decide⟩, _, _, rfl, rfl, (by omega), _, rfl, _, _, _, _, rfl, rfl, hb, rfl, ?_⟩
      dsimp only
      generalize hg : Int.fmod _ 2147483647 = my
      have b1 : 0 ≤ my ∧ my < 2147483647 := by
        rw [← hg, Int.fmod_eq_emod_of_nonneg _ (by decide)]
        exact ⟨Int.emod_nonneg _ (by decide), Int.emod_lt_of_pos _ (by decide)⟩
      have hb2 := upd_same (H := H) (a := a) (o := .lst ([V.int x, V.int y].set 1 (.int my)))
      have hb3 : upd H a (.lst ([V.int x, V.int y].set 1 (.int my))) a = some (.lst [.int x, .int my]) := hb2
      refine ⟨_, rfl, _, _, _, _, rfl, rfl, SqL.of hb3, rfl, _, rfl, _, _, _, _, rfl, rfl, SqL.of hb3, rfl, _, _, rfl, rfl, ⟨by decide, by decide +kernel⟩, _, _, rfl, rfl, _, _, rfl, rfl, Or.inl ⟨by omega, by omega⟩, _, _, rfl, rfl, (by omega), _, _, rfl, rfl, ⟨by decide, by decide +kernel⟩, _, rfl, _, _, rfl, rfl, (by omega), ?_⟩
      refine k _ _ ?_ ?_ But.upd ⟨x, my, hb3⟩
      · rw [Int.fmod_eq_emod_of_nonneg _ (by omega)]; exact Int.emod_nonneg _ (by omega)
      · rw [Int.fmod_eq_emod_of_nonneg _ (by omega)]; exact Int.emod_lt_of_pos _ (by omega)
theorem sc_l_of : FnScope ["_law_some", "_law_shape", "_law_word", "_law_things", "_law_thing"] ["_law_some", "_law_shape", "_law_word", "_law_things"] (defScope s_l_of) := ⟨rfl, rfl, rfl, by decide +kernel, rfl, by decide +kernel, by decide +kernel⟩
theorem ok_l_of {f : Addr} {fd : FuncData} (F : Fun K "_law_of" "_law_of" s_l_of f fd) (T : Txt K mg)
    (D_is_answer : Fn P w K mg base 6 "is_answer" ["patterns", "conditions", "pattern", "answer"] (spAns K))
    : FnOk P w K mg base CX0 7 f fd ["_law_some", "_law_shape", "_law_word", "_law_things"] (spOf K) := by
  refine F.ok sc_l_of (fun vs H Q E h => ?_) (fun cdv A outer s H vs Q E hr h => ?_)
  · obtain ⟨a, cs, p, w, b, ds, rfl, _⟩ := h; rfl
  · obtain ⟨a, cs, p, w, b, ds, rfl, hC, hok, hp, hL, hlen, hds, k⟩ := h
    have hu := hu_of hr
    have hu64 := hr.units
    refine ⟨_, (pss_one (ps_ret (pe_lc (own := [("_law_thing", 4)]) (g := gName 4) (tt := tYes) rfl sc_l_of.nd (pi_list (pv 3)) (blkOk_by (own := [("_law_thing", 4)]) (N := ["_law_some", "_law_shape", "_law_word", "_law_things", "_law_thing"]) (sc := defScope s_l_of) (by decide +kernel)) (fun _ _ _ _ _ => (pg_name (i := 4) sc_l_of.nd rfl (Or.inl rfl))) (fun _ _ _ _ _ => pts_nil) (fun _ _ _ _ _ => (pe_fn D_is_answer (hr.mono (by decide)) rfl (pa_cons pe_int (pa_cons (pv 0) (pa_cons (pv 1) (pa_cons (pe_tup (pa_cons (pv 2) (pa_cons (pv 4) pa_nil))) pa_nil))))))))), ?_⟩
    have hL0 := hL
    obtain ⟨vs, hb, hd⟩ := hL0
    have hvl := dpAll_len hd
    refine ⟨_, rfl, b, rfl, ⟨_, SqL.of hb⟩, fun D hD => ?_⟩
    refine lc_w (walk_list (xs := vs)) ds (fun d => some (.bl (mAns cs p (.tuple [.str w, d])))) hvl.symm (by omega) hD (fun H3 s3 => s3.seq (SqL.of hb)) ?_ ?_
    · rintro i d x H3 H' R hdi s3 ⟨rfl, hx⟩ hR
      obtain ⟨d2, e1, e2⟩ := dpAll_at hd hx
      cases hdi.symm.trans e1
      refine ⟨rfl, _, rfl, _, rfl, _, rfl, _, rfl, size_ok (by simp), fun q hq => ?_⟩
      have s_q := same_new hq (o := .tup [.str w, x])
      exact ⟨a, cs, p, _, _, rfl, hC.same (s3.trans s_q), hok, hp, .tup (.inl (.inl upd_same)) (.cons (.str w) (.cons (dp_same (s3.trans s_q) _ _ e2) .nil)), List.all_eq_true.mp hds d (List.mem_of_getElem? hdi), fun H5 s5 => hR H5 (s_q.trans s5)⟩
    · intro H3 s3 hD3
      rw [filterMap_some] at hD3
      exact k D H3 s3 (by rw [List.map_map]; exact hD3)
theorem sc_l_possible_right : FnScope ["_law_some", "_law_good", "_law_bad"] [] (defScope s_l_possible_right) := ⟨rfl, rfl, rfl, by decide +kernel, rfl, by decide +kernel, by decide +kernel⟩
theorem ok_l_possible_right {f : Addr} {fd : FuncData} (F : Fun K "_law_possible_right" "_law_possible_right" s_l_possible_right f fd) (T : Txt K mg)
    (D_l_of : Fn P w K mg base 7 "_law_of" ["_law_some", "_law_shape", "_law_word", "_law_things"] (spOf K))
    : FnOk P w K mg base CX0 8 f fd [] spTrue0 := by
  refine F.ok sc_l_possible_right (fun vs H Q E h => ?_) (fun cdv A outer s H vs Q E hr h => ?_)
  · obtain ⟨rfl, _⟩ := h; rfl
  · obtain ⟨rfl, k⟩ := h
    have hu := hu_of hr
    have hu64 := hr.units
    refine ⟨_, (pss_cons (ps_set (i := 0) sc_l_possible_right.nd rfl (Or.inl rfl) (pe_lst (pa_cons (pe_tup (pa_cons (pe_tup (pa_cons pe_int pa_nil)) (pa_cons (pe_tup (pa_cons pe_int pa_nil)) (pa_cons pe_str pa_nil)))) (pa_cons (pe_tup (pa_cons (pe_tup (pa_cons pe_int pa_nil)) (pa_cons (pe_tup (pa_cons pe_int pa_nil)) (pa_cons pe_str pa_nil)))) pa_nil))))
  (pss_cons (ps_set (i := 1) sc_l_possible_right.nd rfl (Or.inl rfl) (pe_lst (pa_cons (pe_tup (pa_cons pe_int (pa_cons pe_int (pa_cons pe_int pa_nil)))) (pa_cons (pe_tup (pa_cons pe_int (pa_cons pe_int (pa_cons pe_int pa_nil)))) (pa_cons (pe_tup (pa_cons pe_int (pa_cons pe_int (pa_cons pe_int pa_nil)))) (pa_cons (pe_tup (pa_cons (pe_op op_pow pe_int pe_int) (pa_cons (pe_op op_add (pe_op op_pow pe_int pe_int) pe_int) (pa_cons pe_int pa_nil)))) (pa_cons (pe_tup (pa_cons pe_int (pa_cons pe_int (pa_cons pe_int pa_nil)))) pa_nil)))))))
  (pss_cons (ps_set (i := 2) sc_l_possible_right.nd rfl (Or.inl rfl) (pe_lst (pa_cons (pe_tup (pa_cons pe_int (pa_cons pe_int (pa_cons pe_int pa_nil)))) (pa_cons (pe_tup (pa_cons pe_int (pa_cons pe_int (pa_cons pe_int pa_nil)))) (pa_cons (pe_tup (pa_cons pe_int (pa_cons pe_int (pa_cons pe_int pa_nil)))) (pa_cons (pe_tup (pa_cons pe_int (pa_cons pe_int (pa_cons pe_int pa_nil)))) (pa_cons (pe_lst (pa_cons pe_int (pa_cons pe_int (pa_cons pe_int pa_nil)))) (pa_cons (pe_tup (pa_cons pe_int (pa_cons pe_int pa_nil))) (pa_cons (pe_tup (pa_cons pe_int (pa_cons pe_int (pa_cons pe_int (pa_cons pe_int pa_nil))))) (pa_cons (pe_tup (pa_cons pe_int (pa_cons pe_bl (pa_cons pe_int pa_nil)))) (pa_cons (pe_tup (pa_cons pe_bl (pa_cons pe_int (pa_cons pe_int pa_nil)))) pa_nil)))))))))))
  (pss_cons (ps_set (i := 2) sc_l_possible_right.nd rfl (Or.inl rfl) (pe_op op_cat (pv 2) (pe_lst (pa_cons (pe_tup (pa_cons (pe_un un_neg pe_int) (pa_cons pe_int (pa_cons pe_int pa_nil)))) (pa_cons pe_non (pa_cons (pe_tup pa_nil) (pa_cons (pe_tup (pa_cons pe_str (pa_cons pe_int (pa_cons pe_int pa_nil)))) (pa_cons (pe_tup (pa_cons pe_int (pa_cons pe_int (pa_cons pe_non pa_nil)))) pa_nil))))))))
  (pss_one (ps_ret (pe_and (pe_cmpR (op_eqD hu64) (pe_fn D_l_of (hr.mono (by decide)) rfl (pa_cons (pv 0) (pa_cons pe_int (pa_cons pe_str (pa_cons (pv 1) pa_nil))))) (pe_op op_rep (pe_lst (pa_cons pe_bl pa_nil)) pe_int) (nomark _)) (pe_one (pe_cmpR op_notIn_seq pe_bl (pe_fn D_l_of (hr.mono (by decide)) rfl (pa_cons (pv 0) (pa_cons pe_int (pa_cons pe_str (pa_cons (pv 2) pa_nil))))) (by rfl)))))))))), ?_⟩
    refine seq_lit (K := K) (lit_cons (lit_tup (lit_cons (lit_tup (lit_cons (lit_int 1) lit_nil) (by simp)) (lit_cons (lit_tup (lit_cons (lit_int 2) lit_nil) (by simp)) (lit_cons (lit_str "left") lit_nil))) (by simp)) (lit_cons (lit_tup (lit_cons (lit_tup (lit_cons (lit_int 2) lit_nil) (by simp)) (lit_cons (lit_tup (lit_cons (lit_int 3) lit_nil) (by simp)) (lit_cons (lit_str "right") lit_nil))) (by simp)) lit_nil)) (by simp) fun a1 H1 s1 n1 h1 => ?_
    refine seq_lit (K := K) (lit_cons (lit_tup (lit_cons (lit_int 0) (lit_cons (lit_int 1) (lit_cons (lit_int 1) lit_nil))) (by simp)) (lit_cons (lit_tup (lit_cons (lit_int 1) (lit_cons (lit_int 2) (lit_cons (lit_int 2) lit_nil))) (by simp)) (lit_cons (lit_tup (lit_cons (lit_int 0) (lit_cons (lit_int 1) (lit_cons (lit_int 1) lit_nil))) (by simp)) (lit_cons (lit_tup (lit_cons (lit_pow ⟨by decide, by decide, by decide⟩) (lit_cons (lit_powadd ⟨by decide, by decide, by decide⟩) (lit_cons (lit_int 1) lit_nil))) (by simp)) (lit_cons (lit_tup (lit_cons (lit_int 0) (lit_cons (lit_int 5) (lit_cons (lit_int 5) lit_nil))) (by simp)) lit_nil))))) (by simp) fun a2 H2 s2 n2 h2 => ?_
    refine seq_lit (K := K) (lit_cons (lit_tup (lit_cons (lit_int 0) (lit_cons (lit_int 1) (lit_cons (lit_int 0) lit_nil))) (by simp)) (lit_cons (lit_tup (lit_cons (lit_int 1) (lit_cons (lit_int 1) (lit_cons (lit_int 1) lit_nil))) (by simp)) (lit_cons (lit_tup (lit_cons (lit_int 0) (lit_cons (lit_int 0) (lit_cons (lit_int 1) lit_nil))) (by simp)) (lit_cons (lit_tup (lit_cons (lit_int 0) (lit_cons (lit_int 1) (lit_cons (lit_int 2) lit_nil))) (by simp)) (lit_cons (lit_lst (lit_cons (lit_int 0) (lit_cons (lit_int 1) (lit_cons (lit_int 1) lit_nil))) (by simp)) (lit_cons (lit_tup (lit_cons (lit_int 0) (lit_cons (lit_int 1) lit_nil)) (by simp)) (lit_cons (lit_tup (lit_cons (lit_int 0) (lit_cons (lit_int 1) (lit_cons (lit_int 1) (lit_cons (lit_int 0) lit_nil)))) (by simp)) (lit_cons (lit_tup (lit_cons (lit_int 0) (lit_cons (lit_bl true) (lit_cons (lit_int 1) lit_nil))) (by simp)) (lit_cons (lit_tup (lit_cons (lit_bl false) (lit_cons (lit_int 1) (lit_cons (lit_int 1) lit_nil))) (by simp)) lit_nil))))))))) (by simp) fun a3 H3 s3 n3 h3 => ?_
    refine seq_cat (K := K) rfl h3 (lit_cons (lit_tup (lit_cons (lit_neg _) (lit_cons (lit_int 1) (lit_cons (lit_int 1) lit_nil))) (by simp)) (lit_cons lit_non (lit_cons (lit_tup lit_nil (by simp)) (lit_cons (lit_tup (lit_cons (lit_str "0") (lit_cons (lit_int 1) (lit_cons (lit_int 1) lit_nil))) (by simp)) (lit_cons (lit_tup (lit_cons (lit_int 0) (lit_cons (lit_int 1) (lit_cons lit_non lit_nil))) (by simp)) lit_nil))))) (by simp) fun a5 H5 s5 n5 h5 => ?_
    have hC : LsD K H1 a1 (cP.map condD) := h1
    have hC5 := lsd_con (hC.same (s2.trans (s3.trans s5)))
    have h25 := h2.same (s3.trans s5)
    refine ⟨_, rfl, _, rfl, a1, cP, 3, "possible", a2, _, rfl, hC5, (by decide +kernel), (by decide +kernel), h25, (by simp), (by decide +kernel), fun r H6 s6 h6 => ?_⟩
    refine ⟨size_ok (by simp), fun q hq => ⟨q, 5, _, rfl, rfl, upd_same, by decide, by decide, size_ok (by decide), fun p2 hp2 => ?_⟩⟩
    generalize e_q : upd H6 q _ = H7 at hp2 ⊢
    have s_q := new_same e_q hq
    generalize e_p2 : upd H7 p2 _ = H8
    have s_p2 := new_same e_p2 hp2
    have h_p2 := new_at e_p2
    have h8 := s_p2 _ _ (s_q _ _ h6)
    refine ⟨_, .list [.bool true, .bool true, .bool true, .bool true, .bool true], .lst (SqL.of h8) (dpAll_bools _), .lst (SqL.of h_p2) (dpAll_bools [true, true, true, true, true]), (by decide +kernel), (by decide +kernel), true, congrArg V.bl (by decide +kernel), iteT ?_⟩
    have s68 := s6.trans (s_q.trans s_p2)
    refine ⟨_, rfl, _, rfl, a1, cP, 3, "possible", a5, _, rfl, (hC5.same s68), (by decide +kernel), (by decide +kernel), h5.same s68, (by simp), (by decide +kernel), fun r2 H9 s9 h9 => ?_⟩
    refine ⟨r2, _, rfl, .inl (SqL.of h9), rfl, flat_bools _, ?_⟩
    exact q_true (by decide +kernel) <| k _ (s1.trans (s2.trans (s3.trans (s5.trans (s68.trans s9)))))
theorem sc_l_strict_right : FnScope ["_law_many", "_law_some", "_law_good", "_law_bad"] ["_law_many"] (defScope s_l_strict_right) := ⟨rfl, rfl, rfl, by decide +kernel, rfl, by decide +kernel, by decide +kernel⟩
theorem ok_l_strict_right {f : Addr} {fd : FuncData} (F : Fun K "_law_strict_right" "_law_strict_right" s_l_strict_right f fd) (T : Txt K mg)
    (D_l_of : Fn P w K mg base 7 "_law_of" ["_law_some", "_law_shape", "_law_word", "_law_things"] (spOf K))
    : FnOk P w K mg base CX0 8 f fd ["_law_many"] spTrue1 := by
  refine F.ok sc_l_strict_right (fun vs H Q E h => ?_) (fun cdv A outer s H vs Q E hr h => ?_)
  · obtain ⟨m, rfl, _⟩ := h; rfl
  · obtain ⟨m, rfl, hm, k⟩ := h
    have hu := hu_of hr
    have hu64 := hr.units
    refine ⟨_, (pss_cons (ps_set (i := 1) sc_l_strict_right.nd rfl (Or.inl rfl) (pe_lst (pa_cons (pe_tup (pa_cons (pe_tup (pa_cons pe_int pa_nil)) (pa_cons (pe_tup (pa_cons pe_int pa_nil)) (pa_cons pe_str pa_nil)))) (pa_cons (pe_tup (pa_cons (pe_tup (pa_cons pe_int pa_nil)) (pa_cons (pe_tup (pa_cons pe_int (pa_cons pe_int pa_nil))) (pa_cons pe_str pa_nil)))) (pa_cons (pe_tup (pa_cons (pe_tup pa_nil) (pa_cons (pe_tup (pa_cons pe_int pa_nil)) (pa_cons pe_str pa_nil)))) pa_nil)))))
  (pss_cons (ps_set (i := 2) sc_l_strict_right.nd rfl (Or.inl rfl) (pe_lst (pa_cons (pe_lst (pa_cons (pv 0) (pa_cons (pv 0) (pa_cons (pv 0) pa_nil)))) (pa_cons (pe_lst (pa_cons pe_int (pa_cons pe_int (pa_cons pe_int pa_nil)))) (pa_cons (pe_lst (pa_cons pe_int (pa_cons pe_int (pa_cons pe_int pa_nil)))) (pa_cons (pe_lst (pa_cons pe_int (pa_cons pe_int (pa_cons pe_int pa_nil)))) pa_nil))))))
  (pss_cons (ps_set (i := 3) sc_l_strict_right.nd rfl (Or.inl rfl) (pe_lst (pa_cons (pe_lst (pa_cons pe_int (pa_cons pe_int (pa_cons pe_int pa_nil)))) (pa_cons (pe_lst (pa_cons pe_int (pa_cons pe_int (pa_cons pe_int pa_nil)))) (pa_cons (pe_lst (pa_cons pe_int (pa_cons pe_int (pa_cons pe_int pa_nil)))) (pa_cons (pe_lst (pa_cons pe_int (pa_cons pe_int (pa_cons pe_int pa_nil)))) (pa_cons (pe_lst (pa_cons pe_int (pa_cons pe_int (pa_cons pe_int pa_nil)))) (pa_cons (pe_tup (pa_cons pe_int (pa_cons pe_int (pa_cons pe_int pa_nil)))) (pa_cons (pe_lst (pa_cons pe_int (pa_cons pe_int pa_nil))) (pa_cons (pe_lst (pa_cons pe_int (pa_cons pe_int (pa_cons pe_int (pa_cons pe_int pa_nil))))) (pa_cons (pe_lst (pa_cons pe_bl (pa_cons pe_int (pa_cons pe_int pa_nil)))) pa_nil)))))))))))
  (pss_cons (ps_set (i := 3) sc_l_strict_right.nd rfl (Or.inl rfl) (pe_op op_cat (pv 3) (pe_lst (pa_cons (pe_lst (pa_cons pe_int (pa_cons pe_int (pa_cons (pe_un un_neg pe_int) pa_nil)))) (pa_cons (pe_lst (pa_cons pe_int (pa_cons pe_int (pa_cons pe_str pa_nil)))) (pa_cons pe_non (pa_cons (pe_lst (pa_cons (pe_lst (pa_cons pe_int (pa_cons pe_int (pa_cons pe_int pa_nil)))) pa_nil)) (pa_cons (pe_lst (pa_cons pe_int (pa_cons pe_int (pa_cons pe_non pa_nil)))) pa_nil))))))))
  (pss_one (ps_ret (pe_and (pe_cmpR (op_eqD hu64) (pe_fn D_l_of (hr.mono (by decide)) rfl (pa_cons (pv 1) (pa_cons pe_int (pa_cons pe_str (pa_cons (pv 2) pa_nil))))) (pe_op op_rep (pe_lst (pa_cons pe_bl pa_nil)) pe_int) (nomark _)) (pe_one (pe_cmpR op_notIn_seq pe_bl (pe_fn D_l_of (hr.mono (by decide)) rfl (pa_cons (pv 1) (pa_cons pe_int (pa_cons pe_str (pa_cons (pv 3) pa_nil))))) (by rfl)))))))))), ?_⟩
    refine seq_lit (K := K) (lit_cons (lit_tup (lit_cons (lit_tup (lit_cons (lit_int 1) lit_nil) (by simp)) (lit_cons (lit_tup (lit_cons (lit_int 2) lit_nil) (by simp)) (lit_cons (lit_str "left") lit_nil))) (by simp)) (lit_cons (lit_tup (lit_cons (lit_tup (lit_cons (lit_int 2) lit_nil) (by simp)) (lit_cons (lit_tup (lit_cons (lit_int 1) (lit_cons (lit_int 3) lit_nil)) (by simp)) (lit_cons (lit_str "left") lit_nil))) (by simp)) (lit_cons (lit_tup (lit_cons (lit_tup lit_nil (by simp)) (lit_cons (lit_tup (lit_cons (lit_int 3) lit_nil) (by simp)) (lit_cons (lit_str "right") lit_nil))) (by simp)) lit_nil))) (by simp) fun a1 H1 s1 n1 h1 => ?_
    refine seq_lit (K := K) (ds := [(.list [(.int m), (.int m), (.int m)]), (.list [(.int 1), (.int 1), (.int 1)]), (.list [(.int 2), (.int 2), (.int 2)]), (.list [(.int 1), (.int 1), (.int 2)])]) (lit_cons (lit_lst (lit_cons (lit_var rfl fun _ => .int _) (lit_cons (lit_var rfl fun _ => .int _) (lit_cons (lit_var rfl fun _ => .int _) lit_nil))) (by simp)) (lit_cons (lit_lst (lit_cons (lit_int 1) (lit_cons (lit_int 1) (lit_cons (lit_int 1) lit_nil))) (by simp)) (lit_cons (lit_lst (lit_cons (lit_int 2) (lit_cons (lit_int 2) (lit_cons (lit_int 2) lit_nil))) (by simp)) (lit_cons (lit_lst (lit_cons (lit_int 1) (lit_cons (lit_int 1) (lit_cons (lit_int 2) lit_nil))) (by simp)) lit_nil)))) (by simp) fun a2 H2 s2 n2 h2 => ?_
    refine seq_lit (K := K) (lit_cons (lit_lst (lit_cons (lit_int 0) (lit_cons (lit_int 0) (lit_cons (lit_int 0) lit_nil))) (by simp)) (lit_cons (lit_lst (lit_cons (lit_int 1) (lit_cons (lit_int 0) (lit_cons (lit_int 0) lit_nil))) (by simp)) (lit_cons (lit_lst (lit_cons (lit_int 0) (lit_cons (lit_int 1) (lit_cons (lit_int 0) lit_nil))) (by simp)) (lit_cons (lit_lst (lit_cons (lit_int 1) (lit_cons (lit_int 1) (lit_cons (lit_int 0) lit_nil))) (by simp)) (lit_cons (lit_lst (lit_cons (lit_int 2) (lit_cons (lit_int 1) (lit_cons (lit_int 1) lit_nil))) (by simp)) (lit_cons (lit_tup (lit_cons (lit_int 1) (lit_cons (lit_int 1) (lit_cons (lit_int 1) lit_nil))) (by simp)) (lit_cons (lit_lst (lit_cons (lit_int 1) (lit_cons (lit_int 1) lit_nil)) (by simp)) (lit_cons (lit_lst (lit_cons (lit_int 1) (lit_cons (lit_int 1) (lit_cons (lit_int 1) (lit_cons (lit_int 0) lit_nil)))) (by simp)) (lit_cons (lit_lst (lit_cons (lit_bl true) (lit_cons (lit_int 1) (lit_cons (lit_int 1) lit_nil))) (by simp)) lit_nil))))))))) (by simp) fun a3 H3 s3 n3 h3 => ?_
    refine seq_cat (K := K) rfl h3 (lit_cons (lit_lst (lit_cons (lit_int 1) (lit_cons (lit_int 1) (lit_cons (lit_neg _) lit_nil))) (by simp)) (lit_cons (lit_lst (lit_cons (lit_int 1) (lit_cons (lit_int 1) (lit_cons (lit_str "1") lit_nil))) (by simp)) (lit_cons lit_non (lit_cons (lit_lst (lit_cons (lit_lst (lit_cons (lit_int 1) (lit_cons (lit_int 1) (lit_cons (lit_int 1) lit_nil))) (by simp)) lit_nil) (by simp)) (lit_cons (lit_lst (lit_cons (lit_int 1) (lit_cons (lit_int 1) (lit_cons lit_non lit_nil))) (by simp)) lit_nil))))) (by simp) fun a5 H5 s5 n5 h5 => ?_
    have hC : LsD K H1 a1 (cS.map condD) := h1
    have hC5 := lsd_con (hC.same (s2.trans (s3.trans s5)))
    have h25 := h2.same (s3.trans s5)
    refine ⟨_, rfl, _, rfl, a1, cS, 1, "impossible", a2, _, rfl, hC5, (by decide +kernel), (by decide +kernel), h25, (by simp), ok_all [[m, m, m], [1, 1, 1], [2, 2, 2], [1, 1, 2]], fun r H6 s6 h6 => ?_⟩
    rw [good_s hm] at h6
    refine ⟨size_ok (by simp), fun q hq => ⟨q, 4, _, rfl, rfl, upd_same, by decide, by decide, size_ok (by decide), fun p2 hp2 => ?_⟩⟩
    generalize e_q : upd H6 q _ = H7 at hp2 ⊢
    have s_q := new_same e_q hq
    generalize e_p2 : upd H7 p2 _ = H8
    have s_p2 := new_same e_p2 hp2
    have h_p2 := new_at e_p2
    have h8 := s_p2 _ _ (s_q _ _ h6)
    refine ⟨_, .list [.bool true, .bool true, .bool true, .bool true], .lst (SqL.of h8) (dpAll_bools _), .lst (SqL.of h_p2) (dpAll_bools [true, true, true, true]), (by decide +kernel), (by decide +kernel), true, congrArg V.bl (by decide +kernel), iteT ?_⟩
    have s68 := s6.trans (s_q.trans s_p2)
    refine ⟨_, rfl, _, rfl, a1, cS, 1, "impossible", a5, _, rfl, (hC5.same s68), (by decide +kernel), (by decide +kernel), h5.same s68, (by simp), (by decide +kernel), fun r2 H9 s9 h9 => ?_⟩
    refine ⟨r2, _, rfl, .inl (SqL.of h9), rfl, flat_bools _, ?_⟩
    exact q_true (by decide +kernel) <| k _ (s1.trans (s2.trans (s3.trans (s5.trans (s68.trans s9)))))
theorem sc_l_weak_right : FnScope ["_law_many", "_law_some"] ["_law_many"] (defScope s_l_weak_right) := ⟨rfl, rfl, rfl, by decide +kernel, rfl, by decide +kernel, by decide +kernel⟩
theorem ok_l_weak_right {f : Addr} {fd : FuncData} (F : Fun K "_law_weak_right" "_law_weak_right" s_l_weak_right f fd) (T : Txt K mg)
    (D_l_of : Fn P w K mg base 7 "_law_of" ["_law_some", "_law_shape", "_law_word", "_law_things"] (spOf K))
    : FnOk P w K mg base CX0 8 f fd ["_law_many"] spTrue1 := by
  refine F.ok sc_l_weak_right (fun vs H Q E h => ?_) (fun cdv A outer s H vs Q E hr h => ?_)
  · obtain ⟨m, rfl, _⟩ := h; rfl
  · obtain ⟨m, rfl, hm, k⟩ := h
    have hu := hu_of hr
    have hu64 := hr.units
    refine ⟨_, (pss_cons (ps_set (i := 1) sc_l_weak_right.nd rfl (Or.inl rfl) (pe_lst (pa_cons (pe_tup (pa_cons (pe_tup (pa_cons pe_int pa_nil)) (pa_cons (pe_tup (pa_cons pe_int (pa_cons pe_int pa_nil))) (pa_cons pe_str pa_nil)))) (pa_cons (pe_tup (pa_cons (pe_tup (pa_cons pe_int pa_nil)) (pa_cons (pe_tup (pa_cons pe_int (pa_cons pe_int pa_nil))) (pa_cons pe_str pa_nil)))) pa_nil))))
  (pss_cons (ps_if (pt_cmpR (op_neD hu64) (pe_fn D_l_of (hr.mono (by decide)) rfl (pa_cons (pv 1) (pa_cons pe_int (pa_cons pe_str (pa_cons (pe_lst (pa_cons (pe_lst (pa_cons (pv 0) (pa_cons pe_int pa_nil))) (pa_cons (pe_lst (pa_cons pe_int (pa_cons pe_int pa_nil))) (pa_cons (pe_lst (pa_cons pe_int (pa_cons pe_int pa_nil))) (pa_cons (pe_lst (pa_cons pe_int (pa_cons pe_int pa_nil))) pa_nil))))) pa_nil))))) (pe_lst (pa_cons pe_bl (pa_cons pe_bl (pa_cons pe_bl (pa_cons pe_bl pa_nil))))) (nomark _))
    (pss_one (ps_ret pe_bl))
    pss_nil)
  (pss_one (ps_ret (pe_cmpR (op_eqD hu64) (pe_fn D_l_of (hr.mono (by decide)) rfl (pa_cons (pv 1) (pa_cons pe_int (pa_cons pe_str (pa_cons (pe_lst (pa_cons (pe_lst (pa_cons (pv 0) (pa_cons pe_int pa_nil))) (pa_cons (pe_lst (pa_cons pe_int (pa_cons pe_int pa_nil))) (pa_cons (pe_lst (pa_cons pe_int (pa_cons pe_int pa_nil))) (pa_cons (pe_lst (pa_cons pe_int (pa_cons pe_int pa_nil))) pa_nil))))) pa_nil))))) (pe_lst (pa_cons pe_bl (pa_cons pe_bl (pa_cons pe_bl (pa_cons pe_bl pa_nil))))) (nomark _)))))), ?_⟩
    refine seq_lit (K := K) (lit_cons (lit_tup (lit_cons (lit_tup (lit_cons (lit_int 1) lit_nil) (by simp)) (lit_cons (lit_tup (lit_cons (lit_int 1) (lit_cons (lit_int 2) lit_nil)) (by simp)) (lit_cons (lit_str "right") lit_nil))) (by simp)) (lit_cons (lit_tup (lit_cons (lit_tup (lit_cons (lit_int 3) lit_nil) (by simp)) (lit_cons (lit_tup (lit_cons (lit_int 1) (lit_cons (lit_int 3) lit_nil)) (by simp)) (lit_cons (lit_str "right") lit_nil))) (by simp)) lit_nil)) (by simp) fun a1 H1 s1 n1 h1 => ?_
    have hC : LsD K H1 a1 (cW.map condD) := h1
    have hC1 := lsd_con hC
    refine ⟨_, rfl, ?_⟩
    refine args3 (K := K) (ds := [(.list [(.int m), (.int 0)]), (.list [(.int 1), (.int 1)]), (.list [(.int 0), (.int 1)]), (.list [(.int 0), (.int 0)])]) (lit_cons (lit_lst (lit_cons (lit_var rfl fun _ => .int _) (lit_cons (lit_int 0) lit_nil)) (by simp)) (lit_cons (lit_lst (lit_cons (lit_int 1) (lit_cons (lit_int 1) lit_nil)) (by simp)) (lit_cons (lit_lst (lit_cons (lit_int 0) (lit_cons (lit_int 1) lit_nil)) (by simp)) (lit_cons (lit_lst (lit_cons (lit_int 0) (lit_cons (lit_int 0) lit_nil)) (by simp)) lit_nil)))) (by simp) fun a2 H2 s2 n2 h2 => ?_
    refine ⟨a1, cW, 2, "impossible", a2, _, rfl, hC1.same s2, (by decide +kernel), (by decide +kernel), h2, (by simp), ok_all [[m, 0], [1, 1], [0, 1], [0, 0]], fun r H3 s3 h3 => ?_⟩
    rw [weak_2 hm] at h3
    refine ⟨size_ok (by simp), fun q hq => ?_⟩
    generalize e_q : upd H3 q _ = H4
    have s_q := new_same e_q hq
    have h_q := new_at e_q
    have h4 := s_q _ _ h3
    refine ⟨_, .list [.bool true, .bool true, .bool false, .bool false], .lst (SqL.of h4) (dpAll_bools _), .lst (SqL.of h_q) (dpAll_bools [true, true, false, false]), (by decide +kernel), (by decide +kernel), false, congrArg V.bl (by decide +kernel), iteF ?_⟩
    have s14 := s2.trans (s3.trans s_q)
    refine ⟨_, rfl, ?_⟩
    refine args3 (K := K) (ds := [(.list [(.int m), (.int 0)]), (.list [(.int 1), (.int 1)]), (.list [(.int 0), (.int 1)]), (.list [(.int 0), (.int 0)])]) (lit_cons (lit_lst (lit_cons (lit_var rfl fun _ => .int _) (lit_cons (lit_int 0) lit_nil)) (by simp)) (lit_cons (lit_lst (lit_cons (lit_int 1) (lit_cons (lit_int 1) lit_nil)) (by simp)) (lit_cons (lit_lst (lit_cons (lit_int 0) (lit_cons (lit_int 1) lit_nil)) (by simp)) (lit_cons (lit_lst (lit_cons (lit_int 0) (lit_cons (lit_int 0) lit_nil)) (by simp)) lit_nil)))) (by simp) fun a5 H5 s5 n5 h5 => ?_
    refine ⟨a1, cW, 1, "impossible", a5, _, rfl, hC1.same (s14.trans s5), (by decide +kernel), (by decide +kernel), h5, (by simp), ok_all [[m, 0], [1, 1], [0, 1], [0, 0]], fun r H6 s6 h6 => ?_⟩
    rw [weak_1 hm] at h6
    refine ⟨size_ok (by simp), fun t ht => ?_⟩
    generalize e_t : upd H6 t _ = H7
    have s_t := new_same e_t ht
    have h_t := new_at e_t
    have h7 := s_t _ _ h6
    refine ⟨_, .list [.bool false, .bool true, .bool true, .bool false], .lst (SqL.of h7) (dpAll_bools _), .lst (SqL.of h_t) (dpAll_bools [false, true, true, false]), (by decide +kernel), (by decide +kernel), ?_⟩
    exact q_true (by decide +kernel) <| k _ (s1.trans (s14.trans (s5.trans (s6.trans s_t))))
theorem sc_law : FnScope ["_law_script", "_law_at", "_law_many", "_law_some", "_law_odd", "_law_thing"] ["_law_script"] (defScope s_law) := ⟨rfl, rfl, rfl, by decide +kernel, rfl, by decide +kernel, by decide +kernel⟩
theorem ok_law {f : Addr} {fd : FuncData} (F : Fun K "law" "law" s_law f fd) (T : Txt K mg)
    (D_is_answer : Fn P w K mg base 6 "is_answer" ["patterns", "conditions", "pattern", "answer"] (spAns K))
    (D_l_bag : Fn P w K mg base 1 "_law_bag" ["_law_script", "_law_at"] (spBag2 K))
    (D_l_take : Fn P w K mg base 1 "_law_take" ["_law_bag_here", "_law_many"] spTake2)
    (D_l_of : Fn P w K mg base 7 "_law_of" ["_law_some", "_law_shape", "_law_word", "_law_things"] (spOf K))
    (D_l_possible_right : Fn P w K mg base 8 "_law_possible_right" [] spTrue0)
    (D_l_strict_right : Fn P w K mg base 8 "_law_strict_right" ["_law_many"] spTrue1)
    (D_l_weak_right : Fn P w K mg base 8 "_law_weak_right" ["_law_many"] spTrue1)
    : FnOk P w K mg base CX0 9 f fd ["_law_script"] (spLaw K) := by
  refine F.ok sc_law (fun vs H Q E h => ?_) (fun cdv A outer s H vs Q E hr h => ?_)
  · obtain ⟨a, ns, rfl, _⟩ := h; rfl
  · obtain ⟨a, ns, rfl, hS, hl, k⟩ := h
    have hu := hu_of hr
    have hu64 := hr.units
    refine ⟨_, (pss_cons (ps_for PassesOwn.never rfl (pi_range1 (by rfl) T.n_range (pa_cons (pe_callB (call_max2 rfl) (by rfl) T.n_max (by decide +kernel) (pa_cons pe_int (pa_cons (pe_callB (call_min2 rfl) (by rfl) T.n_min (by decide +kernel) (pa_cons pe_int (pa_cons (pe_callB call_len_seq (by rfl) T.n_len PySem.boot_len (pa_cons (pv 0) pa_nil)) pa_nil))) pa_nil))) pa_nil)) (pg_name (i := 1) sc_law.nd rfl (Or.inl rfl))
    (pss_cons (ps_set (i := 2) sc_law.nd rfl (Or.inl rfl) (pe_op op_add pe_int (pe_fn D_l_take (hr.mono (by decide)) rfl (pa_cons (pe_fn D_l_bag (hr.mono (by decide)) rfl (pa_cons (pv 0) (pa_cons (pv 1) pa_nil))) (pa_cons (pe_op op_pow pe_int pe_int) pa_nil)))))
      (pss_cons (ps_if (PW.pt (pw_or (pt_not (pt_val (pe_fn0 D_l_possible_right (hr.mono (by decide)) rfl))) (pw_or (pt_not (pt_val (pe_fn D_l_strict_right (hr.mono (by decide)) rfl (pa_cons (pv 2) pa_nil)))) (pw_or1 (pt_not (pt_val (pe_fn D_l_weak_right (hr.mono (by decide)) rfl (pa_cons (pv 2) pa_nil))))))))
        (pss_one (ps_ret pe_bl))
        pss_nil)
      (pss_one (ps_if (pt_not (pt_val (pe_ix ix_list (pe_fn D_l_of (hr.mono (by decide)) rfl (pa_cons (pe_lst (pa_cons (pe_tup (pa_cons (pe_tup (pa_cons pe_int pa_nil)) (pa_cons (pe_tup (pa_cons pe_int pa_nil)) (pa_cons pe_str pa_nil)))) pa_nil)) (pa_cons pe_int (pa_cons pe_str (pa_cons (pe_lst (pa_cons (pe_lst (pa_cons (pv 2) pa_nil)) pa_nil)) pa_nil))))) pe_int (fun _ _ => rfl))))
        (pss_one (ps_ret pe_bl))
        pss_nil)))))
  (pss_cons (ps_set (i := 3) sc_law.nd rfl (Or.inl rfl) (pe_lst (pa_cons (pe_tup (pa_cons (pe_tup pa_nil) (pa_cons (pe_tup pa_nil) (pa_cons pe_str pa_nil)))) pa_nil)))
  (pss_cons (ps_if (pt_cmpR (op_neD hu64) (pe_lst (pa_cons (pe_fn D_is_answer (hr.mono (by decide)) rfl (pa_cons pe_int (pa_cons (pv 3) (pa_cons pe_int (pa_cons (pe_tup (pa_cons pe_str (pa_cons (pe_lst (pa_cons pe_int pa_nil)) pa_nil))) pa_nil))))) (pa_cons (pe_fn D_is_answer (hr.mono (by decide)) rfl (pa_cons pe_int (pa_cons (pv 3) (pa_cons pe_int (pa_cons (pe_tup (pa_cons pe_str (pa_cons (pe_tup (pa_cons pe_int (pa_cons pe_int (pa_cons pe_int pa_nil)))) pa_nil))) pa_nil))))) pa_nil))) (pe_lst (pa_cons pe_bl (pa_cons pe_bl pa_nil))) (nomark _))
    (pss_one (ps_ret pe_bl))
    pss_nil)
  (pss_cons (ps_set (i := 4) sc_law.nd rfl (Or.inl rfl) (pe_lst (pa_cons (pe_tup (pa_cons pe_str (pa_cons (pe_tup (pa_cons pe_int (pa_cons pe_int (pa_cons pe_int pa_nil)))) pa_nil))) (pa_cons (pe_lst (pa_cons pe_str (pa_cons (pe_tup (pa_cons pe_int (pa_cons pe_int (pa_cons pe_int pa_nil)))) pa_nil))) (pa_cons (pe_tup (pa_cons pe_str pa_nil)) (pa_cons (pe_tup (pa_cons pe_str (pa_cons (pe_tup (pa_cons pe_int (pa_cons pe_int (pa_cons pe_int pa_nil)))) (pa_cons pe_int pa_nil)))) (pa_cons (pe_tup (pa_cons pe_int (pa_cons (pe_tup (pa_cons pe_int (pa_cons pe_int (pa_cons pe_int pa_nil)))) pa_nil))) pa_nil)))))))
  (pss_one (ps_ret (pe_cmpR op_notIn_seq pe_bl (pe_lc (own := [("_law_thing", 5)]) (g := gName 5) (tt := tYes) rfl sc_law.nd (pi_list (pe_op op_cat (pv 4) (pe_lst (pa_cons (pe_tup (pa_cons pe_str (pa_cons (pe_lst pa_nil) pa_nil))) pa_nil)))) (blkOk_by (own := [("_law_thing", 5)]) (N := ["_law_script", "_law_at", "_law_many", "_law_some", "_law_odd", "_law_thing"]) (sc := defScope s_law) (by decide +kernel)) (fun _ _ _ _ _ => (pg_name (i := 5) sc_law.nd rfl (Or.inl rfl))) (fun _ _ _ _ _ => pts_nil) (fun _ _ _ _ _ => (pe_fn D_is_answer (hr.mono (by decide)) rfl (pa_cons pe_int (pa_cons (pe_lst pa_nil) (pa_cons pe_int (pa_cons (pv 5) pa_nil))))))) (by rfl)))))))), ?_⟩
    have turns : ∀ z : Int, z ≤ 63 → 0 ≤ z → (if (if z < 4 then z else 4) > 2 then (if z < 4 then z else 4) else 2) ≤ 4 ∧ 2 ≤ (if (if z < 4 then z else 4) > 2 then (if z < 4 then z else 4) else 2) := by
      intro z z1 z2
      split <;> split <;> omega
    have t0 := turns (ns.map V.int).length (by rw [List.length_map]; omega) (by omega)
    refine ⟨_, rfl, _, _, rfl, Or.inl hS, _, _, rfl, _, _, rfl, _, rfl, by omega, by omega, ?_⟩
    refine for_range (lo := 0) (fun i σ H' => (∃ x1 x2 x3 x4 x5, σ = [some (.ref a), x1, x2, x3, x4, x5]) ∧ Same H H') ⟨⟨_, _, _, _, _, rfl⟩, Same.refl H⟩ ?_ ?_
    · rintro i σ H1 hi ⟨⟨x1, x2, x3, x4, x5, rfl⟩, s1⟩
      have hi6 : i < 4 := by omega
      refine ⟨_, rfl, _, rfl, a, ns, i, by simp, s1.seq hS, by omega, fun g o hg bag => ?_⟩
      have s2 := same_new hg (o := o)
      have ng : H1 g = none := hg
      generalize upd H1 g o = H2 at s2 bag ⊢
      refine ⟨_, _, rfl, rfl, ⟨by decide, by decide, by decide⟩, g, _, rfl, bag, by decide, by decide +kernel, fun j H3 j0 j1 b3 bag3 => ?_⟩
      refine ⟨_, _, rfl, rfl, ?_⟩
      have s3 : Same H H3 := fun b o e => (b3 b (fun z => by have := s1 _ _ e; rw [z, ng] at this; cases this)).trans (s2 _ _ (s1 _ _ e))
      have hm : 1 ≤ 1 + j := by omega
      refine ⟨rfl, fun H4 s4 => ⟨_, rfl, iteF ?_⟩⟩
      refine ⟨_, rfl, 1 + j, rfl, hm, fun H5 s5 => ⟨_, rfl, iteF ?_⟩⟩
      refine ⟨_, rfl, 1 + j, rfl, hm, fun H6 s6 => ⟨_, rfl, iteF ?_⟩⟩
      dsimp only [tNext, tIfS, tNot, tB, tOp, tCall, tSeq]
      refine args4 (K := K) (lit_cons (lit_tup (lit_cons (lit_tup (lit_cons (lit_int 2) lit_nil) (by simp)) (lit_cons (lit_tup (lit_cons (lit_int 2) lit_nil) (by simp)) (lit_cons (lit_str "left") lit_nil))) (by simp)) lit_nil) (by simp) (es := [.list [.int (1 + j)]]) (lit_cons (lit_lst (lit_cons (lit_var (by rfl) fun _ => .int _) lit_nil) (by simp)) lit_nil) (by simp) fun a7 a8 H8 s8 h7 h8 => ?_
      have hC : LsD K H8 a7 (cE.map condD) := h7
      refine ⟨a7, cE, 2, "impossible", a8, _, rfl, lsd_con hC, (by decide +kernel), (by decide +kernel), h8, (by simp), ok_all [[1 + j]], fun r H9 s9 h9 => ?_⟩
      rw [even_1 hm] at h9
      refine ⟨r, _, 0, _, rfl, rfl, SqL.of h9, rfl, _, rfl, iteF ?_⟩
      exact ⟨⟨_, _, _, _, _, rfl⟩, s3.trans (s4.trans (s5.trans (s6.trans (s8.trans s9))))⟩
    · rintro σ H1 ⟨⟨x1, x2, x3, x4, x5, rfl⟩, s1⟩
      refine seq_lit (K := K) (lit_cons (lit_tup (lit_cons (lit_tup lit_nil (by simp)) (lit_cons (lit_tup lit_nil (by simp)) (lit_cons (lit_str "left") lit_nil))) (by simp)) lit_nil) (by simp) fun a2 H2 s2 n2 h2 => ?_
      have hC : LsD K H2 a2 (cN.map condD) := h2
      dsimp only [tNext, tIfS, tOp, tSeq, tTest]
      refine ans_two (K := K) (by rfl) (lsd_con hC) (by decide +kernel) (by decide +kernel) (lit_tup (lit_cons (lit_str "impossible") (lit_cons (lit_lst (lit_cons (lit_int 1) lit_nil) (by simp)) lit_nil)) (by simp)) (lit_tup (lit_cons (lit_str "possible") (lit_cons (lit_tup (lit_cons (lit_int 0) (lit_cons (lit_int 0) (lit_cons (lit_int 1) lit_nil))) (by simp)) lit_nil)) (by simp)) (by decide +kernel) (by decide +kernel) fun q H7 s7 h_q => ?_
      refine ⟨size_ok (by simp), fun t ht => ?_⟩
      generalize e_t : upd H7 t _ = H8
      have s_t := new_same e_t ht
      have h_t := new_at e_t
      refine ⟨.list [.bool _, .bool _], .list [.bool true, .bool false], .lst (SqL.of (s_t _ _ h_q)) (.cons (.bl _) (.cons (.bl _) .nil)), .lst (SqL.of h_t) (.cons (.bl _) (.cons (.bl _) .nil)), (by decide +kernel), (by decide +kernel), false, congrArg V.bl (by decide +kernel), iteF ?_⟩
      refine asg_lit (K := K) (lit_cons (lit_tup (lit_cons (lit_str "Possible") (lit_cons (lit_tup (lit_cons (lit_int 0) (lit_cons (lit_int 0) (lit_cons (lit_int 1) lit_nil))) (by simp)) lit_nil)) (by simp)) (lit_cons (lit_lst (lit_cons (lit_str "possible") (lit_cons (lit_tup (lit_cons (lit_int 0) (lit_cons (lit_int 0) (lit_cons (lit_int 1) lit_nil))) (by simp)) lit_nil)) (by simp)) (lit_cons (lit_tup (lit_cons (lit_str "possible") lit_nil) (by simp)) (lit_cons (lit_tup (lit_cons (lit_str "possible") (lit_cons (lit_tup (lit_cons (lit_int 0) (lit_cons (lit_int 0) (lit_cons (lit_int 1) lit_nil))) (by simp)) (lit_cons (lit_int 0) lit_nil))) (by simp)) (lit_cons (lit_tup (lit_cons (lit_int 1) (lit_cons (lit_tup (lit_cons (lit_int 0) (lit_cons (lit_int 0) (lit_cons (lit_int 1) lit_nil))) (by simp)) lit_nil)) (by simp)) lit_nil))))) (by simp) fun a9 H9 s9 n9 h9 => ?_
      dsimp only [tRet, tOp, tLc, tC]
      refine iter_cat (K := K) (by rfl) h9 (lit_cons (lit_tup (lit_cons (lit_str "impossible") (lit_cons (lit_lst lit_nil (by simp)) lit_nil)) (by simp)) lit_nil) (by simp) fun b G1 t1 hb => ?_
      have hb0 := hb
      obtain ⟨vs, eb, db⟩ := hb0
      have hvl := dpAll_len db
      intro D hD
      refine lc_w (walk_list (xs := vs)) _ (fun d => some (.bl (mAns [] 3 d))) hvl.symm (by rw [hvl]; simp) hD (fun G3 t3 => t3.seq (SqL.of eb)) ?_ ?_
      · rintro i d x G3 G' R hdi t3 ⟨rfl, hx⟩ hR
        obtain ⟨d2, e1, e2⟩ := dpAll_at db hx
        cases hdi.symm.trans e1
        refine ⟨rfl, size_ok (by simp), fun q hq => ?_⟩
        have s_q := same_new hq (o := .lst [])
        have ok : okX d = true := List.all_eq_true.mp (show List.all _ okX = true from by decide +kernel) d (List.mem_of_getElem? hdi)
        exact ⟨_, rfl, q, [], 3, x, d, rfl, ⟨[], SqL.of upd_same, .nil⟩, (by decide +kernel), (by decide +kernel), dp_same (t3.trans s_q) _ _ e2, ok, fun G5 t5 => hR G5 (s_q.trans t5)⟩
      · intro G3 t3 hD3
        rw [filterMap_some] at hD3
        refine ⟨D, _, rfl, .inl (SqL.of hD3), rfl, (by decide +kernel), ?_⟩
        exact q_true (by decide +kernel) (k _)
end
theorem all_mk {l : PySem.W.OpenLaw} {w : World} {K : PySem.W.Frag} {h : Heap} {mg : Str → Option Value} {fa : Addr} (X : K.In h) (G : h.Ns mainGlobals mg) (hfa : mg "law" = some (.ref fa))
    {f0 : Addr} {oc0 kV0 dc0 pm0 cd0 ct0 : Value} {od0 an0 : Option Addr} {sl0 : Array (Option Value)}
    {f1 : Addr} {oc1 kV1 dc1 pm1 cd1 ct1 : Value} {od1 an1 : Option Addr} {sl1 : Array (Option Value)}
    {f2 : Addr} {oc2 kV2 dc2 pm2 cd2 ct2 : Value} {od2 an2 : Option Addr} {sl2 : Array (Option Value)}
    {f3 : Addr} {oc3 kV3 dc3 pm3 cd3 ct3 : Value} {od3 an3 : Option Addr} {sl3 : Array (Option Value)}
    {f4 : Addr} {oc4 kV4 dc4 pm4 cd4 ct4 : Value} {od4 an4 : Option Addr} {sl4 : Array (Option Value)}
    {f5 : Addr} {oc5 kV5 dc5 pm5 cd5 ct5 : Value} {od5 an5 : Option Addr} {sl5 : Array (Option Value)}
    {f6 : Addr} {oc6 kV6 dc6 pm6 cd6 ct6 : Value} {od6 an6 : Option Addr} {sl6 : Array (Option Value)}
    {f7 : Addr} {oc7 kV7 dc7 pm7 cd7 ct7 : Value} {od7 an7 : Option Addr} {sl7 : Array (Option Value)}
    {f8 : Addr} {oc8 kV8 dc8 pm8 cd8 ct8 : Value} {od8 an8 : Option Addr} {sl8 : Array (Option Value)}
    {f9 : Addr} {oc9 kV9 dc9 pm9 cd9 ct9 : Value} {od9 an9 : Option Addr} {sl9 : Array (Option Value)}
    {f10 : Addr} {oc10 kV10 dc10 pm10 cd10 ct10 : Value} {od10 an10 : Option Addr} {sl10 : Array (Option Value)}
    {f11 : Addr} {oc11 kV11 dc11 pm11 cd11 ct11 : Value} {od11 an11 : Option Addr} {sl11 : Array (Option Value)}
    {f12 : Addr} {oc12 kV12 dc12 pm12 cd12 ct12 : Value} {od12 an12 : Option Addr} {sl12 : Array (Option Value)}
    {f13 : Addr} {oc13 kV13 dc13 pm13 cd13 ct13 : Value} {od13 an13 : Option Addr} {sl13 : Array (Option Value)}
    {f14 : Addr} {oc14 kV14 dc14 pm14 cd14 ct14 : Value} {od14 an14 : Option Addr} {sl14 : Array (Option Value)}
    {f15 : Addr} {oc15 kV15 dc15 pm15 cd15 ct15 : Value} {od15 an15 : Option Addr} {sl15 : Array (Option Value)}
    {f16 : Addr} {oc16 kV16 dc16 pm16 cd16 ct16 : Value} {od16 an16 : Option Addr} {sl16 : Array (Option Value)}
    {f17 : Addr} {oc17 kV17 dc17 pm17 cd17 ct17 : Value} {od17 an17 : Option Addr} {sl17 : Array (Option Value)}
    {f18 : Addr} {oc18 kV18 dc18 pm18 cd18 ct18 : Value} {od18 an18 : Option Addr} {sl18 : Array (Option Value)}
    {f19 : Addr} {oc19 kV19 dc19 pm19 cd19 ct19 : Value} {od19 an19 : Option Addr} {sl19 : Array (Option Value)}
    {t_MOST_CONDITIONS : Tok}
    (a0 : PySem.W.nsIn K mainGlobals "is_whole" = some (some (.ref f0)))
    (l0 : K.lookup f0 = some ⟨oc0, od0, .func (PySem.W.fnOf "is_whole" "is_whole" (defArgs s_is_whole) (defBody s_is_whole) (defScope s_is_whole) .none kV0 dc0 pm0 an0 cd0 ct0), sl0⟩)
    (c0 : PySem.W.codeIn K cd0 "is_whole" = true) (k0 : PySem.W.keepIn K (.ref f0) = true)
    (a1 : PySem.W.nsIn K mainGlobals "is_pattern" = some (some (.ref f1)))
    (l1 : K.lookup f1 = some ⟨oc1, od1, .func (PySem.W.fnOf "is_pattern" "is_pattern" (defArgs s_is_pattern) (defBody s_is_pattern) (defScope s_is_pattern) .none kV1 dc1 pm1 an1 cd1 ct1), sl1⟩)
    (c1 : PySem.W.codeIn K cd1 "is_pattern" = true) (k1 : PySem.W.keepIn K (.ref f1) = true)
    (a2 : PySem.W.nsIn K mainGlobals "_is_part" = some (some (.ref f2)))
    (l2 : K.lookup f2 = some ⟨oc2, od2, .func (PySem.W.fnOf "_is_part" "_is_part" (defArgs s_p_is_part) (defBody s_p_is_part) (defScope s_p_is_part) .none kV2 dc2 pm2 an2 cd2 ct2), sl2⟩)
    (c2 : PySem.W.codeIn K cd2 "_is_part" = true) (k2 : PySem.W.keepIn K (.ref f2) = true)
    (a3 : PySem.W.nsIn K mainGlobals "_is_condition" = some (some (.ref f3)))
    (l3 : K.lookup f3 = some ⟨oc3, od3, .func (PySem.W.fnOf "_is_condition" "_is_condition" (defArgs s_p_is_condition) (defBody s_p_is_condition) (defScope s_p_is_condition) .none kV3 dc3 pm3 an3 cd3 ct3), sl3⟩)
    (c3 : PySem.W.codeIn K cd3 "_is_condition" = true) (k3 : PySem.W.keepIn K (.ref f3) = true)
    (a4 : PySem.W.nsIn K mainGlobals "is_question" = some (some (.ref f4)))
    (l4 : K.lookup f4 = some ⟨oc4, od4, .func (PySem.W.fnOf "is_question" "is_question" (defArgs s_is_question) (defBody s_is_question) (defScope s_is_question) .none kV4 dc4 pm4 an4 cd4 ct4), sl4⟩)
    (c4 : PySem.W.codeIn K cd4 "is_question" = true) (k4 : PySem.W.keepIn K (.ref f4) = true)
    (a5 : PySem.W.nsIn K mainGlobals "_sum_of" = some (some (.ref f5)))
    (l5 : K.lookup f5 = some ⟨oc5, od5, .func (PySem.W.fnOf "_sum_of" "_sum_of" (defArgs s_p_sum_of) (defBody s_p_sum_of) (defScope s_p_sum_of) .none kV5 dc5 pm5 an5 cd5 ct5), sl5⟩)
    (c5 : PySem.W.codeIn K cd5 "_sum_of" = true) (k5 : PySem.W.keepIn K (.ref f5) = true)
    (a6 : PySem.W.nsIn K mainGlobals "is_satisfied" = some (some (.ref f6)))
    (l6 : K.lookup f6 = some ⟨oc6, od6, .func (PySem.W.fnOf "is_satisfied" "is_satisfied" (defArgs s_is_satisfied) (defBody s_is_satisfied) (defScope s_is_satisfied) .none kV6 dc6 pm6 an6 cd6 ct6), sl6⟩)
    (c6 : PySem.W.codeIn K cd6 "is_satisfied" = true) (k6 : PySem.W.keepIn K (.ref f6) = true)
    (a7 : PySem.W.nsIn K mainGlobals "factors_of" = some (some (.ref f7)))
    (l7 : K.lookup f7 = some ⟨oc7, od7, .func (PySem.W.fnOf "factors_of" "factors_of" (defArgs s_factors_of) (defBody s_factors_of) (defScope s_factors_of) .none kV7 dc7 pm7 an7 cd7 ct7), sl7⟩)
    (c7 : PySem.W.codeIn K cd7 "factors_of" = true) (k7 : PySem.W.keepIn K (.ref f7) = true)
    (a8 : PySem.W.nsIn K mainGlobals "_are_from_zero_on" = some (some (.ref f8)))
    (l8 : K.lookup f8 = some ⟨oc8, od8, .func (PySem.W.fnOf "_are_from_zero_on" "_are_from_zero_on" (defArgs s_p_are_from_zero_on) (defBody s_p_are_from_zero_on) (defScope s_p_are_from_zero_on) .none kV8 dc8 pm8 an8 cd8 ct8), sl8⟩)
    (c8 : PySem.W.codeIn K cd8 "_are_from_zero_on" = true) (k8 : PySem.W.keepIn K (.ref f8) = true)
    (a9 : PySem.W.nsIn K mainGlobals "_are_any_counts" = some (some (.ref f9)))
    (l9 : K.lookup f9 = some ⟨oc9, od9, .func (PySem.W.fnOf "_are_any_counts" "_are_any_counts" (defArgs s_p_are_any_counts) (defBody s_p_are_any_counts) (defScope s_p_are_any_counts) .none kV9 dc9 pm9 an9 cd9 ct9), sl9⟩)
    (c9 : PySem.W.codeIn K cd9 "_are_any_counts" = true) (k9 : PySem.W.keepIn K (.ref f9) = true)
    (a10 : PySem.W.nsIn K mainGlobals "_is_solution" = some (some (.ref f10)))
    (l10 : K.lookup f10 = some ⟨oc10, od10, .func (PySem.W.fnOf "_is_solution" "_is_solution" (defArgs s_p_is_solution) (defBody s_p_is_solution) (defScope s_p_is_solution) .none kV10 dc10 pm10 an10 cd10 ct10), sl10⟩)
    (c10 : PySem.W.codeIn K cd10 "_is_solution" = true) (k10 : PySem.W.keepIn K (.ref f10) = true)
    (a11 : PySem.W.nsIn K mainGlobals "_is_refuted" = some (some (.ref f11)))
    (l11 : K.lookup f11 = some ⟨oc11, od11, .func (PySem.W.fnOf "_is_refuted" "_is_refuted" (defArgs s_p_is_refuted) (defBody s_p_is_refuted) (defScope s_p_is_refuted) .none kV11 dc11 pm11 an11 cd11 ct11), sl11⟩)
    (c11 : PySem.W.codeIn K cd11 "_is_refuted" = true) (k11 : PySem.W.keepIn K (.ref f11) = true)
    (a12 : PySem.W.nsIn K mainGlobals "is_answer" = some (some (.ref f12)))
    (l12 : K.lookup f12 = some ⟨oc12, od12, .func (PySem.W.fnOf "is_answer" "is_answer" (defArgs s_is_answer) (defBody s_is_answer) (defScope s_is_answer) .none kV12 dc12 pm12 an12 cd12 ct12), sl12⟩)
    (c12 : PySem.W.codeIn K cd12 "is_answer" = true) (k12 : PySem.W.keepIn K (.ref f12) = true)
    (a13 : PySem.W.nsIn K mainGlobals "_law_bag" = some (some (.ref f13)))
    (l13 : K.lookup f13 = some ⟨oc13, od13, .func (PySem.W.fnOf "_law_bag" "_law_bag" (defArgs s_l_bag) (defBody s_l_bag) (defScope s_l_bag) .none kV13 dc13 pm13 an13 cd13 ct13), sl13⟩)
    (c13 : PySem.W.codeIn K cd13 "_law_bag" = true) (k13 : PySem.W.keepIn K (.ref f13) = true)
    (a14 : PySem.W.nsIn K mainGlobals "_law_take" = some (some (.ref f14)))
    (l14 : K.lookup f14 = some ⟨oc14, od14, .func (PySem.W.fnOf "_law_take" "_law_take" (defArgs s_l_take) (defBody s_l_take) (defScope s_l_take) .none kV14 dc14 pm14 an14 cd14 ct14), sl14⟩)
    (c14 : PySem.W.codeIn K cd14 "_law_take" = true) (k14 : PySem.W.keepIn K (.ref f14) = true)
    (a15 : PySem.W.nsIn K mainGlobals "_law_of" = some (some (.ref f15)))
    (l15 : K.lookup f15 = some ⟨oc15, od15, .func (PySem.W.fnOf "_law_of" "_law_of" (defArgs s_l_of) (defBody s_l_of) (defScope s_l_of) .none kV15 dc15 pm15 an15 cd15 ct15), sl15⟩)
    (c15 : PySem.W.codeIn K cd15 "_law_of" = true) (k15 : PySem.W.keepIn K (.ref f15) = true)
    (a16 : PySem.W.nsIn K mainGlobals "_law_possible_right" = some (some (.ref f16)))
    (l16 : K.lookup f16 = some ⟨oc16, od16, .func (PySem.W.fnOf "_law_possible_right" "_law_possible_right" (defArgs s_l_possible_right) (defBody s_l_possible_right) (defScope s_l_possible_right) .none kV16 dc16 pm16 an16 cd16 ct16), sl16⟩)
    (c16 : PySem.W.codeIn K cd16 "_law_possible_right" = true) (k16 : PySem.W.keepIn K (.ref f16) = true)
    (a17 : PySem.W.nsIn K mainGlobals "_law_strict_right" = some (some (.ref f17)))
    (l17 : K.lookup f17 = some ⟨oc17, od17, .func (PySem.W.fnOf "_law_strict_right" "_law_strict_right" (defArgs s_l_strict_right) (defBody s_l_strict_right) (defScope s_l_strict_right) .none kV17 dc17 pm17 an17 cd17 ct17), sl17⟩)
    (c17 : PySem.W.codeIn K cd17 "_law_strict_right" = true) (k17 : PySem.W.keepIn K (.ref f17) = true)
    (a18 : PySem.W.nsIn K mainGlobals "_law_weak_right" = some (some (.ref f18)))
    (l18 : K.lookup f18 = some ⟨oc18, od18, .func (PySem.W.fnOf "_law_weak_right" "_law_weak_right" (defArgs s_l_weak_right) (defBody s_l_weak_right) (defScope s_l_weak_right) .none kV18 dc18 pm18 an18 cd18 ct18), sl18⟩)
    (c18 : PySem.W.codeIn K cd18 "_law_weak_right" = true) (k18 : PySem.W.keepIn K (.ref f18) = true)
    (a19 : PySem.W.nsIn K mainGlobals "law" = some (some (.ref f19)))
    (l19 : K.lookup f19 = some ⟨oc19, od19, .func (PySem.W.fnOf "law" "law" (defArgs s_law) (defBody s_law) (defScope s_law) .none kV19 dc19 pm19 an19 cd19 ct19), sl19⟩)
    (c19 : PySem.W.codeIn K cd19 "law" = true) (k19 : PySem.W.keepIn K (.ref f19) = true)
    (z_abs : PySem.W.nsIn K mainGlobals "abs" = some none)
    (z_all : PySem.W.nsIn K mainGlobals "all" = some none)
    (z_bool : PySem.W.nsIn K mainGlobals "bool" = some none)
    (z_int : PySem.W.nsIn K mainGlobals "int" = some none)
    (z_isinstance : PySem.W.nsIn K mainGlobals "isinstance" = some none)
    (z_len : PySem.W.nsIn K mainGlobals "len" = some none)
    (z_list : PySem.W.nsIn K mainGlobals "list" = some none)
    (z_max : PySem.W.nsIn K mainGlobals "max" = some none)
    (z_min : PySem.W.nsIn K mainGlobals "min" = some none)
    (z_range : PySem.W.nsIn K mainGlobals "range" = some none)
    (z_sum : PySem.W.nsIn K mainGlobals "sum" = some none)
    (z_tuple : PySem.W.nsIn K mainGlobals "tuple" = some none)
    (z_zip : PySem.W.nsIn K mainGlobals "zip" = some none)
    (z_MOST_CONDITIONS : PySem.W.nsIn K mainGlobals "MOST_CONDITIONS" = some (some (.int 8 t_MOST_CONDITIONS)))
    : ∃ fd : FuncData, (∀ (s : Shared) (v : Value), BindsTo s fd ⟨[v], []⟩ [("_law_script", v)]) ∧ ∀ base : Heap, K.In base → base.Ns mainGlobals mg → FnG l.prog w K mg base CX0 9 fa fd ["_law_script"] (spLaw K) := by
  have e := hfa.symm.trans (PySem.W.mg_of X G a19)
  cases e
  have T : Txt K mg := ⟨PySem.W.mg_none_of X G z_abs, PySem.W.mg_none_of X G z_all, PySem.W.mg_none_of X G z_bool, PySem.W.mg_none_of X G z_int, PySem.W.mg_none_of X G z_isinstance, PySem.W.mg_none_of X G z_len, PySem.W.mg_none_of X G z_list, PySem.W.mg_none_of X G z_max, PySem.W.mg_none_of X G z_min, PySem.W.mg_none_of X G z_range, PySem.W.mg_none_of X G z_sum, PySem.W.mg_none_of X G z_tuple, PySem.W.mg_none_of X G z_zip, ⟨t_MOST_CONDITIONS, PySem.W.mg_of X G z_MOST_CONDITIONS⟩⟩
  refine ⟨PySem.W.fnOf "law" "law" (defArgs s_law) (defBody s_law) (defScope s_law) .none kV19 dc19 pm19 an19 cd19 ct19, fun s v => .of_eq rfl, fun base hK hG => ?_⟩
  have F_is_whole := fun_mk (st := s_is_whole) l0 c0 k0
  have O_is_whole := ok_is_whole (P := l.prog) (w := w) (base := base) F_is_whole T  
  have b_is_whole := F_is_whole.binds (ps := ["thing"]) fun _ _ _ _ _ _ us hl => match us, hl with | [_], _ => rfl
  have D_is_whole : Fn l.prog w K mg base 1 "is_whole" ["thing"] (spWh K) := ⟨_, _, PySem.W.mg_of X G a0, O_is_whole, k0, b_is_whole⟩
  have F_is_pattern := fun_mk (st := s_is_pattern) l1 c1 k1
  have O_is_pattern := ok_is_pattern (P := l.prog) (w := w) (base := base) F_is_pattern T D_is_whole 
  have b_is_pattern := F_is_pattern.binds (ps := ["patterns", "thing"]) fun _ _ _ _ _ _ us hl => match us, hl with | [_, _], _ => rfl
  have D_is_pattern : Fn l.prog w K mg base 2 "is_pattern" ["patterns", "thing"] spPat := ⟨_, _, PySem.W.mg_of X G a1, O_is_pattern, k1, b_is_pattern⟩
  have F_p_is_part := fun_mk (st := s_p_is_part) l2 c2 k2
  have O_p_is_part := ok_p_is_part (P := l.prog) (w := w) (base := base) F_p_is_part T D_is_pattern 
  have b_p_is_part := F_p_is_part.binds (ps := ["patterns", "thing"]) fun _ _ _ _ _ _ us hl => match us, hl with | [_, _], _ => rfl
  have D_p_is_part : Fn l.prog w K mg base 3 "_is_part" ["patterns", "thing"] (spPart3 K) := ⟨_, _, PySem.W.mg_of X G a2, O_p_is_part, k2, b_p_is_part⟩
  have F_p_is_condition := fun_mk (st := s_p_is_condition) l3 c3 k3
  have O_p_is_condition := ok_p_is_condition (P := l.prog) (w := w) (base := base) F_p_is_condition T D_p_is_part 
  have b_p_is_condition := F_p_is_condition.binds (ps := ["patterns", "thing"]) fun _ _ _ _ _ _ us hl => match us, hl with | [_, _], _ => rfl
  have D_p_is_condition : Fn l.prog w K mg base 4 "_is_condition" ["patterns", "thing"] (spCond K) := ⟨_, _, PySem.W.mg_of X G a3, O_p_is_condition, k3, b_p_is_condition⟩
  have F_is_question := fun_mk (st := s_is_question) l4 c4 k4
  have O_is_question := ok_is_question (P := l.prog) (w := w) (base := base) F_is_question T D_is_whole D_is_pattern D_p_is_condition 
  have b_is_question := F_is_question.binds (ps := ["patterns", "conditions", "pattern"]) fun _ _ _ _ _ _ us hl => match us, hl with | [_, _, _], _ => rfl
  have D_is_question : Fn l.prog w K mg base 5 "is_question" ["patterns", "conditions", "pattern"] (spQuest K) := ⟨_, _, PySem.W.mg_of X G a4, O_is_question, k4, b_is_question⟩
  have F_p_sum_of := fun_mk (st := s_p_sum_of) l5 c5 k5
  have O_p_sum_of := ok_p_sum_of (P := l.prog) (w := w) (base := base) F_p_sum_of T  
  have b_p_sum_of := F_p_sum_of.binds (ps := ["part", "counts"]) fun _ _ _ _ _ _ us hl => match us, hl with | [_, _], _ => rfl
  have D_p_sum_of : Fn l.prog w K mg base 1 "_sum_of" ["part", "counts"] (spSumOf K) := ⟨_, _, PySem.W.mg_of X G a5, O_p_sum_of, k5, b_p_sum_of⟩
  have F_is_satisfied := fun_mk (st := s_is_satisfied) l6 c6 k6
  have O_is_satisfied := ok_is_satisfied (P := l.prog) (w := w) (base := base) F_is_satisfied T D_p_sum_of 
  have b_is_satisfied := F_is_satisfied.binds (ps := ["condition", "counts"]) fun _ _ _ _ _ _ us hl => match us, hl with | [_, _], _ => rfl
  have D_is_satisfied : Fn l.prog w K mg base 2 "is_satisfied" ["condition", "counts"] (spSat K) := ⟨_, _, PySem.W.mg_of X G a6, O_is_satisfied, k6, b_is_satisfied⟩
  have F_factors_of := fun_mk (st := s_factors_of) l7 c7 k7
  have O_factors_of := ok_factors_of (P := l.prog) (w := w) (base := base) F_factors_of T  
  have b_factors_of := F_factors_of.binds (ps := ["patterns", "condition"]) fun _ _ _ _ _ _ us hl => match us, hl with | [_, _], _ => rfl
  have D_factors_of : Fn l.prog w K mg base 1 "factors_of" ["patterns", "condition"] (spFactors K) := ⟨_, _, PySem.W.mg_of X G a7, O_factors_of, k7, b_factors_of⟩
  have F_p_are_from_zero_on := fun_mk (st := s_p_are_from_zero_on) l8 c8 k8
  have O_p_are_from_zero_on := ok_p_are_from_zero_on (P := l.prog) (w := w) (base := base) F_p_are_from_zero_on T D_is_whole 
  have b_p_are_from_zero_on := F_p_are_from_zero_on.binds (ps := ["things"]) fun _ _ _ _ _ _ us hl => match us, hl with | [_], _ => rfl
  have D_p_are_from_zero_on : Fn l.prog w K mg base 2 "_are_from_zero_on" ["things"] (spZeroOn K) := ⟨_, _, PySem.W.mg_of X G a8, O_p_are_from_zero_on, k8, b_p_are_from_zero_on⟩
  have F_p_are_any_counts := fun_mk (st := s_p_are_any_counts) l9 c9 k9
  have O_p_are_any_counts := ok_p_are_any_counts (P := l.prog) (w := w) (base := base) F_p_are_any_counts T D_p_are_from_zero_on 
  have b_p_are_any_counts := F_p_are_any_counts.binds (ps := ["patterns", "thing"]) fun _ _ _ _ _ _ us hl => match us, hl with | [_, _], _ => rfl
  have D_p_are_any_counts : Fn l.prog w K mg base 3 "_are_any_counts" ["patterns", "thing"] (spCounts K) := ⟨_, _, PySem.W.mg_of X G a9, O_p_are_any_counts, k9, b_p_are_any_counts⟩
  have F_p_is_solution := fun_mk (st := s_p_is_solution) l10 c10 k10
  have O_p_is_solution := ok_p_is_solution (P := l.prog) (w := w) (base := base) F_p_is_solution T D_is_satisfied D_p_are_any_counts 
  have b_p_is_solution := F_p_is_solution.binds (ps := ["patterns", "conditions", "pattern", "counts"]) fun _ _ _ _ _ _ us hl => match us, hl with | [_, _, _, _], _ => rfl
  have D_p_is_solution : Fn l.prog w K mg base 4 "_is_solution" ["patterns", "conditions", "pattern", "counts"] (spSol K) := ⟨_, _, PySem.W.mg_of X G a10, O_p_is_solution, k10, b_p_is_solution⟩
  have F_p_is_refuted := fun_mk (st := s_p_is_refuted) l11 c11 k11
  have O_p_is_refuted := ok_p_is_refuted (P := l.prog) (w := w) (base := base) F_p_is_refuted T D_factors_of D_p_are_from_zero_on 
  have b_p_is_refuted := F_p_is_refuted.binds (ps := ["patterns", "conditions", "pattern", "multipliers"]) fun _ _ _ _ _ _ us hl => match us, hl with | [_, _, _, _], _ => rfl
  have D_p_is_refuted : Fn l.prog w K mg base 3 "_is_refuted" ["patterns", "conditions", "pattern", "multipliers"] (spRef K) := ⟨_, _, PySem.W.mg_of X G a11, O_p_is_refuted, k11, b_p_is_refuted⟩
  have F_is_answer := fun_mk (st := s_is_answer) l12 c12 k12
  have O_is_answer := ok_is_answer (P := l.prog) (w := w) (base := base) F_is_answer T D_is_question D_p_is_solution D_p_is_refuted 
  have b_is_answer := F_is_answer.binds (ps := ["patterns", "conditions", "pattern", "answer"]) fun _ _ _ _ _ _ us hl => match us, hl with | [_, _, _, _], _ => rfl
  have D_is_answer : Fn l.prog w K mg base 6 "is_answer" ["patterns", "conditions", "pattern", "answer"] (spAns K) := ⟨_, _, PySem.W.mg_of X G a12, O_is_answer, k12, b_is_answer⟩
  have F_l_bag := fun_mk (st := s_l_bag) l13 c13 k13
  have O_l_bag := ok_l_bag (P := l.prog) (w := w) (base := base) F_l_bag T  
  have b_l_bag := F_l_bag.binds (ps := ["_law_script", "_law_at"]) fun _ _ _ _ _ _ us hl => match us, hl with | [_, _], _ => rfl
  have D_l_bag : Fn l.prog w K mg base 1 "_law_bag" ["_law_script", "_law_at"] (spBag2 K) := ⟨_, _, PySem.W.mg_of X G a13, O_l_bag, k13, b_l_bag⟩
  have F_l_take := fun_mk (st := s_l_take) l14 c14 k14
  have O_l_take := ok_l_take (P := l.prog) (w := w) (base := base) F_l_take T  
  have b_l_take := F_l_take.binds (ps := ["_law_bag_here", "_law_many"]) fun _ _ _ _ _ _ us hl => match us, hl with | [_, _], _ => rfl
  have D_l_take : Fn l.prog w K mg base 1 "_law_take" ["_law_bag_here", "_law_many"] spTake2 := ⟨_, _, PySem.W.mg_of X G a14, O_l_take, k14, b_l_take⟩
  have F_l_of := fun_mk (st := s_l_of) l15 c15 k15
  have O_l_of := ok_l_of (P := l.prog) (w := w) (base := base) F_l_of T D_is_answer 
  have b_l_of := F_l_of.binds (ps := ["_law_some", "_law_shape", "_law_word", "_law_things"]) fun _ _ _ _ _ _ us hl => match us, hl with | [_, _, _, _], _ => rfl
  have D_l_of : Fn l.prog w K mg base 7 "_law_of" ["_law_some", "_law_shape", "_law_word", "_law_things"] (spOf K) := ⟨_, _, PySem.W.mg_of X G a15, O_l_of, k15, b_l_of⟩
  have F_l_possible_right := fun_mk (st := s_l_possible_right) l16 c16 k16
  have O_l_possible_right := ok_l_possible_right (P := l.prog) (w := w) (base := base) F_l_possible_right T D_l_of 
  have b_l_possible_right := F_l_possible_right.binds (ps := []) fun _ _ _ _ _ _ us hl => match us, hl with | [], _ => rfl
  have D_l_possible_right : Fn l.prog w K mg base 8 "_law_possible_right" [] spTrue0 := ⟨_, _, PySem.W.mg_of X G a16, O_l_possible_right, k16, b_l_possible_right⟩
  have F_l_strict_right := fun_mk (st := s_l_strict_right) l17 c17 k17
  have O_l_strict_right := ok_l_strict_right (P := l.prog) (w := w) (base := base) F_l_strict_right T D_l_of 
  have b_l_strict_right := F_l_strict_right.binds (ps := ["_law_many"]) fun _ _ _ _ _ _ us hl => match us, hl with | [_], _ => rfl
  have D_l_strict_right : Fn l.prog w K mg base 8 "_law_strict_right" ["_law_many"] spTrue1 := ⟨_, _, PySem.W.mg_of X G a17, O_l_strict_right, k17, b_l_strict_right⟩
  have F_l_weak_right := fun_mk (st := s_l_weak_right) l18 c18 k18
  have O_l_weak_right := ok_l_weak_right (P := l.prog) (w := w) (base := base) F_l_weak_right T D_l_of 
  have b_l_weak_right := F_l_weak_right.binds (ps := ["_law_many"]) fun _ _ _ _ _ _ us hl => match us, hl with | [_], _ => rfl
  have D_l_weak_right : Fn l.prog w K mg base 8 "_law_weak_right" ["_law_many"] spTrue1 := ⟨_, _, PySem.W.mg_of X G a18, O_l_weak_right, k18, b_l_weak_right⟩
  have F_law := fun_mk (st := s_law) l19 c19 k19
  have O_law := ok_law (P := l.prog) (w := w) (base := base) F_law T D_is_answer D_l_bag D_l_take D_l_of D_l_possible_right D_l_strict_right D_l_weak_right 
  exact FnG.of O_law
theorem walk {l : PySem.W.OpenLaw} {q : Program} {loose : List Str} {XP : (Str → Option Value) → Heap → Prop} {YP : World → Heap → Prop} {d : DefRec} {K : Params → PySem.W.Frag} (hn : l.most = some 63) (hdf : d.params.defaults = [])
    (hY : ∀ (w : World) (h : Heap), YP w h → (K w.params).In h)
    (F : ∀ (w : World) (mg : Str → Option Value) (fa : Addr) (h : Heap), (K w.params).In h → h.Ns mainGlobals mg → mg d.name = some (.ref fa) →
      ∃ fd : FuncData, (∀ (s : Shared) (u : Value), BindsTo s fd ⟨[u], []⟩ [("_law_script", u)]) ∧ ∀ base : Heap, (K w.params).In base → base.Ns mainGlobals mg → FnG l.prog w (K w.params) mg base CX0 9 fa fd ["_law_script"] (spLaw (K w.params))) :
    PySem.W.WalkO q loose XP YP l.row.toRowW d [] (fun f vs => PySem.call f vs) :=
  walkG (n := 63) (k := 9) (x := "_law_script") (CX := fun _ => CX0) (sp := fun w => spLaw (K w.params)) hn (by decide) hdf ⟨rfl, by decide, by decide⟩ hY F (fun _ _ a ns hl _ hS => ⟨a, ns, rfl, hS, hl, fun _ => rfl⟩) fun _ _ _ _ _ z => z
end My
open PySem PySem.W PyProof.Rows in
set_option maxRecDepth 100000 in
set_option maxHeartbeats 0 in
theorem PySem.Challenge.cw_equalunlike_k36_answers_by_hand_holds : PySem.Challenge.rw_equalunlike_k36_answers_by_hand.Holds := by
  w_on; o_law; k_head; (case hw => w_witness2)
  k_fill
  refine My.walk (l := PySem.Challenge.rw_equalunlike_k36_answers_by_hand) rfl rfl (fun w h Y => PySem.W.kIn_of Y) ?F
  case F =>
    intro w mg fa h KX G hmg
    refine' My.all_mk KX G hmg ?a0 ?l0 ?c0 ?k0 ?a1 ?l1 ?c1 ?k1 ?a2 ?l2 ?c2 ?k2 ?a3 ?l3 ?c3 ?k3 ?a4 ?l4 ?c4 ?k4 ?a5 ?l5 ?c5 ?k5 ?a6 ?l6 ?c6 ?k6 ?a7 ?l7 ?c7 ?k7 ?a8 ?l8 ?c8 ?k8 ?a9 ?l9 ?c9 ?k9 ?a10 ?l10 ?c10 ?k10 ?a11 ?l11 ?c11 ?k11 ?a12 ?l12 ?c12 ?k12 ?a13 ?l13 ?c13 ?k13 ?a14 ?l14 ?c14 ?k14 ?a15 ?l15 ?c15 ?k15 ?a16 ?l16 ?c16 ?k16 ?a17 ?l17 ?c17 ?k17 ?a18 ?l18 ?c18 ?k18 ?a19 ?l19 ?c19 ?k19 ?z_abs ?z_all ?z_bool ?z_int ?z_isinstance ?z_len ?z_list ?z_max ?z_min ?z_range ?z_sum ?z_tuple ?z_zip ?z_MOST_CONDITIONS
    (case a0 => k_is)
    (case l0 => k_is)
    (case c0 => k_is)
    (case k0 => k_is)
    (case a1 => k_is)
    (case l1 => k_is)
    (case c1 => k_is)
    (case k1 => k_is)
    (case a2 => k_is)
    (case l2 => k_is)
    (case c2 => k_is)
    (case k2 => k_is)
    (case a3 => k_is)
    (case l3 => k_is)
    (case c3 => k_is)
    (case k3 => k_is)
    (case a4 => k_is)
    (case l4 => k_is)
    (case c4 => k_is)
    (case k4 => k_is)
    (case a5 => k_is)
    (case l5 => k_is)
    (case c5 => k_is)
    (case k5 => k_is)
    (case a6 => k_is)
    (case l6 => k_is)
    (case c6 => k_is)
    (case k6 => k_is)
    (case a7 => k_is)
    (case l7 => k_is)
    (case c7 => k_is)
    (case k7 => k_is)
    (case a8 => k_is)
    (case l8 => k_is)
    (case c8 => k_is)
    (case k8 => k_is)
    (case a9 => k_is)
    (case l9 => k_is)
    (case c9 => k_is)
    (case k9 => k_is)
    (case a10 => k_is)
    (case l10 => k_is)
    (case c10 => k_is)
    (case k10 => k_is)
    (case a11 => k_is)
    (case l11 => k_is)
    (case c11 => k_is)
    (case k11 => k_is)
    (case a12 => k_is)
    (case l12 => k_is)
    (case c12 => k_is)
    (case k12 => k_is)
    (case a13 => k_is)
    (case l13 => k_is)
    (case c13 => k_is)
    (case k13 => k_is)
    (case a14 => k_is)
    (case l14 => k_is)
    (case c14 => k_is)
    (case k14 => k_is)
    (case a15 => k_is)
    (case l15 => k_is)
    (case c15 => k_is)
    (case k15 => k_is)
    (case a16 => k_is)
    (case l16 => k_is)
    (case c16 => k_is)
    (case k16 => k_is)
    (case a17 => k_is)
    (case l17 => k_is)
    (case c17 => k_is)
    (case k17 => k_is)
    (case a18 => k_is)
    (case l18 => k_is)
    (case c18 => k_is)
    (case k18 => k_is)
    (case a19 => k_is)
    (case l19 => k_is)
    (case c19 => k_is)
    (case k19 => k_is)
    (case z_abs => k_is)
    (case z_all => k_is)
    (case z_bool => k_is)
    (case z_int => k_is)
    (case z_isinstance => k_is)
    (case z_len => k_is)
    (case z_list => k_is)
    (case z_max => k_is)
    (case z_min => k_is)
    (case z_range => k_is)
    (case z_sum => k_is)
    (case z_tuple => k_is)
    (case z_zip => k_is)
    (case z_MOST_CONDITIONS => k_is)
