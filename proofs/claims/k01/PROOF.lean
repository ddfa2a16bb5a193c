import PyProof.Rows.All
import Wide.All
import OpenK.AllK
import Wide.FinOn
import HandS.ForMost
import HandS.ForExc
import HandS.IsInst
import HandS.Strs
import HandS.Flow
import PyProof.ReprRoads
import HandS.Walk
import HandS.Style
import PySem.Challenge.RW_flowtells_k01_checks_of_any_value
set_option Elab.async false
set_option linter.all false
set_option maxRecDepth 100000
set_option maxHeartbeats 4000000
/-! Room with the guards told: defs that may ask for the repr of a list -/
namespace FT
open PySem PySem.Spec PyProof.Rows L2

structure RG (k : Nat) (A : Around) : Prop where
  room : Room k A
  gd : A.guards = some []
theorem RG.mono {j k : Nat} {A : Around} (r : RG k A) (h : j ≤ k) : RG j A := ⟨r.room.mono h, r.gd⟩
theorem RG.deeper {k : Nat} {A : Around} (r : RG (k + 1) A) (env : Env) : RG k (A.deeper env) := ⟨r.room.deeper env, r.gd⟩
theorem RG.make {k : Nat} {A : Around} (r : RG (k + 1) A) (C : Addr) (us : List Value) (kw : List (Str × Value)) :
    RG k (A.under (.builtin "type.__call__" ⟨.ref C :: us, kw⟩)) := by
  refine ⟨r.room.make C us kw, ?_⟩
  have e := r.gd
  first
    | exact e
    | simpa [Around.under, Code.guards, Code.isGuard, guardIds, pushGuards] using e

section
variable (P : Program) (w : World) (K : PySem.W.Frag) (mg : Str → Option Value) (base : Heap) (CX : CXT)
/-- what a def keeps, where the guards are told -/
structure FnG (k : Nat) (f : Addr) (fd : FuncData) (ps : List Str) (sp : Sp) : Prop where
  arity : ∀ vs H Q E, sp vs H Q E → vs.length = ps.length
  goes : ∀ {A : Around} {outer : List Env} {s : Shared} {H : Hp} {args : Args} {us : List Value} {vs : List V} {Q : VK} {E : XK},
    RG k A → Env0 P w K mg base A outer s H → BindsTo s fd args (ps.zip us) → Vals vs us → sp vs H Q E →
      codeAny (model P w) A (.call (.ref f) args) (CR CX outer P w H s Q E) s
end
section
variable {P : Program} {w : World} {K : PySem.W.Frag} {mg : Str → Option Value} {base : Heap} {CX : CXT} {j k : Nat} {f : Addr} {fd : FuncData} {ps : List Str} {sp : Sp}
theorem FnG.of (F : FnOk P w K mg base CX k f fd ps sp) : FnG P w K mg base CX k f fd ps sp :=
  ⟨F.len, fun {A outer s H args us vs Q E} r e b v h => F.run A outer s H args us vs Q E r.room e b v h⟩
theorem FnG.mono (F : FnG P w K mg base CX j f fd ps sp) (h : j ≤ k) : FnG P w K mg base CX k f fd ps sp :=
  ⟨F.arity, fun r e b v q => F.goes (r.mono h) e b v q⟩
end

section
variable {X : Cx} {CX : CXT} {k : Nat} {f : Addr} {fd : FuncData} {ps ks : List Str} {sp : Sp} {dvs : List V} {ds : List Value} {E : XK} {x : Str} {p pos : Pos} {e : Expr} {es : List Expr} {t tk : TA}
  {kws : List Keyword} {g : List Value → List Value → List Value} {gV : List V → List V → List V}

theorem run_args {pins : List (Addr × Obj)} {σ : L2.St} {H : Hp} {s : Shared} {Q : VK} {args : List Value} {kw : List (Str × Value)} {us : List Value} {vs : List V}
    (F : FnG X.prog X.w X.K X.mg X.base CX k f fd ps sp) (hr : RG k X.A) (hx : Passes CX X E) (I : Inv X pins σ H s)
    (hb : BindsTo s fd ⟨args, kw⟩ (ps.zip us)) (r : Vals vs us) (h : sp vs H Q E) :
    wpAny (model X.prog X.w) X.A (call (.ref f) args kw) (EP X pins σ Q) X.xe s := by
  refine wpAny_call ?_
  refine codeAny_mono (F.goes hr I.env0 hb r h) ?_
  intro z s' q
  match z, q with
  | .error z, q => exact hx pins σ H s z s' I q
  | .ok (.ret u), q => exact I.after q
/-- f(a, b, ..) -/
theorem pe_callG (F : FnG X.prog X.w X.K X.mg X.base CX k f fd ps sp) (hr : RG k X.A) (hg : Gl X x) (hm : X.mg x = some (.ref f))
    (hk : PySem.W.keepIn X.K (.ref f) = true) (hb : Binds X.K fd ps ds) (hd : Vals dvs ds) (hx : Passes CX X E) (ha : PA X (e :: es) t)
    (hdb : (x == ("__debug__" : Str)) = false := by decide)
    (he : starEach (e :: es) X.env = (false, eval e X.env) :: starEach es X.env := by rfl)
    (hpl : (backTo pos (starEach es X.env)).any (·.1) = false := by rfl) :
    PE X (.Call (.Name x p) (e :: es) [] pos) (tCall sp dvs E t) := by
  constructor
  intro pins s σ H Q I h
  refine wpAny_Call_Name_kw (ld_glob I hg hm ?_ hdb)
  refine PySem.W.callWith_K (h₀ := X.base) I.ok.mod.kin hk ?_ he hpl
  refine thn (ha.run pos pins s σ H _ I h) ?_
  rintro us s1 ⟨vs, H1, I1, r, q⟩
  have r2 := r.append hd
  have hl : (us ++ ds).length = ps.length := r2.length.symm.trans (F.arity _ _ _ _ q)
  exact ⟨I1.kIn, run_args F hr hx I1 (hb s1 us I1.kIn hl) r2 q⟩
/-- f() -/
theorem pe_callG0 (F : FnG X.prog X.w X.K X.mg X.base CX k f fd ps sp) (hr : RG k X.A) (hg : Gl X x) (hm : X.mg x = some (.ref f))
    (hk : PySem.W.keepIn X.K (.ref f) = true) (hb : Binds X.K fd ps ds) (hd : Vals dvs ds) (hx : Passes CX X E)
    (hdb : (x == ("__debug__" : Str)) = false := by decide) : PE X (.Call (.Name x p) [] [] pos) (tCall sp dvs E tNil) := by
  constructor
  intro pins s σ H Q I h
  refine wpAny_Call_Name_kw (ld_glob I hg hm ?_ hdb)
  have hl : ([] ++ ds).length = ps.length := hd.length.symm.trans (F.arity _ _ _ _ h)
  exact PySem.W.callWith_K0 I.kIn hk (run_args (us := [] ++ ds) F hr hx I (hb s [] I.kIn hl) hd h)
/-- f(a, .., k = v, ..) -/
theorem pe_callGK (F : FnG X.prog X.w X.K X.mg X.base CX k f fd ps sp) (hr : RG k X.A) (hg : Gl X x) (hm : X.mg x = some (.ref f))
    (hk : PySem.W.keepIn X.K (.ref f) = true) (hb : KBinds X.K fd ps ks g gV) (hx : Passes CX X E) (ha : PA X (e :: es) t) (hkw : PK X kws tk)
    (hall : (backToKw pos (keywordEach kws X.env)).all (·.1.isSome) = true := by rfl)
    (hks : (backToKw pos (keywordEach kws X.env)).filterMap (·.1) = ks := by rfl)
    (hdb : (x == ("__debug__" : Str)) = false := by decide)
    (he : starEach (e :: es) X.env = (false, eval e X.env) :: starEach es X.env := by rfl)
    (hpl : ((backTo pos (starEach (e :: es) X.env)).any (·.1) || (backToKw pos (keywordEach kws X.env)).any (·.1.isNone)) = false := by rfl) :
    PE X (.Call (.Name x p) (e :: es) kws pos) (tCallK sp gV E t tk) := by
  constructor
  intro pins s σ H Q I h
  refine wpAny_Call_Name_kw (ld_glob I hg hm ?_ hdb)
  refine PySem.W.callWith_KW (h₀ := X.base) I.ok.mod.kin hk hall (thn (ha.run pos pins s σ H _ I h) ?_) hpl he
  rintro us s1 ⟨vs, H1, I1, r, q⟩
  refine thn (hkw.run pos pins s1 σ H1 _ I1 q) ?_
  rintro ws s2 ⟨zs, H2, I2, rz, q2⟩
  refine ⟨I2.kIn, ?_⟩
  rw [hks]
  have r3 := hb.rel r rz
  exact run_args F hr hx I2 (hb.to s2 us ws I2.kIn (r3.length.symm.trans (F.arity _ _ _ _ q2))) r3 q2
/-- f(k = v, ..) -/
theorem pe_callGK0 (F : FnG X.prog X.w X.K X.mg X.base CX k f fd ps sp) (hr : RG k X.A) (hg : Gl X x) (hm : X.mg x = some (.ref f))
    (hk : PySem.W.keepIn X.K (.ref f) = true) (hb : KBinds X.K fd ps ks g gV) (hx : Passes CX X E) (hkw : PK X kws tk)
    (hall : (backToKw pos (keywordEach kws X.env)).all (·.1.isSome) = true := by rfl)
    (hks : (backToKw pos (keywordEach kws X.env)).filterMap (·.1) = ks := by rfl)
    (hdb : (x == ("__debug__" : Str)) = false := by decide)
    (hpl : ((backTo pos (starEach [] X.env)).any (·.1) || (backToKw pos (keywordEach kws X.env)).any (·.1.isNone)) = false := by rfl) :
    PE X (.Call (.Name x p) [] kws pos) (tCallK sp gV E tNil tk) := by
  constructor
  intro pins s σ H Q I h
  refine wpAny_Call_Name_kw (ld_glob I hg hm ?_ hdb)
  refine PySem.W.callWith_KW0 (h₀ := X.base) I.ok.mod.kin hk hall ?_ hpl
  refine thn (hkw.run pos pins s σ H _ I h) ?_
  rintro ws s2 ⟨zs, H2, I2, rz, q2⟩
  refine ⟨I2.kIn, ?_⟩
  rw [hks]
  have r3 := hb.rel (.nil : Vals [] []) rz
  exact run_args F hr hx I2 (hb.to s2 [] ws I2.kIn (r3.length.symm.trans (F.arity _ _ _ _ q2))) r3 q2
end

section
variable {P : Program} {w : World} {K : PySem.W.Frag} {mg : Str → Option Value} {base : Heap} {CX : CXT}
/-- a def's body: the guards are told in it; it may let an error out -/
theorem okGX {x qual : Str} {st : Stmt} {f : Addr} {fd : FuncData} {N ps : List Str} {k : Nat} {sp : Sp} (F : Fun K x qual st f fd) (S : FnScope N ps (defScope st))
    (arity : ∀ vs H Q E, sp vs H Q E → vs.length = ps.length)
    (hbody : ∀ (cdv : Value) (A : Around) (outer : List Env) (s : Shared) (H : Hp) (vs : List V) (Q : VK) (E : XK),
      RG k (A.deeper (envOfC qual (defScope st) s.heap.objs.size f cdv)) → sp vs H Q E →
        ∃ t, PSs (cxOf CX P w K mg base N qual (defScope st) f cdv A outer s H E) (defBody st) t ∧ t { nx := fun _ H' => Q .non H', rt := Q } (start N vs) H) :
    FnG P w K mg base CX (k + 1) f fd ps sp := by
  obtain ⟨oc, od, kV, doc, pm, an, cdv, ct, osl, rfl, lk, hcd⟩ := F.ex
  refine ⟨arity, ?_⟩
  intro A outer s H args us vs Q E hr e0 hb r hsp
  -- the same def's own rule at this one place: a promise that holds here alone
  have KX : K.In s.heap := e0.mod.kin.keeps fun b o q => (e0.bs b o q).1
  have lim : s.heap.NoLimit := e0.mod.nolimit.keeps fun b o q => (e0.bs b o q).1
  have hl := arity _ _ _ _ hsp
  obtain ⟨t, ht, hq⟩ := hbody cdv A outer s H vs Q E (hr.deeper _) hsp
  refine codeAny_call_function hr.room.depth (KX _ _ lk) rfl S.co S.gen rfl (PySem.W.codeRec_of KX hcd) (hb _ _ _ _ ?_)
  refine wpAny_newFunctionEnv_cells S.kind ?_ ?_
  · rintro ⟨n, v⟩ hy
    cases S.par n (List.of_mem_zip hy).1 with
    | inl q => exact .inl q
    | inr q => exact .inr ⟨q, PySem.W.cellsFrom_some _ _ _ (.inl q)⟩
  · intro env he s1 hin
    subst he
    refine ⟨lim.keeps hin.toInCall.keep, codeAny_func ?_⟩
    have I := inv_start (CX := CX) (P := P) (w := w) (qual := qual) (f := f) (cd := cdv) (E := E) S hr.room.hd e0 hl r hin
    refine wpAny_mono (ht.run [] s1 (start N vs) H _ I hq) ?_ (fun _ _ q => q)
    intro fl s' hs
    match fl, hs with
    | .ret u, ⟨v, σ', H', J, rv, q⟩ => exact ⟨v, H', J.os, J.bare, J.base, J.hok, rv, q⟩
    | .next, ⟨σ', H', J, q⟩ => exact ⟨.non, H', J.os, J.bare, J.base, J.hok, rfl, q⟩
    | .brk, ⟨_, _, _, q⟩ => exact q.elim
    | .cont, ⟨_, _, _, q⟩ => exact q.elim
/-- the same, nothing leaves it -/
theorem okG {x qual : Str} {st : Stmt} {f : Addr} {fd : FuncData} {N ps : List Str} {k : Nat} {sp : Sp} (F : Fun K x qual st f fd) (S : FnScope N ps (defScope st))
    (arity : ∀ vs H Q E, sp vs H Q E → vs.length = ps.length)
    (hbody : ∀ (cdv : Value) (A : Around) (outer : List Env) (s : Shared) (H : Hp) (vs : List V) (Q : VK) (E : XK),
      RG k (A.deeper (envOfC qual (defScope st) s.heap.objs.size f cdv)) → sp vs H Q E →
        ∃ t, PSs (cxOf CX P w K mg base N qual (defScope st) f cdv A outer s H E).nox (defBody st) t ∧ t { nx := fun _ H' => Q .non H', rt := Q } (start N vs) H) :
    FnG P w K mg base CX (k + 1) f fd ps sp := by
  refine okGX F S arity ?_
  intro cdv A outer s H vs Q E hr h
  obtain ⟨t, h1, h2⟩ := hbody cdv A outer s H vs Q E hr h
  exact ⟨t, h1.nox, h2⟩
end
end FT

/-! the law's own call, where the guards are told -/
namespace FT
open PySem PySem.Spec PyProof.Rows L2

section
variable {P : Program} {w : World} {K : PySem.W.Frag} {mg mb : Str → Option Value} {CX : CXT} {k : Nat} {fa a : Addr} {fd : FuncData} {x : Str} {sp : Sp} {s : Shared} {vs : List Value} {ns : List Int}
/-- the script as the one thing that is tracked, or none where the module holds it -/
theorem script_heap (KX : K.In s.heap) (ha : s.heap.get? a = some { cls := .type "list", data := .seq vs.toArray }) (hi : IntsAre vs ns) (hl : ns.length ≤ sizeLine) :
    ∃ H : Hp, Only H ∧ SqL K H a (ns.map V.int) ∧ HOk P w H s.heap ∧ ∀ b u, H b = some u → b = a ∧ K.lookup a = none := by
  have rv := vals_ints hi
  by_cases hk : K.lookup a = none
  · refine ⟨fun b => if b = a then some (.frz { cls := .type "list", data := .seq vs.toArray } (.lst (ns.map V.int))) else none, ?_, ?_, ?_, ?_⟩
    · intro b
      by_cases hb : b = a
      · right
        exact ⟨_, _, if_pos hb⟩
      · left
        exact if_neg hb
    · left
      right
      exact ⟨_, if_pos rfl⟩
    · intro b u z
      by_cases hb : b = a
      · subst hb
        obtain rfl := Option.some.inj ((if_pos rfl).symm.trans z)
        exact ⟨ha, by rw [List.length_map]; exact hl, vs, _, rv, ha⟩
      · cases (if_neg hb).symm.trans z
    · intro b u z
      refine ⟨?_, hk⟩
      by_cases hb : b = a
      · exact hb
      · cases (if_neg hb).symm.trans z
  · obtain ⟨o, ho⟩ := Option.ne_none_iff_exists'.mp hk
    have e := (KX a o ho).symm.trans ha
    obtain rfl := Option.some.inj e
    have nope : ∀ {u : HO}, ¬ (none : Option HO) = some u := fun z => by cases z
    refine ⟨fun _ => none, fun _ => .inl rfl, .inr ?_, fun b u z => (nope z).elim, fun b u z => (nope z).elim⟩
    refine ⟨_, vs.toArray, _, ho, rfl, rfl, rfl, ?_, by simpa using rv⟩
    rw [List.size_toArray, hi.length]
    exact hl
theorem law_callG (KX : K.In s.heap) (hns : s.heap.Ns mainGlobals mg) (hb : s.heap.Ns builtinsNs mb) (hbb : ∀ x : Str, x ≠ "__name__" → mb x = bootBuiltins x)
    (hlim : s.heap.NoLimit) (hg : s.gens = #[]) (ha : s.heap.get? a = some { cls := .type "list", data := .seq vs.toArray }) (hi : IntsAre vs ns) (hl : ns.length ≤ sizeLine)
    (hr : RG k callerA) (F : ∀ base : Heap, K.In base → base.Ns mainGlobals mg → FnG P w K mg base CX k fa fd [x] sp)
    (hbind : ∀ (s : Shared) (u : Value), BindsTo s fd ⟨[u], []⟩ [(x, u)])
    (hsp : ∀ H : Hp, Only H → SqL K H a (ns.map V.int) → sp [.ref a] H (fun v _ => v = .bl true) fun _ _ _ => False)
    (hCX : ∀ H e s', CX [] H s (fun _ _ _ => False) e s' → False) :
    codeAny (model P w) callerA (.call (.ref fa) ⟨[.ref a], []⟩)
      (fun r s' => r = .ok (.ret (.bool true)) ∧ OldK s.heap s'.heap ∧ s'.os = s.os ∧ AllBare s'.gens) s := by
  obtain ⟨H, hO, hS, hok, hA⟩ := script_heap (P := P) (w := w) KX ha hi hl
  have hid : ∀ {b : Addr} {o : Obj}, s.heap.get? b = some o → H b = none → (hidT s.heap H).get? b = some o := fun e n => hidT_get e n
  have dictFree : ∀ {b : Addr} {o : Obj} {es : Array DictEntry} {n : Nat}, s.heap.get? b = some o → o.data = .dict es n → H b = none := by
    intro b o es n e d
    cases q : H b with
    | none => rfl
    | some u =>
      obtain ⟨rfl, _⟩ := hA b u q
      obtain rfl := Option.some.inj (ha.symm.trans e)
      cases d
  have nsB : ∀ {b : Addr} {m : Str → Option Value}, s.heap.Ns b m → (hidT s.heap H).Ns b m := by
    rintro b m ⟨o, es, n, e, d, r⟩
    exact ⟨o, es, n, hid e (dictFree e d), d, r⟩
  have kB : K.In (hidT s.heap H) := by
    intro b o e
    refine hid (KX b o e) ?_
    cases q : H b with
    | none => rfl
    | some u =>
      obtain ⟨rfl, z⟩ := hA b u q
      cases z.symm.trans e
  obtain ⟨mc, c1, c2⟩ := hlim
  have M : Mod K mg (hidT s.heap H) := ⟨kB, nsB hns, ⟨mb, nsB hb, hbb⟩, ⟨mc, nsB c1, c2⟩⟩
  have none_in : ∀ b : Addr, ¬ b ∈ ([] : List Addr) := fun b => List.not_mem_nil
  have e0 : Env0 P w K mg (hidT s.heap H) callerA [] s H :=
    { frames := rfl, mod := M, bs := fun b o e => of_hidT e, bsz := Nat.le_of_eq (hidT_size _ _), funs := trivial, frf := fun b hb => absurd hb (none_in b), hok := hok, bare := .of_eq hg }
  have run := (F _ kB (nsB hns)).goes hr e0 (us := [.ref a]) (vs := [.ref a]) (hbind s (.ref a)) (Paired.cons (show RelV (V.ref a) (Value.ref a) from rfl) Paired.nil) (hsp H hO hS)
  refine codeAny_mono run ?_
  intro r s' q
  match r, q with
  | .error e, q => exact (hCX H e s' q).elim
  | .ok (.ret u), ⟨v, H', os, bare, un, hok', rv, hv⟩ =>
    obtain rfl : v = .bl true := hv
    obtain rfl : u = Value.bool true := rv
    refine ⟨rfl, OldK.of_keep ?_, os, bare⟩
    intro b o e
    cases q : H b with
    | none => exact un.keep b o e q (none_in b) (none_in b)
    | some t =>
      obtain ⟨ob, xs, z⟩ := (hO b).resolve_left (by rw [q]; exact fun c => by cases c)
      have e1 := (hok b _ z).1
      have e2 := (hok' b _ (un.frzs b ob _ z)).1
      obtain rfl := Option.some.inj (e.symm.trans e1)
      exact e2
end
/-- the goal that k_head leaves -/
theorem walk_ofG {l : PySem.W.OpenLaw} {n k : Nat} {q : Program} {loose : List Str} {XP : (Str → Option Value) → Heap → Prop} {YP : World → Heap → Prop} {d : DefRec} {K : Params → PySem.W.Frag} {CX : World → CXT} {sp : World → Sp} {x : Str}
    (hn : l.most = some n) (hn2 : n ≤ sizeLine) (hdf : d.params.defaults = []) (hr : RG k callerA) (hY : ∀ (w : World) (h : Heap), YP w h → (K w.params).In h)
    (F : ∀ (w : World) (mg : Str → Option Value) (fa : Addr) (h : Heap), (K w.params).In h → h.Ns mainGlobals mg → mg d.name = some (.ref fa) →
      ∃ fd : FuncData, (∀ (s : Shared) (u : Value), BindsTo s fd ⟨[u], []⟩ [(x, u)]) ∧
        ∀ base : Heap, (K w.params).In base → base.Ns mainGlobals mg → FnG l.prog w (K w.params) mg base (CX w) k fa fd [x] (sp w))
    (hsp : ∀ (w : World) (H : Hp) (a : Addr) (ns : List Int), ns.length ≤ n → Only H → SqL (K w.params) H a (ns.map V.int) → sp w [.ref a] H (fun v _ => v = .bl true) fun _ _ _ => False)
    (hCX : ∀ (w : World) (H : Hp) (s : Shared) (e : Value) (s' : Shared), CX w [] H s (fun _ _ _ => False) e s' → False) :
    PySem.W.WalkO q loose XP YP l.row.toRowW d [] (fun f vs => PySem.call f vs) := by
  apply Att.attach_call hn hdf
  intro w s₀ s₁ mg mb fa o pm cd doc a vs ns G Y ho hd hcd hmg hobj hints hlen hg
  have KX := hY w _ Y
  obtain ⟨fd, hb, hF⟩ := F w mg fa _ KX G.T.g hmg
  have hsz := Nat.le_trans hlen hn2
  refine law_callG (mb := mb) (sp := sp w) (CX := CX w) KX G.T.g G.T.b G.T.builtins G.T.nolimit hg hobj hints hsz hr hF hb ?_ (hCX w · s₁)
  intro H hO hS
  exact hsp w H a ns hlen hO hS
end FT

/-! repr of plain data, of a flat dict -/
namespace FT
open PySem PySem.Spec PyProof.Rows L2

mutual
theorem noD {K : PySem.W.Frag} {H : Hp} : ∀ (d : PyData) (v : V), Dp K H v d → d.hasDict = false
  | .none, _, _ => by simp only [PyData.hasDict]
  | .bool _, _, _ => by simp only [PyData.hasDict]
  | .int _, _, _ => by simp only [PyData.hasDict]
  | .str _, _, _ => by simp only [PyData.hasDict]
  | .list ds, _, h => by
    cases h with
    | lst _ a =>
      simp only [PyData.hasDict]
      exact noDs ds _ a
  | .tuple ds, _, h => by
    cases h with
    | tup _ a =>
      simp only [PyData.hasDict]
      exact noDs ds _ a
  | .dict _, _, h => by cases h
theorem noDs {K : PySem.W.Frag} {H : Hp} : ∀ (ds : List PyData) (vs : List V), DpAll K H vs ds → PyData.hasDictAll ds = false
  | [], _, _ => by simp only [PyData.hasDictAll]
  | d :: ds, _, h => by
    cases h with
    | cons a b =>
      simp only [PyData.hasDictAll]
      rw [noD d _ a, noDs ds _ b]
      rfl
end
/-- a flat value's data -/
def flatD : V → Option PyData
  | .non => some .none
  | .bl b => some (.bool b)
  | .int i => some (.int i)
  | .str x => some (.str x)
  | _ => none
def keyD : Key → PyData
  | .inl i => .int i
  | .inr x => .str x
theorem flat_reads {h : Heap} {v : V} {u : Value} {d : PyData} (e : flatD v = some d) (r : RelV v u) : Reads h u d [] := by
  cases v with
  | non => cases e; cases r; exact .none
  | bl b => cases e; cases r; exact .bool b
  | int i => cases e; obtain ⟨t, rfl⟩ := r; exact .int i t
  | str x => cases e; obtain ⟨t, rfl⟩ := r; exact .str x t
  | byt _ => cases e
  | flt _ => cases e
  | ref _ => cases e
  | ty _ => cases e
theorem key_reads {h : Heap} {k : Key} {u : Value} (e : keyIs k u = true) : Reads h u (keyD k) [] := by
  rcases keyIs_shape e with ⟨i, t, rfl, rfl⟩ | ⟨x, t, rfl, rfl⟩
  · exact .int i t
  · exact .str x t
/-- the data of a flat dict, entry by entry -/
inductive FlatKv : List (Key × V) → List (PyData × PyData) → Prop
  | nil : FlatKv [] []
  | cons {k : Key} {v : V} {d : PyData} {kvs : List (Key × V)} {ds : List (PyData × PyData)} : flatD v = some d → FlatKv kvs ds → FlatKv ((k, v) :: kvs) ((keyD k, d) :: ds)
theorem flatkv_reads {P : Program} {w : World} {h : Heap} : ∀ {kvs : List (Key × V)} {ds : List (PyData × PyData)} {es : List DictEntry} {vs : List (Key × Value)}, FlatKv kvs ds → KV kvs vs → Pairs (mixKind P w) es vs →
    ReadsAll h (es.map (·.key)) (ds.map (·.1)) [] ∧ ReadsAll h (es.map (·.val)) (ds.map (·.2)) []
  | _, _, _, _, .nil, .nil, .nil => ⟨.nil, .nil⟩
  | _, _, _, _, .cons e f, .cons r q, .cons p1 p2 p3 => by
    obtain ⟨a, b⟩ := flatkv_reads f q p3
    obtain ⟨r1, r2⟩ := r
    refine ⟨?_, ?_⟩
    · have e1 := key_reads (h := h) (show keyIs _ _ = true from (mixKind_is P w _ _).symm.trans p1)
      rw [← r1] at e1
      exact ReadsAll.cons e1 a
    · rw [← p2] at r2
      exact ReadsAll.cons (flat_reads e r2) b

section
variable {X : Cx}
/-- repr(v), v plain data -/
def rRepr (K : PySem.W.Frag) : List V → Hp → VK → Prop := fun xs H Q => ∃ v d, xs = [v] ∧ Dp K H v d ∧ d.showable = true ∧ d.depth ≤ 60 ∧ d.shown.length ≤ sizeLine ∧ Q (.str d.shown) H
theorem call_repr (hg : X.A.guards = some []) (hu : X.A.units + 64 < cLine) : CallR X (.builtin "repr") (rRepr X.K) := by
  rintro pins s σ H xs us Q I r ⟨v, d, rfl, hd, hs, hdep, hsz, q⟩
  obtain ⟨u, rfl, r1⟩ := vals1 r
  have hno := noD d v hd
  have key : ∀ {a : Addr}, u = .ref a → wpAny (model X.prog X.w) X.A (call (.builtin "repr") [u]) (EP X pins σ Q) X.xe s := by
    rintro a rfl
    obtain ⟨as, rd⟩ := Dp.reads I d v _ hd r1
    refine repr_of_reads' rd hs (PyData.noDict_hsm hno) hg (by omega) (fun _ _ e => e) ?_ hsz
    intro h' t tk hk
    exact ⟨.str d.shown, H, I.kept hk, ⟨_, rfl⟩, q⟩
  cases hd with
  | non => cases r1; exact PySem.P.repr_of_none ⟨.str _, H, I.tok _, ⟨_, rfl⟩, by simpa only [PyData.shown] using q⟩
  | bl b => cases r1; exact PySem.P.repr_of_bool ⟨.str _, H, I.tok _, ⟨_, rfl⟩, by simpa only [PyData.shown] using q⟩
  | int i =>
    obtain ⟨t, rfl⟩ := r1
    have z : i.natAbs.log2 < 1920 := by simpa only [PyData.showable, decide_eq_true_eq] using hs
    exact PySem.P.repr_of_int z ⟨.str _, H, I.tok _, ⟨_, rfl⟩, by simpa only [PyData.shown] using q⟩
  | str x =>
    obtain ⟨t, rfl⟩ := r1
    have z : (reprText x).length ≤ sizeLine := by simpa only [PyData.shown] using hsz
    exact PySem.P.repr_of_str ⟨.str _, H, I.tok _, ⟨_, rfl⟩, by simpa only [PyData.shown] using q⟩ z
  | lst _ _ => exact key r1
  | tup _ _ => exact key r1
/-- repr(d), d a dict of flat values -/
def rReprD : List V → Hp → VK → Prop := fun xs H Q => ∃ (a : Addr) (kvs : List (Key × V)) (ds : List (PyData × PyData)), xs = [.ref a] ∧ H a = some (.dK kvs) ∧ FlatKv kvs ds ∧ (PyData.dict ds).showable = true ∧
  (PyData.dict ds).depth ≤ 60 ∧ (PyData.dict ds).shown.length ≤ sizeLine ∧ Q (.str (PyData.dict ds).shown) H
theorem call_reprD (hg : X.A.guards = some []) (hu : X.A.units + 64 < cLine) : CallR X (.builtin "repr") rReprD := by
  rintro pins s σ H xs us Q I r ⟨a, kvs, ds, rfl, ha, hf, hs, hdep, hsz, q⟩
  obtain ⟨u, rfl, r1⟩ := vals1 r
  obtain rfl : u = .ref a := r1
  obtain ⟨_, hsys, vs, kv, o, es, ep, h1, h2, h3, _, h5, _⟩ := (show ObjOk X.prog X.w H s.heap a (.dK kvs) from I.hok a _ ha)
  obtain ⟨ra, rb⟩ := flatkv_reads (h := s.heap) hf kv h5
  have rd : Reads s.heap (.ref a) (.dict ds) (a :: [] ++ []) := .dict h1 h2.1 h3 ra rb
  refine repr_of_reads' rd hs ?_ hg (by omega) (fun _ _ e => e) ?_ hsz
  · intro _ hm
    have e : sysModules = a := by simpa using hm
    rw [e] at hsys
    simp at hsys
  · intro h' t tk hk
    exact ⟨.str _, H, I.kept hk, ⟨_, rfl⟩, q⟩
theorem call_repr2 (hg : X.A.guards = some []) (hu : X.A.units + 64 < cLine) : CallR X (.builtin "repr") (fun xs H Q => rRepr X.K xs H Q ∨ rReprD xs H Q) := CallR.or (call_repr hg hu) (call_reprD hg hu)
end
end FT

/-! small words: heaps but for one place, lists of ints as data, a cut between two statements -/
namespace FT
open PySem PySem.Spec PyProof.Rows L2

/-- all but p stands as it stood -/
def Kp (p : Addr) (H H' : Hp) : Prop := ∀ b o, b ≠ p → H b = some o → H' b = some o
theorem Kp.refl (p : Addr) (H : Hp) : Kp p H H := fun _ _ _ h => h
theorem Kp.trans {p : Addr} {H H1 H2 : Hp} (a : Kp p H H1) (b : Kp p H1 H2) : Kp p H H2 := fun c o n h => b c o n (a c o n h)
theorem Kp.put {p : Addr} {H H' : Hp} {o : HO} (a : Kp p H H') : Kp p H (upd H' p o) := fun c u n h => by rw [upd_ne n]; exact a c u n h
theorem Kp.new {p q : Addr} {H H' : Hp} {o : HO} (a : Kp p H H') (hq : H' q = none) : Kp p H (upd H' q o) := fun c u n h => by
  have e := a c u n h
  rw [upd_ne (ne_of_none e hq)]
  exact e
theorem Kp.of_same {p : Addr} {H H' : Hp} (a : Same H H') : Kp p H H' := fun c o _ h => a c o h
theorem Same.new {H H' : Hp} {q : Addr} {o : HO} (a : Same H H') (hq : H' q = none) : Same H (upd H' q o) := fun c u h => by
  have e := a c u h
  rw [upd_ne (ne_of_none e hq)]
  exact e
theorem at_new {H : Hp} {p q : Addr} {o u : HO} (h : H p = some o) (hq : H q = none) : upd H q u p = some o := by rw [upd_ne (ne_of_none h hq)]; exact h
theorem at_oth {H : Hp} {p q : Addr} {o u : HO} (h : H p = some o) (n : p ≠ q) : upd H q u p = some o := by rw [upd_ne n]; exact h
theorem ne_lst {H : Hp} {p q : Addr} {xs ys : List V} (h : H p = some (.lst xs)) (g : H q = some (.lst ys)) (n : xs ≠ ys) : p ≠ q := ne_of h g fun e => n (HO.lst.inj e)

/-- a cut: whatever stands behind, W is what the first statement must reach -/
theorem seq_cut {t u : TS} {D : Ends} {σ : L2.St} {H : Hp} (W : L2.St → Hp → Prop) (h1 : ∀ N : L2.St → Hp → Prop, (∀ σ' H', W σ' H' → N σ' H') → t { D with nx := N } σ H)
    (h2 : ∀ σ' H', W σ' H' → u D σ' H') : tSeq t u D σ H := h1 (u D) h2

theorem dp_ints {K : PySem.W.Frag} {H : Hp} : ∀ ns : List Int, DpAll K H (ns.map V.int) (ns.map PyData.int)
  | [] => .nil
  | n :: r => .cons (.int n) (dp_ints r)
theorem dp_bools {K : PySem.W.Frag} {H : Hp} : ∀ ns : List Bool, DpAll K H (ns.map V.bl) (ns.map PyData.bool)
  | [] => .nil
  | n :: r => .cons (.bl n) (dp_bools r)
theorem depthAll_ints : ∀ ns : List Int, PyData.depthAll (ns.map PyData.int) = 0
  | [] => by simp only [List.map_nil, PyData.depthAll]
  | n :: r => by
    simp only [List.map_cons, PyData.depthAll, PyData.depth]
    rw [depthAll_ints r]
    rfl
theorem layAll_ints : ∀ ns : List Int, PyData.canLayAll0 (ns.map PyData.int) = true
  | [] => by simp only [List.map_nil, PyData.canLayAll0]
  | n :: r => by
    simp only [List.map_cons, PyData.canLayAll0, PyData.canLay0]
    rw [layAll_ints r]
    rfl
theorem shaped_ints (ns : List Int) : SeqAt.shaped (.list (ns.map PyData.int)) = true := by
  unfold SeqAt.shaped
  simp only [PyData.canLay0, PyData.depth, layAll_ints, depthAll_ints]
  rfl
theorem eqv_ints : ∀ ns ms : List Int, PyData.eqvAll (ns.map PyData.int) (ms.map PyData.int) = decide (ns = ms)
  | [], [] => by simp [PyData.eqvAll]
  | [], m :: r => by simp [PyData.eqvAll]
  | n :: r, [] => by simp [PyData.eqvAll]
  | n :: r, m :: q => by
    simp only [List.map_cons, PyData.eqvAll, PyData.eqv, eqv_ints r q]
    by_cases h1 : n = m <;> by_cases h2 : r = q <;> simp [h1, h2]
theorem eqv_list (ns ms : List Int) : PyData.eqv (.list (ns.map PyData.int)) (.list (ms.map PyData.int)) = decide (ns = ms) := by
  simp only [PyData.eqv, eqv_ints]
theorem mod_fits {i m : Int} (h1 : 1 ≤ m) : 0 ≤ i.fmod m ∧ i.fmod m < m := ⟨Int.fmod_nonneg_of_pos _ (by omega), Int.fmod_lt_of_pos _ (by omega)⟩
/-- an item at a rest of the length -/
theorem at_mod {ns : List Int} (t : Int) (h : ns ≠ []) : ∃ x, atI (ns.map V.int) (t.fmod (ns.length : Int)) = some (.int x) := by
  have hl : 0 < ns.length := List.length_pos_iff.mpr h
  obtain ⟨h0, h1⟩ := mod_fits (i := t) (m := (ns.length : Int)) (by omega)
  obtain ⟨j, hj⟩ : ∃ j : Nat, t.fmod (ns.length : Int) = (j : Int) := ⟨(t.fmod (ns.length : Int)).toNat, by omega⟩
  have hlt : j < ns.length := by omega
  refine ⟨ns[j], ?_⟩
  rw [hj]
  exact atI_nat (by rw [List.getElem?_map, List.getElem?_eq_getElem hlt]; rfl)
end FT

/-! the bag of draws; a list or a tuple walked; kinds of values -/
namespace FT
open PySem PySem.Spec PyProof.Rows L2

/-- the bag at p, its ints at c, after n draws at most -/
structure Bg (H : Hp) (p c : Addr) (n : Nat) : Prop where
  ne : c ≠ p
  at_ : ∃ (ms : List Int) (t l : Int), H p = some (.lst [.ref c, .int t, .int l]) ∧ H c = some (.lst (ms.map V.int)) ∧ ms.length ≤ 63 ∧ 0 ≤ t ∧ t ≤ (n : Int)
section
variable {H H' : Hp} {p c q : Addr} {n m : Nat} {o : HO}
theorem Bg.same (b : Bg H p c n) (h1 : H' p = H p) (h2 : H' c = H c) : Bg H' p c n := by
  obtain ⟨e, ms, t, l, a1, a2, a3⟩ := b
  exact ⟨e, ms, t, l, h1.trans a1, h2.trans a2, a3⟩
theorem Bg.has (b : Bg H p c n) : (∃ o, H p = some o) ∧ ∃ o, H c = some o := by
  obtain ⟨e, ms, t, l, a1, a2, a3⟩ := b
  exact ⟨⟨_, a1⟩, ⟨_, a2⟩⟩
theorem Bg.keep (b : Bg H p c n) (s : Same H H') : Bg H' p c n := by
  obtain ⟨e, ms, t, l, a1, a2, a3⟩ := b
  exact ⟨e, ms, t, l, s _ _ a1, s _ _ a2, a3⟩
theorem Bg.new (b : Bg H p c n) (hq : H q = none) : Bg (upd H q o) p c n := b.keep (Same.new (fun _ _ h => h) hq)
theorem Bg.oth (b : Bg H p c n) (h1 : p ≠ q) (h2 : c ≠ q) : Bg (upd H q o) p c n := b.same (upd_ne h1) (upd_ne h2)
theorem Bg.le (b : Bg H p c n) (h : n ≤ m) : Bg H p c m := by
  obtain ⟨e, ms, t, l, a1, a2, a3, a4, a5⟩ := b
  exact ⟨e, ms, t, l, a1, a2, a3, a4, by omega⟩
end

/-- an int, as the package takes it -/
def isI : V → Bool
  | .int _ => true
  | _ => false
def isB : V → Bool
  | .bl _ => true
  | _ => false
/-- values whose kind is known -/
def OkV (H : Hp) : V → Prop
  | .non => True
  | .bl _ => True
  | .int _ => True
  | .str _ => True
  | .ref a => (∃ xs, H a = some (.lst xs)) ∨ (∃ xs, H a = some (.tup xs)) ∨ ∃ kvs, H a = some (.dK kvs)
  | _ => False
theorem OkV.mono {H H' : Hp} {v : V} (h : OkV H v) (s : ∀ a o, v = .ref a → H a = some o → H' a = some o) : OkV H' v := by
  cases v with
  | ref a =>
    rcases h with ⟨xs, e⟩ | ⟨xs, e⟩ | ⟨xs, e⟩
    · exact .inl ⟨xs, s _ _ rfl e⟩
    · exact .inr (.inl ⟨xs, s _ _ rfl e⟩)
    · exact .inr (.inr ⟨xs, s _ _ rfl e⟩)
  | non => exact h
  | bl _ => exact h
  | int _ => exact h
  | str _ => exact h
  | byt _ => exact h
  | flt _ => exact h
  | ty _ => exact h
def isLT (H : Hp) : V → Bool
  | .ref a => match H a with
    | some (.lst _) => true
    | some (.tup _) => true
    | _ => false
  | _ => false
/-- its class, and what isinstance says -/
theorem kindV {K : PySem.W.Frag} {H : Hp} {v : V} (h : OkV H v) : ∃ T : String, TyX K H v (.type T) ∧ kitB T "int" = some (isI v || isB v) ∧ kitB T "bool" = some (isB v) ∧
    PySem.W.kitAny K (.type T) [.type "list", .type "tuple"] = some (isLT H v) := by
  have any2 : ∀ {T : String} {a b : Bool}, kitB T "list" = some a → kitB T "tuple" = some b → PySem.W.kitAny K (.type T) [.type "list", .type "tuple"] = some (a || b) := by
    intro T a b h1 h2
    refine kitAny_cons (kit_ty h1) (fun e => ?_) (fun e => by rw [e]; rfl)
    subst e
    refine kitAny_cons (kit_ty h2) (fun e => by subst e; exact kitAny_nil) (fun e => by rw [e]; rfl)
  cases v with
  | non => exact ⟨"NoneType", .base .non, (show kitB "NoneType" "int" = some false by decide +kernel), (show kitB "NoneType" "bool" = some false by decide +kernel), any2 (a := false) (b := false) (by decide +kernel) (by decide +kernel)⟩
  | bl b => exact ⟨"bool", .base (.bl b), (show kitB "bool" "int" = some true by decide +kernel), (show kitB "bool" "bool" = some true by decide +kernel), any2 (a := false) (b := false) (by decide +kernel) (by decide +kernel)⟩
  | int b => exact ⟨"int", .base (.int b), (show kitB "int" "int" = some true by decide +kernel), (show kitB "int" "bool" = some false by decide +kernel), any2 (a := false) (b := false) (by decide +kernel) (by decide +kernel)⟩
  | str b => exact ⟨"str", .base (.str b), (show kitB "str" "int" = some false by decide +kernel), (show kitB "str" "bool" = some false by decide +kernel), any2 (a := false) (b := false) (by decide +kernel) (by decide +kernel)⟩
  | ref a =>
    rcases h with ⟨xs, e⟩ | ⟨xs, e⟩ | ⟨xs, e⟩
    · refine ⟨"list", .base (.lst e), (show kitB "list" "int" = some false by decide +kernel), (show kitB "list" "bool" = some false by decide +kernel), ?_⟩
      have z : isLT H (.ref a) = (true || false) := by simp only [isLT, e]; rfl
      rw [z]
      exact any2 (by decide +kernel) (by decide +kernel)
    · refine ⟨"tuple", .base (.tup e), (show kitB "tuple" "int" = some false by decide +kernel), (show kitB "tuple" "bool" = some false by decide +kernel), ?_⟩
      have z : isLT H (.ref a) = (false || true) := by simp only [isLT, e]; rfl
      rw [z]
      exact any2 (by decide +kernel) (by decide +kernel)
    · refine ⟨"dict", .base (.dK e), (show kitB "dict" "int" = some false by decide +kernel), (show kitB "dict" "bool" = some false by decide +kernel), ?_⟩
      have z : isLT H (.ref a) = (false || false) := by simp only [isLT, e]; rfl
      rw [z]
      exact any2 (by decide +kernel) (by decide +kernel)
  | byt _ => exact h.elim
  | flt _ => exact h.elim
  | ty _ => exact h.elim

/-! a name that holds a list or a tuple, walked -/
def SeqR (K : PySem.W.Frag) (H : Hp) (a : Addr) (R : It → Hp → Prop) : Prop := ((∃ xs, SqL K H a xs) ∧ R (Itl K a) H) ∨ ((∃ xs, SqT K H a xs) ∧ R (Itt K a) H)
def iSeq (K : PySem.W.Frag) (tl : TE) : TI := fun σ H R => tl σ H fun x H1 => ∃ a, x = .ref a ∧ SeqR K H1 a R
theorem pi_seqV {X : Cx} {tg l : Expr} {i : Nat} (hl : PE X l (tVar i)) : PI X tg l (iSeq X.K (tVar i)) := by
  constructor
  rintro pins s σ H R I ⟨v, e, a, rfl, h⟩
  rcases h with ⟨hx, r⟩ | ⟨hx, r⟩
  · exact (pi_list hl).run pins s σ H R I ⟨_, e, a, rfl, hx, r⟩
  · exact (pi_tup hl).run pins s σ H R I ⟨_, e, a, rfl, hx, r⟩
/-- a list or a tuple of xs stands at a -/
def SqA (K : PySem.W.Frag) (H : Hp) (a : Addr) (xs : List V) : Prop := SqL K H a xs ∨ SqT K H a xs
theorem sqL_at {K : PySem.W.Frag} {H H' : Hp} {a : Addr} {xs : List V} (h : SqL K H a xs) (s : ∀ o, H a = some o → H' a = some o) : SqL K H' a xs := by
  rcases h with (h | ⟨o, h⟩) | h
  · exact .inl (.inl (s _ h))
  · exact .inl (.inr ⟨o, s _ h⟩)
  · exact .inr h
theorem sqT_at {K : PySem.W.Frag} {H H' : Hp} {a : Addr} {xs : List V} (h : SqT K H a xs) (s : ∀ o, H a = some o → H' a = some o) : SqT K H' a xs := by
  rcases h with (h | ⟨o, h⟩) | h
  · exact .inl (.inl (s _ h))
  · exact .inl (.inr ⟨o, s _ h⟩)
  · exact .inr h
theorem seq_by {K : PySem.W.Frag} {H : Hp} {a : Addr} {xs : List V} {R : It → Hp → Prop} (h : SqA K H a xs)
    (r : ∀ (J : It) (G : Hp → Prop), Walk J xs.length G (YAt xs) → (∀ H', (∀ o, H a = some o → H' a = some o) → G H') → R J H) :
    SeqR K H a R := by
  rcases h with h | h
  · exact .inl ⟨⟨_, h⟩, r _ _ walk_list fun H' s => sqL_at h s⟩
  · exact .inr ⟨⟨_, h⟩, r _ _ walk_tup fun H' s => sqT_at h s⟩
end FT
namespace FT
open PySem PySem.Spec PyProof.Rows L2
theorem kbindsF {K : PySem.W.Frag} {x qual : Str} {st : Stmt} {f : Addr} {fd : FuncData} {ps ks : List Str} {g : List Value → List Value → List Value} {gV : List V → List V → List V} (F : Fun K x qual st f fd)
    (rel : ∀ {vs : List V} {us : List Value} {zs : List V} {ws : List Value}, Vals vs us → Vals zs ws → Vals (gV vs zs) (g us ws))
    (h : ∀ (kV doc pm : Value) (an : Option Addr) (cdv ct : Value) (us ws : List Value), (g us ws).length = ps.length →
      bindArgs (PySem.W.fnOf x qual (defArgs st) (defBody st) (defScope st) .none kV doc pm an cdv ct) ⟨us, ks.zip ws⟩ = pure (ps.zip (g us ws))) : KBinds K fd ps ks g gV := by
  obtain ⟨oc, od, kV, doc, pm, an, cdv, ct, osl, rfl, _, _⟩ := F.ex
  exact ⟨fun s us ws _ hl => .of_eq (h kV doc pm an cdv ct us ws hl), rel⟩
end FT
namespace FT
open PySem PySem.Spec PyProof.Rows L2
theorem tYes_of {σ : L2.St} {H : Hp} {Q : Bool → Hp → Prop} (h : Q true H) : tYes σ H Q := h
end FT
namespace FT
open PySem PySem.Spec PyProof.Rows L2
theorem textFrom_le {m : Nat} : ∀ (ts : List Str) (k : Nat) (acc : Str), (∀ t ∈ ts, t.length ≤ m) → (textFrom k acc ts).length ≤ acc.length + ts.length * (m + 2)
  | [], k, acc, _ => by
    show acc.length ≤ _
    exact Nat.le_add_right _ _
  | t :: r, k, acc, h => by
    have ih := textFrom_le r (k + 1) (acc ++ (if k > 0 then ", " else "" : String) ++ t) fun u hu => h u (List.mem_cons_of_mem _ hu)
    have h1 := h t List.mem_cons_self
    have e : (acc ++ (if k > 0 then ", " else "" : String) ++ t).length ≤ acc.length + 2 + t.length := by
      rw [strLen_append, strLen_append]
      split <;> (simp only [Nat.add_le_add_iff_right]; show acc.length + _ ≤ acc.length + 2; exact Nat.add_le_add_left (by decide) _)
    show (textFrom (k + 1) _ r).length ≤ _
    rw [List.length_cons, Nat.succ_mul]
    omega
theorem listText_le {m : Nat} {ts : List Str} (h : ∀ t ∈ ts, t.length ≤ m) : (listText ts).length ≤ 2 + ts.length * (m + 2) := by
  have q := textFrom_le ts 0 "[" h
  unfold listText
  rw [strLen_append]
  have e1 : ((("[" : String) : Str)).length = 1 := rfl
  have e2 : ((("]" : String) : Str)).length = 1 := rfl
  rw [e1] at q
  rw [e2]
  omega
theorem shownAll_map : ∀ ds : List PyData, PyData.shownAll ds = ds.map PyData.shown
  | [] => by simp only [PyData.shownAll, List.map_nil]
  | d :: r => by simp only [PyData.shownAll, List.map_cons, shownAll_map r]
/-- the repr of a list, as a word -/
@[irreducible] def showL (ds : List PyData) : Str := (PyData.list ds).shown
theorem showL_eq (ds : List PyData) : showL ds = (PyData.list ds).shown := by unfold showL; rfl
/-- repr of a list of short things -/
theorem rep_list {K : PySem.W.Frag} {H : Hp} {q : Addr} {vs : List V} {ds : List PyData} {Q : VK} (h : SqL K H q vs) (dp : DpAll K H vs ds) (sh : PyData.showableAll ds = true) (dep : PyData.depthAll ds ≤ 50)
    (hl : ∀ d ∈ ds, d.shown.length ≤ 100) (hn : ds.length ≤ 100) (k : Q (.str (showL ds)) H) : rRepr K [.ref q] H Q ∨ rReprD [.ref q] H Q := by
  rw [showL_eq] at k
  refine .inl ⟨_, .list ds, rfl, .lst h dp, by simp only [PyData.showable, sh], by simp only [PyData.depth]; omega, ?_, k⟩
  simp only [PyData.shown, shownAll_map]
  have q := listText_le (m := 100) (ts := ds.map PyData.shown) fun t ht => by
    obtain ⟨d, hd, rfl⟩ := List.mem_map.mp ht
    exact hl d hd
  rw [List.length_map] at q
  have : ds.length * (100 + 2) ≤ 100 * 102 := Nat.mul_le_mul_right _ hn
  have z : (10300 : Nat) ≤ sizeLine := by decide
  omega
theorem showAll_bools : ∀ bs : List Bool, PyData.showableAll (bs.map PyData.bool) = true
  | [] => by simp only [List.map_nil, PyData.showableAll]
  | b :: r => by simp only [List.map_cons, PyData.showableAll, PyData.showable, showAll_bools r, Bool.and_true]
theorem depthAll_bools : ∀ bs : List Bool, PyData.depthAll (bs.map PyData.bool) = 0
  | [] => by simp only [List.map_nil, PyData.depthAll]
  | b :: r => by simp only [List.map_cons, PyData.depthAll, PyData.depth, depthAll_bools r, Nat.max_self]
theorem rep_bools {K : PySem.W.Frag} {H : Hp} {q : Addr} {bs : List Bool} {Q : VK} (h : SqL K H q (bs.map V.bl)) (hn : bs.length ≤ 100) (k : Q (.str (showL (bs.map PyData.bool))) H) : rRepr K [.ref q] H Q ∨ rReprD [.ref q] H Q := by
  refine rep_list h (dp_bools bs) (showAll_bools bs) (by rw [depthAll_bools]; decide) (fun d hd => ?_) (by rw [List.length_map]; exact hn) k
  obtain ⟨b, _, rfl⟩ := List.mem_map.mp hd
  simp only [PyData.shown]
  cases b <;> decide
end FT

namespace K01
open PySem PySem.Spec PyProof.Rows L2 FT
def top (i : Nat) : Stmt := PySem.Challenge.pw_flowtells_k01_checks_of_any_value.main.body.getD i (.Pass ⟨0, 0, 0, 0⟩)
abbrev s_is_integer : Stmt := top 1
abbrev s_is_within : Stmt := top 2
abbrev s_are_integers : Stmt := top 3
abbrev s_first_twice : Stmt := top 4
abbrev s__law_phial : Stmt := top 6
abbrev s__law_tip : Stmt := top 7
abbrev s__law_some_of : Stmt := top 8
abbrev s__law_is : Stmt := top 9
abbrev s__law_value : Stmt := top 10
abbrev s__law_bounds_right : Stmt := top 11
abbrev s__law_lists_right : Stmt := top 12
abbrev s_law : Stmt := top 13
structure Ad where
  a_is_integer : Addr
  d_is_integer : FuncData
  a_is_within : Addr
  d_is_within : FuncData
  a_are_integers : Addr
  d_are_integers : FuncData
  a_first_twice : Addr
  d_first_twice : FuncData
  a__law_phial : Addr
  d__law_phial : FuncData
  a__law_tip : Addr
  d__law_tip : FuncData
  a__law_some_of : Addr
  d__law_some_of : FuncData
  a__law_is : Addr
  d__law_is : FuncData
  a__law_value : Addr
  d__law_value : FuncData
  a__law_bounds_right : Addr
  d__law_bounds_right : FuncData
  a__law_lists_right : Addr
  d__law_lists_right : FuncData
  a_law : Addr
  d_law : FuncData
abbrev N_is_integer : List Str := ["value"]
abbrev P_is_integer : List Str := ["value"]
theorem sc_is_integer : FnScope N_is_integer P_is_integer (defScope s_is_integer) := ⟨rfl, rfl, rfl, by decide +kernel, rfl, by decide +kernel, by decide +kernel⟩
abbrev N_is_within : List Str := ["value", "least", "most"]
abbrev P_is_within : List Str := ["value", "least", "most"]
theorem sc_is_within : FnScope N_is_within P_is_within (defScope s_is_within) := ⟨rfl, rfl, rfl, by decide +kernel, rfl, by decide +kernel, by decide +kernel⟩
abbrev N_are_integers : List Str := ["value", "item"]
abbrev P_are_integers : List Str := ["value"]
theorem sc_are_integers : FnScope N_are_integers P_are_integers (defScope s_are_integers) := ⟨rfl, rfl, rfl, by decide +kernel, rfl, by decide +kernel, by decide +kernel⟩
abbrev N_first_twice : List Str := ["values", "seen", "value"]
abbrev P_first_twice : List Str := ["values"]
theorem sc_first_twice : FnScope N_first_twice P_first_twice (defScope s_first_twice) := ⟨rfl, rfl, rfl, by decide +kernel, rfl, by decide +kernel, by decide +kernel⟩
abbrev N__law_phial : List Str := ["script", "cell"]
abbrev P__law_phial : List Str := ["script"]
theorem sc__law_phial : FnScope N__law_phial P__law_phial (defScope s__law_phial) := ⟨rfl, rfl, rfl, by decide +kernel, rfl, by decide +kernel, by decide +kernel⟩
abbrev N__law_tip : List Str := ["phial", "many", "left", "turn", "cell", "mixed"]
abbrev P__law_tip : List Str := ["phial", "many"]
theorem sc__law_tip : FnScope N__law_tip P__law_tip (defScope s__law_tip) := ⟨rfl, rfl, rfl, by decide +kernel, rfl, by decide +kernel, by decide +kernel⟩
abbrev N__law_some_of : List Str := ["phial", "some"]
abbrev P__law_some_of : List Str := ["phial", "some"]
theorem sc__law_some_of : FnScope N__law_some_of P__law_some_of (defScope s__law_some_of) := ⟨rfl, rfl, rfl, by decide +kernel, rfl, by decide +kernel, by decide +kernel⟩
abbrev N__law_is : List Str := ["value"]
abbrev P__law_is : List Str := ["value"]
theorem sc__law_is : FnScope N__law_is P__law_is (defScope s__law_is) := ⟨rfl, rfl, rfl, by decide +kernel, rfl, by decide +kernel, by decide +kernel⟩
abbrev N__law_value : List Str := ["phial", "number", "some"]
abbrev P__law_value : List Str := ["phial"]
theorem sc__law_value : FnScope N__law_value P__law_value (defScope s__law_value) := ⟨rfl, rfl, rfl, by decide +kernel, rfl, by decide +kernel, by decide +kernel⟩
abbrev N__law_bounds_right : List Str := ["phial", "value", "low", "high", "due", "told"]
abbrev P__law_bounds_right : List Str := ["phial"]
theorem sc__law_bounds_right : FnScope N__law_bounds_right P__law_bounds_right (defScope s__law_bounds_right) := ⟨rfl, rfl, rfl, by decide +kernel, rfl, by decide +kernel, by decide +kernel⟩
abbrev N__law_lists_right : List Str := ["phial", "row", "kept", "at", "odd", "bent", "told", "again", "due", "turn", "spot", "number"]
abbrev P__law_lists_right : List Str := ["phial"]
theorem sc__law_lists_right : FnScope N__law_lists_right P__law_lists_right (defScope s__law_lists_right) := ⟨rfl, rfl, rfl, by decide +kernel, rfl, by decide +kernel, by decide +kernel⟩
abbrev N_law : List Str := ["script", "phial", "turn"]
abbrev P_law : List Str := ["script"]
theorem sc_law : FnScope N_law P_law (defScope s_law) := ⟨rfl, rfl, rfl, by decide +kernel, rfl, by decide +kernel, by decide +kernel⟩
structure Txt (K : PySem.W.Frag) (mg : Str → Option Value) (A : Ad) : Prop where
  g_is_integer : mg "is_integer" = some (.ref A.a_is_integer)
  F_is_integer : Fun K "is_integer" "is_integer" s_is_integer A.a_is_integer A.d_is_integer
  b_is_integer : Binds K A.d_is_integer P_is_integer []
  g_is_within : mg "is_within" = some (.ref A.a_is_within)
  F_is_within : Fun K "is_within" "is_within" s_is_within A.a_is_within A.d_is_within
  b_is_within : Binds K A.d_is_within P_is_within []
  g_are_integers : mg "are_integers" = some (.ref A.a_are_integers)
  F_are_integers : Fun K "are_integers" "are_integers" s_are_integers A.a_are_integers A.d_are_integers
  b_are_integers : Binds K A.d_are_integers P_are_integers []
  g_first_twice : mg "first_twice" = some (.ref A.a_first_twice)
  F_first_twice : Fun K "first_twice" "first_twice" s_first_twice A.a_first_twice A.d_first_twice
  b_first_twice : Binds K A.d_first_twice P_first_twice []
  g__law_phial : mg "_law_phial" = some (.ref A.a__law_phial)
  F__law_phial : Fun K "_law_phial" "_law_phial" s__law_phial A.a__law_phial A.d__law_phial
  b__law_phial : Binds K A.d__law_phial P__law_phial []
  g__law_tip : mg "_law_tip" = some (.ref A.a__law_tip)
  F__law_tip : Fun K "_law_tip" "_law_tip" s__law_tip A.a__law_tip A.d__law_tip
  b__law_tip : Binds K A.d__law_tip P__law_tip []
  g__law_some_of : mg "_law_some_of" = some (.ref A.a__law_some_of)
  F__law_some_of : Fun K "_law_some_of" "_law_some_of" s__law_some_of A.a__law_some_of A.d__law_some_of
  b__law_some_of : Binds K A.d__law_some_of P__law_some_of []
  g__law_is : mg "_law_is" = some (.ref A.a__law_is)
  F__law_is : Fun K "_law_is" "_law_is" s__law_is A.a__law_is A.d__law_is
  b__law_is : Binds K A.d__law_is P__law_is []
  g__law_value : mg "_law_value" = some (.ref A.a__law_value)
  F__law_value : Fun K "_law_value" "_law_value" s__law_value A.a__law_value A.d__law_value
  b__law_value : Binds K A.d__law_value P__law_value []
  g__law_bounds_right : mg "_law_bounds_right" = some (.ref A.a__law_bounds_right)
  F__law_bounds_right : Fun K "_law_bounds_right" "_law_bounds_right" s__law_bounds_right A.a__law_bounds_right A.d__law_bounds_right
  b__law_bounds_right : Binds K A.d__law_bounds_right P__law_bounds_right []
  g__law_lists_right : mg "_law_lists_right" = some (.ref A.a__law_lists_right)
  F__law_lists_right : Fun K "_law_lists_right" "_law_lists_right" s__law_lists_right A.a__law_lists_right A.d__law_lists_right
  b__law_lists_right : Binds K A.d__law_lists_right P__law_lists_right []
  g_law : mg "law" = some (.ref A.a_law)
  F_law : Fun K "law" "law" s_law A.a_law A.d_law
  b_law : Binds K A.d_law P_law []
  n_abs : mg "abs" = none
  n_all : mg "all" = none
  n_bool : mg "bool" = none
  n_enumerate : mg "enumerate" = none
  n_int : mg "int" = none
  n_isinstance : mg "isinstance" = none
  n_len : mg "len" = none
  n_list : mg "list" = none
  n_range : mg "range" = none
  n_repr : mg "repr" = none
  n_set : mg "set" = none
  n_str : mg "str" = none
  n_tuple : mg "tuple" = none
section
variable {P : Program} {w : World} {K : PySem.W.Frag} {mg : Str → Option Value} {base : Heap} {A : Ad}
/-- a draw: an int below m; the bag's own list alone is changed -/
def sp_tip : Sp := fun vs H Q _ => ∃ (p c : Addr) (n : Nat) (m : Int), vs = [.ref p, .int m] ∧ Bg H p c n ∧ n ≤ 100000 ∧ 1 ≤ m ∧ m < 1073741824 ∧
  ∀ (x : Int) (H' : Hp), 0 ≤ x → x < m → Kp p H H' → Bg H' p c (n + 1) → Q (.int x) H'
theorem G__law_tip (T : Txt K mg A) : FnG P w K mg base CX0 1 A.a__law_tip A.d__law_tip P__law_tip sp_tip := by
  refine okG T.F__law_tip sc__law_tip (fun vs H Q E h => ?_) (fun cdv A0 outer s H vs Q E hr h => ?_)
  · obtain ⟨p, c, n, m, rfl, _⟩ := h
    rfl
  obtain ⟨p, c, n, m, rfl, ⟨npc, ms, t, l, hp, hc, hms, t0, tn⟩, hn, m0, m1, k⟩ := h
  have t1 : t ≤ 100000 := by omega
  have hm : m ≠ 0 ∧ m.natAbs < 1073741824 := by omega
  refine ⟨_, (pss_cons (ps_if (pt_cmpR op_gt (pe_ix (r := rIxL K) ix_list (pv 0) pe_int (fun _ _ => rfl)) pe_int (nomark _)) (pss_cons (ps_set (i := 2) sc__law_tip.nd rfl (Or.inl rfl) (pe_callTy call_int1 (by rfl) T.n_int (by decide +kernel) (pa_cons (pe_ix (r := rIxL K) ix_list (pv 0) pe_int (fun _ _ => rfl)) pa_nil)))
      (pss_cons (ps_asg (pe_op op_fdivN (pv 2) (pv 1)) (pg_sub (pv 0) pe_int set_list))
      (pss_one (ps_ret (pe_op op_modN (pe_callTy call_int1 (by rfl) T.n_int (by decide +kernel) (pa_cons (pv 2) pa_nil)) (pv 1)))))) pss_nil)
      (pss_cons (ps_set (i := 3) sc__law_tip.nd rfl (Or.inl rfl) (pe_ix (r := rIxL K) ix_list (pv 0) pe_int (fun _ _ => rfl)))
      (pss_cons (ps_asg (pe_op op_add (pv 3) pe_int) (pg_sub (pv 0) pe_int set_list))
      (pss_cons (ps_set (i := 4) sc__law_tip.nd rfl (Or.inl rfl) (pe_op op_add (pe_op op_mul pe_int (pv 3)) pe_int))
      (pss_cons (ps_if (pt_cmpR (op_neD hr.room.units) (pe_ix (r := rIxL K) ix_list (pv 0) pe_int (fun _ _ => rfl)) (pe_lst pa_nil) (nomark _)) (pss_one (ps_set (i := 4) sc__law_tip.nd rfl (Or.inl rfl) (pe_ix (r := rIxL K) ix_list (pe_ix (r := rIxL K) ix_list (pv 0) pe_int (fun _ _ => rfl)) (pe_op op_modN (pe_callTy call_int1 (by rfl) T.n_int (by decide +kernel) (pa_cons (pv 3) pa_nil)) (pe_callB call_len_seq (by rfl) T.n_len (by decide +kernel) (pa_cons (pe_ix (r := rIxL K) ix_list (pv 0) pe_int (fun _ _ => rfl)) pa_nil))) (fun _ _ => rfl)))) pss_nil)
      (pss_cons (ps_if (PW.pt (pw_and (pt_cmpR op_lt (pv 3) (pe_callB call_len_seq (by rfl) T.n_len (by decide +kernel) (pa_cons (pe_ix (r := rIxL K) ix_list (pv 0) pe_int (fun _ _ => rfl)) pa_nil)) (nomark _)) (pw_and1 (pt_cmpR op_ge (pe_callB call_abs (by rfl) T.n_abs (by decide +kernel) (pa_cons (pv 4) pa_nil)) (pe_op op_pow pe_int pe_int) (nomark _))))) (pss_cons (ps_set (i := 2) sc__law_tip.nd rfl (Or.inl rfl) (pe_op op_add (pe_op op_mul pe_int (pe_op op_sub (pe_callB call_abs (by rfl) T.n_abs (by decide +kernel) (pa_cons (pe_callTy call_int1 (by rfl) T.n_int (by decide +kernel) (pa_cons (pv 4) pa_nil)) pa_nil)) (pe_op op_pow pe_int pe_int))) (pe_callTy call_int1 (by rfl) T.n_int (by decide +kernel) (pa_cons (pe_cmpR op_lt (pv 4) pe_int (nomark _)) pa_nil))))
      (pss_cons (ps_asg (pe_op op_fdivN (pv 2) (pv 1)) (pg_sub (pv 0) pe_int set_list))
      (pss_one (ps_ret (pe_op op_modN (pe_callTy call_int1 (by rfl) T.n_int (by decide +kernel) (pa_cons (pv 2) pa_nil)) (pv 1)))))) pss_nil)
      (pss_cons (ps_set (i := 5) sc__law_tip.nd rfl (Or.inl rfl) (pe_op op_modN (pe_callTy call_int1 (by rfl) T.n_int (by decide +kernel) (pa_cons (pe_op op_pow (pe_op op_add (pe_op op_add (pe_op op_modN (pe_callTy call_int1 (by rfl) T.n_int (by decide +kernel) (pa_cons (pv 4) pa_nil)) pe_int) (pe_op op_mul pe_int (pv 3))) pe_int) pe_int) pa_nil)) pe_int))
      (pss_cons (ps_set (i := 5) sc__law_tip.nd rfl (Or.inl rfl) (pe_op op_modN (pe_callTy call_int1 (by rfl) T.n_int (by decide +kernel) (pa_cons (pe_op op_pow (pe_op op_add (pe_op op_add (pe_op op_mul (pv 5) (pe_op op_add (pe_op op_mul pe_int (pv 3)) pe_int)) (pe_op op_mul (pe_op op_mul pe_int (pv 3)) (pv 3))) pe_int) pe_int) pa_nil)) pe_int))
      (pss_one (ps_ret (pe_op op_modN (pe_callTy call_int1 (by rfl) T.n_int (by decide +kernel) (pa_cons (pe_op op_fdivN (pv 5) pe_int) pa_nil)) (pv 1)))))))))))), ?_⟩
  refine ⟨_, rfl, _, _, _, _, rfl, rfl, SqL.of hp, rfl, _, _, rfl, rfl, _, rfl, ite2 (fun _ => ?_) (fun _ => ?_)⟩
  · refine ⟨_, rfl, _, _, _, _, rfl, rfl, SqL.of hp, rfl, Or.inl ⟨_, rfl, ?_⟩⟩
    refine ⟨_, rfl, _, rfl, _, _, rfl, rfl, hm, _, rfl, _, _, _, _, rfl, rfl, hp, rfl, ?_⟩
    refine ⟨_, rfl, Or.inl ⟨_, rfl, _, rfl, _, _, rfl, rfl, hm.1, ?_⟩⟩
    exact k _ _ (mod_fits m0).1 (mod_fits m0).2 (Kp.refl p H).put ⟨npc, ms, t, _, upd_same, (Kp.refl p H).put c _ npc hc, hms, t0, by omega⟩
  · refine ⟨_, rfl, _, _, _, _, rfl, rfl, SqL.of hp, rfl, ?_⟩
    refine ⟨_, rfl, _, _, rfl, rfl, _, rfl, _, _, _, _, rfl, rfl, hp, rfl, ?_⟩
    refine ⟨_, rfl, _, _, rfl, rfl, .inl ⟨by decide, by decide⟩, _, _, rfl, rfl, ?_⟩
    have k1 : Kp p H (upd H p (.lst [.ref c, .int (t + 1), .int l])) := (Kp.refl p H).put
    have hp1 : (upd H p (.lst [.ref c, .int (t + 1), .int l])) p = some (.lst [.ref c, .int (t + 1), .int l]) := upd_same
    have hc1 := k1 c _ npc hc
    try dsimp only
    refine seq_cut (fun σ' H' => ∃ x : Int, σ' = [some (.ref p), some (.int m), none, some (.int t), some (.int x), none] ∧ Kp p H H' ∧ H' p = some (.lst [.ref c, .int (t + 1), .int l]) ∧ H' c = some (.lst (ms.map V.int))) (fun N hN => ?_) ?_
    · refine ⟨_, rfl, _, _, _, _, rfl, rfl, SqL.of hp1, rfl, Nat.zero_le _, fun q hq => ?_⟩
      have hp2 := at_new (u := .lst []) hp1 hq
      have hc2 := at_new (u := .lst []) hc1 hq
      refine ⟨.list (ms.map PyData.int), .list ([].map PyData.int), .lst (SqL.of hc2) (dp_ints ms), .lst (SqL.of upd_same) (dp_ints []), shaped_ints _, shaped_ints [], ?_⟩
      rw [eqv_list]
      refine ⟨_, rfl, ?_⟩
      by_cases e : ms = []
      · rw [decide_eq_true e]
        exact iteF (hN _ _ ⟨_, rfl, k1.new hq, hp2, hc2⟩)
      · rw [decide_eq_false e]
        obtain ⟨x, hx⟩ := at_mod t e
        have hl : ((ms.map V.int).length : Int) ≠ 0 := by
          rw [List.length_map]
          have := List.length_pos_iff.mpr e
          omega
        have hx' : atI (ms.map V.int) (t.fmod ((ms.map V.int).length : Int)) = some (.int x) := by
          rw [List.length_map]
          exact hx
        refine iteT ⟨_, rfl, _, _, _, _, rfl, rfl, SqL.of hp2, rfl, _, rfl, Or.inl ⟨_, rfl, _, rfl, _, _, _, _, rfl, rfl, SqL.of hp2, rfl, _, _, rfl, .inl (SqL.of hc2), _, _, rfl, rfl, hl, _, _, _, _, rfl, rfl, SqL.of hc2, hx', ?_⟩⟩
        exact hN _ _ ⟨x, rfl, k1.new hq, hp2, hc2⟩
    · rintro σ' H2 ⟨x, rfl, k2, hp2, hc2⟩
      try dsimp only
      refine seq_cut (fun σ' H' => σ' = [some (.ref p), some (.int m), none, some (.int t), some (.int x), none] ∧ H' = H2) (fun N hN => ?_) ?_
      · refine ⟨_, rfl, _, rfl, _, _, _, _, rfl, rfl, SqL.of hp2, rfl, _, _, rfl, .inl (SqL.of hc2), _, _, rfl, rfl, _, rfl, ite2 (fun _ => ?_) (fun _ => iteF (hN _ _ ⟨rfl, rfl⟩))⟩
        refine ⟨_, rfl, _, rfl, _, _, rfl, rfl, ⟨by decide, by decide, by decide⟩, _, _, rfl, rfl, _, rfl, ite2 (fun _ => ?_) (fun _ => hN _ _ ⟨rfl, rfl⟩)⟩
        refine ⟨_, rfl, Or.inl ⟨_, rfl, _, rfl, _, _, rfl, rfl, ⟨by decide, by decide, by decide⟩, _, _, rfl, rfl, _, _, rfl, rfl, .inl ⟨by decide, by decide⟩, _, rfl, _, _, rfl, rfl, Or.inr ⟨_, rfl, _, _, rfl, rfl, ?_⟩⟩⟩
        refine ⟨_, rfl, _, rfl, _, _, rfl, rfl, hm, _, rfl, _, _, _, _, rfl, rfl, hp2, rfl, ?_⟩
        refine ⟨_, rfl, Or.inl ⟨_, rfl, _, rfl, _, _, rfl, rfl, hm.1, ?_⟩⟩
        exact k _ _ (mod_fits m0).1 (mod_fits m0).2 k2.put ⟨npc, ms, t + 1, _, upd_same, k2.put c _ npc hc, hms, by omega, by omega⟩
      · rintro _ _ ⟨rfl, rfl⟩
        refine ⟨_, rfl, Or.inl ⟨_, rfl, _, _, rfl, rfl, by dsimp only; decide, _, rfl, _, _, rfl, rfl, .inl ⟨by decide, by decide⟩, _, _, rfl, rfl, _, _, rfl, rfl, _, _, rfl, rfl, ⟨by decide, by decide, ?_⟩, Or.inl ⟨_, rfl, _, _, rfl, rfl, by dsimp only; decide, ?_⟩⟩⟩
        · have := mod_fits (i := x) (m := 2147483563) (by decide)
          omega
        dsimp only
        generalize hy : Int.fmod ((x.fmod 2147483563 + 80039 * t + 9013) ^ (5 : Int).toNat) 2147483587 = y
        have hy2 : 0 ≤ y ∧ y < 2147483587 := hy ▸ mod_fits (by decide)
        clear hy
        have f1 : 0 ≤ y * (2 * t + 6011) := Int.mul_nonneg hy2.1 (by omega)
        have f2 : y * (2 * t + 6011) ≤ 2147483587 * (2 * t + 6011) := Int.mul_le_mul_of_nonneg_right (by omega) (by omega)
        have f3 : 0 ≤ 120017 * t * t := Int.mul_nonneg (by omega) t0
        have f4 : 120017 * t * t ≤ 120017 * 100000 * t := Int.mul_le_mul_of_nonneg_right (by omega) t0
        refine ⟨_, rfl, _, rfl, _, _, rfl, rfl, .inl ⟨by decide, by decide⟩, _, _, rfl, rfl, _, _, rfl, rfl, .inl ⟨by omega, by omega⟩, _, rfl, _, _, rfl, rfl, .inl ⟨by decide, by decide⟩, _, rfl, _, _, rfl, rfl, .inl ⟨by omega, by omega⟩, _, _, rfl, rfl, _, _, rfl, rfl, _, _, rfl, rfl, ⟨by decide, by decide, by omega⟩, Or.inl ⟨_, rfl, _, _, rfl, rfl, by dsimp only; decide, ?_⟩⟩
        refine ⟨_, rfl, _, _, rfl, rfl, ⟨by decide, by decide⟩, Or.inl ⟨_, rfl, _, rfl, _, _, rfl, rfl, hm.1, ?_⟩⟩
        exact k _ _ (mod_fits m0).1 (mod_fits m0).2 k2 ⟨npc, ms, t + 1, _, hp2, hc2, hms, by omega, by omega⟩

/-! ### the checks -/
def sp_isint : Sp := fun vs H Q _ => ∃ v, vs = [v] ∧ OkV H v ∧ Q (.bl (isI v)) H
theorem G_is_integer (T : Txt K mg A) : FnG P w K mg base CX0 1 A.a_is_integer A.d_is_integer P_is_integer sp_isint := by
  refine okG T.F_is_integer sc_is_integer (fun vs H Q E h => ?_) (fun cdv A0 outer s H vs Q E hr h => ?_)
  · obtain ⟨v, rfl, _⟩ := h
    rfl
  obtain ⟨v, rfl, ok, k⟩ := h
  obtain ⟨T1, ty, k1, k2, _⟩ := kindV (K := K) ok
  refine ⟨_, (pss_one (ps_ret (pe_and (pe_callB call_isi (by rfl) T.n_isinstance (by decide +kernel) (pa_cons (pv 0) (pa_cons (pe_bltn (v := .ty "int") (u := .type "int") (by rfl) T.n_int (by decide +kernel) rfl) pa_nil))) (pe_one (pe_not (pe_callB call_isi (by rfl) T.n_isinstance (by decide +kernel) (pa_cons (pv 0) (pa_cons (pe_bltn (v := .ty "bool") (u := .type "bool") (by rfl) T.n_bool (by decide +kernel) rfl) pa_nil)))))))), ?_⟩
  refine ⟨_, rfl, _, _, _, _, _, rfl, .ty "int", ty, kit_ty k1, _, rfl, ite2 (fun e => ?_) (fun e => ?_)⟩
  · refine ⟨_, rfl, _, _, _, _, _, rfl, .ty "bool", ty, kit_ty k2, _, rfl, ?_⟩
    have z : (!isB v) = isI v := by cases v <;> first | rfl | (simp [isI, isB] at e)
    rw [← z] at k
    exact k
  · have z : isI v = false := by cases v <;> first | rfl | (simp [isI, isB] at e)
    rw [z] at k
    exact k
theorem kb_is_integer_value (T : Txt K mg A) : KBinds K A.d_is_integer P_is_integer ["value"] (fun us ws => us ++ ws) (fun vs zs => vs ++ zs) :=
  kbindsF T.F_is_integer (fun r q => r.append q) fun _ _ _ _ _ _ us ws hl => match us, ws, hl with
    | [], [_], _ => rfl
    | [_], [], _ => rfl
def Bd : V → Prop
  | .non => True
  | .int _ => True
  | _ => False
def inLo (v lo : V) : Bool := match lo, v with
  | .int a, .int i => decide (a ≤ i)
  | _, _ => true
def inHi (v hi : V) : Bool := match hi, v with
  | .int b, .int i => decide (i ≤ b)
  | _, _ => true
def sp_within : Sp := fun vs H Q _ => ∃ v lo hi, vs = [v, lo, hi] ∧ OkV H v ∧ Bd lo ∧ Bd hi ∧ Q (.bl (isI v && (inLo v lo && inHi v hi))) H
theorem G_is_within (T : Txt K mg A) : FnG P w K mg base CX0 2 A.a_is_within A.d_is_within P_is_within sp_within := by
  refine okG T.F_is_within sc_is_within (fun vs H Q E h => ?_) (fun cdv A0 outer s H vs Q E hr h => ?_)
  · obtain ⟨v, lo, hi, rfl, _⟩ := h
    rfl
  obtain ⟨v, lo, hi, rfl, ok, bl, bh, k⟩ := h
  refine ⟨_, (pss_cons (ps_if (pt_not (pt_val (pe_callG (G_is_integer T) (hr.mono (by decide)) rfl T.g_is_integer T.F_is_integer.kp T.b_is_integer .nil pass0 (pa_cons (pv 0) pa_nil)))) (pss_one (ps_ret pe_bl)) pss_nil)
      (pss_cons (ps_if (PW.pt (pw_and (pt_cmpR op_notN (pv 1) pe_non (nomark _)) (pw_and1 (pt_cmpR op_lt (pv 0) (pv 1) (nomark _))))) (pss_one (ps_ret pe_bl)) pss_nil)
      (pss_one (ps_ret (pe_or (pe_cmpR op_isN (pv 2) pe_non (nomark _)) (pe_one (pe_cmpR op_le (pv 0) (pv 2) (nomark _)))))))), ?_⟩
  refine ⟨_, rfl, _, rfl, ok, _, rfl, ite2 (fun e => ?_) (fun e => ?_)⟩
  · have z : isI v = false := by
      cases h : isI v with
      | false => rfl
      | true =>
        rw [h] at e
        cases e
    rw [z] at k
    exact k
  · cases v with
    | int i =>
      have last : inLo (.int i) lo = true → tRet (tOrV (tOp (fun x y H Q => y = V.non ∧ Q (.bl (decide (x = V.non))) H) (tVar 2) (tC .non)) (tOp (rI0 fun i j => .bl (decide (i ≤ j))) (tVar 0) (tVar 2)))
          { nx := fun _ H' => Q .non H', rt := Q } (start N_is_within [V.int i, lo, hi]) H := by
        intro hz
        rw [hz] at k
        cases hi with
        | non =>
          refine ⟨_, rfl, rfl, _, rfl, iteT ?_⟩
          exact k
        | int b =>
          refine ⟨_, rfl, rfl, _, rfl, iteF ?_⟩
          refine ⟨_, rfl, _, rfl, _, _, rfl, rfl, ?_⟩
          exact k
        | _ => exact bh.elim
      cases lo with
      | non => exact ⟨_, rfl, rfl, _, rfl, iteF (iteF (last rfl))⟩
      | int a =>
        refine ⟨_, rfl, rfl, _, rfl, iteT ⟨_, rfl, _, rfl, _, _, rfl, rfl, _, rfl, ite2 (fun e => ?_) (fun e => ?_)⟩⟩
        · have z : inLo (.int i) (.int a) = false := decide_eq_false (by have := of_decide_eq_true e; omega)
          rw [z] at k
          exact k
        · exact last (decide_eq_true (by
            have : ¬ i < a := fun q => e (decide_eq_true q)
            omega))
      | _ => exact bl.elim
    | _ => exact absurd rfl e
theorem kb_is_within_most_least_value (T : Txt K mg A) : KBinds K A.d_is_within P_is_within ["most", "least", "value"] (fun us ws => match us, ws with | [], [a, b, c] => [c, b, a] | _, _ => [])
    (fun vs zs => match vs, zs with | [], [a, b, c] => [c, b, a] | _, _ => []) := by
  refine kbindsF T.F_is_within ?_ ?_
  · intro vs us zs ws r q
    cases r with
    | cons _ _ => exact .nil
    | nil =>
      cases q with
      | nil => exact .nil
      | cons a q =>
        cases q with
        | nil => exact .nil
        | cons b q =>
          cases q with
          | nil => exact .nil
          | cons c q =>
            cases q with
            | nil => exact .cons c (.cons b (.cons a .nil))
            | cons _ _ => exact .nil
  · intro _ _ _ _ _ _ us ws hl
    match us, ws, hl with
    | [], [_, _, _], _ => rfl
/-- what are_integers says of a value -/
def areI (H : Hp) : V → Bool
  | .ref a => match H a with
    | some (.lst xs) => xs.all isI
    | some (.tup xs) => xs.all isI
    | _ => false
  | _ => false
def sp_areint : Sp := fun vs H Q _ => ∃ v, vs = [v] ∧ OkV H v ∧ (∀ a xs, v = .ref a → (H a = some (.lst xs) ∨ H a = some (.tup xs)) → xs.length ≤ 1000 ∧ ∀ x ∈ xs, OkV H x) ∧ ∀ H', Same H H' → Q (.bl (areI H v)) H'
theorem all_take {xs : List V} {i : Nat} {x : V} (h : xs[i]? = some x) : (xs.take i).map isI ++ [isI x] = (xs.take (i + 1)).map isI := by
  rw [List.take_succ, h]
  simp
theorem G_are_integers (T : Txt K mg A) : FnG P w K mg base CX0 2 A.a_are_integers A.d_are_integers P_are_integers sp_areint := by
  refine okG T.F_are_integers sc_are_integers (fun vs H Q E h => ?_) (fun cdv A0 outer s H vs Q E hr h => ?_)
  · obtain ⟨v, rfl, _⟩ := h
    rfl
  obtain ⟨v, rfl, ok, it, k⟩ := h
  refine ⟨_, (pss_one (ps_ret (pe_and (pe_callB call_isiT (by rfl) T.n_isinstance (by decide +kernel) (pa_cons (pv 0) (pa_cons (pe_tup (pa_cons (pe_bltn (v := .ty "list") (u := .type "list") (by rfl) T.n_list (by decide +kernel) rfl) (pa_cons (pe_bltn (v := .ty "tuple") (u := .type "tuple") (by rfl) T.n_tuple (by decide +kernel) rfl) pa_nil))) pa_nil))) (pe_one (pe_callB (cr_all rfl) (by rfl) T.n_all (by decide +kernel) (pa_cons (pe_lc (own := [("item", 1)]) (g := gName 1) (tt := tYes) rfl sc_are_integers.nd (pi_seqV (pv 0)) (blkOk_by (N := N_are_integers) (sc := defScope s_are_integers) (by decide +kernel)) (fun _ _ _ _ _ => (pg_name (i := 1) sc_are_integers.nd rfl (Or.inl rfl))) (fun _ _ _ _ _ => pts_nil) (fun _ _ _ _ _ => (pe_callG (G_is_integer T) (hr.mono (by decide)) rfl T.g_is_integer T.F_is_integer.kp T.b_is_integer .nil pass0 (pa_cons (pv 1) pa_nil)))) pa_nil)))))), ?_⟩
  refine ⟨_, rfl, (by show 2 ≤ sizeLine; decide), fun p np => ?_⟩
  have ok2 : OkV (upd H p (.tup [.ty "list", .ty "tuple"])) v := ok.mono fun a o _ h => at_new h np
  obtain ⟨T1, ty, _, _, k3⟩ := kindV (K := K) ok2
  refine ⟨_, _, _, _, _, _, rfl, upd_same, .cons (.ty "list") (.cons (.ty "tuple") .nil), ty, k3, _, rfl, ite2 (fun e => ?_) (fun e => ?_)⟩
  · -- a list or a tuple
    obtain ⟨a, xs, rfl, hx, hz⟩ : ∃ a xs, v = .ref a ∧ (H a = some (.lst xs) ∨ H a = some (.tup xs)) ∧ areI H v = xs.all isI := by
      cases v with
      | ref a =>
        rcases ok with ⟨xs, h⟩ | ⟨xs, h⟩ | ⟨kvs, h⟩
        · exact ⟨a, xs, rfl, .inl h, by simp only [areI, h]⟩
        · exact ⟨a, xs, rfl, .inr h, by simp only [areI, h]⟩
        · have z : isLT (upd H p (.tup [.ty "list", .ty "tuple"])) (.ref a) = false := by simp only [isLT, at_new h np]
          rw [z] at e
          cases e
      | _ => cases e
    have sq : SqA K H a xs := by
      rcases hx with h | h
      · exact .inl (SqL.of h)
      · exact .inr (SqT.of h)
    obtain ⟨hlen, hok⟩ := it a xs rfl hx
    have hsome : ∃ o, H a = some o := by
      rcases hx with h | h <;> exact ⟨_, h⟩
    have s1 : Same H (upd H p (.tup [.ty "list", .ty "tuple"])) := Same.new (fun _ _ h => h) np
    have sq1 : SqA K (upd H p (.tup [.ty "list", .ty "tuple"])) a xs := by
      rcases hx with h | h
      · exact .inl (SqL.of (s1 _ _ h))
      · exact .inr (SqT.of (s1 _ _ h))
    refine ⟨_, rfl, a, rfl, seq_by sq1 fun J G W gG D hD => ?_⟩
    have s2 : Same H (upd (upd H p (.tup [.ty "list", .ty "tuple"])) D (.lst [])) := Same.new s1 hD
    have nD : H D = none := s1.free hD
    refine lc_it W (fun i H' => Same H H' ∧ H' D = some (.lst (((xs.take i).map isI).map V.bl))) ⟨s2, upd_same⟩ (fun i H' _ q => gG H' fun o h => ?_) ?_ ?_
    · obtain ⟨o', ho'⟩ := hsome
      have e1 := (s1 _ _ ho').symm.trans h
      rw [← e1]
      exact q.1 _ _ ho'
    · rintro i x H' _ hi ⟨s3, hD3⟩ ⟨rfl, hx'⟩
      refine ⟨rfl, tYes_of (iteT ⟨_, rfl, x, rfl, (hok x (List.mem_of_getElem? hx')).mono fun a o _ h => s3 _ _ h, _, hD3, by rw [List.length_map, List.length_map]; exact Nat.lt_of_le_of_lt (List.length_take_le _ _) (small1000 (by omega)), ?_, ?_⟩)⟩
      · intro b o h
        rw [upd_ne (ne_of_none h nD)]
        exact s3 _ _ h
      · rw [upd_same, ← all_take hx']
        simp
    · rintro H' ⟨s3, hD3⟩
      refine ⟨D, xs.map isI, rfl, ?_, ?_⟩
      · rw [List.take_of_length_le (Nat.le_refl _)] at hD3
        exact SqL.of hD3
      · have z : (xs.map isI).all id = xs.all isI := by simp [List.all_map]
        rw [z, ← hz]
        exact k _ s3
  · have z : areI H v = false := by
      cases v with
      | ref a =>
        rcases ok with ⟨xs, h⟩ | ⟨xs, h⟩ | ⟨kvs, h⟩
        · exact absurd (by simp only [isLT, at_new h np]) e
        · exact absurd (by simp only [isLT, at_new h np]) e
        · simp only [areI, h]
      | _ => rfl
    rw [z] at k
    exact k _ (Same.new (fun _ _ h => h) np)
theorem kb_are_integers_value (T : Txt K mg A) : KBinds K A.d_are_integers P_are_integers ["value"] (fun us ws => us ++ ws) (fun vs zs => vs ++ zs) :=
  kbindsF T.F_are_integers (fun r q => r.append q) fun _ _ _ _ _ _ us ws hl => match us, ws, hl with
    | [], [_], _ => rfl
    | [_], [], _ => rfl

/-- the first that stands among those ahead of it -/
def twice : List Int → List Int → V
  | _, [] => .non
  | seen, x :: r => if x ∈ seen then .int x else twice (seen ++ [x]) r
def sp_twice : Sp := fun vs H Q _ => ∃ (a : Addr) (ns : List Int), vs = [.ref a] ∧ SqA K H a (ns.map V.int) ∧ (∃ o, H a = some o) ∧ ns.length ≤ 1000 ∧ ∀ H', Same H H' → Q (twice [] ns) H'
theorem twice_at {ns : List Int} {i : Nat} {x : Int} (h : ns[i]? = some x) : twice (ns.take i) (ns.drop i) = if x ∈ ns.take i then .int x else twice (ns.take (i + 1)) (ns.drop (i + 1)) := by
  have hi := (List.getElem?_eq_some_iff.mp h)
  obtain ⟨hl, e⟩ := hi
  rw [List.drop_eq_getElem_cons hl, e]
  show (if x ∈ ns.take i then V.int x else twice (ns.take i ++ [x]) (ns.drop (i + 1))) = _
  rw [List.take_succ, h]
  rfl
theorem G_first_twice (T : Txt K mg A) : FnG P w K mg base CX0 1 A.a_first_twice A.d_first_twice P_first_twice (sp_twice (K := K)) := by
  refine okG T.F_first_twice sc_first_twice (fun vs H Q E h => ?_) (fun cdv A0 outer s H vs Q E hr h => ?_)
  · obtain ⟨a, ns, rfl, _⟩ := h
    rfl
  obtain ⟨a, ns, rfl, sq, ⟨oa, ha⟩, hl, k⟩ := h
  refine ⟨_, (pss_cons (ps_set (i := 1) sc_first_twice.nd rfl (Or.inl rfl) (pe_callTy0 cr_set0 (by rfl) T.n_set (by decide +kernel)))
      (pss_cons (ps_for PassesOwn.never rfl (pi_seqV (pv 0)) (pg_name (i := 2) sc_first_twice.nd rfl (Or.inl rfl)) (pss_cons (ps_if (pt_cmpR or_sin (pv 2) (pv 1) (by rfl)) (pss_one (ps_ret (pv 2))) pss_nil)
      (pss_one (ps_expr (pe_sadd (pv 1) (pa_cons (pv 2) pa_nil))))))
      (pss_one (ps_ret pe_non)))), ?_⟩
  refine ⟨rfl, fun q hq => ?_⟩
  have s1 : Same H (upd H q (SetO w q (fun _ => false) 0)) := Same.new (fun _ _ h => h) hq
  have sq1 : SqA K (upd H q (SetO w q (fun _ => false) 0)) a (ns.map V.int) := by
    rcases sq with h | h
    · exact .inl (sqL_at h fun o e => s1 _ _ e)
    · exact .inr (sqT_at h fun o e => s1 _ _ e)
  refine ⟨_, rfl, a, rfl, seq_by sq1 fun J G W gG => ?_⟩
  refine for_it W (fun i σ H' => Same H H' ∧ (∃ v : Option V, σ = [some (.ref a), some (.ref q), v]) ∧ ∃ (S : Int → Bool) (n : Nat), n ≤ i ∧ H' q = some (SetO w q S n) ∧ (∀ j, S j = decide (j ∈ ns.take i)) ∧ twice [] ns = twice (ns.take i) (ns.drop i))
    ⟨s1, ⟨none, rfl⟩, _, _, Nat.zero_le _, upd_same, fun j => by simp, by simp⟩ (fun i σ H' _ h => gG H' fun o e => ?_) ?_ ?_
  · have e1 := (s1 _ _ ha).symm.trans e
    rw [← e1]
    exact h.1 _ _ ha
  · rintro i x σ H' _ hi ⟨s2, ⟨v, rfl⟩, S, n, hn, hq2, hS, ht⟩ ⟨rfl, hx⟩
    rw [List.length_map] at hi
    obtain ⟨z, hz, rfl⟩ : ∃ z, ns[i]? = some z ∧ x = V.int z := by
      rw [List.getElem?_map, List.getElem?_eq_getElem hi] at hx
      exact ⟨_, List.getElem?_eq_getElem hi, (Option.some.inj hx).symm⟩
    rw [twice_at hz] at ht
    refine ⟨_, rfl, _, rfl, z, q, S, n, rfl, rfl, hq2, _, rfl, ite2 (fun e => ?_) (fun e => ?_)⟩
    · rw [hS] at e
      rw [if_pos (of_decide_eq_true e)] at ht
      refine ⟨_, rfl, ?_⟩
      rw [ht] at k
      exact k _ s2
    · have e' : ¬ z ∈ ns.take i := fun h => e (by rw [hS]; exact decide_eq_true h)
      rw [if_neg e'] at ht
      have hf : S z = false := by rw [hS]; exact decide_eq_false e'
      refine ⟨_, rfl, ⟨_, S, n, rfl, hq2⟩, _, rfl, q, z, S, n, rfl, rfl, hq2, ?_, ?_⟩
      · have : (1001 : Nat) < scanBound := by decide
        omega
      · refine ⟨?_, ⟨_, rfl⟩, _, _, ?_, upd_same, fun j => ?_, ht⟩
        · intro b o h
          rw [upd_ne (ne_of_none h hq)]
          exact s2 _ _ h
        · rw [if_neg (by rw [hf]; exact Bool.false_ne_true)]
          omega
        · rw [hS, List.take_succ, hz]
          simp only [Option.toList_some, List.mem_append, List.mem_singleton]
          by_cases h1 : j ∈ ns.take i <;> by_cases h2 : j = z <;> simp [h1, h2]
  · rintro σ H' ⟨s2, _, S, n, _, _, _, ht⟩
    rw [List.length_map, List.drop_eq_nil_of_le (Nat.le_refl _)] at ht
    rw [ht] at k
    exact k _ s2
theorem kb_first_twice_values (T : Txt K mg A) : KBinds K A.d_first_twice P_first_twice ["values"] (fun us ws => us ++ ws) (fun vs zs => vs ++ zs) :=
  kbindsF T.F_first_twice (fun r q => r.append q) fun _ _ _ _ _ _ us ws hl => match us, ws, hl with
    | [], [_], _ => rfl
    | [_], [], _ => rfl
/-- the bag is made -/
def sp_bag (K : PySem.W.Frag) : Sp := fun vs H Q _ => ∃ (a : Addr) (ns : List Int), vs = [.ref a] ∧ SqL K H a (ns.map V.int) ∧ ns.length ≤ 63 ∧
  ∀ (p c : Addr) (H' : Hp), Same H H' → H p = none → H c = none → Bg H' p c 0 → Q (.ref p) H'
theorem G__law_phial (T : Txt K mg A) : FnG P w K mg base CX0 1 A.a__law_phial A.d__law_phial P__law_phial (sp_bag K) := by
  refine okG T.F__law_phial sc__law_phial (fun vs H Q E h => ?_) (fun cdv A0 outer s H vs Q E hr h => ?_)
  · obtain ⟨a, ns, rfl, _⟩ := h
    rfl
  obtain ⟨a, ns, rfl, hS, hl, k⟩ := h
  refine ⟨_, (pss_one (ps_ret (pe_lst (pa_cons (pe_lc (own := [("cell", 1)]) (g := gName 1) (tt := tYes) rfl sc__law_phial.nd (pi_list (pe_slice (r := rSlL K) sl_list (pv 0) po_none (po_some pe_int))) (blkOk_by (N := N__law_phial) (sc := defScope s__law_phial) (by decide +kernel)) (fun _ _ _ _ _ => (pg_name (i := 1) sc__law_phial.nd rfl (Or.inl rfl))) (fun _ _ _ _ _ => pts_nil) (fun _ _ _ _ _ => (pe_callTy call_int1 (by rfl) T.n_int (by decide +kernel) (pa_cons (pv 1) pa_nil)))) (pa_cons pe_int (pa_cons pe_int pa_nil)))))), ?_⟩
  refine ⟨_, rfl, _, rfl, a, _, rfl, hS, fun q hq => ?_⟩
  obtain ⟨ms, em, lm⟩ : ∃ ms : List Int, cutV (ns.map V.int) none (some 60) = ms.map V.int ∧ ms.length ≤ 63 := by
    refine ⟨(ns.drop (HT.sIx ns.length 0 none)).take (HT.sIx ns.length ns.length (some 60) - HT.sIx ns.length 0 none), ?_, ?_⟩
    · unfold cutV
      rw [List.length_map, List.map_take, List.map_drop]
    · rw [List.length_take, List.length_drop]
      omega
  rw [em]
  refine ⟨q, rfl, ⟨_, SqL.of upd_same⟩, fun D hD => ?_⟩
  have s1 : Same H (upd H q (.lst (ms.map V.int))) := Same.new (fun _ _ h => h) hq
  have nD : H D = none := s1.free hD
  have nqD : q ≠ D := ne_of_none upd_same hD
  refine lc_list (K := K) (a := q) (xs := ms.map V.int) (fun i H' => Same H H' ∧ H' q = some (.lst (ms.map V.int)) ∧ H' D = some (.lst ((ms.take i).map V.int)))
    ⟨Same.new s1 hD, by rw [upd_ne nqD, upd_same], upd_same⟩ (fun i H' _ h => SqL.of h.2.1) ?_ ?_
  · rintro i x H' hx ⟨s2, hq2, hD2⟩
    obtain ⟨z, hz, rfl⟩ : ∃ z, ms[i]? = some z ∧ x = V.int z := by
      rw [List.getElem?_map] at hx
      cases e : ms[i]? with
      | none => rw [e] at hx; cases hx
      | some z => rw [e] at hx; exact ⟨z, rfl, (Option.some.inj hx).symm⟩
    have hi : i < ms.length := (List.getElem?_eq_some_iff.mp hz).1
    refine ⟨rfl, tYes_of (iteT ⟨_, rfl, Or.inl ⟨_, rfl, _, hD2, ?_, ?_, ?_, ?_⟩⟩)⟩
    · rw [List.length_map, List.length_take]
      exact small1000 (by omega)
    · intro b o h
      rw [upd_ne (ne_of_none h nD)]
      exact s2 _ _ h
    · rw [upd_ne nqD]
      exact hq2
    · rw [upd_same, List.take_succ, hz]
      simp
  · rintro H' ⟨s2, hq2, hD2⟩
    refine ⟨by show 3 ≤ sizeLine; decide, fun p hp => ?_⟩
    rw [List.take_of_length_le (by rw [List.length_map]; exact Nat.le_refl _)] at hD2
    have npD : D ≠ p := ne_of_none hD2 hp
    refine k p D _ (Same.new s2 hp) (s2.free hp) nD ⟨npD, ms, 0, 0, upd_same, ?_, lm, Int.le_refl _, Int.le_refl _⟩
    rw [upd_ne npD]
    exact hD2
/-- one of some -/
def sp_some : Sp := fun vs H Q _ => ∃ (p c q : Addr) (n : Nat) (xs : List V), vs = [.ref p, .ref q] ∧ Bg H p c n ∧ n ≤ 100000 ∧ H q = some (.lst xs) ∧ q ≠ p ∧ 1 ≤ xs.length ∧ xs.length ≤ 1000 ∧
  ∀ (v : V) (H' : Hp), v ∈ xs → Kp p H H' → Bg H' p c (n + 1) → Q v H'
theorem G__law_some_of (T : Txt K mg A) : FnG P w K mg base CX0 2 A.a__law_some_of A.d__law_some_of P__law_some_of sp_some := by
  refine okG T.F__law_some_of sc__law_some_of (fun vs H Q E h => ?_) (fun cdv A0 outer s H vs Q E hr h => ?_)
  · obtain ⟨p, c, q, n, xs, rfl, _⟩ := h
    rfl
  obtain ⟨p, c, q, n, xs, rfl, bg, hn, hq, nqp, h1, h2, k⟩ := h
  refine ⟨_, (pss_one (ps_ret (pe_ix (r := rIxL K) ix_list (pv 1) (pe_callG (G__law_tip T) (hr.mono (by decide)) rfl T.g__law_tip T.F__law_tip.kp T.b__law_tip .nil pass0 (pa_cons (pv 0) (pa_cons (pe_callB call_len_seq (by rfl) T.n_len (by decide +kernel) (pa_cons (pv 1) pa_nil)) pa_nil))) (fun _ _ => rfl)))), ?_⟩
  refine ⟨_, rfl, _, rfl, _, rfl, _, _, rfl, .inl (SqL.of hq), p, c, n, _, rfl, bg, hn, by omega, by omega, fun x H' x0 x1 kp bg' => ?_⟩
  obtain ⟨j, rfl⟩ : ∃ j : Nat, x = (j : Int) := ⟨x.toNat, by omega⟩
  have hj : j < xs.length := by omega
  refine ⟨_, _, _, _, rfl, rfl, SqL.of (kp q _ nqp hq), atI_nat (List.getElem?_eq_getElem hj), ?_⟩
  exact k _ _ (List.getElem_mem hj) kp bg'

/-! ### the law's own values -/
/-- a value and its repr -/
inductive RepV (K : PySem.W.Frag) (H : Hp) : V → Str → Prop
  | data {v : V} {d : PyData} : Dp K H v d → d.showable = true → d.depth ≤ 60 → d.shown.length ≤ sizeLine → RepV K H v d.shown
  | dict {a : Addr} {kvs : List (Key × V)} {ds : List (PyData × PyData)} : H a = some (.dK kvs) → FlatKv kvs ds → (PyData.dict ds).showable = true → (PyData.dict ds).depth ≤ 60 → (PyData.dict ds).shown.length ≤ sizeLine →
      RepV K H (.ref a) (PyData.dict ds).shown
theorem rep_call {K : PySem.W.Frag} {H : Hp} {v : V} {z : Str} {Q : VK} (r : RepV K H v z) (q : Q (.str z) H) : rRepr K [v] H Q ∨ rReprD [v] H Q := by
  cases r with
  | data a b c d => exact .inl ⟨_, _, rfl, a, b, c, d, q⟩
  | dict a b c d e => exact .inr ⟨_, _, _, rfl, a, b, c, d, e, q⟩
abbrev tf : List V := [.str "True", .str "False"]
/-- what the law may ask: its kind, its repr -/
structure Lw (K : PySem.W.Frag) (H : Hp) (v : V) : Prop where
  ok : OkV H v
  txt : ∃ z, RepV K H v z ∧ inV (.str z) tf = isB v
def chk (z : Str) : Bool := !inV (.str z) tf && decide (z.length ≤ 1000)
theorem chk_of {z : Str} (h : chk z = true) : inV (.str z) tf = false ∧ z.length ≤ sizeLine := by
  simp only [chk, Bool.and_eq_true, decide_eq_true_eq, Bool.not_eq_true'] at h
  exact ⟨h.1, Nat.le_of_lt (small1000 h.2)⟩
theorem lw_data {K : PySem.W.Frag} {H : Hp} {v : V} {d : PyData} {z : Str} (ok : OkV H v) (dp : Dp K H v d) (nb : isB v = false) (hs : d.showable = true) (hd : d.depth ≤ 60) (e : d.shown = z) (c : chk z = true) : Lw K H v := by
  obtain ⟨c1, c2⟩ := chk_of c
  subst e
  exact ⟨ok, _, .data dp hs hd c2, by rw [nb]; exact c1⟩
theorem log_of {i : Int} (h : i.natAbs < 2 ^ 200) : i.natAbs.log2 < 1920 := by
  by_cases h0 : i.natAbs = 0
  · rw [h0]
    decide
  · refine (Nat.log2_lt h0).mpr (Nat.lt_of_lt_of_le h ?_)
    exact Nat.pow_le_pow_right (by decide) (by decide)
theorem lw_int {K : PySem.W.Frag} {H : Hp} {i : Int} (c : chk (Str.ofString (toString i)) = true) (h : i.natAbs < 2 ^ 200) : Lw K H (.int i) :=
  lw_data (z := Str.ofString (toString i)) trivial (.int i) rfl (by simp only [PyData.showable, decide_eq_true_eq]; exact log_of h) (by simp only [PyData.depth]; decide) (by simp only [PyData.shown]) c
theorem lw_str {K : PySem.W.Frag} {H : Hp} {x : Str} (c : chk (reprText x) = true) : Lw K H (.str x) :=
  lw_data (z := reprText x) trivial (.str x) rfl (by simp only [PyData.showable]) (by simp only [PyData.depth]; decide) (by simp only [PyData.shown]) c
theorem lw_non {K : PySem.W.Frag} {H : Hp} : Lw K H .non :=
  lw_data (z := "None") trivial .non rfl (by simp only [PyData.showable]) (by simp only [PyData.depth]; decide) (by simp only [PyData.shown]) (by decide +kernel)
theorem lw_bl {K : PySem.W.Frag} {H : Hp} (b : Bool) : Lw K H (.bl b) := by
  refine ⟨trivial, _, .data (.bl b) (by simp only [PyData.showable]) (by simp only [PyData.depth]; decide) ?_, ?_⟩
  · simp only [PyData.shown]
    cases b <;> decide
  · simp only [PyData.shown]
    cases b <;> decide +kernel
def ltxt (l : List Str) : Str := listText l
theorem lw_ints {K : PySem.W.Frag} {H : Hp} {a : Addr} {ns : List Int} (h : H a = some (.lst (ns.map V.int))) (c : chk (listText (ns.map fun n => Str.ofString (toString n))) = true) (hn : ∀ n ∈ ns, n.natAbs < 2 ^ 200) : Lw K H (.ref a) := by
  have e : ∀ ns : List Int, PyData.shownAll (ns.map PyData.int) = ns.map fun n => Str.ofString (toString n) := by
    intro ns
    induction ns with
    | nil => simp only [List.map_nil, PyData.shownAll]
    | cons n r ih => simp only [List.map_cons, PyData.shownAll, PyData.shown, ih]
  have sh : ∀ ns : List Int, (∀ n ∈ ns, n.natAbs < 2 ^ 200) → PyData.showableAll (ns.map PyData.int) = true := by
    intro ns
    induction ns with
    | nil => intro _; simp only [List.map_nil, PyData.showableAll]
    | cons n r ih =>
      intro hh
      simp only [List.map_cons, PyData.showableAll, PyData.showable, ih fun m hm => hh m (List.mem_cons_of_mem _ hm), Bool.and_true, decide_eq_true_eq]
      exact log_of (hh n List.mem_cons_self)
  refine lw_data (d := .list (ns.map PyData.int)) (z := listText (ns.map fun n => Str.ofString (toString n))) (.inl ⟨_, h⟩) (.lst (SqL.of h) (dp_ints ns)) rfl (by simp only [PyData.showable, sh ns hn]) (by simp only [PyData.depth, FT.depthAll_ints]; decide) (by simp only [PyData.shown, e]) c
theorem lw_dict {K : PySem.W.Frag} {H : Hp} {a : Addr} {kvs : List (Key × V)} {ds : List (PyData × PyData)} {z : Str} (h : H a = some (.dK kvs)) (f : FlatKv kvs ds) (nb : isB (.ref a) = false) (hs : (PyData.dict ds).showable = true) (hd : (PyData.dict ds).depth ≤ 60) (e : (PyData.dict ds).shown = z) (c : chk z = true) : Lw K H (.ref a) := by
  obtain ⟨c1, c2⟩ := chk_of c
  subst e
  exact ⟨.inr (.inr ⟨_, h⟩), _, .dict h f hs hd c2, by rw [nb]; exact c1⟩
theorem by41 (f : Int → Bool) (h : (List.range 41).all (fun (k : Nat) => f ((k : Int) - 20)) = true) {n : Int} (h0 : -20 ≤ n) (h1 : n ≤ 20) : f n = true := by
  have q := List.all_eq_true.mp h (n + 20).toNat (List.mem_range.mpr (by omega))
  have e : (((n + 20).toNat : Nat) : Int) - 20 = n := by omega
  rw [e] at q
  exact q
theorem at_new2 {H : Hp} {p q : Addr} {o u u' : HO} (h : H p = some o) (hq : H q = none) : upd (upd H q u) q u' p = some o := by
  rw [upd_upd]
  exact at_new h hq

theorem Bg_new2 {H : Hp} {p c q : Addr} {n : Nat} {o o' : HO} (b : Bg H p c n) (hq : H q = none) : Bg (upd (upd H q o) q o') p c n := by
  rw [upd_upd]
  exact b.new hq
theorem Kp_new2 {H H' : Hp} {p q : Addr} {o o' : HO} (b : Kp p H H') (hq : H' q = none) : Kp p H (upd (upd H' q o) q o') := by
  rw [upd_upd]
  exact b.new hq
/-- whether it is an integer, by the law's own look -/
def sp_is (K : PySem.W.Frag) : Sp := fun vs H Q _ => ∃ v, vs = [v] ∧ Lw K H v ∧ ∀ H', Same H H' → Q (.bl (isI v)) H'
theorem G__law_is (T : Txt K mg A) : FnG P w K mg base CX0 1 A.a__law_is A.d__law_is P__law_is (sp_is K) := by
  refine okG T.F__law_is sc__law_is (fun vs H Q E h => ?_) (fun cdv A0 outer s H vs Q E hr h => ?_)
  · obtain ⟨v, rfl, _⟩ := h
    rfl
  obtain ⟨v, rfl, ⟨ok, z, rp, hz⟩, k⟩ := h
  refine ⟨_, (pss_one (ps_ret (pe_and (pe_cmpR op_notIn_seq (pe_callB (call_repr2 hr.gd hr.room.units) (by rfl) T.n_repr (by decide +kernel) (pa_cons (pv 0) pa_nil)) (pe_tup (pa_cons pe_str (pa_cons pe_str pa_nil))) (by rfl)) (pe_one (pe_callB call_isi (by rfl) T.n_isinstance (by decide +kernel) (pa_cons (pv 0) (pa_cons (pe_bltn (v := .ty "int") (u := .type "int") (by rfl) T.n_int (by decide +kernel) rfl) pa_nil))))))), ?_⟩
  refine ⟨_, rfl, rep_call rp ?_⟩
  refine ⟨by show 2 ≤ sizeLine; decide, fun p np => ⟨p, _, rfl, .inr (SqT.of upd_same), rfl, rfl, ?_⟩⟩
  rw [if_pos rfl, hz]
  obtain ⟨T1, ty, k1, k2, _⟩ := kindV (K := K) (ok.mono fun a o _ h => at_new (u := .tup tf) h np)
  refine ⟨_, rfl, ite2 (fun e => ?_) (fun e => ?_)⟩
  · refine ⟨_, rfl, _, _, _, _, _, rfl, .ty "int", ty, kit_ty k1, ?_⟩
    have y : (isI v || isB v) = isI v := by
      cases v <;> first | rfl | cases e
    rw [y]
    exact k _ (Same.new (fun _ _ h => h) np)
  · have y : isI v = false := by
      cases v <;> first | rfl | (exact absurd rfl e)
    rw [y] at k
    exact k _ (Same.new (fun _ _ h => h) np)
/-- a drawn value: known whatever becomes of the bag -/
def sp_value (K : PySem.W.Frag) : Sp := fun vs H Q _ => ∃ (p c : Addr) (n : Nat), vs = [.ref p] ∧ Bg H p c n ∧ n ≤ 90000 ∧
  ∀ (v : V) (H' : Hp), (∀ H'', Kp p H' H'' → Lw K H'' v) → Kp p H H' → Bg H' p c (n + 2) → Q v H'
local macro_rules | `(tactic| walk_at "at") => `(tactic| first | assumption | exact upd_same | (refine at_new ?_ (by assumption); walk_at "at") | (refine at_new2 ?_ (by assumption); walk_at "at"))
theorem G__law_value (T : Txt K mg A) : FnG P w K mg base CX0 3 A.a__law_value A.d__law_value P__law_value (sp_value K) := by
  refine okG T.F__law_value sc__law_value (fun vs H Q E h => ?_) (fun cdv A0 outer s H vs Q E hr h => ?_)
  · obtain ⟨p, c, n, rfl, _⟩ := h
    rfl
  obtain ⟨p, c, n, rfl, bg, hn, k⟩ := h
  refine ⟨_, (pss_cons (ps_set (i := 1) sc__law_value.nd rfl (Or.inl rfl) (pe_op op_sub (pe_callG (G__law_tip T) (hr.mono (by decide)) rfl T.g__law_tip T.F__law_tip.kp T.b__law_tip .nil pass0 (pa_cons (pv 0) (pa_cons pe_int pa_nil))) pe_int))
      (pss_cons (ps_set (i := 2) sc__law_value.nd rfl (Or.inl rfl) (pe_lst (pa_cons (pv 1) (pa_cons (pv 1) (pa_cons (pe_op op_add (pe_op op_pow pe_int pe_int) (pv 1)) (pa_cons (pe_un un_neg (pe_op op_pow pe_int pe_int)) (pa_cons pe_int (pa_cons pe_bl (pa_cons pe_bl (pa_cons pe_non (pa_cons pe_str (pa_cons pe_str (pa_cons (pe_callTy call_str_int (by rfl) T.n_str (by decide +kernel) (pa_cons (pv 1) pa_nil)) (pa_cons (pe_lst (pa_cons (pv 1) pa_nil)) (pa_cons (pe_tup pa_nil) (pa_cons pe_dnewK (pa_cons (pe_disp (pps_cons pe_int pe_int pps_nil) (by rfl) (by rfl) (fun z => by cases z) (by decide)) (pa_cons (pe_lst pa_nil) (pa_cons (pe_lst (pa_cons (pe_lst (pa_cons pe_int pa_nil)) pa_nil)) (pa_cons (pe_cmpR op_eq pe_int (pv 1) (nomark _)) pa_nil))))))))))))))))))))
      (pss_one (ps_ret (pe_callG (G__law_some_of T) (hr.mono (by decide)) rfl T.g__law_some_of T.F__law_some_of.kp T.b__law_some_of .nil pass0 (pa_cons (pv 0) (pa_cons (pv 2) pa_nil))))))), ?_⟩
  refine ⟨_, rfl, p, c, n, 41, rfl, bg, by omega, by decide, by decide, fun x H1 x0 x1 kp1 bg1 => ⟨_, _, rfl, rfl, ?_⟩⟩
  obtain ⟨N, hN⟩ : ∃ N : Int, N = x - 20 := ⟨_, rfl⟩
  have n0 : -20 ≤ N := by omega
  have n1 : N ≤ 20 := by omega
  obtain ⟨op, hop⟩ := bg1.has.1
  try dsimp only
  rw [← hN]
  refine ⟨_, rfl, _, rfl, _, _, rfl, rfl, ⟨by decide, by decide, by decide⟩, _, rfl, _, _, rfl, rfl, _, _, rfl, rfl, ⟨by decide, by decide, by decide⟩, _, rfl, ?_⟩
  refine ⟨_, rfl, _, rfl, log_of (by omega), ?_⟩
  refine ⟨_, rfl, by show 1 ≤ sizeLine; decide, fun q1 h1 => ⟨Nat.zero_le _, fun q2 h2 q3 h3 q4 h4 => ⟨upd_same, [(.inl 0, .int 1)], rfl, by decide, Nat.zero_le _, fun q5 h5 => ?_⟩⟩⟩
  refine ⟨by show 1 ≤ sizeLine; decide, fun q6 h6 => ⟨by show 1 ≤ sizeLine; decide, fun q7 h7 => ⟨_, rfl, rfl, by show 18 ≤ sizeLine; decide, fun q8 h8 => ?_⟩⟩⟩
  try dsimp only
  have e1 : q1 ≠ p := (ne_of_none (o := op) (by walk_at "at") h1).symm
  have e2 : q2 ≠ p := (ne_of_none (o := op) (by walk_at "at") h2).symm
  have e3 : q3 ≠ p := (ne_of_none (o := op) (by walk_at "at") h3).symm
  have e4 : q4 ≠ p := (ne_of_none (o := op) (by walk_at "at") h4).symm
  have e5 : q5 ≠ p := (ne_of_none (o := op) (by walk_at "at") h5).symm
  have e6 : q6 ≠ p := (ne_of_none (o := op) (by walk_at "at") h6).symm
  have e7 : q7 ≠ p := (ne_of_none (o := op) (by walk_at "at") h7).symm
  have e8 : q8 ≠ p := (ne_of_none (o := op) (by walk_at "at") h8).symm
  refine ⟨_, rfl, _, rfl, p, c, q8, n + 1, _, rfl, ((((Bg_new2 (((bg1.new h1).new h2).new h3) h4).new h5).new h6).new h7).new h8, by omega, upd_same, e8, by show 1 ≤ 18; decide, by show 18 ≤ 1000; decide, fun v H' hv kp bg' => ?_⟩
  refine k v H' ?_ ((((((Kp_new2 (((kp1.new h1).new h2).new h3) h4).new h5).new h6).new h7).new h8).trans kp) bg'
  intro H'' kp'
  have g1 : H'' q1 = some (.lst ([N].map V.int)) := kp' _ _ e1 (kp _ _ e1 (by walk_at "at"))
  have g2 : H'' q2 = some (.tup []) := kp' _ _ e2 (kp _ _ e2 (by walk_at "at"))
  have g3 : H'' q3 = some (.dK []) := kp' _ _ e3 (kp _ _ e3 (by walk_at "at"))
  have g4 : H'' q4 = some (.dK [(.inl 0, .int 1)]) := kp' _ _ e4 (kp _ _ e4 (by walk_at "at"))
  have g5 : H'' q5 = some (.lst ([].map V.int)) := kp' _ _ e5 (kp _ _ e5 (by walk_at "at"))
  have g6 : H'' q6 = some (.lst ([0].map V.int)) := kp' _ _ e6 (kp _ _ e6 (by walk_at "at"))
  have g7 : H'' q7 = some (.lst [.ref q6]) := kp' _ _ e7 (kp _ _ e7 (by walk_at "at"))
  have c1 : chk (Str.ofString (toString N)) = true := by41 (fun n => chk (Str.ofString (toString n))) (by decide +kernel) n0 n1
  have c2 : chk (Str.ofString (toString ((10 : Int) ^ (30 : Int).toNat + N))) = true := by41 (fun n => chk (Str.ofString (toString ((10 : Int) ^ (30 : Int).toNat + n)))) (by decide +kernel) n0 n1
  have c3 : chk (reprText (Str.ofString (toString N))) = true := by41 (fun n => chk (reprText (Str.ofString (toString n)))) (by decide +kernel) n0 n1
  have c4 : chk (listText (([N] : List Int).map fun n => Str.ofString (toString n))) = true := by41 (fun n => chk (listText (([n] : List Int).map fun n => Str.ofString (toString n)))) (by decide +kernel) n0 n1
  have w0 : N.natAbs < 2 ^ 200 := by omega
  have w1 : ((10 : Int) ^ (30 : Int).toNat + N).natAbs < 2 ^ 200 := by
    have : (10 : Int) ^ (30 : Int).toNat = 1000000000000000000000000000000 := by decide
    omega
  simp only [List.mem_cons, List.not_mem_nil, or_false] at hv
  rcases hv with rfl | rfl | rfl | rfl | rfl | rfl | rfl | rfl | rfl | rfl | rfl | rfl | rfl | rfl | rfl | rfl | rfl | rfl
  · exact lw_int c1 w0
  · exact lw_int c1 w0
  · exact lw_int c2 w1
  · exact lw_int (by decide +kernel) (by decide)
  · exact lw_int (by decide +kernel) (by decide)
  · exact lw_bl true
  · exact lw_bl false
  · exact lw_non
  · exact lw_str (by decide +kernel)
  · exact lw_str (by decide +kernel)
  · exact lw_str c3
  · exact lw_ints g1 c4 (by intro m hm; rw [List.mem_singleton.mp hm]; exact w0)
  · exact lw_data (d := .tuple []) (z := tupleText []) (.inr (.inl ⟨_, g2⟩)) (.tup (SqT.of g2) .nil) rfl (by simp only [PyData.showable, PyData.showableAll]) (by simp only [PyData.depth, PyData.depthAll]; decide) (by simp only [PyData.shown, PyData.shownAll]) (by decide +kernel)
  · exact lw_dict g3 .nil (z := dictText []) rfl (by simp only [PyData.showable, PyData.showableKv]) (by simp only [PyData.depth, PyData.depthKv]; decide) (by simp only [PyData.shown, PyData.shownKv]) (by decide +kernel)
  · exact lw_dict g4 (.cons rfl .nil) (z := dictText [Str.ofString (toString (0 : Int)) ++ ": " ++ Str.ofString (toString (1 : Int))]) rfl (by simp only [PyData.showable, PyData.showableKv, keyD]; decide) (by simp only [PyData.depth, PyData.depthKv, keyD]; decide) (by simp only [PyData.shown, PyData.shownKv, keyD]) (by decide +kernel)
  · exact lw_ints g5 (by decide +kernel) (by intro m hm; cases hm)
  · exact lw_data (d := .list [.list ([0].map PyData.int)]) (z := listText [listText [Str.ofString (toString (0 : Int))]]) (.inl ⟨_, g7⟩) (.lst (SqL.of g7) (.cons (.lst (SqL.of g6) (dp_ints [0])) .nil)) rfl (by simp only [PyData.showable, PyData.showableAll, List.map]; decide) (by simp only [PyData.depth, PyData.depthAll, List.map]; decide) (by simp only [PyData.shown, PyData.shownAll, List.map]) (by decide +kernel)
  · exact lw_bl _
theorem is_true {v : V} (h : isI v = true) : ∃ i, v = .int i := by
  cases v <;> first | exact ⟨_, rfl⟩ | cases h
theorem lw_same {K : PySem.W.Frag} {p : Addr} {v : V} {H H' : Hp} (l : ∀ H'', Kp p H H'' → Lw K H'' v) (s : Same H H') : Lw K H' v := l H' (Kp.of_same s)
def sp_turn : Sp := fun vs H Q _ => ∃ (p c : Addr) (n : Nat), vs = [.ref p] ∧ Bg H p c n ∧ n ≤ 80000 ∧ ∀ (H' : Hp), Kp p H H' → Bg H' p c (n + 100) → Q (.bl true) H'
theorem G__law_bounds_right (T : Txt K mg A) : FnG P w K mg base CX0 4 A.a__law_bounds_right A.d__law_bounds_right P__law_bounds_right sp_turn := by
  refine okG T.F__law_bounds_right sc__law_bounds_right (fun vs H Q E h => ?_) (fun cdv A0 outer s H vs Q E hr h => ?_)
  · obtain ⟨p, c, n, rfl, _⟩ := h
    rfl
  obtain ⟨p, c, n, rfl, bg, hn, k⟩ := h
  refine ⟨_, (pss_cons (ps_set (i := 1) sc__law_bounds_right.nd rfl (Or.inl rfl) (pe_callG (G__law_value T) (hr.mono (by decide)) rfl T.g__law_value T.F__law_value.kp T.b__law_value .nil pass0 (pa_cons (pv 0) pa_nil)))
      (pss_cons (ps_par (i := 2) (j := 3) (by rfl) sc__law_bounds_right.nd rfl rfl (by decide) rfl rfl (pa_cons (pe_callG (G__law_some_of T) (hr.mono (by decide)) rfl T.g__law_some_of T.F__law_some_of.kp T.b__law_some_of .nil pass0 (pa_cons (pv 0) (pa_cons (pe_lst (pa_cons pe_non (pa_cons (pe_un un_neg pe_int) (pa_cons pe_int (pa_cons pe_int (pa_cons (pe_un un_neg (pe_op op_pow pe_int pe_int)) (pa_cons pe_int pa_nil))))))) pa_nil))) (pa_cons (pe_callG (G__law_some_of T) (hr.mono (by decide)) rfl T.g__law_some_of T.F__law_some_of.kp T.b__law_some_of .nil pass0 (pa_cons (pv 0) (pa_cons (pe_lst (pa_cons pe_non (pa_cons pe_int (pa_cons pe_int (pa_cons pe_int (pa_cons (pe_op op_pow pe_int pe_int) (pa_cons (pe_un un_neg pe_int) pa_nil))))))) pa_nil))) pa_nil)) (by rfl))
      (pss_cons (ps_set (i := 4) sc__law_bounds_right.nd rfl (Or.inl rfl) (pe_and (pe_callG (G__law_is T) (hr.mono (by decide)) rfl T.g__law_is T.F__law_is.kp T.b__law_is .nil pass0 (pa_cons (pv 1) pa_nil)) (pe_and (pe_or (pe_cmpR op_isN (pv 2) pe_non (nomark _)) (pe_one (pe_cmpR op_ge (pv 1) (pv 2) (nomark _)))) (pe_one (pe_or (pe_cmpR op_isN (pv 3) pe_non (nomark _)) (pe_one (pe_cmpR op_le (pv 1) (pv 3) (nomark _))))))))
      (pss_cons (ps_if (pt_cmpR op_ne (pe_callB (call_repr2 hr.gd hr.room.units) (by rfl) T.n_repr (by decide +kernel) (pa_cons (pe_lst (pa_cons (pe_callG (G_is_integer T) (hr.mono (by decide)) rfl T.g_is_integer T.F_is_integer.kp T.b_is_integer .nil pass0 (pa_cons (pv 1) pa_nil)) (pa_cons (pe_callGK0 (G_is_integer T) (hr.mono (by decide)) rfl T.g_is_integer T.F_is_integer.kp (kb_is_integer_value T) pass0 (pk_cons (pv 1) pk_nil)) pa_nil))) pa_nil)) (pe_callB (call_repr2 hr.gd hr.room.units) (by rfl) T.n_repr (by decide +kernel) (pa_cons (pe_op op_rep (pe_lst (pa_cons (pe_callG (G__law_is T) (hr.mono (by decide)) rfl T.g__law_is T.F__law_is.kp T.b__law_is .nil pass0 (pa_cons (pv 1) pa_nil)) pa_nil)) pe_int) pa_nil)) (nomark _)) (pss_one (ps_ret pe_bl)) pss_nil)
      (pss_cons (ps_set (i := 5) sc__law_bounds_right.nd rfl (Or.inl rfl) (pe_lst (pa_cons (pe_callG (G_is_within T) (hr.mono (by decide)) rfl T.g_is_within T.F_is_within.kp T.b_is_within .nil pass0 (pa_cons (pv 1) (pa_cons (pv 2) (pa_cons (pv 3) pa_nil)))) (pa_cons (pe_callGK0 (G_is_within T) (hr.mono (by decide)) rfl T.g_is_within T.F_is_within.kp (kb_is_within_most_least_value T) pass0 (pk_cons (pv 3) (pk_cons (pv 2) (pk_cons (pv 1) pk_nil)))) (pa_cons (pe_callG (G_is_within T) (hr.mono (by decide)) rfl T.g_is_within T.F_is_within.kp T.b_is_within .nil pass0 (pa_cons (pv 1) (pa_cons pe_non (pa_cons pe_non pa_nil)))) pa_nil)))))
      (pss_one (ps_ret (pe_cmpR op_eq (pe_callB (call_repr2 hr.gd hr.room.units) (by rfl) T.n_repr (by decide +kernel) (pa_cons (pv 5) pa_nil)) (pe_callB (call_repr2 hr.gd hr.room.units) (by rfl) T.n_repr (by decide +kernel) (pa_cons (pe_lst (pa_cons (pv 4) (pa_cons (pv 4) (pa_cons (pe_callG (G__law_is T) (hr.mono (by decide)) rfl T.g__law_is T.F__law_is.kp T.b__law_is .nil pass0 (pa_cons (pv 1) pa_nil)) pa_nil)))) pa_nil)) (nomark _))))))))), ?_⟩
  refine ⟨_, rfl, p, c, n, rfl, bg, by omega, fun v H1 lw kp1 bg1 => ?_⟩
  obtain ⟨op, hop⟩ := bg1.has.1
  refine ⟨_, rfl, _, rfl, _, _, rfl, rfl, ⟨by decide, by decide, by decide⟩, _, rfl, by show 6 ≤ sizeLine; decide, fun q1 h1 => ?_⟩
  refine ⟨p, c, q1, n + 2, _, rfl, bg1.new h1, by omega, upd_same, (ne_of_none hop h1).symm, by show 1 ≤ 6; decide, by show 6 ≤ 1000; decide, fun lo H2 hlo kp2 bg2 => ?_⟩
  obtain ⟨op2, hop2⟩ := bg2.has.1
  refine ⟨_, rfl, _, _, rfl, rfl, ⟨by decide, by decide, by decide⟩, _, rfl, by show 6 ≤ sizeLine; decide, fun q2 h2 => ?_⟩
  refine ⟨p, c, q2, n + 2 + 1, _, rfl, bg2.new h2, by omega, upd_same, (ne_of_none hop2 h2).symm, by show 1 ≤ 6; decide, by show 6 ≤ 1000; decide, fun hi H3 hhi kp3 bg3 => ⟨_, _, rfl, ?_⟩⟩
  have bl : Bd lo := by
    simp only [List.mem_cons, List.not_mem_nil, or_false] at hlo
    rcases hlo with rfl | rfl | rfl | rfl | rfl | rfl <;> exact trivial
  have bh : Bd hi := by
    simp only [List.mem_cons, List.not_mem_nil, or_false] at hhi
    rcases hhi with rfl | rfl | rfl | rfl | rfl | rfl <;> exact trivial
  have kp13 : Kp p H1 H3 := (((Kp.refl p H1).new h1).trans kp2).trans (((Kp.refl p H2).new h2).trans kp3)
  have lw3 : ∀ H'', Kp p H3 H'' → Lw K H'' v := fun H'' s => lw H'' (kp13.trans s)
  have kpA : Kp p H H3 := kp1.trans kp13
  -- due
  try dsimp only
  refine seq_cut (fun σ' H' => σ' = [some (.ref p), some v, some lo, some hi, some (.bl (isI v && (inLo v lo && inHi v hi))), none] ∧ Same H3 H') (fun N hN => ?_) ?_
  · refine ⟨_, rfl, v, rfl, lw3 H3 (Kp.refl p H3), fun H4 s4 => ⟨_, rfl, ite2 (fun e => ?_) (fun e => ?_)⟩⟩
    · obtain ⟨i, rfl⟩ := is_true e
      have last : inLo (.int i) lo = true → ∃ c : Bool, V.bl c = V.bl (inHi (.int i) hi) := fun _ => ⟨_, rfl⟩
      cases lo with
      | non =>
        refine ⟨_, rfl, rfl, _, rfl, iteT ⟨_, rfl, iteT ?_⟩⟩
        cases hi with
        | non => exact ⟨_, rfl, rfl, _, rfl, iteT (hN _ _ ⟨rfl, s4⟩)⟩
        | int b => exact ⟨_, rfl, rfl, _, rfl, iteF ⟨_, rfl, _, rfl, _, _, rfl, rfl, hN _ _ ⟨rfl, s4⟩⟩⟩
        | _ => exact bh.elim
      | int a =>
        refine ⟨_, rfl, rfl, _, rfl, iteF ⟨_, rfl, _, rfl, _, _, rfl, rfl, _, rfl, ite2 (fun e2 => ?_) (fun e2 => ?_)⟩⟩
        · have z : inLo (.int i) (.int a) = true := e2
          cases hi with
          | non => exact ⟨_, rfl, rfl, _, rfl, iteT (hN _ _ ⟨by rw [z]; rfl, s4⟩)⟩
          | int b => exact ⟨_, rfl, rfl, _, rfl, iteF ⟨_, rfl, _, rfl, _, _, rfl, rfl, hN _ _ ⟨by rw [z]; rfl, s4⟩⟩⟩
          | _ => exact bh.elim
        · have z : inLo (.int i) (.int a) = false := Bool.eq_false_iff.mpr e2
          exact hN _ _ ⟨by rw [z]; rfl, s4⟩
      | _ => exact bl.elim
    · have z : isI v = false := Bool.eq_false_iff.mpr e
      exact hN _ _ ⟨by rw [z]; rfl, s4⟩
  rintro _ H4 ⟨rfl, s4⟩
  obtain ⟨due, hdue⟩ : ∃ b : Bool, b = (isI v && (inLo v lo && inHi v hi)) := ⟨_, rfl⟩
  rw [← hdue]
  have ok4 : OkV H4 v := (lw_same lw3 s4).ok
  refine ⟨_, rfl, v, rfl, ok4, _, rfl, v, rfl, ok4, by show 2 ≤ sizeLine; decide, fun q3 h3 => rep_bools (bs := [isI v, isI v]) (SqL.of upd_same) (by show 2 ≤ 100; decide) ?_⟩
  have s5 : Same H3 (upd H4 q3 (.lst [.bl (isI v), .bl (isI v)])) := Same.new s4 h3
  refine ⟨_, rfl, v, rfl, lw_same lw3 s5, fun H5 s6 => ⟨by show 1 ≤ sizeLine; decide, fun q4 h4 => ⟨_, _, _, rfl, rfl, upd_same, by decide, by decide, by show 1 * 2 ≤ sizeLine; decide, fun q5 h5 => ?_⟩⟩⟩
  refine rep_bools (bs := [isI v, isI v]) (SqL.of upd_same) (by show 2 ≤ 100; decide) ⟨rfl, _, rfl, iteNS rfl ?_⟩
  have s7 : Same H3 (upd (upd H5 q4 (.lst [.bl (isI v)])) q5 (.lst [.bl (isI v), .bl (isI v)])) := Same.new (Same.new (s5.trans s6) h4) h5
  have ok7 := (lw_same lw3 s7).ok
  -- told
  try dsimp only
  have e1 : (isI v && (inLo v .non && inHi v .non)) = isI v := by cases v <;> rfl
  refine ⟨_, rfl, _, rfl, _, rfl, v, lo, hi, rfl, ok7, bl, bh, _, rfl, _, rfl, _, rfl, v, lo, hi, rfl, ok7, bl, bh, _, rfl, v, .non, .non, rfl, ok7, trivial, trivial, by show 3 ≤ sizeLine; decide, fun q6 h6 => ?_⟩
  rw [e1, ← hdue]
  have s8 : Same H3 (upd (upd (upd H5 q4 (.lst [.bl (isI v)])) q5 (.lst [.bl (isI v), .bl (isI v)])) q6 (.lst [.bl due, .bl due, .bl (isI v)])) := Same.new s7 h6
  refine ⟨_, rfl, rep_bools (bs := [due, due, isI v]) (SqL.of upd_same) (by show 3 ≤ 100; decide) ?_⟩
  refine ⟨_, rfl, _, rfl, _, rfl, v, rfl, lw_same lw3 s8, fun H9 s9 => ⟨by show 3 ≤ sizeLine; decide, fun q7 h7 => ?_⟩⟩
  refine rep_bools (bs := [due, due, isI v]) (SqL.of upd_same) (by show 3 ≤ 100; decide) ⟨rfl, ?_⟩
  have z : ∀ y : V, V.bl (decide (y = y)) = V.bl true := fun y => by rw [decide_eq_true rfl]
  rw [z]
  have sF := Same.new (o := .lst [.bl due, .bl due, .bl (isI v)]) (s8.trans s9) h7
  exact k _ (kpA.trans (Kp.of_same sF)) ((bg3.keep sF).le (by omega))
theorem areI_lst {H : Hp} {a : Addr} {xs : List V} (h : H a = some (.lst xs)) : areI H (.ref a) = xs.all isI := by simp only [areI, h]
theorem areI_tup {H : Hp} {a : Addr} {xs : List V} (h : H a = some (.tup xs)) : areI H (.ref a) = xs.all isI := by simp only [areI, h]
theorem areI_dK {H : Hp} {a : Addr} {xs : List (Key × V)} (h : H a = some (.dK xs)) : areI H (.ref a) = false := by simp only [areI, h]
theorem all_ints (ns : List Int) : (ns.map V.int).all isI = true := by
  induction ns with
  | nil => rfl
  | cons n r ih => exact ih
theorem ok_ints {H : Hp} {ns : List Int} : ∀ x ∈ ns.map V.int, OkV H x := by
  intro x hx
  obtain ⟨n, _, rfl⟩ := List.mem_map.mp hx
  trivial
theorem it_lst {H : Hp} {a : Addr} {ys : List V} (h : H a = some (.lst ys)) (hl : ys.length ≤ 1000) (ok : ∀ x ∈ ys, OkV H x) : ∀ a' xs, V.ref a = V.ref a' → (H a' = some (.lst xs) ∨ H a' = some (.tup xs)) → xs.length ≤ 1000 ∧ ∀ x ∈ xs, OkV H x := by
  rintro a' xs e hx
  obtain rfl := V.ref.inj e
  rcases hx with hx | hx
  · obtain rfl := HO.lst.inj (Option.some.inj (h.symm.trans hx))
    exact ⟨hl, ok⟩
  · cases h.symm.trans hx
theorem it_tup {H : Hp} {a : Addr} {ys : List V} (h : H a = some (.tup ys)) (hl : ys.length ≤ 1000) (ok : ∀ x ∈ ys, OkV H x) : ∀ a' xs, V.ref a = V.ref a' → (H a' = some (.lst xs) ∨ H a' = some (.tup xs)) → xs.length ≤ 1000 ∧ ∀ x ∈ xs, OkV H x := by
  rintro a' xs e hx
  obtain rfl := V.ref.inj e
  rcases hx with hx | hx
  · cases h.symm.trans hx
  · obtain rfl := HO.tup.inj (Option.some.inj (h.symm.trans hx))
    exact ⟨hl, ok⟩
theorem it_dK {H : Hp} {a : Addr} {ys : List (Key × V)} (h : H a = some (.dK ys)) : ∀ a' xs, V.ref a = V.ref a' → (H a' = some (.lst xs) ∨ H a' = some (.tup xs)) → xs.length ≤ 1000 ∧ ∀ x ∈ xs, OkV H x := by
  rintro a' xs e hx
  obtain rfl := V.ref.inj e
  rcases hx with hx | hx <;> cases h.symm.trans hx
theorem inV_ints (z : Int) (ms : List Int) : inV (.int z) (ms.map V.int) = decide (z ∈ ms) := by
  induction ms with
  | nil => rfl
  | cons m r ih =>
    have e : inV (.int z) ((m :: r).map V.int) = (eqV (.int m) (.int z) || inV (.int z) (r.map V.int)) := rfl
    rw [e, ih]
    have e2 : eqV (.int m) (.int z) = (m == z) := rfl
    rw [e2]
    by_cases h1 : m = z
    · subst h1
      simp
    · have h3 : ¬ z = m := fun q => h1 q.symm
      simp [h1, h3]
theorem flat_ints (ms : List Int) : (ms.map V.int).all flatV = true := by
  induction ms with
  | nil => rfl
  | cons m r ih => exact ih
theorem cut_take (ns : List Int) (i : Nat) (h : i ≤ ns.length) : cutV (ns.map V.int) none (some (i : Int)) = (ns.take i).map V.int := by
  unfold cutV
  rw [HT.sIx_none, HT.sIx_nat, List.length_map, List.drop_zero, Nat.sub_zero, Nat.min_eq_left h, List.map_take]
theorem twice_in : ∀ (r seen : List Int), twice seen r = .non ∨ ∃ z ∈ r, twice seen r = .int z
  | [], _ => .inl rfl
  | x :: r, seen => by
    unfold twice
    by_cases h : x ∈ seen
    · rw [if_pos h]
      exact .inr ⟨x, List.mem_cons_self, rfl⟩
    · rw [if_neg h]
      rcases twice_in r (seen ++ [x]) with e | ⟨z, hz, e⟩
      · exact .inl e
      · exact .inr ⟨z, List.mem_cons_of_mem _ hz, e⟩
theorem twice_data {row : List Int} (hz : ∀ z ∈ row, -20 ≤ z ∧ z ≤ 20) : ∃ d : PyData, (∀ (K : PySem.W.Frag) (H : Hp), Dp K H (twice [] row) d) ∧ d.showable = true ∧ d.depth = 0 ∧ d.shown.length ≤ 100 := by
  rcases twice_in row [] with e | ⟨z, h, e⟩
  · refine ⟨.none, fun K H => by rw [e]; exact .non, by simp only [PyData.showable], by simp only [PyData.depth], ?_⟩
    simp only [PyData.shown]
    decide
  · obtain ⟨z0, z1⟩ := hz z h
    refine ⟨.int z, fun K H => by rw [e]; exact .int z, by simp only [PyData.showable, decide_eq_true_eq]; exact log_of (by omega), by simp only [PyData.depth], ?_⟩
    simp only [PyData.shown]
    exact of_decide_eq_true (by41 (fun n => decide ((Str.ofString (toString n)).length ≤ 100)) (by decide +kernel) z0 z1)
theorem G__law_lists_right (T : Txt K mg A) : FnG P w K mg base CX0 4 A.a__law_lists_right A.d__law_lists_right P__law_lists_right sp_turn := by
  refine okG T.F__law_lists_right sc__law_lists_right (fun vs H Q E h => ?_) (fun cdv A0 outer s H vs Q E hr h => ?_)
  · obtain ⟨p, c, n, rfl, _⟩ := h
    rfl
  obtain ⟨p, c, n, rfl, bg, hn, k⟩ := h
  refine ⟨_, (pss_cons (ps_set (i := 1) sc__law_lists_right.nd rfl (Or.inr rfl) (pe_lc (own := [("turn", 9)]) (g := gName 9) (tt := tYes) rfl sc__law_lists_right.nd (pi_range1 (by rfl) T.n_range (pa_cons (pe_callG (G__law_tip T) (hr.mono (by decide)) rfl T.g__law_tip T.F__law_tip.kp T.b__law_tip .nil pass0 (pa_cons (pv 0) (pa_cons pe_int pa_nil))) pa_nil)) (blkOk_by (N := N__law_lists_right) (sc := defScope s__law_lists_right) (by decide +kernel)) (fun _ _ _ _ _ => (pg_name (i := 9) sc__law_lists_right.nd rfl (Or.inl rfl))) (fun _ _ _ _ _ => pts_nil) (fun _ _ _ _ _ => (pe_op op_sub (pe_callG (G__law_tip T) (hr.mono (by decide)) rfl T.g__law_tip T.F__law_tip.kp T.b__law_tip .nil pass0 (pa_cons (pv 0) (pa_cons pe_int pa_nil))) pe_int))))
      (pss_cons (ps_par3 (i := 2) (j := 3) (l := 4) (by rfl) sc__law_lists_right.nd rfl rfl rfl (by decide) (by decide) (by decide) rfl rfl rfl (pa_cons (pe_callTy call_list_of (by rfl) T.n_list (by decide +kernel) (pa_cons (pv 1) pa_nil)) (pa_cons (pe_callG (G__law_tip T) (hr.mono (by decide)) rfl T.g__law_tip T.F__law_tip.kp T.b__law_tip .nil pass0 (pa_cons (pv 0) (pa_cons (pe_op op_add (pe_callB call_len_seq (by rfl) T.n_len (by decide +kernel) (pa_cons (pv 1) pa_nil)) pe_int) pa_nil))) (pa_cons (pe_callG (G__law_value T) (hr.mono (by decide)) rfl T.g__law_value T.F__law_value.kp T.b__law_value .nil pass0 (pa_cons (pv 0) pa_nil)) pa_nil))) (by rfl))
      (pss_cons (ps_set (i := 5) sc__law_lists_right.nd rfl (Or.inl rfl) (pe_op op_cat (pe_op op_cat (pe_slice (r := rSlL K) sl_list (pv 1) po_none (po_some (pv 3))) (pe_lst (pa_cons (pv 4) pa_nil))) (pe_slice (r := rSlL K) sl_list (pv 1) (po_some (pv 3)) po_none)))
      (pss_cons (ps_set (i := 6) sc__law_lists_right.nd rfl (Or.inl rfl) (pe_lst (pa_cons (pe_callG (G_are_integers T) (hr.mono (by decide)) rfl T.g_are_integers T.F_are_integers.kp T.b_are_integers .nil pass0 (pa_cons (pv 1) pa_nil)) (pa_cons (pe_callGK0 (G_are_integers T) (hr.mono (by decide)) rfl T.g_are_integers T.F_are_integers.kp (kb_are_integers_value T) pass0 (pk_cons (pe_callTy call_tuple_of (by rfl) T.n_tuple (by decide +kernel) (pa_cons (pv 1) pa_nil)) pk_nil)) (pa_cons (pe_callG (G_are_integers T) (hr.mono (by decide)) rfl T.g_are_integers T.F_are_integers.kp T.b_are_integers .nil pass0 (pa_cons (pv 5) pa_nil)) (pa_cons (pe_callG (G_are_integers T) (hr.mono (by decide)) rfl T.g_are_integers T.F_are_integers.kp T.b_are_integers .nil pass0 (pa_cons (pe_callTy call_tuple_of (by rfl) T.n_tuple (by decide +kernel) (pa_cons (pv 5) pa_nil)) pa_nil)) (pa_cons (pe_callG (G_are_integers T) (hr.mono (by decide)) rfl T.g_are_integers T.F_are_integers.kp T.b_are_integers .nil pass0 (pa_cons (pe_disp (pps_cons pe_int pe_int pps_nil) (by rfl) (by rfl) (fun z => by cases z) (by decide)) pa_nil)) (pa_cons (pe_callG (G_are_integers T) (hr.mono (by decide)) rfl T.g_are_integers T.F_are_integers.kp T.b_are_integers .nil pass0 (pa_cons pe_str pa_nil)) (pa_cons (pe_callG (G_are_integers T) (hr.mono (by decide)) rfl T.g_are_integers T.F_are_integers.kp T.b_are_integers .nil pass0 (pa_cons pe_non pa_nil)) (pa_cons (pe_callG (G_are_integers T) (hr.mono (by decide)) rfl T.g_are_integers T.F_are_integers.kp T.b_are_integers .nil pass0 (pa_cons pe_int pa_nil)) pa_nil))))))))))
      (pss_cons (ps_if (pt_cmpR op_ne (pe_callB (call_repr2 hr.gd hr.room.units) (by rfl) T.n_repr (by decide +kernel) (pa_cons (pv 6) pa_nil)) (pe_callB (call_repr2 hr.gd hr.room.units) (by rfl) T.n_repr (by decide +kernel) (pa_cons (pe_lst (pa_cons pe_bl (pa_cons pe_bl (pa_cons (pe_callG (G__law_is T) (hr.mono (by decide)) rfl T.g__law_is T.F__law_is.kp T.b__law_is .nil pass0 (pa_cons (pv 4) pa_nil)) (pa_cons (pe_callG (G__law_is T) (hr.mono (by decide)) rfl T.g__law_is T.F__law_is.kp T.b__law_is .nil pass0 (pa_cons (pv 4) pa_nil)) (pa_cons pe_bl (pa_cons pe_bl (pa_cons pe_bl (pa_cons pe_bl pa_nil))))))))) pa_nil)) (nomark _)) (pss_one (ps_ret pe_bl)) pss_nil)
      (pss_cons (ps_setLc (i := 7) (own := [("spot", 10), ("number", 11)]) (g := gTup K 2 (gCons (gName 10) (gCons (gName 11) gNil))) (tt := tTest (tOp (rIn K false) (tVar 11) (tSl (rSlL K) (tVar 1) tNoPart (tPart (tVar 10))))) (by rfl) sc__law_lists_right.nd rfl rfl (sw_true rfl rfl rfl (by decide +kernel)) (pi_enum (by rfl) T.n_enumerate (pa_cons (pv 1) pa_nil)) (blkOk_by (N := N__law_lists_right) (sc := defScope s__law_lists_right) (by decide +kernel)) (fun _ _ _ _ _ => (pg_tup rfl (pgs_cons (pg_name (i := 10) sc__law_lists_right.nd rfl (Or.inl rfl)) (pgs_cons (pg_name (i := 11) sc__law_lists_right.nd rfl (Or.inl rfl)) pgs_nil)))) (fun _ _ _ _ _ => pts_one (pt_cmpR op_in_seq (pv 11) (pe_slice (r := rSlL K) sl_list (pv 1) po_none (po_some (pv 10))) (by rfl))) (fun _ _ _ _ _ => (pv 11)))
      (pss_cons (ps_set (i := 8) sc__law_lists_right.nd rfl (Or.inl rfl) (pe_ifExp (pt_cmpR (op_neD hr.room.units) (pv 7) (pe_lst pa_nil) (nomark _)) (pe_ix (r := rIxL K) ix_list (pv 7) pe_int (fun _ _ => rfl)) pe_non))
      (pss_one (ps_ret (pe_and (pe_cmpR op_eq (pe_callB (call_repr2 hr.gd hr.room.units) (by rfl) T.n_repr (by decide +kernel) (pa_cons (pe_lst (pa_cons (pe_callG (G_first_twice T) (hr.mono (by decide)) rfl T.g_first_twice T.F_first_twice.kp T.b_first_twice .nil pass0 (pa_cons (pv 1) pa_nil)) (pa_cons (pe_callGK0 (G_first_twice T) (hr.mono (by decide)) rfl T.g_first_twice T.F_first_twice.kp (kb_first_twice_values T) pass0 (pk_cons (pe_callTy call_tuple_of (by rfl) T.n_tuple (by decide +kernel) (pa_cons (pv 1) pa_nil)) pk_nil)) (pa_cons (pe_callG (G_first_twice T) (hr.mono (by decide)) rfl T.g_first_twice T.F_first_twice.kp T.b_first_twice .nil pass0 (pa_cons (pe_lst pa_nil) pa_nil)) pa_nil)))) pa_nil)) (pe_callB (call_repr2 hr.gd hr.room.units) (by rfl) T.n_repr (by decide +kernel) (pa_cons (pe_lst (pa_cons (pv 8) (pa_cons (pv 8) (pa_cons pe_non pa_nil)))) pa_nil)) (nomark _)) (pe_one (pe_cmpR (op_eqD hr.room.units) (pv 1) (pv 2) (nomark _))))))))))))), ?_⟩
  refine ⟨_, rfl, p, c, n, 8, rfl, bg, by omega, by decide, by decide, fun x H1 x0 x1 kp1 bg1 => ⟨x, rfl, by omega, by omega, fun D hD => ?_⟩⟩
  obtain ⟨⟨op, hop⟩, ⟨oc, hoc⟩⟩ := bg1.has
  have npD : p ≠ D := ne_of_none hop hD
  have ncD : c ≠ D := ne_of_none hoc hD
  refine lc_range (lo := 0) (n := x.toNat) (fun i H' => Kp p H1 H' ∧ Bg H' p c (n + 1 + i) ∧ ∃ ns : List Int, ns.length = i ∧ (∀ z ∈ ns, -20 ≤ z ∧ z ≤ 20) ∧ H' D = some (.lst (ns.map V.int)))
    ⟨(Kp.refl p H1).new hD, bg1.new hD, [], rfl, fun _ h => (nomatch h), upd_same⟩ ?_ ?_
  · rintro i H' hi ⟨kp2, bg2, ns, rfl, hz, hD2⟩
    refine ⟨rfl, tYes_of (iteT ⟨_, rfl, p, c, _, 9, rfl, bg2, by omega, by decide, by decide, fun y H2 y0 y1 kp3 bg3 => ⟨_, _, rfl, rfl, _, kp3 D _ npD.symm hD2, ?_, ?_, ?_, ns ++ [y - 4], ?_, ?_, ?_⟩⟩)⟩
    · rw [List.length_map]
      exact small1000 (by omega)
    · intro b o hb h
      rw [upd_ne (ne_of_none h hD)]
      exact kp3 _ _ hb (kp2 _ _ hb h)
    · exact (bg3.oth npD ncD).le (by omega)
    · rw [List.length_append]
      rfl
    · intro z h
      rcases List.mem_append.mp h with h | h
      · exact hz z h
      · rw [List.mem_singleton.mp h]
        omega
    · rw [upd_same]
      simp
  rintro H2 ⟨kp2, bg2, row, hrow, hz, hD2⟩
  have kpA : Kp p H H2 := kp1.trans kp2
  have hlen : row.length ≤ 10 := by omega
  clear kp1 kp2 hop hoc
  obtain ⟨⟨op, hop⟩, ⟨oc, hoc⟩⟩ := bg2.has
  -- kept, at, odd
  refine ⟨_, rfl, D, _, rfl, .inl (SqL.of hD2), fun q1 h1 => ?_⟩
  have e1 : q1 ≠ p := (ne_of_none hop h1).symm
  have hD3 := at_new (u := .lst (row.map V.int)) hD2 h1
  refine ⟨_, rfl, _, rfl, _, _, rfl, .inl (SqL.of hD3), _, _, rfl, rfl, p, c, _, _, rfl, bg2.new h1, by omega, by rw [List.length_map]; omega, by rw [List.length_map]; omega, fun a H3 a0 a1 kp3 bg3 => ?_⟩
  rw [List.length_map] at a1
  refine ⟨_, rfl, p, c, _, rfl, bg3, by omega, fun v H4 lw kp4 bg4 => ⟨_, _, _, rfl, ?_⟩⟩
  have hD4 : H4 D = some (.lst (row.map V.int)) := kp4 _ _ npD.symm (kp3 _ _ npD.symm hD3)
  have hq1 : H4 q1 = some (.lst (row.map V.int)) := kp4 _ _ e1 (kp3 _ _ e1 upd_same)
  have kpB : Kp p H H4 := ((kpA.new h1).trans kp3).trans kp4
  -- bent
  have lenc : ∀ lo hi, (cutV (row.map V.int) lo hi).length ≤ 10 := fun lo hi => Nat.le_trans (cutV_length _ _ _) (by rw [List.length_map]; exact hlen)
  have memc : ∀ lo hi x, x ∈ cutV (row.map V.int) lo hi → x ∈ row.map V.int := fun lo hi x h => List.mem_of_mem_drop (List.mem_of_mem_take h)
  have big : (30 : Nat) ≤ sizeLine := by decide
  try dsimp only
  refine ⟨_, rfl, _, rfl, _, rfl, D, _, rfl, SqL.of hD4, fun q2 h2 => ?_⟩
  refine ⟨_, rfl, by show 1 ≤ sizeLine; decide, fun q3 h3 => ?_⟩
  refine ⟨_, _, _, _, rfl, rfl, at_new upd_same h3, upd_same, Nat.le_trans (Nat.add_le_add_right (lenc _ _) _) (by show 10 + 1 ≤ sizeLine; decide), fun q4 h4 => ?_⟩
  have s4 : Same H4 (upd (upd (upd H4 q2 (.lst (cutV (row.map V.int) none (some a)))) q3 (.lst [v])) q4 (.lst (cutV (row.map V.int) none (some a) ++ [v]))) := Same.new (Same.new (Same.new (fun _ _ h => h) h2) h3) h4
  refine ⟨_, rfl, _, rfl, _, rfl, D, _, rfl, SqL.of (s4 _ _ hD4), fun q5 h5 => ?_⟩
  refine ⟨_, _, _, _, rfl, rfl, at_new upd_same h5, upd_same, ?_, fun q6 h6 => ?_⟩
  · rw [List.length_append]
    have z1 := lenc none (some a)
    have z2 := lenc (some a) none
    show _ + 1 + _ ≤ _
    omega
  have s6 := Same.new (o := .lst (cutV (row.map V.int) none (some a) ++ [v] ++ cutV (row.map V.int) (some a) none)) (Same.new (o := .lst (cutV (row.map V.int) (some a) none)) s4 h5) h6
  obtain ⟨bent, hbent⟩ : ∃ b : List V, b = cutV (row.map V.int) none (some a) ++ [v] ++ cutV (row.map V.int) (some a) none := ⟨_, rfl⟩
  have bl : bent.length ≤ 30 := by
    rw [hbent, List.length_append, List.length_append]
    have z1 := lenc none (some a)
    have z2 := lenc (some a) none
    show _ + 1 + _ ≤ _
    omega
  have bm : ∀ x ∈ bent, x = v ∨ x ∈ row.map V.int := by
    intro x hx
    rw [hbent] at hx
    rcases List.mem_append.mp hx with h | h
    · rcases List.mem_append.mp h with h | h
      · exact .inr (memc _ _ _ h)
      · exact .inl (List.mem_singleton.mp h)
    · exact .inr (memc _ _ _ h)
  have ba : bent.all isI = isI v := by
    have hv : v ∈ bent := by rw [hbent]; simp
    cases e : isI v with
    | true =>
      refine List.all_eq_true.mpr fun x hx => ?_
      rcases bm x hx with rfl | h
      · exact e
      · exact List.all_eq_true.mp (all_ints row) x h
    | false =>
      refine Bool.eq_false_iff.mpr fun h => ?_
      rw [List.all_eq_true.mp h v hv] at e
      cases e
  try dsimp only
  rw [← hbent] at s6 ⊢
  have hq6 : ∀ {H0 : Hp} {q : Addr} {o : HO}, (upd H0 q o) q = some o := upd_same
  generalize hG : upd (upd (upd (upd (upd H4 q2 (HO.lst (cutV (row.map V.int) none (some a)))) q3 (HO.lst [v])) q4 (HO.lst (cutV (row.map V.int) none (some a) ++ [v]))) q5 (HO.lst (cutV (row.map V.int) (some a) none))) q6 (HO.lst bent) = H6 at s6 ⊢
  have hb6 : H6 q6 = some (.lst bent) := hG ▸ upd_same
  clear hG h2 h3 h4 h5 h6 s4
  have hD6 := s6 _ _ hD4
  have okm : ∀ {H' : Hp}, Same H4 H' → ∀ x ∈ bent, OkV H' x := fun s x hx => by
    rcases bm x hx with rfl | h
    · exact (lw_same lw s).ok
    · exact ok_ints x h
  -- told
  have hn1 : (row.map V.int).length ≤ 1000 := by rw [List.length_map]; omega
  refine ⟨_, rfl, .ref D, rfl, .inl ⟨_, hD6⟩, it_lst hD6 hn1 ok_ints, fun H7 s7 => ?_⟩
  rw [areI_lst hD6, all_ints]
  have t7 := s6.trans s7
  refine ⟨_, rfl, D, _, rfl, .inl ⟨SqL.of (t7 _ _ hD4), fun q7 h7 => ⟨.ref q7, rfl, .inr (.inl ⟨_, upd_same⟩), it_tup upd_same hn1 ok_ints, fun H8 s8 => ?_⟩⟩⟩
  rw [areI_tup upd_same, all_ints]
  have t8 := (Same.new (o := .tup (row.map V.int)) t7 h7).trans s8
  have u8 := (Same.new (o := .tup (row.map V.int)) s7 h7).trans s8
  refine ⟨_, rfl, .ref q6, rfl, .inl ⟨_, u8 _ _ hb6⟩, it_lst (u8 _ _ hb6) (by omega) (okm t8), fun H9 s9 => ?_⟩
  rw [areI_lst (u8 _ _ hb6), ba]
  have t9 := t8.trans s9
  have u9 := u8.trans s9
  refine ⟨_, rfl, q6, _, rfl, .inl ⟨SqL.of (u9 _ _ hb6), fun q8 h8 => ⟨.ref q8, rfl, .inr (.inl ⟨_, upd_same⟩), it_tup upd_same (by omega) (okm (Same.new t9 h8)), fun H10 s10 => ?_⟩⟩⟩
  rw [areI_tup upd_same, ba]
  have t10 := (Same.new (o := .tup bent) t9 h8).trans s10
  refine fun q9 h9 => ⟨upd_same, [(.inl 0, .int 1)], rfl, by decide, .ref q9, rfl, .inr (.inr ⟨_, upd_same⟩), it_dK upd_same, fun H11 s11 => ?_⟩
  rw [areI_dK upd_same]
  have t11 : Same H4 H11 := fun b o h => s11 _ _ (by rw [upd_upd]; exact Same.new t10 h9 _ _ h)
  refine ⟨.str "01", rfl, trivial, (fun _ _ e => nomatch e), fun H12 s12 => ⟨.non, rfl, trivial, (fun _ _ e => nomatch e), fun H13 s13 => ⟨.int 5, rfl, trivial, (fun _ _ e => nomatch e), fun H14 s14 => ?_⟩⟩⟩
  have t14 := ((t11.trans s12).trans s13).trans s14
  refine ⟨by show 8 ≤ sizeLine; decide, fun q10 h10 => ?_⟩
  try dsimp only
  refine ⟨_, rfl, rep_bools (bs := [true, true, isI v, isI v, false, false, false, false]) (SqL.of upd_same) (by show 8 ≤ 100; decide) ?_⟩
  have t15 := Same.new (o := .lst [.bl true, .bl true, .bl (isI v), .bl (isI v), .bl false, .bl false, .bl false, .bl false]) t14 h10
  refine ⟨_, rfl, v, rfl, lw_same lw t15, fun H16 s16 => ⟨_, rfl, v, rfl, lw_same lw (t15.trans s16), fun H17 s17 => ⟨by show 8 ≤ sizeLine; decide, fun q11 h11 => ?_⟩⟩⟩
  refine rep_bools (bs := [true, true, isI v, isI v, false, false, false, false]) (SqL.of upd_same) (by show 8 ≤ 100; decide) ⟨rfl, _, rfl, iteNS rfl ?_⟩
  have t18 := Same.new (o := .lst [.bl true, .bl true, .bl (isI v), .bl (isI v), .bl false, .bl false, .bl false, .bl false]) ((t15.trans s16).trans s17) h11
  generalize upd H17 q11 (HO.lst [V.bl true, V.bl true, V.bl (isI v), V.bl (isI v), V.bl false, V.bl false, V.bl false, V.bl false]) = H18 at t18 ⊢
  clear h10 s16 s17 h11 t15 t14 s12 s13 s14 t11 t10 t9 u9 t8 u8 t7 s7 s8 s9 s10 s11
  have hD18 := t18 _ _ hD4
  have hq18 := t18 _ _ hq1
  -- again
  try dsimp only
  refine ⟨_, rfl, D, _, rfl, SqL.of hD18, fun D2 hf2 => ?_⟩
  refine lc_it (walk_enum (K := K) (a := D) (xs := row.map V.int)) (fun i H' => Same H18 H' ∧ ∃ ds : List Int, H' D2 = some (.lst (ds.map V.int)) ∧ ds.length ≤ i ∧
      ((ds = [] ∧ twice [] row = twice (row.take i) (row.drop i)) ∨ ∃ z r, ds = z :: r ∧ twice [] row = .int z))
    ⟨Same.new (fun _ _ h => h) hf2, [], upd_same, Nat.zero_le _, .inl ⟨rfl, by simp⟩⟩ (fun i H' _ h => SqL.of (h.1 _ _ hD18)) ?_ ?_
  · rintro i x H' _ hi ⟨s1, ds, hds, hld, hinv⟩ ⟨T0, i', y, rfl, hT, rfl, ei, ey⟩
    rw [List.length_map] at hi
    obtain rfl := Option.some.inj ei
    obtain ⟨z, hz', rfl⟩ : ∃ z, row[i]? = some z ∧ y = V.int z := by
      dsimp only at ey
      rw [List.getElem?_map, List.getElem?_eq_getElem hi] at ey
      exact ⟨_, List.getElem?_eq_getElem hi, (Option.some.inj ey).symm⟩
    have s2 := Same.new (o := .tup [.int (i : Nat), .int z]) s1 hT
    have hds2 := at_new (u := .tup [.int (i : Nat), .int z]) hds hT
    refine ⟨T0, _, rfl, SqT.of upd_same, rfl, _, _, rfl, _, _, rfl, rfl, rfl, _, rfl, _, rfl, _, rfl, _, rfl, D, _, rfl, SqL.of (s2 _ _ hD18), fun q hq => ?_⟩
    rw [cut_take row i (by omega)]
    refine ⟨q, _, rfl, .inl (SqL.of upd_same), rfl, flat_ints _, _, rfl, ?_⟩
    have s3 := Same.new (o := .lst ((row.take i).map V.int)) s2 hq
    have hds3 := at_new (u := .lst ((row.take i).map V.int)) hds2 hq
    rw [if_neg Bool.false_ne_true, inV_ints]
    have tw := twice_at hz'
    refine ite2 (fun e => ?_) (fun e => ?_)
    · have e' := of_decide_eq_true e
      rw [if_pos e'] at tw
      refine ⟨_, rfl, _, hds3, by rw [List.length_map]; exact small1000 (by omega), ?_, ds ++ [z], ?_, ?_, .inr ?_⟩
      · intro b o h
        rw [upd_ne (ne_of_none h hf2)]
        exact s3 _ _ h
      · rw [upd_same]
        simp
      · rw [List.length_append]
        show _ + 1 ≤ _
        omega
      · rcases hinv with ⟨rfl, e2⟩ | ⟨z2, r, rfl, e2⟩
        · exact ⟨z, [], rfl, e2.trans tw⟩
        · exact ⟨z2, r ++ [z], rfl, e2⟩
    · have e' : ¬ z ∈ row.take i := fun h => e (decide_eq_true h)
      rw [if_neg e'] at tw
      refine ⟨s3, ds, hds3, by omega, ?_⟩
      rcases hinv with ⟨rfl, e2⟩ | h
      · exact .inl ⟨rfl, e2.trans tw⟩
      · exact .inr h
  rintro H19 ⟨s19, ds, hds, hld, hinv⟩
  rw [List.length_map] at hinv hld
  have htw : (ds = [] ∧ twice [] row = .non) ∨ ∃ z r, ds = z :: r ∧ twice [] row = .int z := by
    rcases hinv with ⟨e, e2⟩ | h
    · rw [List.drop_eq_nil_of_le (Nat.le_refl _)] at e2
      exact .inl ⟨e, e2⟩
    · exact .inr h
  have t19 := t18.trans s19
  -- due
  try dsimp only
  have hD19 := t19 _ _ hD4
  have hq19 := t19 _ _ hq1
  refine seq_cut (fun σ' H' => (∃ o6, σ' = [some (.ref p), some (.ref D), some (.ref q1), some (.int a), some v, some (.ref q6), o6, some (.ref D2), some (twice [] row), none, none, none]) ∧ Same H4 H') (fun N hN => ?_) ?_
  · refine ⟨_, rfl, Nat.zero_le _, fun q hq => ?_⟩
    have hds2 := at_new (u := .lst []) hds hq
    refine ⟨.list (ds.map PyData.int), .list ([].map PyData.int), .lst (SqL.of hds2) (dp_ints ds), .lst (SqL.of upd_same) (dp_ints []), shaped_ints _, shaped_ints [], ?_⟩
    rw [eqv_list]
    refine ⟨_, rfl, ?_⟩
    rcases htw with ⟨rfl, e⟩ | ⟨z, r, rfl, e⟩
    · rw [decide_eq_true rfl]
      refine iteF ?_
      exact hN _ _ ⟨⟨_, by rw [e]; rfl⟩, Same.new t19 hq⟩
    · rw [decide_eq_false (by simp)]
      refine iteT ⟨_, rfl, _, _, _, _, rfl, rfl, SqL.of hds2, (show atI _ (0 : Int) = some (V.int z) from atI_nat (j := 0) rfl), ?_⟩
      exact hN _ _ ⟨⟨_, by rw [e]; rfl⟩, Same.new t19 hq⟩
  rintro _ H20 ⟨⟨o6, rfl⟩, t20⟩
  obtain ⟨dT, dp, dsh, ddep, dlen⟩ := twice_data hz
  have hD20 := t20 _ _ hD4
  have hsome : ∀ {H0 : Hp} {q : Addr} {o : HO}, H0 q = some o → ∃ o, H0 q = some o := fun h => ⟨_, h⟩
  have shw : PyData.showableAll [dT, dT, .none] = true := by simp only [PyData.showableAll, dsh, PyData.showable, Bool.and_true]
  have dpw : PyData.depthAll [dT, dT, .none] ≤ 50 := by
    simp only [PyData.depthAll, ddep, PyData.depth]
    decide
  have lnw : ∀ d ∈ [dT, dT, PyData.none], d.shown.length ≤ 100 := by
    intro d hd
    have hN : PyData.none.shown.length ≤ 100 := by
      simp only [PyData.shown]
      decide
    simp only [List.mem_cons, List.not_mem_nil, or_false] at hd
    rcases hd with rfl | rfl | rfl
    · exact dlen
    · exact dlen
    · exact hN
  refine ⟨_, rfl, D, row, rfl, .inl (SqL.of hD20), hsome hD20, by omega, fun H21 s21 => ?_⟩
  have t21 := t20.trans s21
  refine ⟨_, rfl, D, _, rfl, .inl ⟨SqL.of (t21 _ _ hD4), fun q7 h7 => ⟨q7, row, rfl, .inr (SqT.of upd_same), hsome upd_same, by omega, fun H22 s22 => ?_⟩⟩⟩
  have t22 := (Same.new (o := .tup (row.map V.int)) t21 h7).trans s22
  refine ⟨Nat.zero_le _, fun q8 h8 => ⟨q8, [], rfl, .inl (SqL.of upd_same), hsome upd_same, by show 0 ≤ 1000; decide, fun H23 s23 => ⟨by show 3 ≤ sizeLine; decide, fun q9 h9 => ?_⟩⟩⟩
  have t23 := (Same.new (o := .lst []) t22 h8).trans s23
  have t24 := Same.new (o := .lst [twice [] row, twice [] row, .non]) t23 h9
  refine rep_list (SqL.of upd_same) (.cons (dp _ _) (.cons (dp _ _) (.cons .non .nil))) shw dpw lnw (by show 3 ≤ 100; decide) ?_
  refine ⟨_, rfl, _, rfl, by show 3 ≤ sizeLine; decide, fun q10 h10 => ?_⟩
  have t25 := Same.new (o := .lst [twice [] row, twice [] row, .non]) t24 h10
  refine rep_list (SqL.of upd_same) (.cons (dp _ _) (.cons (dp _ _) (.cons .non .nil))) shw dpw lnw (by show 3 ≤ 100; decide) ⟨rfl, _, rfl, ite2 (fun _ => ?_) (fun e => absurd (decide_eq_true rfl) e)⟩
  refine ⟨_, rfl, _, rfl, .list (row.map PyData.int), .list (row.map PyData.int), .lst (SqL.of (t25 _ _ hD4)) (dp_ints row), .lst (SqL.of (t25 _ _ hq1)) (dp_ints row), shaped_ints _, shaped_ints _, ?_⟩
  rw [eqv_list, decide_eq_true rfl]
  exact k _ (kpB.trans (Kp.of_same t25)) ((bg4.keep t25).le (by omega))
def sp_law (K : PySem.W.Frag) : Sp := fun vs H Q _ => ∃ (a : Addr) (ns : List Int), vs = [.ref a] ∧ SqL K H a (ns.map V.int) ∧ ns.length ≤ 63 ∧ ∀ H', Q (.bl true) H'
theorem G_law (T : Txt K mg A) : FnG P w K mg base CX0 5 A.a_law A.d_law P_law (sp_law K) := by
  refine okG T.F_law sc_law (fun vs H Q E h => ?_) (fun cdv A0 outer s H vs Q E hr h => ?_)
  · obtain ⟨a, ns, rfl, _⟩ := h
    rfl
  obtain ⟨a, ns, rfl, hS, hl, k⟩ := h
  refine ⟨_, (pss_cons (ps_set (i := 1) sc_law.nd rfl (Or.inl rfl) (pe_callG (G__law_phial T) (hr.mono (by decide)) rfl T.g__law_phial T.F__law_phial.kp T.b__law_phial .nil pass0 (pa_cons (pv 0) pa_nil)))
      (pss_cons (ps_for PassesOwn.never rfl (pi_range1 (by rfl) T.n_range (pa_cons pe_int pa_nil)) (pg_name (i := 2) sc_law.nd rfl (Or.inl rfl)) (pss_one (ps_if (pt_not (pt_val (pe_callG (G__law_bounds_right T) (hr.mono (by decide)) rfl T.g__law_bounds_right T.F__law_bounds_right.kp T.b__law_bounds_right .nil pass0 (pa_cons (pv 1) pa_nil)))) (pss_one (ps_ret pe_bl)) pss_nil)))
      (pss_cons (ps_for PassesOwn.never rfl (pi_range1 (by rfl) T.n_range (pa_cons pe_int pa_nil)) (pg_name (i := 2) sc_law.nd rfl (Or.inl rfl)) (pss_one (ps_if (pt_not (pt_val (pe_callG (G__law_lists_right T) (hr.mono (by decide)) rfl T.g__law_lists_right T.F__law_lists_right.kp T.b__law_lists_right .nil pass0 (pa_cons (pv 1) pa_nil)))) (pss_one (ps_ret pe_bl)) pss_nil)))
      (pss_one (ps_ret (pe_and (pe_cmpR op_eq (pe_callG (G_first_twice T) (hr.mono (by decide)) rfl T.g_first_twice T.F_first_twice.kp T.b_first_twice .nil pass0 (pa_cons (pe_lst (pa_cons pe_int (pa_cons pe_int (pa_cons pe_int (pa_cons pe_int pa_nil))))) pa_nil)) pe_int (nomark _)) (pe_and (pe_cmpR op_eq (pe_callG (G_first_twice T) (hr.mono (by decide)) rfl T.g_first_twice T.F_first_twice.kp T.b_first_twice .nil pass0 (pa_cons (pe_lst (pa_cons pe_int (pa_cons (pe_op op_pow pe_int pe_int) (pa_cons pe_int pa_nil)))) pa_nil)) pe_int (nomark _)) (pe_one (pe_cmpR op_eq (pe_callB (call_repr2 hr.gd hr.room.units) (by rfl) T.n_repr (by decide +kernel) (pa_cons (pe_callG (G_is_integer T) (hr.mono (by decide)) rfl T.g_is_integer T.F_is_integer.kp T.b_is_integer .nil pass0 (pa_cons (pe_un un_neg pe_int) pa_nil)) pa_nil)) pe_str (nomark _)))))))))), ?_⟩
  refine ⟨_, rfl, a, ns, rfl, hS, hl, fun p c H1 s1 hp hc bg1 => ?_⟩
  refine ⟨8, rfl, by decide, by decide, for_range (lo := 0) (n := 8) (fun i σ H' => (∃ v : Option V, σ = [some (.ref a), some (.ref p), v]) ∧ Bg H' p c (100 * i)) ⟨⟨none, rfl⟩, bg1⟩ ?_ ?_⟩
  · rintro i σ H' hi ⟨⟨v, rfl⟩, bg⟩
    refine ⟨_, rfl, p, c, 100 * i, rfl, bg, by omega, fun H2 _ bg2 => ⟨_, rfl, iteF ?_⟩⟩
    exact ⟨⟨_, rfl⟩, bg2⟩
  rintro σ H2 ⟨⟨v, rfl⟩, bg2⟩
  refine ⟨4, rfl, by decide, by decide, for_range (lo := 0) (n := 4) (fun i σ H' => (∃ v : Option V, σ = [some (.ref a), some (.ref p), v]) ∧ Bg H' p c (800 + 100 * i)) ⟨⟨v, rfl⟩, bg2⟩ ?_ ?_⟩
  · rintro i σ H' hi ⟨⟨v, rfl⟩, bg⟩
    refine ⟨_, rfl, p, c, 800 + 100 * i, rfl, bg, by omega, fun H2 _ bg2 => ⟨_, rfl, iteF ?_⟩⟩
    exact ⟨⟨_, rfl⟩, bg2⟩
  rintro σ H3 ⟨⟨v, rfl⟩, bg3⟩
  have e1 : twice [] [2, 1, 1, 2] = .int 1 := by decide
  have e2 : twice [] [0, (10 : Int) ^ (20 : Int).toNat, 0] = .int 0 := by decide
  refine ⟨by show 4 ≤ sizeLine; decide, fun q1 h1 => ⟨q1, [2, 1, 1, 2], rfl, .inl (SqL.of upd_same), ⟨_, upd_same⟩, by decide, fun H4 _ => ?_⟩⟩
  rw [e1]
  refine ⟨rfl, _, rfl, iteT ?_⟩
  refine ⟨_, _, rfl, rfl, ⟨by decide, by decide, by decide⟩, by show 3 ≤ sizeLine; decide, fun q2 h2 => ⟨q2, [0, (10 : Int) ^ (20 : Int).toNat, 0], rfl, .inl (SqL.of upd_same), ⟨_, upd_same⟩, by decide, fun H5 _ => ?_⟩⟩
  rw [e2]
  refine ⟨rfl, _, rfl, iteT ?_⟩
  refine ⟨_, rfl, .int (-1), rfl, trivial, .inl ⟨_, .bool true, rfl, .bl true, ?_, ?_, ?_, rfl, ?_⟩⟩
  · simp only [PyData.showable]
  · simp only [PyData.depth]
    decide
  · simp only [PyData.shown]
    decide
  · simp only [PyData.shown]
    exact k _
end
theorem all_mk {l : PySem.W.OpenLaw} {w : World} {K : PySem.W.Frag} {h : Heap} {mg : Str → Option Value} {fa : Addr} (X : K.In h) (G : h.Ns mainGlobals mg) (hfa : mg "law" = some (.ref fa))
    {f0 f1 f2 f3 f4 f5 f6 f7 f8 f9 f10 f11 : Addr} {od0 an0 od1 an1 od2 an2 od3 an3 od4 an4 od5 an5 od6 an6 od7 an7 od8 an8 od9 an9 od10 an10 od11 an11 : Option Addr} {sl0 sl1 sl2 sl3 sl4 sl5 sl6 sl7 sl8 sl9 sl10 sl11 : Array (Option Value)} {oc0 kV0 dc0 pm0 cd0 ct0 oc1 kV1 dc1 pm1 cd1 ct1 oc2 kV2 dc2 pm2 cd2 ct2 oc3 kV3 dc3 pm3 cd3 ct3 oc4 kV4 dc4 pm4 cd4 ct4 oc5 kV5 dc5 pm5 cd5 ct5 oc6 kV6 dc6 pm6 cd6 ct6 oc7 kV7 dc7 pm7 cd7 ct7 oc8 kV8 dc8 pm8 cd8 ct8 oc9 kV9 dc9 pm9 cd9 ct9 oc10 kV10 dc10 pm10 cd10 ct10 oc11 kV11 dc11 pm11 cd11 ct11 : Value}
    (a0 : PySem.W.nsIn K mainGlobals "is_integer" = some (some (.ref f0))) (l0 : K.lookup f0 = some ⟨oc0, od0, .func (PySem.W.fnOf "is_integer" "is_integer" (defArgs s_is_integer) (defBody s_is_integer) (defScope s_is_integer) .none kV0 dc0 pm0 an0 cd0 ct0), sl0⟩)
    (c0 : PySem.W.codeIn K cd0 "is_integer" = true) (k0 : PySem.W.keepIn K (.ref f0) = true)
    (a1 : PySem.W.nsIn K mainGlobals "is_within" = some (some (.ref f1))) (l1 : K.lookup f1 = some ⟨oc1, od1, .func (PySem.W.fnOf "is_within" "is_within" (defArgs s_is_within) (defBody s_is_within) (defScope s_is_within) .none kV1 dc1 pm1 an1 cd1 ct1), sl1⟩)
    (c1 : PySem.W.codeIn K cd1 "is_within" = true) (k1 : PySem.W.keepIn K (.ref f1) = true)
    (a2 : PySem.W.nsIn K mainGlobals "are_integers" = some (some (.ref f2))) (l2 : K.lookup f2 = some ⟨oc2, od2, .func (PySem.W.fnOf "are_integers" "are_integers" (defArgs s_are_integers) (defBody s_are_integers) (defScope s_are_integers) .none kV2 dc2 pm2 an2 cd2 ct2), sl2⟩)
    (c2 : PySem.W.codeIn K cd2 "are_integers" = true) (k2 : PySem.W.keepIn K (.ref f2) = true)
    (a3 : PySem.W.nsIn K mainGlobals "first_twice" = some (some (.ref f3))) (l3 : K.lookup f3 = some ⟨oc3, od3, .func (PySem.W.fnOf "first_twice" "first_twice" (defArgs s_first_twice) (defBody s_first_twice) (defScope s_first_twice) .none kV3 dc3 pm3 an3 cd3 ct3), sl3⟩)
    (c3 : PySem.W.codeIn K cd3 "first_twice" = true) (k3 : PySem.W.keepIn K (.ref f3) = true)
    (a4 : PySem.W.nsIn K mainGlobals "_law_phial" = some (some (.ref f4))) (l4 : K.lookup f4 = some ⟨oc4, od4, .func (PySem.W.fnOf "_law_phial" "_law_phial" (defArgs s__law_phial) (defBody s__law_phial) (defScope s__law_phial) .none kV4 dc4 pm4 an4 cd4 ct4), sl4⟩)
    (c4 : PySem.W.codeIn K cd4 "_law_phial" = true) (k4 : PySem.W.keepIn K (.ref f4) = true)
    (a5 : PySem.W.nsIn K mainGlobals "_law_tip" = some (some (.ref f5))) (l5 : K.lookup f5 = some ⟨oc5, od5, .func (PySem.W.fnOf "_law_tip" "_law_tip" (defArgs s__law_tip) (defBody s__law_tip) (defScope s__law_tip) .none kV5 dc5 pm5 an5 cd5 ct5), sl5⟩)
    (c5 : PySem.W.codeIn K cd5 "_law_tip" = true) (k5 : PySem.W.keepIn K (.ref f5) = true)
    (a6 : PySem.W.nsIn K mainGlobals "_law_some_of" = some (some (.ref f6))) (l6 : K.lookup f6 = some ⟨oc6, od6, .func (PySem.W.fnOf "_law_some_of" "_law_some_of" (defArgs s__law_some_of) (defBody s__law_some_of) (defScope s__law_some_of) .none kV6 dc6 pm6 an6 cd6 ct6), sl6⟩)
    (c6 : PySem.W.codeIn K cd6 "_law_some_of" = true) (k6 : PySem.W.keepIn K (.ref f6) = true)
    (a7 : PySem.W.nsIn K mainGlobals "_law_is" = some (some (.ref f7))) (l7 : K.lookup f7 = some ⟨oc7, od7, .func (PySem.W.fnOf "_law_is" "_law_is" (defArgs s__law_is) (defBody s__law_is) (defScope s__law_is) .none kV7 dc7 pm7 an7 cd7 ct7), sl7⟩)
    (c7 : PySem.W.codeIn K cd7 "_law_is" = true) (k7 : PySem.W.keepIn K (.ref f7) = true)
    (a8 : PySem.W.nsIn K mainGlobals "_law_value" = some (some (.ref f8))) (l8 : K.lookup f8 = some ⟨oc8, od8, .func (PySem.W.fnOf "_law_value" "_law_value" (defArgs s__law_value) (defBody s__law_value) (defScope s__law_value) .none kV8 dc8 pm8 an8 cd8 ct8), sl8⟩)
    (c8 : PySem.W.codeIn K cd8 "_law_value" = true) (k8 : PySem.W.keepIn K (.ref f8) = true)
    (a9 : PySem.W.nsIn K mainGlobals "_law_bounds_right" = some (some (.ref f9))) (l9 : K.lookup f9 = some ⟨oc9, od9, .func (PySem.W.fnOf "_law_bounds_right" "_law_bounds_right" (defArgs s__law_bounds_right) (defBody s__law_bounds_right) (defScope s__law_bounds_right) .none kV9 dc9 pm9 an9 cd9 ct9), sl9⟩)
    (c9 : PySem.W.codeIn K cd9 "_law_bounds_right" = true) (k9 : PySem.W.keepIn K (.ref f9) = true)
    (a10 : PySem.W.nsIn K mainGlobals "_law_lists_right" = some (some (.ref f10))) (l10 : K.lookup f10 = some ⟨oc10, od10, .func (PySem.W.fnOf "_law_lists_right" "_law_lists_right" (defArgs s__law_lists_right) (defBody s__law_lists_right) (defScope s__law_lists_right) .none kV10 dc10 pm10 an10 cd10 ct10), sl10⟩)
    (c10 : PySem.W.codeIn K cd10 "_law_lists_right" = true) (k10 : PySem.W.keepIn K (.ref f10) = true)
    (a11 : PySem.W.nsIn K mainGlobals "law" = some (some (.ref f11))) (l11 : K.lookup f11 = some ⟨oc11, od11, .func (PySem.W.fnOf "law" "law" (defArgs s_law) (defBody s_law) (defScope s_law) .none kV11 dc11 pm11 an11 cd11 ct11), sl11⟩)
    (c11 : PySem.W.codeIn K cd11 "law" = true) (k11 : PySem.W.keepIn K (.ref f11) = true)
    (z0 : PySem.W.nsIn K mainGlobals "abs" = some none)
    (z1 : PySem.W.nsIn K mainGlobals "all" = some none)
    (z2 : PySem.W.nsIn K mainGlobals "bool" = some none)
    (z3 : PySem.W.nsIn K mainGlobals "enumerate" = some none)
    (z4 : PySem.W.nsIn K mainGlobals "int" = some none)
    (z5 : PySem.W.nsIn K mainGlobals "isinstance" = some none)
    (z6 : PySem.W.nsIn K mainGlobals "len" = some none)
    (z7 : PySem.W.nsIn K mainGlobals "list" = some none)
    (z8 : PySem.W.nsIn K mainGlobals "range" = some none)
    (z9 : PySem.W.nsIn K mainGlobals "repr" = some none)
    (z10 : PySem.W.nsIn K mainGlobals "set" = some none)
    (z11 : PySem.W.nsIn K mainGlobals "str" = some none)
    (z12 : PySem.W.nsIn K mainGlobals "tuple" = some none)
    : ∃ fd : FuncData, (∀ (s : Shared) (v : Value), BindsTo s fd ⟨[v], []⟩ [("script", v)]) ∧ ∀ base : Heap, K.In base → base.Ns mainGlobals mg → FnG l.prog w K mg base CX0 5 fa fd ["script"] (sp_law K) := by
  have e := hfa.symm.trans (PySem.W.mg_of X G a11)
  cases e
  have F0 := fun_mk (st := s_is_integer) l0 c0 k0
  have b0 := F0.binds (ps := P_is_integer) fun _ _ _ _ _ _ us hl => match us, hl with | [_], _ => rfl
  have F1 := fun_mk (st := s_is_within) l1 c1 k1
  have b1 := F1.binds (ps := P_is_within) fun _ _ _ _ _ _ us hl => match us, hl with | [_, _, _], _ => rfl
  have F2 := fun_mk (st := s_are_integers) l2 c2 k2
  have b2 := F2.binds (ps := P_are_integers) fun _ _ _ _ _ _ us hl => match us, hl with | [_], _ => rfl
  have F3 := fun_mk (st := s_first_twice) l3 c3 k3
  have b3 := F3.binds (ps := P_first_twice) fun _ _ _ _ _ _ us hl => match us, hl with | [_], _ => rfl
  have F4 := fun_mk (st := s__law_phial) l4 c4 k4
  have b4 := F4.binds (ps := P__law_phial) fun _ _ _ _ _ _ us hl => match us, hl with | [_], _ => rfl
  have F5 := fun_mk (st := s__law_tip) l5 c5 k5
  have b5 := F5.binds (ps := P__law_tip) fun _ _ _ _ _ _ us hl => match us, hl with | [_, _], _ => rfl
  have F6 := fun_mk (st := s__law_some_of) l6 c6 k6
  have b6 := F6.binds (ps := P__law_some_of) fun _ _ _ _ _ _ us hl => match us, hl with | [_, _], _ => rfl
  have F7 := fun_mk (st := s__law_is) l7 c7 k7
  have b7 := F7.binds (ps := P__law_is) fun _ _ _ _ _ _ us hl => match us, hl with | [_], _ => rfl
  have F8 := fun_mk (st := s__law_value) l8 c8 k8
  have b8 := F8.binds (ps := P__law_value) fun _ _ _ _ _ _ us hl => match us, hl with | [_], _ => rfl
  have F9 := fun_mk (st := s__law_bounds_right) l9 c9 k9
  have b9 := F9.binds (ps := P__law_bounds_right) fun _ _ _ _ _ _ us hl => match us, hl with | [_], _ => rfl
  have F10 := fun_mk (st := s__law_lists_right) l10 c10 k10
  have b10 := F10.binds (ps := P__law_lists_right) fun _ _ _ _ _ _ us hl => match us, hl with | [_], _ => rfl
  have F11 := fun_mk (st := s_law) l11 c11 k11
  have b11 := F11.binds (ps := P_law) fun _ _ _ _ _ _ us hl => match us, hl with | [_], _ => rfl
  let A : Ad := ⟨f0, (PySem.W.fnOf "is_integer" "is_integer" (defArgs s_is_integer) (defBody s_is_integer) (defScope s_is_integer) .none kV0 dc0 pm0 an0 cd0 ct0), f1, (PySem.W.fnOf "is_within" "is_within" (defArgs s_is_within) (defBody s_is_within) (defScope s_is_within) .none kV1 dc1 pm1 an1 cd1 ct1), f2, (PySem.W.fnOf "are_integers" "are_integers" (defArgs s_are_integers) (defBody s_are_integers) (defScope s_are_integers) .none kV2 dc2 pm2 an2 cd2 ct2), f3, (PySem.W.fnOf "first_twice" "first_twice" (defArgs s_first_twice) (defBody s_first_twice) (defScope s_first_twice) .none kV3 dc3 pm3 an3 cd3 ct3), f4, (PySem.W.fnOf "_law_phial" "_law_phial" (defArgs s__law_phial) (defBody s__law_phial) (defScope s__law_phial) .none kV4 dc4 pm4 an4 cd4 ct4), f5, (PySem.W.fnOf "_law_tip" "_law_tip" (defArgs s__law_tip) (defBody s__law_tip) (defScope s__law_tip) .none kV5 dc5 pm5 an5 cd5 ct5), f6, (PySem.W.fnOf "_law_some_of" "_law_some_of" (defArgs s__law_some_of) (defBody s__law_some_of) (defScope s__law_some_of) .none kV6 dc6 pm6 an6 cd6 ct6), f7, (PySem.W.fnOf "_law_is" "_law_is" (defArgs s__law_is) (defBody s__law_is) (defScope s__law_is) .none kV7 dc7 pm7 an7 cd7 ct7), f8, (PySem.W.fnOf "_law_value" "_law_value" (defArgs s__law_value) (defBody s__law_value) (defScope s__law_value) .none kV8 dc8 pm8 an8 cd8 ct8), f9, (PySem.W.fnOf "_law_bounds_right" "_law_bounds_right" (defArgs s__law_bounds_right) (defBody s__law_bounds_right) (defScope s__law_bounds_right) .none kV9 dc9 pm9 an9 cd9 ct9), f10, (PySem.W.fnOf "_law_lists_right" "_law_lists_right" (defArgs s__law_lists_right) (defBody s__law_lists_right) (defScope s__law_lists_right) .none kV10 dc10 pm10 an10 cd10 ct10), fa, (PySem.W.fnOf "law" "law" (defArgs s_law) (defBody s_law) (defScope s_law) .none kV11 dc11 pm11 an11 cd11 ct11)⟩
  have T : Txt K mg A := ⟨PySem.W.mg_of X G a0, F0, b0, PySem.W.mg_of X G a1, F1, b1, PySem.W.mg_of X G a2, F2, b2, PySem.W.mg_of X G a3, F3, b3, PySem.W.mg_of X G a4, F4, b4, PySem.W.mg_of X G a5, F5, b5, PySem.W.mg_of X G a6, F6, b6, PySem.W.mg_of X G a7, F7, b7, PySem.W.mg_of X G a8, F8, b8, PySem.W.mg_of X G a9, F9, b9, PySem.W.mg_of X G a10, F10, b10, PySem.W.mg_of X G a11, F11, b11, PySem.W.mg_none_of X G z0, PySem.W.mg_none_of X G z1, PySem.W.mg_none_of X G z2, PySem.W.mg_none_of X G z3, PySem.W.mg_none_of X G z4, PySem.W.mg_none_of X G z5, PySem.W.mg_none_of X G z6, PySem.W.mg_none_of X G z7, PySem.W.mg_none_of X G z8, PySem.W.mg_none_of X G z9, PySem.W.mg_none_of X G z10, PySem.W.mg_none_of X G z11, PySem.W.mg_none_of X G z12⟩
  exact ⟨(PySem.W.fnOf "law" "law" (defArgs s_law) (defBody s_law) (defScope s_law) .none kV11 dc11 pm11 an11 cd11 ct11), fun s v => .of_eq rfl, fun base _ _ => G_law T⟩
theorem walk {l : PySem.W.OpenLaw} {q : Program} {loose : List Str} {XP : (Str → Option Value) → Heap → Prop} {YP : World → Heap → Prop} {d : DefRec} {K : Params → PySem.W.Frag} (hn : l.most = some 63) (hdf : d.params.defaults = [])
    (hY : ∀ (w : World) (h : Heap), YP w h → (K w.params).In h)
    (F : ∀ (w : World) (mg : Str → Option Value) (fa : Addr) (h : Heap), (K w.params).In h → h.Ns mainGlobals mg → mg d.name = some (.ref fa) →
      ∃ fd : FuncData, (∀ (s : Shared) (u : Value), BindsTo s fd ⟨[u], []⟩ [("script", u)]) ∧ ∀ base : Heap, (K w.params).In base → base.Ns mainGlobals mg → FnG l.prog w (K w.params) mg base CX0 5 fa fd ["script"] (sp_law (K w.params))) :
    PySem.W.WalkO q loose XP YP l.row.toRowW d [] (fun f vs => PySem.call f vs) :=
  walk_ofG (n := 63) (k := 5) (x := "script") (CX := fun _ => CX0) (sp := fun w => sp_law (K w.params)) hn (by decide) hdf ⟨⟨rfl, by decide, by decide⟩, rfl⟩ hY F (fun _ _ a ns hl _ hS => ⟨a, ns, rfl, hS, hl, fun _ => rfl⟩) fun _ _ _ _ _ z => z
end K01
open PySem PySem.W PyProof.Rows
set_option maxRecDepth 100000 in
set_option maxHeartbeats 0 in
theorem PySem.Challenge.cw_flowtells_k01_checks_of_any_value_holds : PySem.Challenge.rw_flowtells_k01_checks_of_any_value.Holds := by
  w_on; o_law; k_head; (case hw => w_witness2)
  k_fill
  refine K01.walk (l := PySem.Challenge.rw_flowtells_k01_checks_of_any_value) rfl rfl (fun w h Y => PySem.W.kIn_of Y) ?F
  case F =>
    intro w mg fa h KX G hmg
    refine' K01.all_mk KX G hmg ?a0 ?l0 ?c0 ?k0 ?a1 ?l1 ?c1 ?k1 ?a2 ?l2 ?c2 ?k2 ?a3 ?l3 ?c3 ?k3 ?a4 ?l4 ?c4 ?k4 ?a5 ?l5 ?c5 ?k5 ?a6 ?l6 ?c6 ?k6 ?a7 ?l7 ?c7 ?k7 ?a8 ?l8 ?c8 ?k8 ?a9 ?l9 ?c9 ?k9 ?a10 ?l10 ?c10 ?k10 ?a11 ?l11 ?c11 ?k11 ?z0 ?z1 ?z2 ?z3 ?z4 ?z5 ?z6 ?z7 ?z8 ?z9 ?z10 ?z11 ?z12
    (case a0 => k_is)
    (case l0 => k_is)
    (case c0 => k_is)
    (case k0 => k_is)
    (case a1 => k_is)
    (case l1 => k_is)
    (case c1 => k_is)
    (case k1 => k_is)
    (case a2 => k_is)
    (case l2 => k_is)
    (case c2 => k_is)
    (case k2 => k_is)
    (case a3 => k_is)
    (case l3 => k_is)
    (case c3 => k_is)
    (case k3 => k_is)
    (case a4 => k_is)
    (case l4 => k_is)
    (case c4 => k_is)
    (case k4 => k_is)
    (case a5 => k_is)
    (case l5 => k_is)
    (case c5 => k_is)
    (case k5 => k_is)
    (case a6 => k_is)
    (case l6 => k_is)
    (case c6 => k_is)
    (case k6 => k_is)
    (case a7 => k_is)
    (case l7 => k_is)
    (case c7 => k_is)
    (case k7 => k_is)
    (case a8 => k_is)
    (case l8 => k_is)
    (case c8 => k_is)
    (case k8 => k_is)
    (case a9 => k_is)
    (case l9 => k_is)
    (case c9 => k_is)
    (case k9 => k_is)
    (case a10 => k_is)
    (case l10 => k_is)
    (case c10 => k_is)
    (case k10 => k_is)
    (case a11 => k_is)
    (case l11 => k_is)
    (case c11 => k_is)
    (case k11 => k_is)
    (case z0 => k_is)
    (case z1 => k_is)
    (case z2 => k_is)
    (case z3 => k_is)
    (case z4 => k_is)
    (case z5 => k_is)
    (case z6 => k_is)
    (case z7 => k_is)
    (case z8 => k_is)
    (case z9 => k_is)
    (case z10 => k_is)
    (case z11 => k_is)
    (case z12 => k_is)

