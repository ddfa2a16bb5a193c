import PyProof.Rows.All
import Wide.All
import OpenK.AllK
import Wide.FinOn
import HandS.ForMost
import HandS.ForExc
import HandS.IsInst
import HandS.Strs
import HandS.Flow
import PyProof.ReprRoads
import HandS.Walk
import HandS.Style
import HandS.ExcInit
import HandS.ExcField
import KE.KExcIs
import KE.KSuper
import KE.KEqNest
import HandS.DictComp
import HandS.More
import PyProof.Rows.EqNone
import PyProof.Rows.EqBoolInt
import PySem.Challenge.RW_flowtells_k00_errors_keep_their_fields
set_option Elab.async false
set_option linter.all false
set_option maxRecDepth 100000
set_option maxHeartbeats 4000000
/-! Room with the guards told: defs that may ask for the repr of a list -/
namespace FT
open PySem PySem.Spec PyProof.Rows L2

structure RG (k : Nat) (A : Around) : Prop where
  room : Room k A
  gd : A.guards = some []
theorem RG.mono {j k : Nat} {A : Around} (r : RG k A) (h : j ≤ k) : RG j A := ⟨r.room.mono h, r.gd⟩
theorem RG.deeper {k : Nat} {A : Around} (r : RG (k + 1) A) (env : Env) : RG k (A.deeper env) := ⟨r.room.deeper env, r.gd⟩
theorem RG.make {k : Nat} {A : Around} (r : RG (k + 1) A) (C : Addr) (us : List Value) (kw : List (Str × Value)) :
    RG k (A.under (.builtin "type.__call__" ⟨.ref C :: us, kw⟩)) := by
  refine ⟨r.room.make C us kw, ?_⟩
  have e := r.gd
  first
    | exact e
    | simpa [Around.under, Code.guards, Code.isGuard, guardIds, pushGuards] using e

section
variable (P : Program) (w : World) (K : PySem.W.Frag) (mg : Str → Option Value) (base : Heap) (CX : CXT)
/-- what a def keeps, where the guards are told -/
structure FnG (k : Nat) (f : Addr) (fd : FuncData) (ps : List Str) (sp : Sp) : Prop where
  arity : ∀ vs H Q E, sp vs H Q E → vs.length = ps.length
  goes : ∀ {A : Around} {outer : List Env} {s : Shared} {H : Hp} {args : Args} {us : List Value} {vs : List V} {Q : VK} {E : XK},
    RG k A → Env0 P w K mg base A outer s H → BindsTo s fd args (ps.zip us) → Vals vs us → sp vs H Q E →
      codeAny (model P w) A (.call (.ref f) args) (CR CX outer P w H s Q E) s
end
section
variable {P : Program} {w : World} {K : PySem.W.Frag} {mg : Str → Option Value} {base : Heap} {CX : CXT} {j k : Nat} {f : Addr} {fd : FuncData} {ps : List Str} {sp : Sp}
theorem FnG.of (F : FnOk P w K mg base CX k f fd ps sp) : FnG P w K mg base CX k f fd ps sp :=
  ⟨F.len, fun {A outer s H args us vs Q E} r e b v h => F.run A outer s H args us vs Q E r.room e b v h⟩
theorem FnG.mono (F : FnG P w K mg base CX j f fd ps sp) (h : j ≤ k) : FnG P w K mg base CX k f fd ps sp :=
  ⟨F.arity, fun r e b v q => F.goes (r.mono h) e b v q⟩
end

section
variable {X : Cx} {CX : CXT} {k : Nat} {f : Addr} {fd : FuncData} {ps ks : List Str} {sp : Sp} {dvs : List V} {ds : List Value} {E : XK} {x : Str} {p pos : Pos} {e : Expr} {es : List Expr} {t tk : TA}
  {kws : List Keyword} {g : List Value → List Value → List Value} {gV : List V → List V → List V}

theorem run_args {pins : List (Addr × Obj)} {σ : L2.St} {H : Hp} {s : Shared} {Q : VK} {args : List Value} {kw : List (Str × Value)} {us : List Value} {vs : List V}
    (F : FnG X.prog X.w X.K X.mg X.base CX k f fd ps sp) (hr : RG k X.A) (hx : Passes CX X E) (I : Inv X pins σ H s)
    (hb : BindsTo s fd ⟨args, kw⟩ (ps.zip us)) (r : Vals vs us) (h : sp vs H Q E) :
    wpAny (model X.prog X.w) X.A (call (.ref f) args kw) (EP X pins σ Q) X.xe s := by
  refine wpAny_call ?_
  refine codeAny_mono (F.goes hr I.env0 hb r h) ?_
  intro z s' q
  match z, q with
  | .error z, q => exact hx pins σ H s z s' I q
  | .ok (.ret u), q => exact I.after q
/-- f(a, b, ..) -/
theorem pe_callG (F : FnG X.prog X.w X.K X.mg X.base CX k f fd ps sp) (hr : RG k X.A) (hg : Gl X x) (hm : X.mg x = some (.ref f))
    (hk : PySem.W.keepIn X.K (.ref f) = true) (hb : Binds X.K fd ps ds) (hd : Vals dvs ds) (hx : Passes CX X E) (ha : PA X (e :: es) t)
    (hdb : (x == ("__debug__" : Str)) = false := by decide)
    (he : starEach (e :: es) X.env = (false, eval e X.env) :: starEach es X.env := by rfl)
    (hpl : (backTo pos (starEach es X.env)).any (·.1) = false := by rfl) :
    PE X (.Call (.Name x p) (e :: es) [] pos) (tCall sp dvs E t) := by
  constructor
  intro pins s σ H Q I h
  refine wpAny_Call_Name_kw (ld_glob I hg hm ?_ hdb)
  refine PySem.W.callWith_K (h₀ := X.base) I.ok.mod.kin hk ?_ he hpl
  refine thn (ha.run pos pins s σ H _ I h) ?_
  rintro us s1 ⟨vs, H1, I1, r, q⟩
  have r2 := r.append hd
  have hl : (us ++ ds).length = ps.length := r2.length.symm.trans (F.arity _ _ _ _ q)
  exact ⟨I1.kIn, run_args F hr hx I1 (hb s1 us I1.kIn hl) r2 q⟩
/-- f() -/
theorem pe_callG0 (F : FnG X.prog X.w X.K X.mg X.base CX k f fd ps sp) (hr : RG k X.A) (hg : Gl X x) (hm : X.mg x = some (.ref f))
    (hk : PySem.W.keepIn X.K (.ref f) = true) (hb : Binds X.K fd ps ds) (hd : Vals dvs ds) (hx : Passes CX X E)
    (hdb : (x == ("__debug__" : Str)) = false := by decide) : PE X (.Call (.Name x p) [] [] pos) (tCall sp dvs E tNil) := by
  constructor
  intro pins s σ H Q I h
  refine wpAny_Call_Name_kw (ld_glob I hg hm ?_ hdb)
  have hl : ([] ++ ds).length = ps.length := hd.length.symm.trans (F.arity _ _ _ _ h)
  exact PySem.W.callWith_K0 I.kIn hk (run_args (us := [] ++ ds) F hr hx I (hb s [] I.kIn hl) hd h)
/-- f(a, .., k = v, ..) -/
theorem pe_callGK (F : FnG X.prog X.w X.K X.mg X.base CX k f fd ps sp) (hr : RG k X.A) (hg : Gl X x) (hm : X.mg x = some (.ref f))
    (hk : PySem.W.keepIn X.K (.ref f) = true) (hb : KBinds X.K fd ps ks g gV) (hx : Passes CX X E) (ha : PA X (e :: es) t) (hkw : PK X kws tk)
    (hall : (backToKw pos (keywordEach kws X.env)).all (·.1.isSome) = true := by rfl)
    (hks : (backToKw pos (keywordEach kws X.env)).filterMap (·.1) = ks := by rfl)
    (hdb : (x == ("__debug__" : Str)) = false := by decide)
    (he : starEach (e :: es) X.env = (false, eval e X.env) :: starEach es X.env := by rfl)
    (hpl : ((backTo pos (starEach (e :: es) X.env)).any (·.1) || (backToKw pos (keywordEach kws X.env)).any (·.1.isNone)) = false := by rfl) :
    PE X (.Call (.Name x p) (e :: es) kws pos) (tCallK sp gV E t tk) := by
  constructor
  intro pins s σ H Q I h
  refine wpAny_Call_Name_kw (ld_glob I hg hm ?_ hdb)
  refine PySem.W.callWith_KW (h₀ := X.base) I.ok.mod.kin hk hall (thn (ha.run pos pins s σ H _ I h) ?_) hpl he
  rintro us s1 ⟨vs, H1, I1, r, q⟩
  refine thn (hkw.run pos pins s1 σ H1 _ I1 q) ?_
  rintro ws s2 ⟨zs, H2, I2, rz, q2⟩
  refine ⟨I2.kIn, ?_⟩
  rw [hks]
  have r3 := hb.rel r rz
  exact run_args F hr hx I2 (hb.to s2 us ws I2.kIn (r3.length.symm.trans (F.arity _ _ _ _ q2))) r3 q2
/-- f(k = v, ..) -/
theorem pe_callGK0 (F : FnG X.prog X.w X.K X.mg X.base CX k f fd ps sp) (hr : RG k X.A) (hg : Gl X x) (hm : X.mg x = some (.ref f))
    (hk : PySem.W.keepIn X.K (.ref f) = true) (hb : KBinds X.K fd ps ks g gV) (hx : Passes CX X E) (hkw : PK X kws tk)
    (hall : (backToKw pos (keywordEach kws X.env)).all (·.1.isSome) = true := by rfl)
    (hks : (backToKw pos (keywordEach kws X.env)).filterMap (·.1) = ks := by rfl)
    (hdb : (x == ("__debug__" : Str)) = false := by decide)
    (hpl : ((backTo pos (starEach [] X.env)).any (·.1) || (backToKw pos (keywordEach kws X.env)).any (·.1.isNone)) = false := by rfl) :
    PE X (.Call (.Name x p) [] kws pos) (tCallK sp gV E tNil tk) := by
  constructor
  intro pins s σ H Q I h
  refine wpAny_Call_Name_kw (ld_glob I hg hm ?_ hdb)
  refine PySem.W.callWith_KW0 (h₀ := X.base) I.ok.mod.kin hk hall ?_ hpl
  refine thn (hkw.run pos pins s σ H _ I h) ?_
  rintro ws s2 ⟨zs, H2, I2, rz, q2⟩
  refine ⟨I2.kIn, ?_⟩
  rw [hks]
  have r3 := hb.rel (.nil : Vals [] []) rz
  exact run_args F hr hx I2 (hb.to s2 [] ws I2.kIn (r3.length.symm.trans (F.arity _ _ _ _ q2))) r3 q2
end

section
variable {P : Program} {w : World} {K : PySem.W.Frag} {mg : Str → Option Value} {base : Heap} {CX : CXT}
/-- a def's body: the guards are told in it; it may let an error out -/
theorem okGX {x qual : Str} {st : Stmt} {f : Addr} {fd : FuncData} {N ps : List Str} {k : Nat} {sp : Sp} (F : Fun K x qual st f fd) (S : FnScope N ps (defScope st))
    (arity : ∀ vs H Q E, sp vs H Q E → vs.length = ps.length)
    (hbody : ∀ (cdv : Value) (A : Around) (outer : List Env) (s : Shared) (H : Hp) (vs : List V) (Q : VK) (E : XK),
      RG k (A.deeper (envOfC qual (defScope st) s.heap.objs.size f cdv)) → sp vs H Q E →
        ∃ t, PSs (cxOf CX P w K mg base N qual (defScope st) f cdv A outer s H E) (defBody st) t ∧ t { nx := fun _ H' => Q .non H', rt := Q } (start N vs) H) :
    FnG P w K mg base CX (k + 1) f fd ps sp := by
  obtain ⟨oc, od, kV, doc, pm, an, cdv, ct, osl, rfl, lk, hcd⟩ := F.ex
  refine ⟨arity, ?_⟩
  intro A outer s H args us vs Q E hr e0 hb r hsp
  -- the same def's own rule at this one place: a promise that holds here alone
  have KX : K.In s.heap := e0.mod.kin.keeps fun b o q => (e0.bs b o q).1
  have lim : s.heap.NoLimit := e0.mod.nolimit.keeps fun b o q => (e0.bs b o q).1
  have hl := arity _ _ _ _ hsp
  obtain ⟨t, ht, hq⟩ := hbody cdv A outer s H vs Q E (hr.deeper _) hsp
  refine codeAny_call_function hr.room.depth (KX _ _ lk) rfl S.co S.gen rfl (PySem.W.codeRec_of KX hcd) (hb _ _ _ _ ?_)
  refine wpAny_newFunctionEnv_cells S.kind ?_ ?_
  · rintro ⟨n, v⟩ hy
    cases S.par n (List.of_mem_zip hy).1 with
    | inl q => exact .inl q
    | inr q => exact .inr ⟨q, PySem.W.cellsFrom_some _ _ _ (.inl q)⟩
  · intro env he s1 hin
    subst he
    refine ⟨lim.keeps hin.toInCall.keep, codeAny_func ?_⟩
    have I := inv_start (CX := CX) (P := P) (w := w) (qual := qual) (f := f) (cd := cdv) (E := E) S hr.room.hd e0 hl r hin
    refine wpAny_mono (ht.run [] s1 (start N vs) H _ I hq) ?_ (fun _ _ q => q)
    intro fl s' hs
    match fl, hs with
    | .ret u, ⟨v, σ', H', J, rv, q⟩ => exact ⟨v, H', J.os, J.bare, J.base, J.hok, rv, q⟩
    | .next, ⟨σ', H', J, q⟩ => exact ⟨.non, H', J.os, J.bare, J.base, J.hok, rfl, q⟩
    | .brk, ⟨_, _, _, q⟩ => exact q.elim
    | .cont, ⟨_, _, _, q⟩ => exact q.elim
/-- the same, nothing leaves it -/
theorem okG {x qual : Str} {st : Stmt} {f : Addr} {fd : FuncData} {N ps : List Str} {k : Nat} {sp : Sp} (F : Fun K x qual st f fd) (S : FnScope N ps (defScope st))
    (arity : ∀ vs H Q E, sp vs H Q E → vs.length = ps.length)
    (hbody : ∀ (cdv : Value) (A : Around) (outer : List Env) (s : Shared) (H : Hp) (vs : List V) (Q : VK) (E : XK),
      RG k (A.deeper (envOfC qual (defScope st) s.heap.objs.size f cdv)) → sp vs H Q E →
        ∃ t, PSs (cxOf CX P w K mg base N qual (defScope st) f cdv A outer s H E).nox (defBody st) t ∧ t { nx := fun _ H' => Q .non H', rt := Q } (start N vs) H) :
    FnG P w K mg base CX (k + 1) f fd ps sp := by
  refine okGX F S arity ?_
  intro cdv A outer s H vs Q E hr h
  obtain ⟨t, h1, h2⟩ := hbody cdv A outer s H vs Q E hr h
  exact ⟨t, h1.nox, h2⟩
end
end FT

/-! the law's own call, where the guards are told -/
namespace FT
open PySem PySem.Spec PyProof.Rows L2

section
variable {P : Program} {w : World} {K : PySem.W.Frag} {mg mb : Str → Option Value} {CX : CXT} {k : Nat} {fa a : Addr} {fd : FuncData} {x : Str} {sp : Sp} {s : Shared} {vs : List Value} {ns : List Int}
/-- the script as the one thing that is tracked, or none where the module holds it -/
theorem script_heap (KX : K.In s.heap) (ha : s.heap.get? a = some { cls := .type "list", data := .seq vs.toArray }) (hi : IntsAre vs ns) (hl : ns.length ≤ sizeLine) :
    ∃ H : Hp, Only H ∧ SqL K H a (ns.map V.int) ∧ HOk P w H s.heap ∧ ∀ b u, H b = some u → b = a ∧ K.lookup a = none := by
  have rv := vals_ints hi
  by_cases hk : K.lookup a = none
  · refine ⟨fun b => if b = a then some (.frz { cls := .type "list", data := .seq vs.toArray } (.lst (ns.map V.int))) else none, ?_, ?_, ?_, ?_⟩
    · intro b
      by_cases hb : b = a
      · right
        exact ⟨_, _, if_pos hb⟩
      · left
        exact if_neg hb
    · left
      right
      exact ⟨_, if_pos rfl⟩
    · intro b u z
      by_cases hb : b = a
      · subst hb
        obtain rfl := Option.some.inj ((if_pos rfl).symm.trans z)
        exact ⟨ha, by rw [List.length_map]; exact hl, vs, _, rv, ha⟩
      · cases (if_neg hb).symm.trans z
    · intro b u z
      refine ⟨?_, hk⟩
      by_cases hb : b = a
      · exact hb
      · cases (if_neg hb).symm.trans z
  · obtain ⟨o, ho⟩ := Option.ne_none_iff_exists'.mp hk
    have e := (KX a o ho).symm.trans ha
    obtain rfl := Option.some.inj e
    have nope : ∀ {u : HO}, ¬ (none : Option HO) = some u := fun z => by cases z
    refine ⟨fun _ => none, fun _ => .inl rfl, .inr ?_, fun b u z => (nope z).elim, fun b u z => (nope z).elim⟩
    refine ⟨_, vs.toArray, _, ho, rfl, rfl, rfl, ?_, by simpa using rv⟩
    rw [List.size_toArray, hi.length]
    exact hl
theorem law_callG (KX : K.In s.heap) (hns : s.heap.Ns mainGlobals mg) (hb : s.heap.Ns builtinsNs mb) (hbb : ∀ x : Str, x ≠ "__name__" → mb x = bootBuiltins x)
    (hlim : s.heap.NoLimit) (hg : s.gens = #[]) (ha : s.heap.get? a = some { cls := .type "list", data := .seq vs.toArray }) (hi : IntsAre vs ns) (hl : ns.length ≤ sizeLine)
    (hr : RG k callerA) (F : ∀ base : Heap, K.In base → base.Ns mainGlobals mg → FnG P w K mg base CX k fa fd [x] sp)
    (hbind : ∀ (s : Shared) (u : Value), BindsTo s fd ⟨[u], []⟩ [(x, u)])
    (hsp : ∀ H : Hp, Only H → SqL K H a (ns.map V.int) → sp [.ref a] H (fun v _ => v = .bl true) fun _ _ _ => False)
    (hCX : ∀ H e s', CX [] H s (fun _ _ _ => False) e s' → False) :
    codeAny (model P w) callerA (.call (.ref fa) ⟨[.ref a], []⟩)
      (fun r s' => r = .ok (.ret (.bool true)) ∧ OldK s.heap s'.heap ∧ s'.os = s.os ∧ AllBare s'.gens) s := by
  obtain ⟨H, hO, hS, hok, hA⟩ := script_heap (P := P) (w := w) KX ha hi hl
  have hid : ∀ {b : Addr} {o : Obj}, s.heap.get? b = some o → H b = none → (hidT s.heap H).get? b = some o := fun e n => hidT_get e n
  have dictFree : ∀ {b : Addr} {o : Obj} {es : Array DictEntry} {n : Nat}, s.heap.get? b = some o → o.data = .dict es n → H b = none := by
    intro b o es n e d
    cases q : H b with
    | none => rfl
    | some u =>
      obtain ⟨rfl, _⟩ := hA b u q
      obtain rfl := Option.some.inj (ha.symm.trans e)
      cases d
  have nsB : ∀ {b : Addr} {m : Str → Option Value}, s.heap.Ns b m → (hidT s.heap H).Ns b m := by
    rintro b m ⟨o, es, n, e, d, r⟩
    exact ⟨o, es, n, hid e (dictFree e d), d, r⟩
  have kB : K.In (hidT s.heap H) := by
    intro b o e
    refine hid (KX b o e) ?_
    cases q : H b with
    | none => rfl
    | some u =>
      obtain ⟨rfl, z⟩ := hA b u q
      cases z.symm.trans e
  obtain ⟨mc, c1, c2⟩ := hlim
  have M : Mod K mg (hidT s.heap H) := ⟨kB, nsB hns, ⟨mb, nsB hb, hbb⟩, ⟨mc, nsB c1, c2⟩⟩
  have none_in : ∀ b : Addr, ¬ b ∈ ([] : List Addr) := fun b => List.not_mem_nil
  have e0 : Env0 P w K mg (hidT s.heap H) callerA [] s H :=
    { frames := rfl, mod := M, bs := fun b o e => of_hidT e, bsz := Nat.le_of_eq (hidT_size _ _), funs := trivial, frf := fun b hb => absurd hb (none_in b), hok := hok, bare := .of_eq hg }
  have run := (F _ kB (nsB hns)).goes hr e0 (us := [.ref a]) (vs := [.ref a]) (hbind s (.ref a)) (Paired.cons (show RelV (V.ref a) (Value.ref a) from rfl) Paired.nil) (hsp H hO hS)
  refine codeAny_mono run ?_
  intro r s' q
  match r, q with
  | .error e, q => exact (hCX H e s' q).elim
  | .ok (.ret u), ⟨v, H', os, bare, un, hok', rv, hv⟩ =>
    obtain rfl : v = .bl true := hv
    obtain rfl : u = Value.bool true := rv
    refine ⟨rfl, OldK.of_keep ?_, os, bare⟩
    intro b o e
    cases q : H b with
    | none => exact un.keep b o e q (none_in b) (none_in b)
    | some t =>
      obtain ⟨ob, xs, z⟩ := (hO b).resolve_left (by rw [q]; exact fun c => by cases c)
      have e1 := (hok b _ z).1
      have e2 := (hok' b _ (un.frzs b ob _ z)).1
      obtain rfl := Option.some.inj (e.symm.trans e1)
      exact e2
end
/-- the goal that k_head leaves -/
theorem walk_ofG {l : PySem.W.OpenLaw} {n k : Nat} {q : Program} {loose : List Str} {XP : (Str → Option Value) → Heap → Prop} {YP : World → Heap → Prop} {d : DefRec} {K : Params → PySem.W.Frag} {CX : World → CXT} {sp : World → Sp} {x : Str}
    (hn : l.most = some n) (hn2 : n ≤ sizeLine) (hdf : d.params.defaults = []) (hr : RG k callerA) (hY : ∀ (w : World) (h : Heap), YP w h → (K w.params).In h)
    (F : ∀ (w : World) (mg : Str → Option Value) (fa : Addr) (h : Heap), (K w.params).In h → h.Ns mainGlobals mg → mg d.name = some (.ref fa) →
      ∃ fd : FuncData, (∀ (s : Shared) (u : Value), BindsTo s fd ⟨[u], []⟩ [(x, u)]) ∧
        ∀ base : Heap, (K w.params).In base → base.Ns mainGlobals mg → FnG l.prog w (K w.params) mg base (CX w) k fa fd [x] (sp w))
    (hsp : ∀ (w : World) (H : Hp) (a : Addr) (ns : List Int), ns.length ≤ n → Only H → SqL (K w.params) H a (ns.map V.int) → sp w [.ref a] H (fun v _ => v = .bl true) fun _ _ _ => False)
    (hCX : ∀ (w : World) (H : Hp) (s : Shared) (e : Value) (s' : Shared), CX w [] H s (fun _ _ _ => False) e s' → False) :
    PySem.W.WalkO q loose XP YP l.row.toRowW d [] (fun f vs => PySem.call f vs) := by
  apply Att.attach_call hn hdf
  intro w s₀ s₁ mg mb fa o pm cd doc a vs ns G Y ho hd hcd hmg hobj hints hlen hg
  have KX := hY w _ Y
  obtain ⟨fd, hb, hF⟩ := F w mg fa _ KX G.T.g hmg
  have hsz := Nat.le_trans hlen hn2
  refine law_callG (mb := mb) (sp := sp w) (CX := CX w) KX G.T.g G.T.b G.T.builtins G.T.nolimit hg hobj hints hsz hr hF hb ?_ (hCX w · s₁)
  intro H hO hS
  exact hsp w H a ns hlen hO hS
end FT

/-! repr of plain data, of a flat dict -/
namespace FT
open PySem PySem.Spec PyProof.Rows L2

mutual
theorem noD {K : PySem.W.Frag} {H : Hp} : ∀ (d : PyData) (v : V), Dp K H v d → d.hasDict = false
  | .none, _, _ => by simp only [PyData.hasDict]
  | .bool _, _, _ => by simp only [PyData.hasDict]
  | .int _, _, _ => by simp only [PyData.hasDict]
  | .str _, _, _ => by simp only [PyData.hasDict]
  | .list ds, _, h => by
    cases h with
    | lst _ a =>
      simp only [PyData.hasDict]
      exact noDs ds _ a
  | .tuple ds, _, h => by
    cases h with
    | tup _ a =>
      simp only [PyData.hasDict]
      exact noDs ds _ a
  | .dict _, _, h => by cases h
theorem noDs {K : PySem.W.Frag} {H : Hp} : ∀ (ds : List PyData) (vs : List V), DpAll K H vs ds → PyData.hasDictAll ds = false
  | [], _, _ => by simp only [PyData.hasDictAll]
  | d :: ds, _, h => by
    cases h with
    | cons a b =>
      simp only [PyData.hasDictAll]
      rw [noD d _ a, noDs ds _ b]
      rfl
end
/-- a flat value's data -/
def flatD : V → Option PyData
  | .non => some .none
  | .bl b => some (.bool b)
  | .int i => some (.int i)
  | .str x => some (.str x)
  | _ => none
def keyD : Key → PyData
  | .inl i => .int i
  | .inr x => .str x
theorem flat_reads {h : Heap} {v : V} {u : Value} {d : PyData} (e : flatD v = some d) (r : RelV v u) : Reads h u d [] := by
  cases v with
  | non => cases e; cases r; exact .none
  | bl b => cases e; cases r; exact .bool b
  | int i => cases e; obtain ⟨t, rfl⟩ := r; exact .int i t
  | str x => cases e; obtain ⟨t, rfl⟩ := r; exact .str x t
  | byt _ => cases e
  | flt _ => cases e
  | ref _ => cases e
  | ty _ => cases e
theorem key_reads {h : Heap} {k : Key} {u : Value} (e : keyIs k u = true) : Reads h u (keyD k) [] := by
  rcases keyIs_shape e with ⟨i, t, rfl, rfl⟩ | ⟨x, t, rfl, rfl⟩
  · exact .int i t
  · exact .str x t
/-- the data of a flat dict, entry by entry -/
inductive FlatKv : List (Key × V) → List (PyData × PyData) → Prop
  | nil : FlatKv [] []
  | cons {k : Key} {v : V} {d : PyData} {kvs : List (Key × V)} {ds : List (PyData × PyData)} : flatD v = some d → FlatKv kvs ds → FlatKv ((k, v) :: kvs) ((keyD k, d) :: ds)
theorem flatkv_reads {P : Program} {w : World} {h : Heap} : ∀ {kvs : List (Key × V)} {ds : List (PyData × PyData)} {es : List DictEntry} {vs : List (Key × Value)}, FlatKv kvs ds → KV kvs vs → Pairs (mixKind P w) es vs →
    ReadsAll h (es.map (·.key)) (ds.map (·.1)) [] ∧ ReadsAll h (es.map (·.val)) (ds.map (·.2)) []
  | _, _, _, _, .nil, .nil, .nil => ⟨.nil, .nil⟩
  | _, _, _, _, .cons e f, .cons r q, .cons p1 p2 p3 => by
    obtain ⟨a, b⟩ := flatkv_reads f q p3
    obtain ⟨r1, r2⟩ := r
    refine ⟨?_, ?_⟩
    · have e1 := key_reads (h := h) (show keyIs _ _ = true from (mixKind_is P w _ _).symm.trans p1)
      rw [← r1] at e1
      exact ReadsAll.cons e1 a
    · rw [← p2] at r2
      exact ReadsAll.cons (flat_reads e r2) b

section
variable {X : Cx}
/-- repr(v), v plain data -/
def rRepr (K : PySem.W.Frag) : List V → Hp → VK → Prop := fun xs H Q => ∃ v d, xs = [v] ∧ Dp K H v d ∧ d.showable = true ∧ d.depth ≤ 60 ∧ d.shown.length ≤ sizeLine ∧ Q (.str d.shown) H
theorem call_repr (hg : X.A.guards = some []) (hu : X.A.units + 64 < cLine) : CallR X (.builtin "repr") (rRepr X.K) := by
  rintro pins s σ H xs us Q I r ⟨v, d, rfl, hd, hs, hdep, hsz, q⟩
  obtain ⟨u, rfl, r1⟩ := vals1 r
  have hno := noD d v hd
  have key : ∀ {a : Addr}, u = .ref a → wpAny (model X.prog X.w) X.A (call (.builtin "repr") [u]) (EP X pins σ Q) X.xe s := by
    rintro a rfl
    obtain ⟨as, rd⟩ := Dp.reads I d v _ hd r1
    refine repr_of_reads' rd hs (PyData.noDict_hsm hno) hg (by omega) (fun _ _ e => e) ?_ hsz
    intro h' t tk hk
    exact ⟨.str d.shown, H, I.kept hk, ⟨_, rfl⟩, q⟩
  cases hd with
  | non => cases r1; exact PySem.P.repr_of_none ⟨.str _, H, I.tok _, ⟨_, rfl⟩, by simpa only [PyData.shown] using q⟩
  | bl b => cases r1; exact PySem.P.repr_of_bool ⟨.str _, H, I.tok _, ⟨_, rfl⟩, by simpa only [PyData.shown] using q⟩
  | int i =>
    obtain ⟨t, rfl⟩ := r1
    have z : i.natAbs.log2 < 1920 := by simpa only [PyData.showable, decide_eq_true_eq] using hs
    exact PySem.P.repr_of_int z ⟨.str _, H, I.tok _, ⟨_, rfl⟩, by simpa only [PyData.shown] using q⟩
  | str x =>
    obtain ⟨t, rfl⟩ := r1
    have z : (reprText x).length ≤ sizeLine := by simpa only [PyData.shown] using hsz
    exact PySem.P.repr_of_str ⟨.str _, H, I.tok _, ⟨_, rfl⟩, by simpa only [PyData.shown] using q⟩ z
  | lst _ _ => exact key r1
  | tup _ _ => exact key r1
/-- repr(d), d a dict of flat values -/
def rReprD : List V → Hp → VK → Prop := fun xs H Q => ∃ (a : Addr) (kvs : List (Key × V)) (ds : List (PyData × PyData)), xs = [.ref a] ∧ H a = some (.dK kvs) ∧ FlatKv kvs ds ∧ (PyData.dict ds).showable = true ∧
  (PyData.dict ds).depth ≤ 60 ∧ (PyData.dict ds).shown.length ≤ sizeLine ∧ Q (.str (PyData.dict ds).shown) H
theorem call_reprD (hg : X.A.guards = some []) (hu : X.A.units + 64 < cLine) : CallR X (.builtin "repr") rReprD := by
  rintro pins s σ H xs us Q I r ⟨a, kvs, ds, rfl, ha, hf, hs, hdep, hsz, q⟩
  obtain ⟨u, rfl, r1⟩ := vals1 r
  obtain rfl : u = .ref a := r1
  obtain ⟨_, hsys, vs, kv, o, es, ep, h1, h2, h3, _, h5, _⟩ := (show ObjOk X.prog X.w H s.heap a (.dK kvs) from I.hok a _ ha)
  obtain ⟨ra, rb⟩ := flatkv_reads (h := s.heap) hf kv h5
  have rd : Reads s.heap (.ref a) (.dict ds) (a :: [] ++ []) := .dict h1 h2.1 h3 ra rb
  refine repr_of_reads' rd hs ?_ hg (by omega) (fun _ _ e => e) ?_ hsz
  · intro _ hm
    have e : sysModules = a := by simpa using hm
    rw [e] at hsys
    simp at hsys
  · intro h' t tk hk
    exact ⟨.str _, H, I.kept hk, ⟨_, rfl⟩, q⟩
theorem call_repr2 (hg : X.A.guards = some []) (hu : X.A.units + 64 < cLine) : CallR X (.builtin "repr") (fun xs H Q => rRepr X.K xs H Q ∨ rReprD xs H Q) := CallR.or (call_repr hg hu) (call_reprD hg hu)
end
end FT

/-! small words: heaps but for one place, lists of ints as data, a cut between two statements -/
namespace FT
open PySem PySem.Spec PyProof.Rows L2

/-- all but p stands as it stood -/
def Kp (p : Addr) (H H' : Hp) : Prop := ∀ b o, b ≠ p → H b = some o → H' b = some o
theorem Kp.refl (p : Addr) (H : Hp) : Kp p H H := fun _ _ _ h => h
theorem Kp.trans {p : Addr} {H H1 H2 : Hp} (a : Kp p H H1) (b : Kp p H1 H2) : Kp p H H2 := fun c o n h => b c o n (a c o n h)
theorem Kp.put {p : Addr} {H H' : Hp} {o : HO} (a : Kp p H H') : Kp p H (upd H' p o) := fun c u n h => by rw [upd_ne n]; exact a c u n h
theorem Kp.new {p q : Addr} {H H' : Hp} {o : HO} (a : Kp p H H') (hq : H' q = none) : Kp p H (upd H' q o) := fun c u n h => by
  have e := a c u n h
  rw [upd_ne (ne_of_none e hq)]
  exact e
theorem Kp.of_same {p : Addr} {H H' : Hp} (a : Same H H') : Kp p H H' := fun c o _ h => a c o h
theorem Same.new {H H' : Hp} {q : Addr} {o : HO} (a : Same H H') (hq : H' q = none) : Same H (upd H' q o) := fun c u h => by
  have e := a c u h
  rw [upd_ne (ne_of_none e hq)]
  exact e
theorem at_new {H : Hp} {p q : Addr} {o u : HO} (h : H p = some o) (hq : H q = none) : upd H q u p = some o := by rw [upd_ne (ne_of_none h hq)]; exact h
theorem at_oth {H : Hp} {p q : Addr} {o u : HO} (h : H p = some o) (n : p ≠ q) : upd H q u p = some o := by rw [upd_ne n]; exact h
theorem ne_lst {H : Hp} {p q : Addr} {xs ys : List V} (h : H p = some (.lst xs)) (g : H q = some (.lst ys)) (n : xs ≠ ys) : p ≠ q := ne_of h g fun e => n (HO.lst.inj e)

/-- a cut: whatever stands behind, W is what the first statement must reach -/
theorem seq_cut {t u : TS} {D : Ends} {σ : L2.St} {H : Hp} (W : L2.St → Hp → Prop) (h1 : ∀ N : L2.St → Hp → Prop, (∀ σ' H', W σ' H' → N σ' H') → t { D with nx := N } σ H)
    (h2 : ∀ σ' H', W σ' H' → u D σ' H') : tSeq t u D σ H := h1 (u D) h2

theorem dp_ints {K : PySem.W.Frag} {H : Hp} : ∀ ns : List Int, DpAll K H (ns.map V.int) (ns.map PyData.int)
  | [] => .nil
  | n :: r => .cons (.int n) (dp_ints r)
theorem dp_bools {K : PySem.W.Frag} {H : Hp} : ∀ ns : List Bool, DpAll K H (ns.map V.bl) (ns.map PyData.bool)
  | [] => .nil
  | n :: r => .cons (.bl n) (dp_bools r)
theorem depthAll_ints : ∀ ns : List Int, PyData.depthAll (ns.map PyData.int) = 0
  | [] => by simp only [List.map_nil, PyData.depthAll]
  | n :: r => by
    simp only [List.map_cons, PyData.depthAll, PyData.depth]
    rw [depthAll_ints r]
    rfl
theorem layAll_ints : ∀ ns : List Int, PyData.canLayAll0 (ns.map PyData.int) = true
  | [] => by simp only [List.map_nil, PyData.canLayAll0]
  | n :: r => by
    simp only [List.map_cons, PyData.canLayAll0, PyData.canLay0]
    rw [layAll_ints r]
    rfl
theorem shaped_ints (ns : List Int) : SeqAt.shaped (.list (ns.map PyData.int)) = true := by
  unfold SeqAt.shaped
  simp only [PyData.canLay0, PyData.depth, layAll_ints, depthAll_ints]
  rfl
theorem eqv_ints : ∀ ns ms : List Int, PyData.eqvAll (ns.map PyData.int) (ms.map PyData.int) = decide (ns = ms)
  | [], [] => by simp [PyData.eqvAll]
  | [], m :: r => by simp [PyData.eqvAll]
  | n :: r, [] => by simp [PyData.eqvAll]
  | n :: r, m :: q => by
    simp only [List.map_cons, PyData.eqvAll, PyData.eqv, eqv_ints r q]
    by_cases h1 : n = m <;> by_cases h2 : r = q <;> simp [h1, h2]
theorem eqv_list (ns ms : List Int) : PyData.eqv (.list (ns.map PyData.int)) (.list (ms.map PyData.int)) = decide (ns = ms) := by
  simp only [PyData.eqv, eqv_ints]
theorem mod_fits {i m : Int} (h1 : 1 ≤ m) : 0 ≤ i.fmod m ∧ i.fmod m < m := ⟨Int.fmod_nonneg_of_pos _ (by omega), Int.fmod_lt_of_pos _ (by omega)⟩
/-- an item at a rest of the length -/
theorem at_mod {ns : List Int} (t : Int) (h : ns ≠ []) : ∃ x, atI (ns.map V.int) (t.fmod (ns.length : Int)) = some (.int x) := by
  have hl : 0 < ns.length := List.length_pos_iff.mpr h
  obtain ⟨h0, h1⟩ := mod_fits (i := t) (m := (ns.length : Int)) (by omega)
  obtain ⟨j, hj⟩ : ∃ j : Nat, t.fmod (ns.length : Int) = (j : Int) := ⟨(t.fmod (ns.length : Int)).toNat, by omega⟩
  have hlt : j < ns.length := by omega
  refine ⟨ns[j], ?_⟩
  rw [hj]
  exact atI_nat (by rw [List.getElem?_map, List.getElem?_eq_getElem hlt]; rfl)
end FT

/-! the bag of draws; a list or a tuple walked; kinds of values -/
namespace FT
open PySem PySem.Spec PyProof.Rows L2

/-- the bag at p, its ints at c, after n draws at most -/
structure Bg (H : Hp) (p c : Addr) (n : Nat) : Prop where
  ne : c ≠ p
  at_ : ∃ (ms : List Int) (t l : Int), H p = some (.lst [.ref c, .int t, .int l]) ∧ H c = some (.lst (ms.map V.int)) ∧ ms.length ≤ 63 ∧ 0 ≤ t ∧ t ≤ (n : Int)
section
variable {H H' : Hp} {p c q : Addr} {n m : Nat} {o : HO}
theorem Bg.same (b : Bg H p c n) (h1 : H' p = H p) (h2 : H' c = H c) : Bg H' p c n := by
  obtain ⟨e, ms, t, l, a1, a2, a3⟩ := b
  exact ⟨e, ms, t, l, h1.trans a1, h2.trans a2, a3⟩
theorem Bg.has (b : Bg H p c n) : (∃ o, H p = some o) ∧ ∃ o, H c = some o := by
  obtain ⟨e, ms, t, l, a1, a2, a3⟩ := b
  exact ⟨⟨_, a1⟩, ⟨_, a2⟩⟩
theorem Bg.keep (b : Bg H p c n) (s : Same H H') : Bg H' p c n := by
  obtain ⟨e, ms, t, l, a1, a2, a3⟩ := b
  exact ⟨e, ms, t, l, s _ _ a1, s _ _ a2, a3⟩
theorem Bg.new (b : Bg H p c n) (hq : H q = none) : Bg (upd H q o) p c n := b.keep (Same.new (fun _ _ h => h) hq)
theorem Bg.oth (b : Bg H p c n) (h1 : p ≠ q) (h2 : c ≠ q) : Bg (upd H q o) p c n := b.same (upd_ne h1) (upd_ne h2)
theorem Bg.le (b : Bg H p c n) (h : n ≤ m) : Bg H p c m := by
  obtain ⟨e, ms, t, l, a1, a2, a3, a4, a5⟩ := b
  exact ⟨e, ms, t, l, a1, a2, a3, a4, by omega⟩
end

/-- an int, as the package takes it -/
def isI : V → Bool
  | .int _ => true
  | _ => false
def isB : V → Bool
  | .bl _ => true
  | _ => false
/-- values whose kind is known -/
def OkV (H : Hp) : V → Prop
  | .non => True
  | .bl _ => True
  | .int _ => True
  | .str _ => True
  | .ref a => (∃ xs, H a = some (.lst xs)) ∨ (∃ xs, H a = some (.tup xs)) ∨ ∃ kvs, H a = some (.dK kvs)
  | _ => False
theorem OkV.mono {H H' : Hp} {v : V} (h : OkV H v) (s : ∀ a o, v = .ref a → H a = some o → H' a = some o) : OkV H' v := by
  cases v with
  | ref a =>
    rcases h with ⟨xs, e⟩ | ⟨xs, e⟩ | ⟨xs, e⟩
    · exact .inl ⟨xs, s _ _ rfl e⟩
    · exact .inr (.inl ⟨xs, s _ _ rfl e⟩)
    · exact .inr (.inr ⟨xs, s _ _ rfl e⟩)
  | non => exact h
  | bl _ => exact h
  | int _ => exact h
  | str _ => exact h
  | byt _ => exact h
  | flt _ => exact h
  | ty _ => exact h
def isLT (H : Hp) : V → Bool
  | .ref a => match H a with
    | some (.lst _) => true
    | some (.tup _) => true
    | _ => false
  | _ => false
/-- its class, and what isinstance says -/
theorem kindV {K : PySem.W.Frag} {H : Hp} {v : V} (h : OkV H v) : ∃ T : String, TyX K H v (.type T) ∧ kitB T "int" = some (isI v || isB v) ∧ kitB T "bool" = some (isB v) ∧
    PySem.W.kitAny K (.type T) [.type "list", .type "tuple"] = some (isLT H v) := by
  have any2 : ∀ {T : String} {a b : Bool}, kitB T "list" = some a → kitB T "tuple" = some b → PySem.W.kitAny K (.type T) [.type "list", .type "tuple"] = some (a || b) := by
    intro T a b h1 h2
    refine kitAny_cons (kit_ty h1) (fun e => ?_) (fun e => by rw [e]; rfl)
    subst e
    refine kitAny_cons (kit_ty h2) (fun e => by subst e; exact kitAny_nil) (fun e => by rw [e]; rfl)
  cases v with
  | non => exact ⟨"NoneType", .base .non, (show kitB "NoneType" "int" = some false by decide +kernel), (show kitB "NoneType" "bool" = some false by decide +kernel), any2 (a := false) (b := false) (by decide +kernel) (by decide +kernel)⟩
  | bl b => exact ⟨"bool", .base (.bl b), (show kitB "bool" "int" = some true by decide +kernel), (show kitB "bool" "bool" = some true by decide +kernel), any2 (a := false) (b := false) (by decide +kernel) (by decide +kernel)⟩
  | int b => exact ⟨"int", .base (.int b), (show kitB "int" "int" = some true by decide +kernel), (show kitB "int" "bool" = some false by decide +kernel), any2 (a := false) (b := false) (by decide +kernel) (by decide +kernel)⟩
  | str b => exact ⟨"str", .base (.str b), (show kitB "str" "int" = some false by decide +kernel), (show kitB "str" "bool" = some false by decide +kernel), any2 (a := false) (b := false) (by decide +kernel) (by decide +kernel)⟩
  | ref a =>
    rcases h with ⟨xs, e⟩ | ⟨xs, e⟩ | ⟨xs, e⟩
    · refine ⟨"list", .base (.lst e), (show kitB "list" "int" = some false by decide +kernel), (show kitB "list" "bool" = some false by decide +kernel), ?_⟩
      have z : isLT H (.ref a) = (true || false) := by simp only [isLT, e]; rfl
      rw [z]
      exact any2 (by decide +kernel) (by decide +kernel)
    · refine ⟨"tuple", .base (.tup e), (show kitB "tuple" "int" = some false by decide +kernel), (show kitB "tuple" "bool" = some false by decide +kernel), ?_⟩
      have z : isLT H (.ref a) = (false || true) := by simp only [isLT, e]; rfl
      rw [z]
      exact any2 (by decide +kernel) (by decide +kernel)
    · refine ⟨"dict", .base (.dK e), (show kitB "dict" "int" = some false by decide +kernel), (show kitB "dict" "bool" = some false by decide +kernel), ?_⟩
      have z : isLT H (.ref a) = (false || false) := by simp only [isLT, e]; rfl
      rw [z]
      exact any2 (by decide +kernel) (by decide +kernel)
  | byt _ => exact h.elim
  | flt _ => exact h.elim
  | ty _ => exact h.elim

/-! a name that holds a list or a tuple, walked -/
def SeqR (K : PySem.W.Frag) (H : Hp) (a : Addr) (R : It → Hp → Prop) : Prop := ((∃ xs, SqL K H a xs) ∧ R (Itl K a) H) ∨ ((∃ xs, SqT K H a xs) ∧ R (Itt K a) H)
def iSeq (K : PySem.W.Frag) (tl : TE) : TI := fun σ H R => tl σ H fun x H1 => ∃ a, x = .ref a ∧ SeqR K H1 a R
theorem pi_seqV {X : Cx} {tg l : Expr} {i : Nat} (hl : PE X l (tVar i)) : PI X tg l (iSeq X.K (tVar i)) := by
  constructor
  rintro pins s σ H R I ⟨v, e, a, rfl, h⟩
  rcases h with ⟨hx, r⟩ | ⟨hx, r⟩
  · exact (pi_list hl).run pins s σ H R I ⟨_, e, a, rfl, hx, r⟩
  · exact (pi_tup hl).run pins s σ H R I ⟨_, e, a, rfl, hx, r⟩
/-- a list or a tuple of xs stands at a -/
def SqA (K : PySem.W.Frag) (H : Hp) (a : Addr) (xs : List V) : Prop := SqL K H a xs ∨ SqT K H a xs
theorem sqL_at {K : PySem.W.Frag} {H H' : Hp} {a : Addr} {xs : List V} (h : SqL K H a xs) (s : ∀ o, H a = some o → H' a = some o) : SqL K H' a xs := by
  rcases h with (h | ⟨o, h⟩) | h
  · exact .inl (.inl (s _ h))
  · exact .inl (.inr ⟨o, s _ h⟩)
  · exact .inr h
theorem sqT_at {K : PySem.W.Frag} {H H' : Hp} {a : Addr} {xs : List V} (h : SqT K H a xs) (s : ∀ o, H a = some o → H' a = some o) : SqT K H' a xs := by
  rcases h with (h | ⟨o, h⟩) | h
  · exact .inl (.inl (s _ h))
  · exact .inl (.inr ⟨o, s _ h⟩)
  · exact .inr h
theorem seq_by {K : PySem.W.Frag} {H : Hp} {a : Addr} {xs : List V} {R : It → Hp → Prop} (h : SqA K H a xs)
    (r : ∀ (J : It) (G : Hp → Prop), Walk J xs.length G (YAt xs) → (∀ H', (∀ o, H a = some o → H' a = some o) → G H') → R J H) :
    SeqR K H a R := by
  rcases h with h | h
  · exact .inl ⟨⟨_, h⟩, r _ _ walk_list fun H' s => sqL_at h s⟩
  · exact .inr ⟨⟨_, h⟩, r _ _ walk_tup fun H' s => sqT_at h s⟩
end FT
namespace FT
open PySem PySem.Spec PyProof.Rows L2
theorem kbindsF {K : PySem.W.Frag} {x qual : Str} {st : Stmt} {f : Addr} {fd : FuncData} {ps ks : List Str} {g : List Value → List Value → List Value} {gV : List V → List V → List V} (F : Fun K x qual st f fd)
    (rel : ∀ {vs : List V} {us : List Value} {zs : List V} {ws : List Value}, Vals vs us → Vals zs ws → Vals (gV vs zs) (g us ws))
    (h : ∀ (kV doc pm : Value) (an : Option Addr) (cdv ct : Value) (us ws : List Value), (g us ws).length = ps.length →
      bindArgs (PySem.W.fnOf x qual (defArgs st) (defBody st) (defScope st) .none kV doc pm an cdv ct) ⟨us, ks.zip ws⟩ = pure (ps.zip (g us ws))) : KBinds K fd ps ks g gV := by
  obtain ⟨oc, od, kV, doc, pm, an, cdv, ct, osl, rfl, _, _⟩ := F.ex
  exact ⟨fun s us ws _ hl => .of_eq (h kV doc pm an cdv ct us ws hl), rel⟩
end FT
namespace FT
open PySem PySem.Spec PyProof.Rows L2
theorem tYes_of {σ : L2.St} {H : Hp} {Q : Bool → Hp → Prop} (h : Q true H) : tYes σ H Q := h
end FT
namespace FT
open PySem PySem.Spec PyProof.Rows L2
theorem textFrom_le {m : Nat} : ∀ (ts : List Str) (k : Nat) (acc : Str), (∀ t ∈ ts, t.length ≤ m) → (textFrom k acc ts).length ≤ acc.length + ts.length * (m + 2)
  | [], k, acc, _ => by
    show acc.length ≤ _
    exact Nat.le_add_right _ _
  | t :: r, k, acc, h => by
    have ih := textFrom_le r (k + 1) (acc ++ (if k > 0 then ", " else "" : String) ++ t) fun u hu => h u (List.mem_cons_of_mem _ hu)
    have h1 := h t List.mem_cons_self
    have e : (acc ++ (if k > 0 then ", " else "" : String) ++ t).length ≤ acc.length + 2 + t.length := by
      rw [strLen_append, strLen_append]
      split <;> (simp only [Nat.add_le_add_iff_right]; show acc.length + _ ≤ acc.length + 2; exact Nat.add_le_add_left (by decide) _)
    show (textFrom (k + 1) _ r).length ≤ _
    rw [List.length_cons, Nat.succ_mul]
    omega
theorem listText_le {m : Nat} {ts : List Str} (h : ∀ t ∈ ts, t.length ≤ m) : (listText ts).length ≤ 2 + ts.length * (m + 2) := by
  have q := textFrom_le ts 0 "[" h
  unfold listText
  rw [strLen_append]
  have e1 : ((("[" : String) : Str)).length = 1 := rfl
  have e2 : ((("]" : String) : Str)).length = 1 := rfl
  rw [e1] at q
  rw [e2]
  omega
theorem shownAll_map : ∀ ds : List PyData, PyData.shownAll ds = ds.map PyData.shown
  | [] => by simp only [PyData.shownAll, List.map_nil]
  | d :: r => by simp only [PyData.shownAll, List.map_cons, shownAll_map r]
/-- the repr of a list, as a word -/
@[irreducible] def showL (ds : List PyData) : Str := (PyData.list ds).shown
theorem showL_eq (ds : List PyData) : showL ds = (PyData.list ds).shown := by unfold showL; rfl
/-- repr of a list of short things -/
theorem rep_list {K : PySem.W.Frag} {H : Hp} {q : Addr} {vs : List V} {ds : List PyData} {Q : VK} (h : SqL K H q vs) (dp : DpAll K H vs ds) (sh : PyData.showableAll ds = true) (dep : PyData.depthAll ds ≤ 50)
    (hl : ∀ d ∈ ds, d.shown.length ≤ 100) (hn : ds.length ≤ 100) (k : Q (.str (showL ds)) H) : rRepr K [.ref q] H Q ∨ rReprD [.ref q] H Q := by
  rw [showL_eq] at k
  refine .inl ⟨_, .list ds, rfl, .lst h dp, by simp only [PyData.showable, sh], by simp only [PyData.depth]; omega, ?_, k⟩
  simp only [PyData.shown, shownAll_map]
  have q := listText_le (m := 100) (ts := ds.map PyData.shown) fun t ht => by
    obtain ⟨d, hd, rfl⟩ := List.mem_map.mp ht
    exact hl d hd
  rw [List.length_map] at q
  have : ds.length * (100 + 2) ≤ 100 * 102 := Nat.mul_le_mul_right _ hn
  have z : (10300 : Nat) ≤ sizeLine := by decide
  omega
theorem showAll_bools : ∀ bs : List Bool, PyData.showableAll (bs.map PyData.bool) = true
  | [] => by simp only [List.map_nil, PyData.showableAll]
  | b :: r => by simp only [List.map_cons, PyData.showableAll, PyData.showable, showAll_bools r, Bool.and_true]
theorem depthAll_bools : ∀ bs : List Bool, PyData.depthAll (bs.map PyData.bool) = 0
  | [] => by simp only [List.map_nil, PyData.depthAll]
  | b :: r => by simp only [List.map_cons, PyData.depthAll, PyData.depth, depthAll_bools r, Nat.max_self]
theorem rep_bools {K : PySem.W.Frag} {H : Hp} {q : Addr} {bs : List Bool} {Q : VK} (h : SqL K H q (bs.map V.bl)) (hn : bs.length ≤ 100) (k : Q (.str (showL (bs.map PyData.bool))) H) : rRepr K [.ref q] H Q ∨ rReprD [.ref q] H Q := by
  refine rep_list h (dp_bools bs) (showAll_bools bs) (by rw [depthAll_bools]; decide) (fun d hd => ?_) (by rw [List.length_map]; exact hn) k
  obtain ⟨b, _, rfl⟩ := List.mem_map.mp hd
  simp only [PyData.shown]
  cases b <;> decide
end FT

/-! own exceptions as values: made by place and by name, their fields, their kind -/
namespace PySem
namespace HandSPX
open PySem.W PySem.Calls PyProof.Rows
section
variable {M : Model} {A : Around} {E : Value → Shared → Prop} {h : Heap} {g : Array GenState} {d : Drawn} {t : Nat} {os : OsState}
variable {nm q : Str} {C N : Addr} {bs bm bmB : List Value} {hdct : Bool} {sn : List Str} {sub : List Value} {ab : Bool} {col : Option Bool} {dd : Option Addr} {k0 k1 k2 k3 k5 : Option Value} {B newId initId : String}
theorem kw_check_new (F : ExcBaseFacts B newId initId bmB) (hT : ∀ X : String, bm.contains (.type X) = bmB.contains (.type X)) {rest : List Value} {kw : List (Str × Value)} {Q : Unit → Shared → Prop}
    (hC : h.get? C = some (excClassObj nm q C N bs bm hdct sn sub ab col dd k0 k1 k2 k3 k5 newId)) (hq : Q () ⟨h, g, d, t, os⟩) : wpAny M A (checkBuiltinCall newId ⟨.ref C :: rest, kw⟩) Q E ⟨h, g, d, t, os⟩ := by
  have hcont : (Value.ref C :: bm).contains (.type B) = true := by rw [List.contains_cons, hT, F.hasB, Bool.or_true]
  have hstar := F.noStar
  simp only [checkBuiltinCall, F.newKind, F.newSplit, F.newRow]
  repeat (first | refine wpAny_loadPart_at hC ?_ | (refine wpAny_isSubtype_exc hC ?_; rw [hcont]) | refine wpAny_staticBase_exc hC ?_ | refine wpAny_madeBy_exc hC ?_ | simp only [bne_self_eq_false, Bool.false_eq_true, if_false] | wp_step)
  exact hq
theorem kw_check_tc {rest : List Value} {kw : List (Str × Value)} {Q : Unit → Shared → Prop} (hC : h.get? C = some (excClassObj nm q C N bs bm hdct sn sub ab col dd k0 k1 k2 k3 k5 newId))
    (hq : Q () ⟨h, g, d, t, os⟩) : wpAny M A (checkBuiltinCall "type.__call__" ⟨.ref C :: rest, kw⟩) Q E ⟨h, g, d, t, os⟩ := by
  have f3 := tc_sub
  have hT : (⟨h, g, d, t, os⟩ : Shared).TypeIs (.ref C) "type" := ⟨_, hC, rfl⟩
  simp only [checkBuiltinCall, tc_kind, tc_split]
  repeat (any_goals (first | assumption | with_reducible refine wpAny_loadPart_at hC ?_ | with_reducible refine wpAny_onRaise ?_ | with_reducible refine wpAny_map ?_ | wp_step))
end
section
variable {prog : Program} {w : World} {A : Around} {E : Value → Shared → Prop} {R : Result → Shared → Prop} {h : Heap} {g : Array GenState} {d : Drawn} {t : Nat} {os : OsState}
variable {nm q : Str} {C N : Addr} {bs bm bmB : List Value} {hdct : Bool} {sn : List Str} {sub : List Value} {ab : Bool} {col : Option Bool} {dd : Option Addr} {k0 k1 k2 k3 k5 : Option Value} {B newId initId : String}
theorem kw_new_own (F : ExcBaseFacts B newId initId bmB) (hT : ∀ X : String, bm.contains (.type X) = bmB.contains (.type X)) {rest : List Value} {kw : List (Str × Value)}
    (hC : h.get? C = some (excClassObj nm q C N bs bm hdct sn sub ab col dd k0 k1 k2 k3 k5 newId))
    (hq : R (.ok (.ret (.ref (h.objs.size + 1)))) ⟨(h.push { cls := .type "tuple", data := .seq rest.toArray }).push
      { cls := .ref C, data := .fields #[.ref h.objs.size, .none, .none, .none, .bool false, .none] }, g, d, t, os⟩) (hrest : rest.length ≤ sizeLine) :
    codeAny (model prog w) A (.builtin newId ⟨.ref C :: rest, kw⟩) R ⟨h, g, d, t, os⟩ := by
  have hends := F.ends
  have hcB : (Value.ref C :: bm).contains (.type B) = true := by rw [List.contains_cons, hT, F.hasB, Bool.or_true]
  have hcA : (Value.ref C :: bm).contains (.type "AttributeError") = false := by rw [List.contains_cons, hT, F.noAttr]; rfl
  have hcN : (Value.ref C :: bm).contains (.type "NameError") = false := by rw [List.contains_cons, hT, F.noName]; rfl
  refine codeAny_builtinAt F.entry ?_
  unfold Builtin.«BaseException.__new__»
  refine wpAt_bind ?_
  show wpAt _ _ _ (stack >>= _) _ _ _
  refine wpAt_bind (wpAt_stack fun p below => wpAt_of_wpAny ?_)
  wp_walk
  refine wpAt_of_wpAny ?_
  rw [F.owner]
  repeat (first | with_reducible refine wpAny_madeHere_exc F.canon hC ?_ | with_reducible refine wpAny_loadPart_at hC ?_ | (with_reducible refine wpAny_isSubtype_exc hC ?_; first | rw [hcB] | rw [hcA] | rw [hcN]) | wp_step)
  show R _ _
  rw [Heap.size_push]
  exact hq
theorem kw_type_call (F : ExcBaseFacts B newId initId bmB) (hT : ∀ X : String, bm.contains (.type X) = bmB.contains (.type X)) {rest : List Value} {kw : List (Str × Value)} {fI : Addr} {Q : Fin → Shared → Prop}
    (hC : h.get? C = some (excClassObj nm q C N bs bm hdct sn sub ab col dd k0 k1 k2 k3 k5 newId))
    (hi : W.Looks (model prog w) h (typeLookup (.ref C) "__init__") (some (.ref fI))) (hb : ∀ self, W.Looks (model prog w) h (bindSpecial (.ref fI) self) (.ref fI, [self])) (hrest : rest.length ≤ sizeLine)
    (hq : codeAny (model prog w) A (.call (.ref fI) ⟨.ref (h.objs.size + 1) :: rest, kw⟩)
      (fun r s' => match r with | .ok (.ret v) => v = .none ∧ Q (.done (.ret (.ref (h.objs.size + 1)))) s' | .ok _ => False | .error e => E e s')
      ⟨(h.push (W.kdv_tup rest)).push (excO C h.objs.size), g, d, t, os⟩) :
    wpAny (model prog w) A (Builtin.«type.__call__» ⟨.ref C :: rest, kw⟩) Q E ⟨h, g, d, t, os⟩ := by
  repeat (first | with_reducible refine wpAny_loadPart_at hC ?_ | with_reducible refine wpAny_madeBy_exc hC ?_ | wp_step)
  refine codeAny_call_builtin_code (Code.quiet_builtin _ F.quiet) (kw_check_new F hT hC ?_)
  refine kw_new_own F hT hC ?_ hrest
  show wpAny _ _ _ _ _ _
  have k : ∀ b o, h.get? b = some o → ((h.push (W.kdv_tup rest)).push (excO C h.objs.size)).get? b = some o := fun b o e => Heap.get?_push_of_some _ (Heap.get?_push_of_some _ e)
  have hC₁ := k _ _ hC
  have hget : ((h.push (W.kdv_tup rest)).push (excO C h.objs.size)).get? (h.objs.size + 1) = some (excO C h.objs.size) := by heap_get
  have hcC : (Value.ref C :: bm).contains (.ref C) = true := by simp
  have i1 := hi.keeps k
  have b1 := (hb (.ref (h.objs.size + 1))).keeps k
  unfold isInstance
  repeat (first | with_reducible refine wpAny_loadPart_at hget ?_ | (with_reducible refine wpAny_isSubtype_exc hC₁ ?_; rw [hcC]) | wp_step)
  show wpAny _ _ (typeLookup (.ref C) _) _ _ _
  refine i1.at ?_
  refine wpAny_holding (wpAny_bind (b1.at ?_))
  refine wpAny_bind (wpAny_call (codeAny_mono hq fun r s' z => ?_))
  rcases r with e | (v | _ | _ | _) <;> first | exact z | exact z.elim | skip
  obtain ⟨rfl, z⟩ := z
  first
    | exact wpAny_pure (wpAny_pure z)
    | (wp_walk; exact z)
theorem kw_call_own (F : ExcBaseFacts B newId initId bmB) (hT : ∀ X : String, bm.contains (.type X) = bmB.contains (.type X)) {rest : List Value} {kw : List (Str × Value)} {fI : Addr}
    (hC : h.get? C = some (excClassObj nm q C N bs bm hdct sn sub ab col dd k0 k1 k2 k3 k5 newId))
    (hi : W.Looks (model prog w) h (typeLookup (.ref C) "__init__") (some (.ref fI))) (hb : ∀ self, W.Looks (model prog w) h (bindSpecial (.ref fI) self) (.ref fI, [self])) (hrest : rest.length ≤ sizeLine)
    (hq : codeAny (model prog w) (A.under (.builtin "type.__call__" ⟨.ref C :: rest, kw⟩)) (.call (.ref fI) ⟨.ref (h.objs.size + 1) :: rest, kw⟩) (W.InitBack (h.objs.size + 1) R)
      ⟨(h.push (W.kdv_tup rest)).push (excO C h.objs.size), g, d, t, os⟩) :
    codeAny (model prog w) A (.call (.ref C) ⟨rest, kw⟩) R ⟨h, g, d, t, os⟩ := by
  have f1 := tc_lookup
  have f2 := tc_bind (.ref C)
  have hTy : (⟨h, g, d, t, os⟩ : Shared).TypeIs (.ref C) "type" := ⟨_, hC, rfl⟩
  refine codeAny_of_tree ?_
  show wpAny _ _ (callAny (.ref C) _) _ _ _
  repeat (any_goals (first | assumption | with_reducible refine wpAny_loadPart_at hC ?_ | wp_step))
  refine ⟨rfl, ?_⟩
  refine codeAny_call_builtin_at (Code.quiet_builtin _ (by decide +kernel)) entry_typeCall (kw_check_tc hC (kw_type_call F hT hC hi hb hrest ?_))
  refine codeAny_mono hq fun r s' z => ?_
  rcases r with e | (v | _ | _ | _) <;> exact z
end
end HandSPX
end PySem

namespace FT
open PySem PySem.Spec PyProof.Rows L2

/-- C(..) as a value, C's own __init__ keeping sp -/
@[irreducible] def rMkX (C : Addr) (sp : Sp) (vs : List V) (H1 : Hp) (Q : VK) : Prop := vs.length ≤ 1000 ∧ ∀ a, H1 a = none → sp (.ref a :: vs) (upd H1 a (exo a C none)) (fun v H2 => v = .non ∧ Q (.ref a) H2) (fun _ _ _ => False)
def tMkX (C : Addr) (sp : Sp) (ta : TA) : TE := fun σ H Q => ta σ H fun vs H1 => rMkX C sp vs H1 Q
@[irreducible] def rMkXK (C : Addr) (sp : Sp) (gV : List V → List V → List V) (vs zs : List V) (H2 : Hp) (Q : VK) : Prop := vs.length ≤ 1000 ∧ ∀ a, H2 a = none → sp (gV (.ref a :: vs) zs) (upd H2 a (exo a C none)) (fun v H3 => v = .non ∧ Q (.ref a) H3) (fun _ _ _ => False)
def tMkXK (C : Addr) (sp : Sp) (gV : List V → List V → List V) (ta tk : TA) : TE := fun σ H Q => ta σ H fun vs H1 => tk σ H1 fun zs H2 => rMkXK C sp gV vs zs H2 Q
section
variable {X : Cx} {CX : CXT} {k : Nat} {fI C : Addr} {fd : FuncData} {ps ks : List Str} {sp : Sp} {x : Str} {p pos : Pos} {e : Expr} {es : List Expr} {t tk : TA} {kws : List Keyword} {g : List Value → List Value → List Value} {gV : List V → List V → List V}
/-- the making itself: args are there -/
theorem run_mkx {pins : List (Addr × Obj)} {σ : L2.St} {H : Hp} {s : Shared} {Q : VK} {us : List Value} {kw : List (Str × Value)} {all : Value → List Value} {allV : V → List V} (T : OexC X.K C) (iC : PySem.W.findIn X.K (.ref C) "__init__" = some (some (.ref fI))) (tI : PySem.W.typeIn X.K (.ref fI) = some (.type "function"))
    (F : FnG X.prog X.w X.K X.mg X.base CX k fI fd ps sp) (hr : RG (k + 1) X.A) (hx : Passes CX X (fun _ _ _ => False)) (I : Inv X pins σ H s) (hus : us.length ≤ sizeLine)
    (hb : ∀ (a : Addr) (s' : Shared), X.K.In s'.heap → (all (.ref a)).length = ps.length → BindsTo s' fd ⟨.ref a :: us, kw⟩ (ps.zip (all (.ref a)))) (r : ∀ a : Addr, Vals (allV (.ref a)) (all (.ref a)))
    (h : ∀ a, H a = none → sp (allV (.ref a)) (upd H a (exo a C none)) (fun v H2 => v = .non ∧ Q (.ref a) H2) (fun _ _ _ => False)) :
    wpAny (model X.prog X.w) X.A (call (.ref C) us kw) (EP X pins σ Q) X.xe s := by
  obtain ⟨nm, q, N, bs, bm, sn, sub, ab, col, dd, k0, k1, k2, k3, k5, hC, hbm⟩ := T.cls
  obtain ⟨hp, gg, dr, tk, os⟩ := s
  have hsz : hp.objs.size ≤ hp.objs.size + 1 := Nat.le_succ _
  have hn : H (hp.objs.size + 1) = none := I.hok.fresh hsz
  have hq := h (hp.objs.size + 1) hn
  have kk : ∀ b o, hp.get? b = some o → ((hp.push (PySem.W.kdv_tup us)).push (PySem.HandSPX.excO C hp.objs.size)).get? b = some o := fun b o e => Heap.get?_push_of_some _ (Heap.get?_push_of_some _ e)
  have hget : ((hp.push (PySem.W.kdv_tup us)).push (PySem.HandSPX.excO C hp.objs.size)).get? (hp.objs.size + 1) = some (PySem.HandSPX.excO C hp.objs.size) := by heap_get
  have I2 : Inv X pins σ (upd H (hp.objs.size + 1) (exo (hp.objs.size + 1) C none)) ⟨(hp.push (PySem.W.kdv_tup us)).push (PySem.HandSPX.excO C hp.objs.size), gg, dr, tk, os⟩ :=
    I.laid (t' := tk) (a := hp.objs.size + 1) (o := exo (hp.objs.size + 1) C none) (h' := (hp.push (PySem.W.kdv_tup us)).push (PySem.HandSPX.excO C hp.objs.size)) kk hsz (exo_ok hget)
  have hl : (all (.ref (hp.objs.size + 1))).length = ps.length := (r _).length.symm.trans (F.arity _ _ _ _ hq)
  refine wpAny_call (PySem.HandSPX.kw_call_own PySem.F.excBase_ValueError (fun Y => PySem.HandSPX.refsVE_contains Y bm hbm) (I.kIn _ _ hC) (PySem.W.looks_findIn I.kIn iC) (fun self => PySem.W.bind_fn I.kIn self tI) hus
    (codeAny_mono (F.goes (hr.make C us kw) (I2.env0.make C us kw) (hb _ _ I2.kIn hl) (r _) hq) fun rr s' hq' => ?_))
  cases rr with
  | error er => exact hx pins σ _ _ er s' I2 hq'
  | ok fl =>
    cases fl with
    | ret u =>
      obtain ⟨v, H2, os2, bare2, un2, hok2, rv, ev, q2⟩ := hq'
      subst ev
      obtain rfl : u = Value.none := rv
      exact ⟨rfl, .ref (hp.objs.size + 1), H2, I2.call' (ch := []) os2 un2 hok2 bare2 (fun b z => absurd z (by simp)), rfl, q2⟩
    | next => exact False.elim hq'
    | brk => exact False.elim hq'
    | cont => exact False.elim hq'
theorem pe_mkX (T : OexC X.K C) (iC : PySem.W.findIn X.K (.ref C) "__init__" = some (some (.ref fI))) (tI : PySem.W.typeIn X.K (.ref fI) = some (.type "function"))
    (F : FnG X.prog X.w X.K X.mg X.base CX k fI fd ps sp) (hr : RG (k + 1) X.A) (hg : Gl X x) (hm : X.mg x = some (.ref C)) (hb : Binds X.K fd ps []) (hx : Passes CX X (fun _ _ _ => False)) (ha : PA X (e :: es) t)
    (hdb : (x == ("__debug__" : Str)) = false := by decide) (he : starEach (e :: es) X.env = (false, eval e X.env) :: starEach es X.env := by rfl) (hpl : (backTo pos (starEach es X.env)).any (·.1) = false := by rfl) :
    PE X (.Call (.Name x p) (e :: es) [] pos) (tMkX C sp t) := by
  constructor
  intro pins s σ H Q I h
  refine wpAny_Call_Name_kw (ld_glob I hg hm ?_ hdb)
  refine PySem.W.callWith_K (h₀ := X.base) I.ok.mod.kin T.kC (thn (ha.run pos pins s σ H _ I h) ?_) he hpl
  rintro us s1 ⟨vs, H1, I1, r1, q⟩
  unfold rMkX at q
  obtain ⟨hz, q1⟩ := q
  have hus : us.length ≤ sizeLine := by
    rw [← Paired.length r1, sizeLine_eq]
    omega
  refine ⟨I1.kIn, run_mkx (all := fun a => a :: us) (allV := fun a => a :: vs) T iC tI F hr hx I1 hus (fun a s' ki hl => ?_) (fun a => .cons rfl r1) q1⟩
  have q := hb s' (.ref a :: us) ki (by simpa using hl)
  rw [List.append_nil] at q
  exact q
theorem pe_mkXK0 (T : OexC X.K C) (iC : PySem.W.findIn X.K (.ref C) "__init__" = some (some (.ref fI))) (tI : PySem.W.typeIn X.K (.ref fI) = some (.type "function"))
    (F : FnG X.prog X.w X.K X.mg X.base CX k fI fd ps sp) (hr : RG (k + 1) X.A) (hg : Gl X x) (hm : X.mg x = some (.ref C)) (hb : KBinds X.K fd ps ks g gV) (hx : Passes CX X (fun _ _ _ => False)) (hkw : PK X kws tk)
    (hall : (backToKw pos (keywordEach kws X.env)).all (·.1.isSome) = true := by rfl)
    (hks : (backToKw pos (keywordEach kws X.env)).filterMap (·.1) = ks := by rfl)
    (hdb : (x == ("__debug__" : Str)) = false := by decide)
    (hpl : ((backTo pos (starEach [] X.env)).any (·.1) || (backToKw pos (keywordEach kws X.env)).any (·.1.isNone)) = false := by rfl) :
    PE X (.Call (.Name x p) [] kws pos) (tMkXK C sp gV tNil tk) := by
  constructor
  intro pins s σ H Q I h
  refine wpAny_Call_Name_kw (ld_glob I hg hm ?_ hdb)
  refine PySem.W.callWith_KW0 (h₀ := X.base) I.ok.mod.kin T.kC hall ?_ hpl
  refine thn (hkw.run pos pins s σ H _ I h) ?_
  rintro ws s1 ⟨zs, H1, I1, r1, q⟩
  unfold rMkXK at q
  obtain ⟨hz, q1⟩ := q
  refine ⟨I1.kIn, ?_⟩
  rw [hks]
  have rr : ∀ a : Addr, Vals (gV [.ref a] zs) (g [.ref a] ws) := fun a => hb.rel (.cons rfl .nil) r1
  exact run_mkx (us := []) (all := fun a => g [a] ws) (allV := fun a => gV [a] zs) T iC tI F hr hx I1 (Nat.zero_le _) (fun a s' ki hl => hb.to s' [.ref a] ws ki hl) rr q1
end
end FT

namespace FT
open PySem PySem.Spec PyProof.Rows L2

/-- the class of the name y stands at D -/
structure Cn (K : PySem.W.Frag) (mg : Str → Option Value) (D : Addr) (y : Str) : Prop where
  g : mg y = some (.ref D)
  ex : ∃ q N bs bm sn sub ab col dd k0 k1 k2 k3 k5, K.lookup D = some (excClassObj y q D N bs bm true sn sub ab col dd k0 k1 k2 k3 k5 "ValueError.__new__")
theorem Cn.name {K : PySem.W.Frag} {mg : Str → Option Value} {D : Addr} {x y : Str} (a : Cn K mg D x) (b : Cn K mg D y) : x = y := by
  obtain ⟨_, _, _, _, _, _, _, _, _, _, _, _, _, _, _, h1⟩ := a
  obtain ⟨_, _, _, _, _, _, _, _, _, _, _, _, _, _, _, h2⟩ := b
  have e := Option.some.inj (h1.symm.trans h2)
  simp only [Obj.mk.injEq, Data.cls.injEq, ClassData.mk.injEq] at e
  exact e.2.2.1.1
theorem Cn.cls {K : PySem.W.Frag} {mg : Str → Option Value} {D : Addr} {y : Str} (a : Cn K mg D y) : ((PySem.W.clsIn K D).isSome && PySem.W.typeIn K (.ref D) == some (.type "type")) = true := by
  obtain ⟨_, _, _, _, _, _, _, _, _, _, _, _, _, _, _, h⟩ := a
  have e1 : (PySem.W.clsIn K D).isSome = true := by
    unfold PySem.W.clsIn
    rw [h]
    rfl
  have e2 : PySem.W.typeIn K (.ref D) = some (.type "type") := by
    show (K.lookup D).map (·.cls) = _
    rw [h]
    rfl
  rw [e1, e2]
  decide
/-- an own error class: its name x, at C, its __init__ at fI, the classes above it (up, of the names ns), its fields fs -/
structure XT (K : PySem.W.Frag) (mg : Str → Option Value) (x : Str) (C fI : Addr) (up : List Addr) (ns fs : List Str) : Prop where
  gC : mg x = some (.ref C)
  cls : ∃ q N bs sn sub ab col dd k0 k1 k2 k3 k5, K.lookup C = some (excClassObj x q C N bs (up.map Value.ref ++ PySem.HandSPX.veTail) true sn sub ab col dd k0 k1 k2 k3 k5 "ValueError.__new__")
  ups : Paired (fun a n => Cn K mg a n) up ns
  sa : PySem.W.findIn K (.ref C) "__setattr__" = some (some (.builtin "object.__setattr__"))
  ga : PySem.W.findIn K (.ref C) "__getattribute__" = some (some (.builtin "BaseException.__getattribute__"))
  gg : PySem.W.findIn K (.ref C) "__getattr__" = some none
  ca : PySem.W.findIn K (.ref C) "__class__" = some (some (.builtin "object.__class__"))
  cn : PySem.W.specialIn K (.builtin "object.__class__") "__get__" = some (some (.builtin "getset_descriptor.__get__"))
  ct : PySem.W.takesIn K (.builtin "object.__class__") = some true
  iC : PySem.W.findIn K (.ref C) "__init__" = some (some (.ref fI))
  tI : PySem.W.typeIn K (.ref fI) = some (.type "function")
  kC : PySem.W.keepIn K (.ref C) = true
  no : ∀ f ∈ fs, PySem.W.findIn K (.ref C) f = some none
theorem ve_refs : ∀ up : List Addr, PySem.HandSPX.refsVE (up.map Value.ref ++ PySem.HandSPX.veTail) = true
  | [] => by decide +kernel
  | a :: r => ve_refs r
section
variable {K : PySem.W.Frag} {mg : Str → Option Value} {x y f : Str} {C D fI : Addr} {up : List Addr} {ns fs : List Str}
theorem XT.mro (T : XT K mg x C fI up ns fs) (b : Value) : PySem.W.mroIn K C b = some ((Value.ref C :: (up.map Value.ref ++ PySem.HandSPX.veTail)).contains b) := by
  obtain ⟨_, _, _, _, _, _, _, _, _, _, _, _, _, h⟩ := T.cls
  unfold PySem.W.mroIn PySem.W.clsIn
  rw [h]
  rfl
theorem ve_has (b : String) : ∀ up : List Addr, (up.map Value.ref ++ PySem.HandSPX.veTail).contains (.type b) = PySem.HandSPX.veTail.contains (.type b)
  | [] => rfl
  | a :: r => by
    rw [List.map_cons, List.cons_append, List.contains_cons, ve_has b r]
    rfl
theorem XT.mroT (T : XT K mg x C fI up ns fs) (b : String) : PySem.W.mroIn K C (.type b) = some (PySem.HandSPX.veTail.contains (.type b)) := by
  rw [T.mro, List.contains_cons, ve_has]
  rfl
theorem XT.oex (T : XT K mg x C fI up ns fs) : OexC K C := by
  have m := T.mroT "BaseException"
  obtain ⟨q, N, bs, sn, sub, ab, col, dd, k0, k1, k2, k3, k5, h⟩ := T.cls
  refine ⟨⟨x, q, N, bs, _, sn, sub, ab, col, dd, k0, k1, k2, k3, k5, h, ve_refs up⟩, T.sa, m.trans (by decide +kernel), ?_, T.kC⟩
  show (K.lookup C).map (·.cls) = _
  rw [h]
  rfl
theorem XT.cnm (T : XT K mg x C fI up ns fs) : Cn K mg C x := by
  obtain ⟨q, N, bs, sn, sub, ab, col, dd, k0, k1, k2, k3, k5, h⟩ := T.cls
  exact ⟨T.gC, q, N, bs, _, sn, sub, ab, col, dd, k0, k1, k2, k3, k5, h⟩
theorem XT.hd (T : XT K mg x C fI up ns fs) : PySem.W.hasDictIn K C = true := by
  obtain ⟨q, N, bs, sn, sub, ab, col, dd, k0, k1, k2, k3, k5, h⟩ := T.cls
  unfold PySem.W.hasDictIn PySem.W.clsIn
  rw [h]
  rfl
theorem XT.xf (T : XT K mg x C fI up ns fs) : XfC K C := ⟨T.ga, T.gg, T.oex.exC, T.hd⟩
theorem cn_beq {a : Addr} {n : Str} (h : Cn K mg a n) (c : Cn K mg D y) : (Value.ref D == Value.ref a) = (y == n) := by
  by_cases e : D = a
  · subst e
    rw [c.name h]
    simp
  · have e2 : y ≠ n := fun z => by
      subst z
      exact e (Value.ref.inj (Option.some.inj (c.g.symm.trans h.g)))
    have e3 : (Value.ref D == Value.ref a) = false := by
      rw [beq_eq_false_iff_ne]
      exact fun z => e (Value.ref.inj z)
    have e4 : (y == n) = false := by
      rw [beq_eq_false_iff_ne]
      exact e2
    rw [e3, e4]
theorem has_refs : ∀ {up : List Addr} {ns : List Str}, Paired (fun a n => Cn K mg a n) up ns → Cn K mg D y → (up.map Value.ref ++ PySem.HandSPX.veTail).contains (.ref D) = ns.contains y
  | _, _, .nil, _ => by rfl
  | _, _, .cons h p, c => by
    rw [List.map_cons, List.cons_append, List.contains_cons, has_refs p c, List.contains_cons, cn_beq h c]
/-- isinstance of such an error, by the names -/
theorem XT.kit (T : XT K mg x C fI up ns fs) (c : Cn K mg D y) : PySem.W.kitOne K (.ref C) (.ref D) = some ((x :: ns).contains y) := by
  have e : (Value.ref C :: (up.map Value.ref ++ PySem.HandSPX.veTail)).contains (.ref D) = (x :: ns).contains y := by
    rw [List.contains_cons, List.contains_cons, has_refs T.ups c, cn_beq T.cnm c]
  unfold PySem.W.kitOne
  split
  · rename_i h
    have z : C = D := Value.ref.inj (beq_iff_eq.mp h)
    subst z
    rw [T.cnm.name c]
    simp
  · show (if ((PySem.W.clsIn K D).isSome && PySem.W.typeIn K (.ref D) == some (.type "type")) = true then PySem.W.mroIn K C (.ref D) else none) = _
    rw [if_pos c.cls, T.mro, e]
theorem XT.kitT (T : XT K mg x C fI up ns fs) (t : String) (h : PySem.W.kitMeta t = true) : PySem.W.kitOne K (.ref C) (.type t) = some (PySem.HandSPX.veTail.contains (.type t)) := by
  unfold PySem.W.kitOne
  split
  · rename_i z
    cases beq_iff_eq.mp z
  · show (if PySem.W.kitMeta t = true then PySem.W.mroIn K C (.type t) else none) = _
    rw [if_pos h, T.mroT]
/-- such an error stands at a, its fields gs -/
def ExV (H : Hp) (a C : Addr) (gs : List (Str × V)) : Prop := ∃ dd, H a = some (exo a C (some dd)) ∧ H dd = some (exd dd gs)
theorem ExV.mono {H H' : Hp} {a : Addr} {gs : List (Str × V)} (e : ExV H a C gs) (s : ∀ b o, H b = some o → (∀ xs, o ≠ .lst xs) → H' b = some o) : ExV H' a C gs := by
  obtain ⟨dd, h1, h2⟩ := e
  refine ⟨dd, s _ _ h1 fun xs z => ?_, s _ _ h2 fun xs z => ?_⟩
  · have z' : HO.ext _ = HO.lst xs := z
    cases z'
  · have z' : HO.ext _ = HO.lst xs := z
    cases z'
theorem ExV.keep {H H' : Hp} {a : Addr} {gs : List (Str × V)} (e : ExV H a C gs) (s : Same H H') : ExV H' a C gs := e.mono fun b o h _ => s b o h
theorem exv_inst {X : Cx} {pins : List (Addr × Obj)} {σ : L2.St} {H : Hp} {s : Shared} {a : Addr} {gs : List (Str × V)} (I : Inv X pins σ H s) (e : ExV H a C gs) :
    ∃ ox od, PySem.W.InstAt s.heap a ox C (some od) ∧ ∀ n v, gs.lookup n = some v → ∃ u, RelV v u ∧ PySem.W.lookIn n od = some (some u) := by
  obtain ⟨dd, h1, h2⟩ := e
  obtain ⟨t1, ho⟩ := exo_at I.hok h1
  obtain ⟨mA, hns, rel⟩ := exd_at I.hok h2
  obtain ⟨od, hd, hl⟩ := lookIn_ns hns
  refine ⟨_, od, ⟨ho, rfl, rfl, hd⟩, fun n v l => ?_⟩
  obtain ⟨u, hu, ru⟩ := RelO.some_of (v := v) (o := mA n) (by rw [← l]; exact rel n)
  exact ⟨u, ru, by rw [hl, hu]⟩
/-- e.f of such an error -/
@[irreducible] def rXg (K : PySem.W.Frag) (f : Str) (x : V) (H1 : Hp) (Q : VK) : Prop := ∃ (a C : Addr) (gs : List (Str × V)) (v : V), x = .ref a ∧ XfC K C ∧ PySem.W.findIn K (.ref C) f = some none ∧ ExV H1 a C gs ∧ gs.lookup f = some v ∧ Q v H1
def tXg (K : PySem.W.Frag) (f : Str) (te : TE) : TE := fun σ H Q => te σ H fun x H1 => rXg K f x H1 Q
theorem pe_xg {X : Cx} {e : Expr} {te : TE} {pos : Pos} {n : Str} (he : PE X e te) (hb : attributeBase e n X.env (eval e X.env) = eval e X.env := by rfl) : PE X (.Attribute e n pos) (tXg X.K n te) := by
  refine ⟨fun pins s σ H Q I h => ?_⟩
  refine attr_of hb (thn (he.run pins s σ H _ I h) fun u s1 hh => ?_)
  obtain ⟨x, H1, I1, rx, hh⟩ := hh
  unfold rXg at hh
  obtain ⟨a, C, gs, v, ex, T, hno, ev, l, q⟩ := hh
  subst ex
  obtain rfl : u = Value.ref a := rx
  obtain ⟨ox, od, J, hl⟩ := exv_inst I1 ev
  obtain ⟨u, ru, hu⟩ := hl n v l
  exact HandSPX.exc_get I1.kIn J T.ga T.gg T.exC (PySem.W.findObj_own T.hdC hno rfl hu) (handed_of ru) ⟨v, H1, I1.tok _, ru, q⟩
/-- isinstance(error, c) -/
@[irreducible] def rIsiE (K : PySem.W.Frag) (mg : Str → Option Value) : List V → Hp → VK → Prop := fun xs H Q => ∃ (a C fI : Addr) (gs : List (Str × V)) (x : Str) (up : List Addr) (ns fs : List Str) (c : V) (u : Value) (b : Bool), xs = [.ref a, c] ∧ ExV H a C gs ∧ XT K mg x C fI up ns fs ∧ ClsV c u ∧ PySem.W.kitOne K (.ref C) u = some b ∧ Q (.bl b) H
@[irreducible] def rIsiTE (K : PySem.W.Frag) (mg : Str → Option Value) : List V → Hp → VK → Prop := fun xs H Q => ∃ (a C fI : Addr) (gs : List (Str × V)) (x : Str) (up : List Addr) (ns fs : List Str) (tp : Addr) (cs : List V) (us : List Value) (b : Bool), xs = [.ref a, .ref tp] ∧ ExV H a C gs ∧ XT K mg x C fI up ns fs ∧ H tp = some (.tup cs) ∧ Paired ClsV cs us ∧ PySem.W.kitAny K (.ref C) us = some b ∧ Q (.bl b) H
theorem XT.kitx {a : Addr} {ox od : Obj} (T : XT K mg x C fI up ns fs) : PySem.W.KitX K (.ref a) (.ref C) (fun h => PySem.W.InstAt h a ox C (some od)) := by
  refine PySem.W.kitx_exc (gt := none) ?_ T.ga T.gg T.oex.exC T.ca T.cn T.ct ?_
  · have := T.cnm.cls
    rw [Bool.and_eq_true] at this
    exact this.1
  · rw [T.mroT]
    decide +kernel
theorem call_isiE {X : Cx} : CallR X (.builtin "isinstance") (rIsiE X.K X.mg) := by
  intro pins s σ H xs us Q I r h
  unfold rIsiE at h
  obtain ⟨a, C, fI, gs, x, up, ns, fs, c, u, b, rfl, ev, T, k, e, q⟩ := h
  obtain ⟨u1, u2, rfl, r1, r2⟩ := vals2 r
  have e2 := k.eq r2
  subst e2
  cases (show u1 = Value.ref a from r1)
  obtain ⟨ox, od, J, _⟩ := exv_inst I ev
  exact PySem.W.kia_one (T.kitx (ox := ox) (od := od)) I.kIn J e (fun z => nomatch z) fun tk => ⟨.bl b, H, I.tok tk, rfl, q⟩
theorem call_isiTE {X : Cx} : CallR X (.builtin "isinstance") (rIsiTE X.K X.mg) := by
  intro pins s σ H xs us Q I r h
  unfold rIsiTE at h
  obtain ⟨a, C, fI, gs, x, up, ns, fs, tp, cs, ws, b, rfl, ev, T, hT, k, e, q⟩ := h
  obtain ⟨u1, u2, rfl, r1, r2⟩ := vals2 r
  cases (show u1 = Value.ref a from r1)
  cases (show u2 = Value.ref tp from r2)
  obtain ⟨ox, od, J, _⟩ := exv_inst I ev
  obtain ⟨_, its, rv, o, h1, h2, n, h3⟩ := (show ObjOk X.prog X.w H s.heap tp (.tup cs) from I.hok tp _ hT)
  have e3 := ClsV.all k rv
  subst e3
  obtain ⟨oc, od, dt, sl⟩ := o
  simp only at h2 h3
  subst h2 h3
  exact PySem.W.kia_tup (T.kitx (ox := ox) (od := _)) I.kIn J h1 e (fun z => nomatch z) fun tk => ⟨.bl b, H, I.tok tk, rfl, q⟩
end
end FT

namespace FT
open PySem PySem.Spec PyProof.Rows L2
abbrev supA (q1 q2 : Pos) : Arguments := { posonlyargs := [], args := [{ arg := "self", annotation := none, pos := q1 }, { arg := "value", annotation := none, pos := q2 }], vararg := none, kwonlyargs := [], kw_defaults := [], kwarg := none, defaults := [] }
abbrev supB (p0 p1 p2 p3 p4 p5 : Pos) : List Stmt := [.Expr (.Call (.Attribute (.Call (.Name "super" p0) [] [] p1) "__init__" p2) [.Name "value" p3] [] p4) p5]
abbrev supS : Scope := { kind := .function, names := [(PySem.Str.ofString "self", .local), (PySem.Str.ofString "value", .local), (PySem.Str.ofString "__class__", .free), (PySem.Str.ofString "super", .globalImplicit)], isGenerator := false, isCoroutine := false, more := [] }
structure SPos where
  (q1 q2 p0 p1 p2 p3 p4 p5 : Pos)
abbrev supE (p : SPos) : Expr := .Call (.Attribute (.Call (.Name "super" p.p0) [] [] p.p1) "__init__" p.p2) [.Name "value" p.p3] [] p.p4
/-- a method that says super() -/
structure SFun (P : Program) (K : PySem.W.Frag) (p : SPos) (qual : Str) (f D cc cda : Addr) (fd : FuncData) : Prop where
  ex : ∃ (oc : Value) (od : Option Addr) (kV doc pm : Value) (an : Option Addr) (ct : Value) (osl : Array (Option Value)),
    fd = PySem.W.ksFn "__init__" qual (supA p.q1 p.q2) (supB p.p0 p.p1 p.p2 p.p3 p.p4 p.p5) supS .none kV doc pm an (.ref cda) ct cc ∧ K.lookup f = some ⟨oc, od, .func fd, osl⟩ ∧ PySem.W.codeIn K (.ref cda) qual = true
  code : ∃ (ccl : Value) (cdd : Option Addr) (vs : Array Value) (ccs : Array (Option Value)) (file : Str) (tf : Tok), K.lookup cda = some ⟨ccl, cdd, .fields vs, ccs⟩ ∧ vs[2]? = some (.str file tf) ∧ ((P.main.file : Str) == file) = true
  cell : ∃ (cl : Value) (cld : Option Addr) (csl : Array (Option Value)), K.lookup cc = some ⟨cl, cld, .cell (some (.ref D)), csl⟩
  top : (P.main.scope.names.lookup ("super" : Str)).isSome = false
  opq : PySem.W.nsIn K cStatics "thirdparty.any" = some none
/-- what the class C, whose method this is, and D above it must have -/
structure SupC (K : PySem.W.Frag) (C D f2 : Addr) : Prop where
  sub : PySem.W.mroIn K C (.ref D) = some true
  sup : PySem.W.ks_superIn K C D "__init__" = some (some (.ref f2))
  tf : PySem.W.typeIn K (.ref f2) = some (.type "function")
  fn : PySem.W.fnIn K f2 = true
def spSup (K : PySem.W.Frag) (D f2 : Addr) (sp : Sp) : Sp := fun vs H Q _ => ∃ a C v, vs = [.ref a, v] ∧ H a = some (exo a C none) ∧ SupC K C D f2 ∧ sp vs H (fun _ H' => Q .non H') (fun _ _ _ => False)
theorem un_frame {fs ex : List Addr} {H H' : Hp} {h h1 h2 : Heap} {L : Addr} (hL : h.objs.size ≤ L) (k : ∀ b o, h.get? b = some o → h1.get? b = some o) (u : Un (L :: fs) ex H H' h1 h2) : Un fs ex H H' h h2 where
  keep := fun b o q n hf hx => u.keep b o (k b o q) n (fun z => by
    rcases List.mem_cons.mp z with rfl | z
    · exact absurd (Heap.lt_size q) (Nat.not_lt.mpr hL)
    · exact hf z) hx
  slot := fun b o q n hf hx => u.slot b o (k b o q) n (List.mem_cons_of_mem _ hf) hx
  free := fun b o q n hx => u.free b o (k b o q) n hx
  there := fun b o q hx => u.there b o (k b o q) hx
  tups := u.tups
  frzs := u.frzs
  tbls := u.tbls
theorem super_init {P : Program} {w : World} {K : PySem.W.Frag} {mg : Str → Option Value} {base : Heap} {qual : Str} {f f2 D cc cda : Addr} {fd fd2 : FuncData} {k : Nat} {sp : Sp} {yD : Str} {p : SPos} {pl : Sem Bool}
    (SF : SFun P K p qual f D cc cda fd) (cD : Cn K mg D yD) (hs : mg "super" = none)
    (he : ∀ env : Env, eval (supE p) env = (do
      let ov ← attributeBase (.Call (.Name "super" p.p0) [] [] p.p1) "__init__" env (eval (.Call (.Name "super" p.p0) [] [] p.p1) env)
      standAt p.p2.atName
      let (f, first) ← holding [ov] (getMethod ov "__init__" pl)
      callWith p.p4 f first (backTo p.p4 (starEach [.Name "value" p.p3] env)) []))
    (F2 : FnG P w K mg base CX0 k f2 fd2 ["self", "value"] sp) (b2 : Binds K fd2 ["self", "value"] []) :
    FnG P w K mg base CX0 (k + 1) f fd ["self", "value"] (spSup K D f2 sp) := by
  obtain ⟨oc, od, kV, doc, pm, an, ct, osl, rfl, lk, hcd⟩ := SF.ex
  obtain ⟨ccl, cdd, vs2, ccs, file, tf, lc, hvs2, hfile⟩ := SF.code
  obtain ⟨cl, cld, csl, lcell⟩ := SF.cell
  refine ⟨fun vs H Q E h => by obtain ⟨a, C, v, rfl, _⟩ := h; rfl, ?_⟩
  rintro A outer s H args us vs Q E hr e0 hb r ⟨a, C, v, rfl, ha, SC, hsp⟩
  obtain ⟨u1, u, rfl, r1, ru⟩ := vals2 r
  obtain rfl : u1 = .ref a := r1
  obtain ⟨t1, hoa⟩ := exo_at e0.hok ha
  have kb : ∀ b o, base.get? b = some o → s.heap.get? b = some o := fun b o q => (e0.bs b o q).1
  have KX : K.In s.heap := e0.mod.kin.keeps kb
  have lim : s.heap.NoLimit := e0.mod.nolimit.keeps kb
  refine PySem.ks_codeAny_call_defAt hr.room.depth (KX _ _ lk) rfl lim (PySem.W.codeRec_of KX hcd) rfl hb (fun x hx => by rcases List.mem_cons.mp hx with rfl | hx; (intro z; cases z); rcases List.mem_cons.mp hx with rfl | hx; (intro z; cases z); rcases List.mem_cons.mp hx with rfl | hx; (intro z; cases z); rcases List.mem_cons.mp hx with rfl | hx; (intro z; cases z); cases hx) ?_ (fun h₁ hns hk₁ => ?_) rfl rfl rfl
  · intro x hx
    rcases List.mem_cons.mp hx with rfl | hx
    · rfl
    · rcases List.mem_cons.mp hx with rfl | hx
      · rfl
      · cases hx
  have K1 : K.In h₁ := KX.keeps hk₁
  obtain ⟨mb, nb, hmb⟩ := e0.mod.blt
  obtain ⟨oD, hD1, hD2⟩ : ∃ oD, h₁.get? D = some oD ∧ ∃ cdD, oD.data = .cls cdD := by
    obtain ⟨_, _, _, _, _, _, _, _, _, _, _, _, _, _, hD⟩ := cD.ex
    exact ⟨_, K1 _ _ hD, _, rfl⟩
  obtain ⟨cdD, hD2⟩ := hD2
  refine PySem.ks_wpAt_execs_cons (PySem.ks_wpAt_Expr_any (PySem.ks_wpAt_MethodCall (PySem.ks_wpAt_super_base rfl rfl (by decide) rfl (K1 _ _ lk) rfl rfl rfl (K1 _ _ lc) rfl hvs2 hfile SF.top ?_) (he _)))
  refine PySem.W.ks_loadName_global rfl rfl (PySem.Calls.loadGlobal_builtin ((e0.mod.glob.keeps kb).keeps hk₁) hs ((nb.keeps kb).keeps hk₁) ((hmb _ (by decide +kernel)).trans (show bootBuiltins "super" = some (.type "super") by decide +kernel)) ⟨rfl, ?_⟩)
  refine wpAny_loadName_free rfl rfl rfl ⟨_, K1 _ _ lcell, rfl⟩ ?_
  refine wpAny_loadName_local rfl rfl hns rfl ?_
  refine PySem.ks_wpAny_isType_cls hD1 hD2 ⟨rfl, ?_⟩
  refine PySem.ks_wpAny_call_super hD1 hD2 (hk₁ _ _ hoa) rfl (fun c e => by cases e) (PySem.W.looks_mroIn K1 SC.sub) (fun h2 e2 k2 => ?_)
  have K2 : K.In h2 := K1.keeps k2
  have keep2 : ∀ b o, s.heap.get? b = some o → h2.get? b = some o := fun b o q => k2 _ _ (hk₁ _ _ q)
  have hns2 : h2.Ns s.heap.objs.size (fun x => ([("self", Value.ref a), ("value", u)] : List (Str × Value)).reverse.lookup x) := by
    obtain ⟨o, es, ep, ho, r⟩ := hns
    exact ⟨o, es, ep, k2 _ _ ho, r⟩
  obtain ⟨cd, hcl⟩ : ∃ cd, PySem.W.clsIn K C = some cd := by
    cases q : PySem.W.clsIn K C with
    | some cd => exact ⟨cd, rfl⟩
    | none =>
      have z := SC.sub
      unfold PySem.W.mroIn at z
      rw [q] at z
      cases z
  have hsup : PySem.W.alongIn K "__init__" ((cd.mro.dropWhile (· != .ref D)).drop 1) = some (some (.ref f2)) := by
    have z := SC.sup
    unfold PySem.W.ks_superIn at z
    rw [hcl] at z
    exact z
  obtain ⟨of, hof, hofc⟩ : ∃ of, h2.get? f2 = some of ∧ of.cls = .type "function" := by
    have z : (K.lookup f2).map (·.cls) = some (.type "function") := SC.tf
    cases q : K.lookup f2 with
    | none => rw [q] at z; cases z
    | some of => rw [q] at z; exact ⟨of, K2 _ _ q, Option.some.inj z⟩
  have IA : PySem.W.InstAt s.heap a { cls := .ref C, dict := none, data := .fields #[.ref t1, .none, .none, .none, .bool false, .none] } C none := ⟨hoa, rfl, rfl, trivial⟩
  refine PySem.ks_wpAny_getMethod_super e2 (PySem.W.looks_opaque K2 SF.opq) (l₀ := cd.mro) (fun A Q E s k q => wpAny_bind ((PySem.W.looks_clsIn K2 hcl) A _ E s k (wpAny_pure q))) rfl K2 hsup hof hofc (PySem.W.ks_ne KX IA hcl) (by decide) ?_
  have k3 : ∀ b o, h2.get? b = some o → (h2.push { cls := .type "method", data := .fields #[.ref f2, .ref a] }).get? b = some o := fun b o q => Heap.get?_push_of_some _ q
  have hm : (h2.push { cls := .type "method", data := .fields #[.ref f2, .ref a] }).get? h2.objs.size = some { cls := .type "method", dict := none, data := .fields #[.ref f2, .ref a], slots := #[] } := Heap.get?_push_at rfl rfl
  have hns3 : (h2.push { cls := .type "method", data := .fields #[.ref f2, .ref a] }).Ns s.heap.objs.size (fun x => ([("self", Value.ref a), ("value", u)] : List (Str × Value)).reverse.lookup x) := by
    obtain ⟨o, es, ep, ho, r⟩ := hns2
    exact ⟨o, es, ep, k3 _ _ ho, r⟩
  have keep3 : ∀ b o, s.heap.get? b = some o → (h2.push { cls := .type "method", data := .fields #[.ref f2, .ref a] }).get? b = some o := fun b o q => k3 _ _ (keep2 _ _ q)
  refine PySem.W.callWith_of (P := PySem.W.MethP K h2.objs.size f2 (.ref a)) (by rfl) (PySem.W.keeps_M SC.fn) (PySem.Calls.evalArgs_plain ?_)
  refine spliced_more (wpAny_Name (wpAny_loadName_local rfl rfl hns3 rfl ?_) (by decide)) 
  refine spliced_none ⟨⟨hm, K2.keeps k3⟩, ?_⟩
  refine wpAny_call (PySem.ks_codeAny_call_bound hm ?_)
  have hL : s.heap.objs.size < (h2.push { cls := .type "method", data := .fields #[.ref f2, .ref a] }).objs.size := by
    obtain ⟨o, es, ep, ho, _⟩ := hns3
    exact Heap.lt_size ho
  have e1 : Env0 P w K mg base (A.deeper (callEnv (PySem.W.ksFn "__init__" qual (supA p.q1 p.q2) (supB p.p0 p.p1 p.p2 p.p3 p.p4 p.p5) supS .none kV doc pm an (.ref cda) ct cc) s.heap.objs.size f)) (callEnv (PySem.W.ksFn "__init__" qual (supA p.q1 p.q2) (supB p.p0 p.p1 p.p2 p.p3 p.p4 p.p5) supS .none kV doc pm an (.ref cda) ct cc) s.heap.objs.size f :: outer)
      ⟨h2.push { cls := .type "method", data := .fields #[.ref f2, .ref a] }, s.gens, s.drawn, s.toks + 2 + 1, s.os⟩ H :=
    { frames := Around.frames_deeper e0.frames
      mod := e0.mod
      bs := fun b o q => ⟨keep3 b o (kb b o q), (e0.bs b o q).2⟩
      bsz := Nat.le_of_lt (Nat.lt_of_le_of_lt e0.bsz hL)
      funs := by
        obtain ⟨o, es, ep, ho, hd, _⟩ := hns3
        refine ⟨fun z => (nomatch z), ⟨s.heap.objs.size, o, rfl, ?_, ho, fun vs z => by rw [hd] at z; cases z⟩, e0.funs.of_keeps fun b o q _ => ⟨o, keep3 b o q, rfl⟩⟩
        cases z : base.get? s.heap.objs.size with
        | none => rfl
        | some o => exact absurd (Heap.lt_size (kb _ _ z)) (Nat.lt_irrefl _)
      frf := fun b hb => by
        rcases List.mem_cons.mp hb with rfl | hb
        · exact e0.hok.fresh (Nat.le_refl _)
        · exact e0.frf b hb
      hok := e0.hok.kept keep3
      bare := e0.bare }
  have run := F2.goes (hr.deeper _) e1 (args := ⟨[.ref a, u], []⟩) (us := [.ref a, u] ++ []) (b2 _ [.ref a, u] (K2.keeps k3) rfl) (by rw [List.append_nil]; exact r) hsp
  refine codeAny_mono run ?_
  intro rr s' q
  match rr, q with
  | .error e, q => exact q.elim
  | .ok (.ret u'), ⟨v', H', os, bare, un, hok', rv, q'⟩ =>
    have fin : CE outer P w H s Q .none s' := ⟨.non, H', os, bare, un_frame (Nat.le_refl _) keep3 un, hok', rfl, q'⟩
    first
      | exact wpAt_of_wpAny (wpAny_execs_nil fin)
      | trace_state
end FT
namespace FT
open PySem PySem.Spec PyProof.Rows L2
theorem binds_sup {K : PySem.W.Frag} {qual : Str} {q1 q2 p0 p1 p2 p3 p4 p5 : Pos} {kV doc pm cdv ct : Value} {an : Option Addr} {cc : Addr} : Binds K (PySem.W.ksFn "__init__" qual (supA q1 q2) (supB p0 p1 p2 p3 p4 p5) supS .none kV doc pm an cdv ct cc) ["self", "value"] [] :=
  fun s us _ hl => match us, hl with
    | [_, _], _ => .of_eq rfl
def two {α : Type} : List α → List α → List α
  | [a], [b] => [a, b]
  | _, _ => []
def twoX {α : Type} : List α → List α → List α
  | [a], [b, c] => [a, c, b]
  | _, _ => []
def three {α : Type} : List α → List α → List α
  | [a], [b, c] => [a, b, c]
  | _, _ => []
theorem rel_two {vs : List V} {us : List Value} {zs : List V} {ws : List Value} (r : Vals vs us) (q : Vals zs ws) : Vals (two vs zs) (two us ws) := by
  cases r with
  | nil => exact .nil
  | cons a r =>
    cases r with
    | nil =>
      cases q with
      | nil => exact .nil
      | cons b q =>
        cases q with
        | nil => exact .cons a (.cons b .nil)
        | cons _ _ => exact .nil
    | cons _ _ => exact .nil
theorem rel_twoX {vs : List V} {us : List Value} {zs : List V} {ws : List Value} (r : Vals vs us) (q : Vals zs ws) : Vals (twoX vs zs) (twoX us ws) := by
  cases r with
  | nil => exact .nil
  | cons a r =>
    cases r with
    | nil =>
      cases q with
      | nil => exact .nil
      | cons b q =>
        cases q with
        | nil => exact .nil
        | cons c q =>
          cases q with
          | nil => exact .cons a (.cons c (.cons b .nil))
          | cons _ _ => exact .nil
    | cons _ _ => exact .nil
theorem kbinds_sup {P : Program} {K : PySem.W.Frag} {p : SPos} {qual : Str} {f D cc cda : Addr} {fd : FuncData} (S : SFun P K p qual f D cc cda fd) : KBinds K fd ["self", "value"] ["value"] two two := by
  obtain ⟨oc, od, kV, doc, pm, an, ct, osl, rfl, lk, hcd⟩ := S.ex
  refine ⟨fun s us ws _ hl => ?_, rel_two⟩
  match us, ws, hl with
  | [_], [_], _ => exact .of_eq rfl
theorem XT.supc {K : PySem.W.Frag} {mg : Str → Option Value} {x y : Str} {C D fI f2 : Addr} {up : List Addr} {ns ns2 fs fs2 : List Str} (T : XT K mg x C fI (D :: up) ns fs) (T2 : XT K mg y D f2 up ns2 fs2) (fn : PySem.W.fnIn K f2 = true) : SupC K C C f2 := by
  obtain ⟨q, N, bs, sn, sub, ab, col, dd, k0, k1, k2, k3, k5, h⟩ := T.cls
  obtain ⟨q', N', bs', sn', sub', ab', col', dd', k0', k1', k2', k3', k5', h'⟩ := T2.cls
  refine ⟨by rw [T.mro, List.contains_cons]; simp, ?_, T2.tI, fn⟩
  have e := T2.iC
  unfold PySem.W.findIn at e
  dsimp only at e
  rw [h'] at e
  unfold PySem.W.ks_superIn PySem.W.clsIn
  rw [h]
  show PySem.W.alongIn K "__init__" (((Value.ref C :: ((D :: up).map Value.ref ++ PySem.HandSPX.veTail)).dropWhile (· != .ref C)).drop 1) = _
  have z : ((Value.ref C :: ((D :: up).map Value.ref ++ PySem.HandSPX.veTail)).dropWhile (· != .ref C)).drop 1 = (D :: up).map Value.ref ++ PySem.HandSPX.veTail := by
    simp [List.dropWhile_cons]
  rw [z]
  exact e
end FT

/-! a value beside itself -/
namespace FT
open PySem PySem.Spec PyProof.Rows L2
/-- an item whose equality with itself needs no look inside -/
def easyV : V → Bool
  | .ref _ => true
  | v => flatB v
theorem easy_same {A : Around} {s : Shared} {v : V} {u u' : Value} (r : RelV v u) (r' : RelV v u') (f : easyV v = true) : SeqAt.EqAt A s u u' true := by
  cases v with
  | ref a =>
    cases (show u = Value.ref a from r)
    cases (show u' = Value.ref a from r')
    exact SeqAt.EqAt.same _
  | non => exact eqAt_same r r' f
  | bl _ => exact eqAt_same r r' f
  | int _ => exact eqAt_same r r' f
  | str _ => exact eqAt_same r r' f
  | byt _ => exact eqAt_same r r' f
  | flt _ => cases f
  | ty _ => cases f
theorem easy_items {A : Around} {s : Shared} : ∀ {xs : List V} {us us' : List Value}, Vals xs us → Vals xs us' → (∀ x ∈ xs, easyV x = true) → ∀ j (h1 : j < us.length) (h2 : j < us'.length), SeqAt.EqAt A s us[j] us'[j] true
  | _, _, _, .nil, .nil, _ => fun j h1 _ => absurd h1 (Nat.not_lt_zero j)
  | _, _, _, .cons a r, .cons a' r', f => fun j h1 h2 => match j with
    | 0 => easy_same a a' (f _ List.mem_cons_self)
    | j + 1 => easy_items r r' (fun x hx => f x (List.mem_cons_of_mem _ hx)) j (Nat.lt_of_succ_lt_succ h1) (Nat.lt_of_succ_lt_succ h2)
/-- a value that may stand beside itself -/
def SelfV (H : Hp) : V → Prop
  | .ref a => (∃ xs, H a = some (.lst xs) ∧ ∀ x ∈ xs, easyV x = true) ∨ (∃ xs, H a = some (.tup xs) ∧ ∀ x ∈ xs, easyV x = true) ∨ ∃ kvs, H a = some (.dK kvs) ∧ ∀ p ∈ kvs, valV kvs p.1 = some p.2 ∧ flatB p.2 = true
  | .non => True
  | .bl _ => True
  | .int _ => True
  | .str _ => True
  | _ => False
theorem SelfV.mono {H H' : Hp} {v : V} (h : SelfV H v) (s : ∀ a o, v = .ref a → H a = some o → H' a = some o) : SelfV H' v := by
  cases v with
  | ref a =>
    rcases h with ⟨xs, e, k⟩ | ⟨xs, e, k⟩ | ⟨xs, e, k⟩
    · exact .inl ⟨xs, s _ _ rfl e, k⟩
    · exact .inr (.inl ⟨xs, s _ _ rfl e, k⟩)
    · exact .inr (.inr ⟨xs, s _ _ rfl e, k⟩)
  | non => exact h
  | bl _ => exact h
  | int _ => exact h
  | str _ => exact h
  | byt _ => exact h
  | flt _ => exact h
  | ty _ => exact h
theorem SelfV.easy {H : Hp} {v : V} (h : SelfV H v) : easyV v = true := by
  cases v <;> first | rfl | exact (show False from h).elim
section
variable {X : Cx}
/-- x != x; [x, y] != [x, y] -/
def rNeS (K : PySem.W.Frag) : R2 := fun x y H Q => ((x = y ∧ SelfV H x) ∨ ∃ a b xs, x = .ref a ∧ y = .ref b ∧ H a = some (.lst xs) ∧ H b = some (.lst xs) ∧ ∀ x ∈ xs, easyV x = true) ∧ Q (.bl false) H
theorem ne_lists {pins : List (Addr × Obj)} {σ : L2.St} {H : Hp} {s : Shared} {Q : VK} {a b : Addr} {xs : List V} (hu : X.A.units < cLine) (I : Inv X pins σ H s) (h1 : H a = some (.lst xs)) (h2 : H b = some (.lst xs)) (f : ∀ x ∈ xs, easyV x = true) (q : Q (.bl false) H) :
    wpAny (model X.prog X.w) X.A (compareOp .NotEq (.ref a) (.ref b)) (EP X pins σ Q) X.xe s := by
  obtain ⟨us, r1, p1, _⟩ := I.list (SqL.of h1)
  obtain ⟨us', r2, p2, _⟩ := I.list (SqL.of h2)
  have hsz : us.toArray.size = us'.toArray.size := by
    rw [List.size_toArray, List.size_toArray, ← r1.length, ← r2.length]
  refine PySem.EqBoolInt.of_rcne (SeqAt.RcNeAt.lists (e := fun _ => true) p1.isList p2.isList hsz hu (fun j g1 g2 => ?_)) ?_
  · have k := easy_items (A := X.A.in1) (s := s) r1 r2 f j (by simpa using g1) (by simpa using g2)
    simpa using k
  · rw [show ((List.range us.toArray.size).all fun _ => true) = true from List.all_eq_true.mpr fun _ _ => rfl]
    exact ⟨.bl false, H, I, rfl, q⟩
theorem op_neS (hu : X.A.units + 64 < cLine) : OpR X (compareOp .NotEq) (rNeS X.K) := by
  have hu' : X.A.units < cLine := by omega
  rintro pins s σ H x y v u Q I rx ry ⟨h, q⟩
  rcases h with ⟨rfl, h⟩ | ⟨a, b, xs, rfl, rfl, h1, h2, f⟩
  · cases x with
    | ref a =>
      cases (show v = Value.ref a from rx)
      cases (show u = Value.ref a from ry)
      rcases h with ⟨xs, e, f⟩ | ⟨xs, e, f⟩ | ⟨kvs, e, f⟩
      · exact ne_lists hu' I e e f q
      · obtain ⟨us, r1, p1, _⟩ := I.tuple (SqT.of e)
        refine PySem.EqBoolInt.of_rcne (SeqAt.RcNeAt.tuples (e := fun _ => true) p1 p1 hu' (fun j g1 g2 => ?_)) ?_
        · have k := easy_items (A := X.A.in1) (s := s) r1 r1 f j (by simpa using g1) (by simpa using g2)
          simpa using k
        · have z : ((List.range (min us.toArray.size us.toArray.size)).all fun _ => true) = true := List.all_eq_true.mpr fun _ _ => rfl
          rw [z]
          have z2 : (us.toArray.size == us.toArray.size) = true := beq_self_eq_true _
          rw [z2]
          exact ⟨.bl false, H, I, rfl, q⟩
      · exact op_ne_dictA hu' pins s σ H (.ref a) (.ref a) _ _ Q I rfl rfl ⟨a, a, kvs, kvs, rfl, rfl, e, e, rfl, f, q⟩
    | non =>
      cases (show v = Value.none from rx)
      cases (show u = Value.none from ry)
      exact PySem.EqNone.ne_none_none ⟨.bl false, H, I, rfl, q⟩
    | bl b =>
      cases (show v = Value.bool b from rx)
      cases (show u = Value.bool b from ry)
      refine PyProof.Rows.ne_bool ⟨.bl false, H, I, ?_, q⟩
      show Value.bool (b != b) = Value.bool false
      rw [bne_self_eq_false]
    | int i =>
      obtain ⟨t, rfl⟩ := (show ∃ t, v = Value.int i t from rx)
      obtain ⟨t', rfl⟩ := (show ∃ t, u = Value.int i t from ry)
      refine PyProof.Rows.ne_int ⟨.bl false, H, I, ?_, q⟩
      show Value.bool (i != i) = Value.bool false
      rw [bne_self_eq_false]
    | str i =>
      obtain ⟨t, rfl⟩ := (show ∃ t, v = Value.str i t from rx)
      obtain ⟨t', rfl⟩ := (show ∃ t, u = Value.str i t from ry)
      refine PyProof.Rows.ne_str ⟨.bl false, H, I, ?_, q⟩
      show Value.bool (i != i) = Value.bool false
      rw [bne_self_eq_false]
    | byt _ => exact h.elim
    | flt _ => exact h.elim
    | ty _ => exact h.elim
  · cases (show v = Value.ref a from rx)
    cases (show u = Value.ref b from ry)
    exact ne_lists hu' I h1 h2 f q
end
end FT

namespace K00
open PySem PySem.Spec PyProof.Rows L2 FT
def top (i : Nat) : Stmt := PySem.Challenge.pw_flowtells_k00_errors_keep_their_fields.main.body.getD i (.Pass ⟨0, 0, 0, 0⟩)
def meth (i : Nat) : Stmt := match top i with | .ClassDef _ _ _ b .. => b.headD (.Pass ⟨0, 0, 0, 0⟩) | s => s
abbrev s__law_cruet : Stmt := top 14
abbrev s__law_dash : Stmt := top 15
abbrev s__law_one_of : Stmt := top 16
abbrev s__law_any : Stmt := top 17
abbrev s__law_kin : Stmt := top 18
abbrev s__law_stands : Stmt := top 19
abbrev s__law_parts_right : Stmt := top 20
abbrev s__law_fields_right : Stmt := top 21
abbrev s_law : Stmt := top 22
abbrev s_init_BadNumber : Stmt := meth 2
abbrev s_init_BadWeb : Stmt := meth 3
abbrev s_init_BadTable : Stmt := meth 4
abbrev s_init_BadLot : Stmt := meth 5
abbrev s_init_Misfit : Stmt := meth 6
abbrev s_init_Missing : Stmt := meth 7
abbrev s_init_Twice : Stmt := meth 10
abbrev s_init_TooMany : Stmt := meth 11
abbrev s_init_BadText : Stmt := meth 12
structure Ad where
  a__law_cruet : Addr
  d__law_cruet : FuncData
  a__law_dash : Addr
  d__law_dash : FuncData
  a__law_one_of : Addr
  d__law_one_of : FuncData
  a__law_any : Addr
  d__law_any : FuncData
  a__law_kin : Addr
  d__law_kin : FuncData
  a__law_stands : Addr
  d__law_stands : FuncData
  a__law_parts_right : Addr
  d__law_parts_right : FuncData
  a__law_fields_right : Addr
  d__law_fields_right : FuncData
  a_law : Addr
  d_law : FuncData
  c_NetError : Addr
  c_BadNumber : Addr
  c_BadWeb : Addr
  c_BadTable : Addr
  c_BadLot : Addr
  c_Misfit : Addr
  c_Missing : Addr
  c_NoPlace : Addr
  c_NoTie : Addr
  c_Twice : Addr
  c_TooMany : Addr
  c_BadText : Addr
  i_BadNumber : Addr
  d_init_BadNumber : FuncData
  i_BadWeb : Addr
  d_init_BadWeb : FuncData
  i_BadTable : Addr
  d_init_BadTable : FuncData
  i_BadLot : Addr
  d_init_BadLot : FuncData
  i_Misfit : Addr
  d_init_Misfit : FuncData
  i_Missing : Addr
  d_init_Missing : FuncData
  i_NoPlace : Addr
  d_init_NoPlace : FuncData
  i_NoTie : Addr
  d_init_NoTie : FuncData
  i_Twice : Addr
  d_init_Twice : FuncData
  i_TooMany : Addr
  d_init_TooMany : FuncData
  i_BadText : Addr
  d_init_BadText : FuncData
  cc_NoPlace : Addr
  cda_NoPlace : Addr
  cc_NoTie : Addr
  cda_NoTie : Addr
abbrev N__law_cruet : List Str := ["script", "cell"]
abbrev P__law_cruet : List Str := ["script"]
theorem sc__law_cruet : FnScope N__law_cruet P__law_cruet (defScope s__law_cruet) := ⟨rfl, rfl, rfl, by decide +kernel, rfl, by decide +kernel, by decide +kernel⟩
abbrev N__law_dash : List Str := ["cruet", "many", "left", "turn", "cell", "mixed"]
abbrev P__law_dash : List Str := ["cruet", "many"]
theorem sc__law_dash : FnScope N__law_dash P__law_dash (defScope s__law_dash) := ⟨rfl, rfl, rfl, by decide +kernel, rfl, by decide +kernel, by decide +kernel⟩
abbrev N__law_one_of : List Str := ["cruet", "some"]
abbrev P__law_one_of : List Str := ["cruet", "some"]
theorem sc__law_one_of : FnScope N__law_one_of P__law_one_of (defScope s__law_one_of) := ⟨rfl, rfl, rfl, by decide +kernel, rfl, by decide +kernel, by decide +kernel⟩
abbrev N__law_any : List Str := ["cruet", "number", "some"]
abbrev P__law_any : List Str := ["cruet"]
theorem sc__law_any : FnScope N__law_any P__law_any (defScope s__law_any) := ⟨rfl, rfl, rfl, by decide +kernel, rfl, by decide +kernel, by decide +kernel⟩
abbrev N__law_kin : List Str := ["error", "told"]
abbrev P__law_kin : List Str := ["error"]
theorem sc__law_kin : FnScope N__law_kin P__law_kin (defScope s__law_kin) := ⟨rfl, rfl, rfl, by decide +kernel, rfl, by decide +kernel, by decide +kernel⟩
abbrev N__law_stands : List Str := ["error", "at", "spot"]
abbrev P__law_stands : List Str := ["error", "at"]
theorem sc__law_stands : FnScope N__law_stands P__law_stands (defScope s__law_stands) := ⟨rfl, rfl, rfl, by decide +kernel, rfl, by decide +kernel, by decide +kernel⟩
abbrev N__law_parts_right : List Str := ["one", "made", "named", "at", "error"]
abbrev P__law_parts_right : List Str := ["one"]
theorem sc__law_parts_right : FnScope N__law_parts_right P__law_parts_right (defScope s__law_parts_right) := ⟨rfl, rfl, rfl, by decide +kernel, rfl, by decide +kernel, by decide +kernel⟩
abbrev N__law_fields_right : List Str := ["one", "other", "values", "at", "error", "base"]
abbrev P__law_fields_right : List Str := ["one", "other"]
theorem sc__law_fields_right : FnScope N__law_fields_right P__law_fields_right (defScope s__law_fields_right) := ⟨rfl, rfl, rfl, by decide +kernel, rfl, by decide +kernel, by decide +kernel⟩
abbrev N_law : List Str := ["script", "cruet", "turn", "one", "other"]
abbrev P_law : List Str := ["script"]
theorem sc_law : FnScope N_law P_law (defScope s_law) := ⟨rfl, rfl, rfl, by decide +kernel, rfl, by decide +kernel, by decide +kernel⟩
abbrev N_init_BadNumber : List Str := ["self", "part"]
abbrev P_init_BadNumber : List Str := ["self", "part"]
theorem sc_init_BadNumber : FnScope N_init_BadNumber P_init_BadNumber (defScope s_init_BadNumber) := ⟨rfl, rfl, rfl, by decide +kernel, rfl, by decide +kernel, by decide +kernel⟩
abbrev N_init_BadWeb : List Str := ["self", "part"]
abbrev P_init_BadWeb : List Str := ["self", "part"]
theorem sc_init_BadWeb : FnScope N_init_BadWeb P_init_BadWeb (defScope s_init_BadWeb) := ⟨rfl, rfl, rfl, by decide +kernel, rfl, by decide +kernel, by decide +kernel⟩
abbrev N_init_BadTable : List Str := ["self", "part"]
abbrev P_init_BadTable : List Str := ["self", "part"]
theorem sc_init_BadTable : FnScope N_init_BadTable P_init_BadTable (defScope s_init_BadTable) := ⟨rfl, rfl, rfl, by decide +kernel, rfl, by decide +kernel, by decide +kernel⟩
abbrev N_init_BadLot : List Str := ["self", "part"]
abbrev P_init_BadLot : List Str := ["self", "part"]
theorem sc_init_BadLot : FnScope N_init_BadLot P_init_BadLot (defScope s_init_BadLot) := ⟨rfl, rfl, rfl, by decide +kernel, rfl, by decide +kernel, by decide +kernel⟩
abbrev N_init_Misfit : List Str := ["self", "part"]
abbrev P_init_Misfit : List Str := ["self", "part"]
theorem sc_init_Misfit : FnScope N_init_Misfit P_init_Misfit (defScope s_init_Misfit) := ⟨rfl, rfl, rfl, by decide +kernel, rfl, by decide +kernel, by decide +kernel⟩
abbrev N_init_Missing : List Str := ["self", "value"]
abbrev P_init_Missing : List Str := ["self", "value"]
theorem sc_init_Missing : FnScope N_init_Missing P_init_Missing (defScope s_init_Missing) := ⟨rfl, rfl, rfl, by decide +kernel, rfl, by decide +kernel, by decide +kernel⟩
abbrev P_init_NoPlace : List Str := ["self", "value"]
abbrev P_init_NoTie : List Str := ["self", "value"]
abbrev N_init_Twice : List Str := ["self", "value"]
abbrev P_init_Twice : List Str := ["self", "value"]
theorem sc_init_Twice : FnScope N_init_Twice P_init_Twice (defScope s_init_Twice) := ⟨rfl, rfl, rfl, by decide +kernel, rfl, by decide +kernel, by decide +kernel⟩
abbrev N_init_TooMany : List Str := ["self", "what", "most"]
abbrev P_init_TooMany : List Str := ["self", "what", "most"]
theorem sc_init_TooMany : FnScope N_init_TooMany P_init_TooMany (defScope s_init_TooMany) := ⟨rfl, rfl, rfl, by decide +kernel, rfl, by decide +kernel, by decide +kernel⟩
abbrev N_init_BadText : List Str := ["self", "line", "item"]
abbrev P_init_BadText : List Str := ["self", "line", "item"]
theorem sc_init_BadText : FnScope N_init_BadText P_init_BadText (defScope s_init_BadText) := ⟨rfl, rfl, rfl, by decide +kernel, rfl, by decide +kernel, by decide +kernel⟩
structure Txt (P : Program) (K : PySem.W.Frag) (mg : Str → Option Value) (A : Ad) : Prop where
  g__law_cruet : mg "_law_cruet" = some (.ref A.a__law_cruet)
  F__law_cruet : Fun K "_law_cruet" "_law_cruet" s__law_cruet A.a__law_cruet A.d__law_cruet
  b__law_cruet : Binds K A.d__law_cruet P__law_cruet []
  g__law_dash : mg "_law_dash" = some (.ref A.a__law_dash)
  F__law_dash : Fun K "_law_dash" "_law_dash" s__law_dash A.a__law_dash A.d__law_dash
  b__law_dash : Binds K A.d__law_dash P__law_dash []
  g__law_one_of : mg "_law_one_of" = some (.ref A.a__law_one_of)
  F__law_one_of : Fun K "_law_one_of" "_law_one_of" s__law_one_of A.a__law_one_of A.d__law_one_of
  b__law_one_of : Binds K A.d__law_one_of P__law_one_of []
  g__law_any : mg "_law_any" = some (.ref A.a__law_any)
  F__law_any : Fun K "_law_any" "_law_any" s__law_any A.a__law_any A.d__law_any
  b__law_any : Binds K A.d__law_any P__law_any []
  g__law_kin : mg "_law_kin" = some (.ref A.a__law_kin)
  F__law_kin : Fun K "_law_kin" "_law_kin" s__law_kin A.a__law_kin A.d__law_kin
  b__law_kin : Binds K A.d__law_kin P__law_kin []
  g__law_stands : mg "_law_stands" = some (.ref A.a__law_stands)
  F__law_stands : Fun K "_law_stands" "_law_stands" s__law_stands A.a__law_stands A.d__law_stands
  b__law_stands : Binds K A.d__law_stands P__law_stands []
  g__law_parts_right : mg "_law_parts_right" = some (.ref A.a__law_parts_right)
  F__law_parts_right : Fun K "_law_parts_right" "_law_parts_right" s__law_parts_right A.a__law_parts_right A.d__law_parts_right
  b__law_parts_right : Binds K A.d__law_parts_right P__law_parts_right []
  g__law_fields_right : mg "_law_fields_right" = some (.ref A.a__law_fields_right)
  F__law_fields_right : Fun K "_law_fields_right" "_law_fields_right" s__law_fields_right A.a__law_fields_right A.d__law_fields_right
  b__law_fields_right : Binds K A.d__law_fields_right P__law_fields_right []
  g_law : mg "law" = some (.ref A.a_law)
  F_law : Fun K "law" "law" s_law A.a_law A.d_law
  b_law : Binds K A.d_law P_law []
  C_NetError : Cn K mg A.c_NetError "NetError"
  X_BadNumber : XT K mg "BadNumber" A.c_BadNumber A.i_BadNumber [A.c_NetError] ["NetError"] ["part"]
  F_init_BadNumber : Fun K "__init__" "BadNumber.__init__" s_init_BadNumber A.i_BadNumber A.d_init_BadNumber
  b_init_BadNumber : Binds K A.d_init_BadNumber P_init_BadNumber []
  X_BadWeb : XT K mg "BadWeb" A.c_BadWeb A.i_BadWeb [A.c_NetError] ["NetError"] ["part"]
  F_init_BadWeb : Fun K "__init__" "BadWeb.__init__" s_init_BadWeb A.i_BadWeb A.d_init_BadWeb
  b_init_BadWeb : Binds K A.d_init_BadWeb P_init_BadWeb []
  X_BadTable : XT K mg "BadTable" A.c_BadTable A.i_BadTable [A.c_NetError] ["NetError"] ["part"]
  F_init_BadTable : Fun K "__init__" "BadTable.__init__" s_init_BadTable A.i_BadTable A.d_init_BadTable
  b_init_BadTable : Binds K A.d_init_BadTable P_init_BadTable []
  X_BadLot : XT K mg "BadLot" A.c_BadLot A.i_BadLot [A.c_NetError] ["NetError"] ["part"]
  F_init_BadLot : Fun K "__init__" "BadLot.__init__" s_init_BadLot A.i_BadLot A.d_init_BadLot
  b_init_BadLot : Binds K A.d_init_BadLot P_init_BadLot []
  X_Misfit : XT K mg "Misfit" A.c_Misfit A.i_Misfit [A.c_NetError] ["NetError"] ["part"]
  F_init_Misfit : Fun K "__init__" "Misfit.__init__" s_init_Misfit A.i_Misfit A.d_init_Misfit
  b_init_Misfit : Binds K A.d_init_Misfit P_init_Misfit []
  X_Missing : XT K mg "Missing" A.c_Missing A.i_Missing [A.c_NetError] ["NetError"] ["value"]
  F_init_Missing : Fun K "__init__" "Missing.__init__" s_init_Missing A.i_Missing A.d_init_Missing
  b_init_Missing : Binds K A.d_init_Missing P_init_Missing []
  X_NoPlace : XT K mg "NoPlace" A.c_NoPlace A.i_NoPlace [A.c_Missing, A.c_NetError] ["Missing", "NetError"] ["value"]
  S_NoPlace : SFun P K ⟨⟨30, 17, 30, 21⟩, ⟨30, 23, 30, 28⟩, ⟨31, 8, 31, 13⟩, ⟨31, 8, 31, 15⟩, ⟨31, 8, 31, 24⟩, ⟨31, 25, 31, 30⟩, ⟨31, 8, 31, 31⟩, ⟨31, 8, 31, 31⟩⟩ "NoPlace.__init__" A.i_NoPlace A.c_NoPlace A.cc_NoPlace A.cda_NoPlace A.d_init_NoPlace
  U_NoPlace : SupC K A.c_NoPlace A.c_NoPlace A.i_Missing
  b_init_NoPlace : Binds K A.d_init_NoPlace P_init_NoPlace []
  X_NoTie : XT K mg "NoTie" A.c_NoTie A.i_NoTie [A.c_Missing, A.c_NetError] ["Missing", "NetError"] ["value"]
  S_NoTie : SFun P K ⟨⟨34, 17, 34, 21⟩, ⟨34, 23, 34, 28⟩, ⟨35, 8, 35, 13⟩, ⟨35, 8, 35, 15⟩, ⟨35, 8, 35, 24⟩, ⟨35, 25, 35, 30⟩, ⟨35, 8, 35, 31⟩, ⟨35, 8, 35, 31⟩⟩ "NoTie.__init__" A.i_NoTie A.c_NoTie A.cc_NoTie A.cda_NoTie A.d_init_NoTie
  U_NoTie : SupC K A.c_NoTie A.c_NoTie A.i_Missing
  b_init_NoTie : Binds K A.d_init_NoTie P_init_NoTie []
  X_Twice : XT K mg "Twice" A.c_Twice A.i_Twice [A.c_NetError] ["NetError"] ["value"]
  F_init_Twice : Fun K "__init__" "Twice.__init__" s_init_Twice A.i_Twice A.d_init_Twice
  b_init_Twice : Binds K A.d_init_Twice P_init_Twice []
  X_TooMany : XT K mg "TooMany" A.c_TooMany A.i_TooMany [A.c_NetError] ["NetError"] ["what", "most"]
  F_init_TooMany : Fun K "__init__" "TooMany.__init__" s_init_TooMany A.i_TooMany A.d_init_TooMany
  b_init_TooMany : Binds K A.d_init_TooMany P_init_TooMany []
  X_BadText : XT K mg "BadText" A.c_BadText A.i_BadText [A.c_NetError] ["NetError"] ["line", "item"]
  F_init_BadText : Fun K "__init__" "BadText.__init__" s_init_BadText A.i_BadText A.d_init_BadText
  b_init_BadText : Binds K A.d_init_BadText P_init_BadText []
  n_super : mg "super" = none
  n_ArithmeticError : mg "ArithmeticError" = none
  n_AttributeError : mg "AttributeError" = none
  n_LookupError : mg "LookupError" = none
  n_RuntimeError : mg "RuntimeError" = none
  n_TypeError : mg "TypeError" = none
  n_ValueError : mg "ValueError" = none
  n_abs : mg "abs" = none
  n_enumerate : mg "enumerate" = none
  n_int : mg "int" = none
  n_isinstance : mg "isinstance" = none
  n_len : mg "len" = none
  n_range : mg "range" = none
  n_str : mg "str" = none
section
variable {P : Program} {w : World} {K : PySem.W.Frag} {mg : Str → Option Value} {base : Heap} {A : Ad}
/-- a draw: an int below m; the bag's own list alone is changed -/
def sp_tip : Sp := fun vs H Q _ => ∃ (p c : Addr) (n : Nat) (m : Int), vs = [.ref p, .int m] ∧ Bg H p c n ∧ n ≤ 100000 ∧ 1 ≤ m ∧ m < 1073741824 ∧
  ∀ (x : Int) (H' : Hp), 0 ≤ x → x < m → Kp p H H' → Bg H' p c (n + 1) → Q (.int x) H'
theorem G__law_dash (T : Txt P K mg A) : FnG P w K mg base CX0 1 A.a__law_dash A.d__law_dash P__law_dash sp_tip := by
  refine okG T.F__law_dash sc__law_dash (fun vs H Q E h => ?_) (fun cdv A0 outer s H vs Q E hr h => ?_)
  · obtain ⟨p, c, n, m, rfl, _⟩ := h
    rfl
  obtain ⟨p, c, n, m, rfl, ⟨npc, ms, t, l, hp, hc, hms, t0, tn⟩, hn, m0, m1, k⟩ := h
  have t1 : t ≤ 100000 := by omega
  have hm : m ≠ 0 ∧ m.natAbs < 1073741824 := by omega
  refine ⟨_, (pss_cons (ps_if (pt_cmpR op_gt (pe_ix (r := rIxL K) ix_list (pv 0) pe_int (fun _ _ => rfl)) pe_int (nomark _)) (pss_cons (ps_set (i := 2) sc__law_dash.nd rfl (Or.inl rfl) (pe_callTy call_int1 (by rfl) T.n_int (by decide +kernel) (pa_cons (pe_ix (r := rIxL K) ix_list (pv 0) pe_int (fun _ _ => rfl)) pa_nil)))
      (pss_cons (ps_asg (pe_op op_fdivN (pv 2) (pv 1)) (pg_sub (pv 0) pe_int set_list))
      (pss_one (ps_ret (pe_op op_modN (pe_callTy call_int1 (by rfl) T.n_int (by decide +kernel) (pa_cons (pv 2) pa_nil)) (pv 1)))))) pss_nil)
      (pss_cons (ps_set (i := 3) sc__law_dash.nd rfl (Or.inl rfl) (pe_ix (r := rIxL K) ix_list (pv 0) pe_int (fun _ _ => rfl)))
      (pss_cons (ps_asg (pe_op op_add (pv 3) pe_int) (pg_sub (pv 0) pe_int set_list))
      (pss_cons (ps_set (i := 4) sc__law_dash.nd rfl (Or.inl rfl) (pe_op op_add (pe_op op_mul pe_int (pv 3)) pe_int))
      (pss_cons (ps_if (pt_cmpR (op_neD hr.room.units) (pe_ix (r := rIxL K) ix_list (pv 0) pe_int (fun _ _ => rfl)) (pe_lst pa_nil) (nomark _)) (pss_one (ps_set (i := 4) sc__law_dash.nd rfl (Or.inl rfl) (pe_ix (r := rIxL K) ix_list (pe_ix (r := rIxL K) ix_list (pv 0) pe_int (fun _ _ => rfl)) (pe_op op_modN (pe_callTy call_int1 (by rfl) T.n_int (by decide +kernel) (pa_cons (pv 3) pa_nil)) (pe_callB call_len_seq (by rfl) T.n_len (by decide +kernel) (pa_cons (pe_ix (r := rIxL K) ix_list (pv 0) pe_int (fun _ _ => rfl)) pa_nil))) (fun _ _ => rfl)))) pss_nil)
      (pss_cons (ps_if (PW.pt (pw_and (pt_cmpR op_lt (pv 3) (pe_callB call_len_seq (by rfl) T.n_len (by decide +kernel) (pa_cons (pe_ix (r := rIxL K) ix_list (pv 0) pe_int (fun _ _ => rfl)) pa_nil)) (nomark _)) (pw_and1 (pt_cmpR op_ge (pe_callB call_abs (by rfl) T.n_abs (by decide +kernel) (pa_cons (pv 4) pa_nil)) (pe_op op_pow pe_int pe_int) (nomark _))))) (pss_cons (ps_set (i := 2) sc__law_dash.nd rfl (Or.inl rfl) (pe_op op_add (pe_op op_mul pe_int (pe_op op_sub (pe_callB call_abs (by rfl) T.n_abs (by decide +kernel) (pa_cons (pe_callTy call_int1 (by rfl) T.n_int (by decide +kernel) (pa_cons (pv 4) pa_nil)) pa_nil)) (pe_op op_pow pe_int pe_int))) (pe_callTy call_int1 (by rfl) T.n_int (by decide +kernel) (pa_cons (pe_cmpR op_lt (pv 4) pe_int (nomark _)) pa_nil))))
      (pss_cons (ps_asg (pe_op op_fdivN (pv 2) (pv 1)) (pg_sub (pv 0) pe_int set_list))
      (pss_one (ps_ret (pe_op op_modN (pe_callTy call_int1 (by rfl) T.n_int (by decide +kernel) (pa_cons (pv 2) pa_nil)) (pv 1)))))) pss_nil)
      (pss_cons (ps_set (i := 5) sc__law_dash.nd rfl (Or.inl rfl) (pe_op op_modN (pe_callTy call_int1 (by rfl) T.n_int (by decide +kernel) (pa_cons (pe_op op_pow (pe_op op_add (pe_op op_add (pe_op op_modN (pe_callTy call_int1 (by rfl) T.n_int (by decide +kernel) (pa_cons (pv 4) pa_nil)) pe_int) (pe_op op_mul pe_int (pv 3))) pe_int) pe_int) pa_nil)) pe_int))
      (pss_cons (ps_set (i := 5) sc__law_dash.nd rfl (Or.inl rfl) (pe_op op_modN (pe_callTy call_int1 (by rfl) T.n_int (by decide +kernel) (pa_cons (pe_op op_pow (pe_op op_add (pe_op op_add (pe_op op_mul (pv 5) (pe_op op_add (pe_op op_mul pe_int (pv 3)) pe_int)) (pe_op op_mul (pe_op op_mul pe_int (pv 3)) (pv 3))) pe_int) pe_int) pa_nil)) pe_int))
      (pss_one (ps_ret (pe_op op_modN (pe_callTy call_int1 (by rfl) T.n_int (by decide +kernel) (pa_cons (pe_op op_fdivN (pv 5) pe_int) pa_nil)) (pv 1)))))))))))), ?_⟩
  refine ⟨_, rfl, _, _, _, _, rfl, rfl, SqL.of hp, rfl, _, _, rfl, rfl, _, rfl, ite2 (fun _ => ?_) (fun _ => ?_)⟩
  · refine ⟨_, rfl, _, _, _, _, rfl, rfl, SqL.of hp, rfl, Or.inl ⟨_, rfl, ?_⟩⟩
    refine ⟨_, rfl, _, rfl, _, _, rfl, rfl, hm, _, rfl, _, _, _, _, rfl, rfl, hp, rfl, ?_⟩
    refine ⟨_, rfl, Or.inl ⟨_, rfl, _, rfl, _, _, rfl, rfl, hm.1, ?_⟩⟩
    exact k _ _ (mod_fits m0).1 (mod_fits m0).2 (Kp.refl p H).put ⟨npc, ms, t, _, upd_same, (Kp.refl p H).put c _ npc hc, hms, t0, by omega⟩
  · refine ⟨_, rfl, _, _, _, _, rfl, rfl, SqL.of hp, rfl, ?_⟩
    refine ⟨_, rfl, _, _, rfl, rfl, _, rfl, _, _, _, _, rfl, rfl, hp, rfl, ?_⟩
    refine ⟨_, rfl, _, _, rfl, rfl, .inl ⟨by decide, by decide⟩, _, _, rfl, rfl, ?_⟩
    have k1 : Kp p H (upd H p (.lst [.ref c, .int (t + 1), .int l])) := (Kp.refl p H).put
    have hp1 : (upd H p (.lst [.ref c, .int (t + 1), .int l])) p = some (.lst [.ref c, .int (t + 1), .int l]) := upd_same
    have hc1 := k1 c _ npc hc
    try dsimp only
    refine seq_cut (fun σ' H' => ∃ x : Int, σ' = [some (.ref p), some (.int m), none, some (.int t), some (.int x), none] ∧ Kp p H H' ∧ H' p = some (.lst [.ref c, .int (t + 1), .int l]) ∧ H' c = some (.lst (ms.map V.int))) (fun N hN => ?_) ?_
    · refine ⟨_, rfl, _, _, _, _, rfl, rfl, SqL.of hp1, rfl, Nat.zero_le _, fun q hq => ?_⟩
      have hp2 := at_new (u := .lst []) hp1 hq
      have hc2 := at_new (u := .lst []) hc1 hq
      refine ⟨.list (ms.map PyData.int), .list ([].map PyData.int), .lst (SqL.of hc2) (dp_ints ms), .lst (SqL.of upd_same) (dp_ints []), shaped_ints _, shaped_ints [], ?_⟩
      rw [eqv_list]
      refine ⟨_, rfl, ?_⟩
      by_cases e : ms = []
      · rw [decide_eq_true e]
        exact iteF (hN _ _ ⟨_, rfl, k1.new hq, hp2, hc2⟩)
      · rw [decide_eq_false e]
        obtain ⟨x, hx⟩ := at_mod t e
        have hl : ((ms.map V.int).length : Int) ≠ 0 := by
          rw [List.length_map]
          have := List.length_pos_iff.mpr e
          omega
        have hx' : atI (ms.map V.int) (t.fmod ((ms.map V.int).length : Int)) = some (.int x) := by
          rw [List.length_map]
          exact hx
        refine iteT ⟨_, rfl, _, _, _, _, rfl, rfl, SqL.of hp2, rfl, _, rfl, Or.inl ⟨_, rfl, _, rfl, _, _, _, _, rfl, rfl, SqL.of hp2, rfl, _, _, rfl, .inl (SqL.of hc2), _, _, rfl, rfl, hl, _, _, _, _, rfl, rfl, SqL.of hc2, hx', ?_⟩⟩
        exact hN _ _ ⟨x, rfl, k1.new hq, hp2, hc2⟩
    · rintro σ' H2 ⟨x, rfl, k2, hp2, hc2⟩
      try dsimp only
      refine seq_cut (fun σ' H' => σ' = [some (.ref p), some (.int m), none, some (.int t), some (.int x), none] ∧ H' = H2) (fun N hN => ?_) ?_
      · refine ⟨_, rfl, _, rfl, _, _, _, _, rfl, rfl, SqL.of hp2, rfl, _, _, rfl, .inl (SqL.of hc2), _, _, rfl, rfl, _, rfl, ite2 (fun _ => ?_) (fun _ => iteF (hN _ _ ⟨rfl, rfl⟩))⟩
        refine ⟨_, rfl, _, rfl, _, _, rfl, rfl, ⟨by decide, by decide, by decide⟩, _, _, rfl, rfl, _, rfl, ite2 (fun _ => ?_) (fun _ => hN _ _ ⟨rfl, rfl⟩)⟩
        refine ⟨_, rfl, Or.inl ⟨_, rfl, _, rfl, _, _, rfl, rfl, ⟨by decide, by decide, by decide⟩, _, _, rfl, rfl, _, _, rfl, rfl, .inl ⟨by decide, by decide⟩, _, rfl, _, _, rfl, rfl, Or.inr ⟨_, rfl, _, _, rfl, rfl, ?_⟩⟩⟩
        refine ⟨_, rfl, _, rfl, _, _, rfl, rfl, hm, _, rfl, _, _, _, _, rfl, rfl, hp2, rfl, ?_⟩
        refine ⟨_, rfl, Or.inl ⟨_, rfl, _, rfl, _, _, rfl, rfl, hm.1, ?_⟩⟩
        exact k _ _ (mod_fits m0).1 (mod_fits m0).2 k2.put ⟨npc, ms, t + 1, _, upd_same, k2.put c _ npc hc, hms, by omega, by omega⟩
      · rintro _ _ ⟨rfl, rfl⟩
        refine ⟨_, rfl, Or.inl ⟨_, rfl, _, _, rfl, rfl, by dsimp only; decide, _, rfl, _, _, rfl, rfl, .inl ⟨by decide, by decide⟩, _, _, rfl, rfl, _, _, rfl, rfl, _, _, rfl, rfl, ⟨by decide, by decide, ?_⟩, Or.inl ⟨_, rfl, _, _, rfl, rfl, by dsimp only; decide, ?_⟩⟩⟩
        · have := mod_fits (i := x) (m := 2147483549) (by decide)
          omega
        dsimp only
        generalize hy : Int.fmod ((x.fmod 2147483549 + 80021 * t + 9011) ^ (5 : Int).toNat) 2147483563 = y
        have hy2 : 0 ≤ y ∧ y < 2147483563 := hy ▸ mod_fits (by decide)
        clear hy
        have f1 : 0 ≤ y * (2 * t + 6007) := Int.mul_nonneg hy2.1 (by omega)
        have f2 : y * (2 * t + 6007) ≤ 2147483563 * (2 * t + 6007) := Int.mul_le_mul_of_nonneg_right (by omega) (by omega)
        have f3 : 0 ≤ 120011 * t * t := Int.mul_nonneg (by omega) t0
        have f4 : 120011 * t * t ≤ 120011 * 100000 * t := Int.mul_le_mul_of_nonneg_right (by omega) t0
        refine ⟨_, rfl, _, rfl, _, _, rfl, rfl, .inl ⟨by decide, by decide⟩, _, _, rfl, rfl, _, _, rfl, rfl, .inl ⟨by omega, by omega⟩, _, rfl, _, _, rfl, rfl, .inl ⟨by decide, by decide⟩, _, rfl, _, _, rfl, rfl, .inl ⟨by omega, by omega⟩, _, _, rfl, rfl, _, _, rfl, rfl, _, _, rfl, rfl, ⟨by decide, by decide, by omega⟩, Or.inl ⟨_, rfl, _, _, rfl, rfl, by dsimp only; decide, ?_⟩⟩
        refine ⟨_, rfl, _, _, rfl, rfl, ⟨by decide, by decide⟩, Or.inl ⟨_, rfl, _, rfl, _, _, rfl, rfl, hm.1, ?_⟩⟩
        exact k _ _ (mod_fits m0).1 (mod_fits m0).2 k2 ⟨npc, ms, t + 1, _, hp2, hc2, hms, by omega, by omega⟩

/-- the bag is made -/
def sp_bag (K : PySem.W.Frag) : Sp := fun vs H Q _ => ∃ (a : Addr) (ns : List Int), vs = [.ref a] ∧ SqL K H a (ns.map V.int) ∧ ns.length ≤ 63 ∧
  ∀ (p c : Addr) (H' : Hp), Same H H' → H p = none → H c = none → Bg H' p c 0 → Q (.ref p) H'
theorem G__law_cruet (T : Txt P K mg A) : FnG P w K mg base CX0 1 A.a__law_cruet A.d__law_cruet P__law_cruet (sp_bag K) := by
  refine okG T.F__law_cruet sc__law_cruet (fun vs H Q E h => ?_) (fun cdv A0 outer s H vs Q E hr h => ?_)
  · obtain ⟨a, ns, rfl, _⟩ := h
    rfl
  obtain ⟨a, ns, rfl, hS, hl, k⟩ := h
  refine ⟨_, (pss_one (ps_ret (pe_lst (pa_cons (pe_lc (own := [("cell", 1)]) (g := gName 1) (tt := tYes) rfl sc__law_cruet.nd (pi_list (pe_slice (r := rSlL K) sl_list (pv 0) po_none (po_some pe_int))) (blkOk_by (N := N__law_cruet) (sc := defScope s__law_cruet) (by decide +kernel)) (fun _ _ _ _ _ => (pg_name (i := 1) sc__law_cruet.nd rfl (Or.inl rfl))) (fun _ _ _ _ _ => pts_nil) (fun _ _ _ _ _ => (pe_callTy call_int1 (by rfl) T.n_int (by decide +kernel) (pa_cons (pv 1) pa_nil)))) (pa_cons pe_int (pa_cons pe_int pa_nil)))))), ?_⟩
  refine ⟨_, rfl, _, rfl, a, _, rfl, hS, fun q hq => ?_⟩
  obtain ⟨ms, em, lm⟩ : ∃ ms : List Int, cutV (ns.map V.int) none (some 60) = ms.map V.int ∧ ms.length ≤ 63 := by
    refine ⟨(ns.drop (HT.sIx ns.length 0 none)).take (HT.sIx ns.length ns.length (some 60) - HT.sIx ns.length 0 none), ?_, ?_⟩
    · unfold cutV
      rw [List.length_map, List.map_take, List.map_drop]
    · rw [List.length_take, List.length_drop]
      omega
  rw [em]
  refine ⟨q, rfl, ⟨_, SqL.of upd_same⟩, fun D hD => ?_⟩
  have s1 : Same H (upd H q (.lst (ms.map V.int))) := Same.new (fun _ _ h => h) hq
  have nD : H D = none := s1.free hD
  have nqD : q ≠ D := ne_of_none upd_same hD
  refine lc_list (K := K) (a := q) (xs := ms.map V.int) (fun i H' => Same H H' ∧ H' q = some (.lst (ms.map V.int)) ∧ H' D = some (.lst ((ms.take i).map V.int)))
    ⟨Same.new s1 hD, by rw [upd_ne nqD, upd_same], upd_same⟩ (fun i H' _ h => SqL.of h.2.1) ?_ ?_
  · rintro i x H' hx ⟨s2, hq2, hD2⟩
    obtain ⟨z, hz, rfl⟩ : ∃ z, ms[i]? = some z ∧ x = V.int z := by
      rw [List.getElem?_map] at hx
      cases e : ms[i]? with
      | none => rw [e] at hx; cases hx
      | some z => rw [e] at hx; exact ⟨z, rfl, (Option.some.inj hx).symm⟩
    have hi : i < ms.length := (List.getElem?_eq_some_iff.mp hz).1
    refine ⟨rfl, tYes_of (iteT ⟨_, rfl, Or.inl ⟨_, rfl, _, hD2, ?_, ?_, ?_, ?_⟩⟩)⟩
    · rw [List.length_map, List.length_take]
      exact small1000 (by omega)
    · intro b o h
      rw [upd_ne (ne_of_none h nD)]
      exact s2 _ _ h
    · rw [upd_ne nqD]
      exact hq2
    · rw [upd_same, List.take_succ, hz]
      simp
  · rintro H' ⟨s2, hq2, hD2⟩
    refine ⟨by show 3 ≤ sizeLine; decide, fun p hp => ?_⟩
    rw [List.take_of_length_le (by rw [List.length_map]; exact Nat.le_refl _)] at hD2
    have npD : D ≠ p := ne_of_none hD2 hp
    refine k p D _ (Same.new s2 hp) (s2.free hp) nD ⟨npD, ms, 0, 0, upd_same, ?_, lm, Int.le_refl _, Int.le_refl _⟩
    rw [upd_ne npD]
    exact hD2
/-- one of some -/
def sp_some : Sp := fun vs H Q _ => ∃ (p c q : Addr) (n : Nat) (xs : List V), vs = [.ref p, .ref q] ∧ Bg H p c n ∧ n ≤ 100000 ∧ H q = some (.lst xs) ∧ q ≠ p ∧ 1 ≤ xs.length ∧ xs.length ≤ 1000 ∧
  ∀ (v : V) (H' : Hp), v ∈ xs → Kp p H H' → Bg H' p c (n + 1) → Q v H'
theorem G__law_one_of (T : Txt P K mg A) : FnG P w K mg base CX0 2 A.a__law_one_of A.d__law_one_of P__law_one_of sp_some := by
  refine okG T.F__law_one_of sc__law_one_of (fun vs H Q E h => ?_) (fun cdv A0 outer s H vs Q E hr h => ?_)
  · obtain ⟨p, c, q, n, xs, rfl, _⟩ := h
    rfl
  obtain ⟨p, c, q, n, xs, rfl, bg, hn, hq, nqp, h1, h2, k⟩ := h
  refine ⟨_, (pss_one (ps_ret (pe_ix (r := rIxL K) ix_list (pv 1) (pe_callG (G__law_dash T) (hr.mono (by decide)) rfl T.g__law_dash T.F__law_dash.kp T.b__law_dash .nil pass0 (pa_cons (pv 0) (pa_cons (pe_callB call_len_seq (by rfl) T.n_len (by decide +kernel) (pa_cons (pv 1) pa_nil)) pa_nil))) (fun _ _ => rfl)))), ?_⟩
  refine ⟨_, rfl, _, rfl, _, rfl, _, _, rfl, .inl (SqL.of hq), p, c, n, _, rfl, bg, hn, by omega, by omega, fun x H' x0 x1 kp bg' => ?_⟩
  obtain ⟨j, rfl⟩ : ∃ j : Nat, x = (j : Int) := ⟨x.toNat, by omega⟩
  have hj : j < xs.length := by omega
  refine ⟨_, _, _, _, rfl, rfl, SqL.of (kp q _ nqp hq), atI_nat (List.getElem?_eq_getElem hj), ?_⟩
  exact k _ _ (List.getElem_mem hj) kp bg'

/-! ### the errors are made -/
theorem upd_kp {H : Hp} {a dx : Addr} {o u : HO} (hd : H dx = none) (hda : dx ≠ a) : Kp a H (upd (upd H dx o) a u) := by
  intro b v n h
  rw [upd_ne n, upd_ne (ne_of_none h hd)]
  exact h
/-- an __init__ that keeps one thing -/
def sp1 (K : PySem.W.Frag) (f : Str) : Sp := fun vs H Q _ => ∃ (a C : Addr) (v : V), vs = [.ref a, v] ∧ OexC K C ∧ PySem.W.findIn K (.ref C) f = some none ∧ H a = some (exo a C none) ∧ ∀ H', ExV H' a C [(f, v)] → Kp a H H' → Q .non H'
/-- an __init__ that keeps two -/
def sp2 (K : PySem.W.Frag) (f g : Str) : Sp := fun vs H Q _ => ∃ (a C : Addr) (v u : V), vs = [.ref a, v, u] ∧ OexC K C ∧ PySem.W.findIn K (.ref C) f = some none ∧ PySem.W.findIn K (.ref C) g = some none ∧ H a = some (exo a C none) ∧ ∀ H', ExV H' a C [(g, u), (f, v)] → Kp a H H' → Q .non H'
theorem G_init_BadNumber (T : Txt P K mg A) : FnG P w K mg base CX0 1 A.i_BadNumber A.d_init_BadNumber P_init_BadNumber (sp1 K "part") := by
  refine okG T.F_init_BadNumber sc_init_BadNumber (fun vs H Q E h => ?_) (fun cdv A0 outer s H vs Q E hr h => ?_)
  · obtain ⟨a, C, v, rfl, _⟩ := h
    rfl
  obtain ⟨a, C, v, rfl, o, n1, ha, k⟩ := h
  refine ⟨_, (pss_one (ps_ost (pv 0) (pv 1))), ?_⟩
  refine ⟨_, rfl, _, rfl, a, C, rfl, o, n1, .inl ⟨ha, fun dx hd hda => ?_⟩⟩
  exact k _ ⟨dx, upd_same, by rw [upd_ne hda]; exact upd_same⟩ (upd_kp hd hda)
theorem kb_init_BadNumber_part (T : Txt P K mg A) : KBinds K A.d_init_BadNumber P_init_BadNumber ["part"] two two :=
  kbindsF T.F_init_BadNumber rel_two fun _ _ _ _ _ _ us ws hl => match us, ws, hl with
    | [_], [_], _ => rfl
theorem G_init_BadWeb (T : Txt P K mg A) : FnG P w K mg base CX0 1 A.i_BadWeb A.d_init_BadWeb P_init_BadWeb (sp1 K "part") := by
  refine okG T.F_init_BadWeb sc_init_BadWeb (fun vs H Q E h => ?_) (fun cdv A0 outer s H vs Q E hr h => ?_)
  · obtain ⟨a, C, v, rfl, _⟩ := h
    rfl
  obtain ⟨a, C, v, rfl, o, n1, ha, k⟩ := h
  refine ⟨_, (pss_one (ps_ost (pv 0) (pv 1))), ?_⟩
  refine ⟨_, rfl, _, rfl, a, C, rfl, o, n1, .inl ⟨ha, fun dx hd hda => ?_⟩⟩
  exact k _ ⟨dx, upd_same, by rw [upd_ne hda]; exact upd_same⟩ (upd_kp hd hda)
theorem kb_init_BadWeb_part (T : Txt P K mg A) : KBinds K A.d_init_BadWeb P_init_BadWeb ["part"] two two :=
  kbindsF T.F_init_BadWeb rel_two fun _ _ _ _ _ _ us ws hl => match us, ws, hl with
    | [_], [_], _ => rfl
theorem G_init_BadTable (T : Txt P K mg A) : FnG P w K mg base CX0 1 A.i_BadTable A.d_init_BadTable P_init_BadTable (sp1 K "part") := by
  refine okG T.F_init_BadTable sc_init_BadTable (fun vs H Q E h => ?_) (fun cdv A0 outer s H vs Q E hr h => ?_)
  · obtain ⟨a, C, v, rfl, _⟩ := h
    rfl
  obtain ⟨a, C, v, rfl, o, n1, ha, k⟩ := h
  refine ⟨_, (pss_one (ps_ost (pv 0) (pv 1))), ?_⟩
  refine ⟨_, rfl, _, rfl, a, C, rfl, o, n1, .inl ⟨ha, fun dx hd hda => ?_⟩⟩
  exact k _ ⟨dx, upd_same, by rw [upd_ne hda]; exact upd_same⟩ (upd_kp hd hda)
theorem kb_init_BadTable_part (T : Txt P K mg A) : KBinds K A.d_init_BadTable P_init_BadTable ["part"] two two :=
  kbindsF T.F_init_BadTable rel_two fun _ _ _ _ _ _ us ws hl => match us, ws, hl with
    | [_], [_], _ => rfl
theorem G_init_BadLot (T : Txt P K mg A) : FnG P w K mg base CX0 1 A.i_BadLot A.d_init_BadLot P_init_BadLot (sp1 K "part") := by
  refine okG T.F_init_BadLot sc_init_BadLot (fun vs H Q E h => ?_) (fun cdv A0 outer s H vs Q E hr h => ?_)
  · obtain ⟨a, C, v, rfl, _⟩ := h
    rfl
  obtain ⟨a, C, v, rfl, o, n1, ha, k⟩ := h
  refine ⟨_, (pss_one (ps_ost (pv 0) (pv 1))), ?_⟩
  refine ⟨_, rfl, _, rfl, a, C, rfl, o, n1, .inl ⟨ha, fun dx hd hda => ?_⟩⟩
  exact k _ ⟨dx, upd_same, by rw [upd_ne hda]; exact upd_same⟩ (upd_kp hd hda)
theorem kb_init_BadLot_part (T : Txt P K mg A) : KBinds K A.d_init_BadLot P_init_BadLot ["part"] two two :=
  kbindsF T.F_init_BadLot rel_two fun _ _ _ _ _ _ us ws hl => match us, ws, hl with
    | [_], [_], _ => rfl
theorem G_init_Misfit (T : Txt P K mg A) : FnG P w K mg base CX0 1 A.i_Misfit A.d_init_Misfit P_init_Misfit (sp1 K "part") := by
  refine okG T.F_init_Misfit sc_init_Misfit (fun vs H Q E h => ?_) (fun cdv A0 outer s H vs Q E hr h => ?_)
  · obtain ⟨a, C, v, rfl, _⟩ := h
    rfl
  obtain ⟨a, C, v, rfl, o, n1, ha, k⟩ := h
  refine ⟨_, (pss_one (ps_ost (pv 0) (pv 1))), ?_⟩
  refine ⟨_, rfl, _, rfl, a, C, rfl, o, n1, .inl ⟨ha, fun dx hd hda => ?_⟩⟩
  exact k _ ⟨dx, upd_same, by rw [upd_ne hda]; exact upd_same⟩ (upd_kp hd hda)
theorem kb_init_Misfit_part (T : Txt P K mg A) : KBinds K A.d_init_Misfit P_init_Misfit ["part"] two two :=
  kbindsF T.F_init_Misfit rel_two fun _ _ _ _ _ _ us ws hl => match us, ws, hl with
    | [_], [_], _ => rfl
theorem G_init_Missing (T : Txt P K mg A) : FnG P w K mg base CX0 1 A.i_Missing A.d_init_Missing P_init_Missing (sp1 K "value") := by
  refine okG T.F_init_Missing sc_init_Missing (fun vs H Q E h => ?_) (fun cdv A0 outer s H vs Q E hr h => ?_)
  · obtain ⟨a, C, v, rfl, _⟩ := h
    rfl
  obtain ⟨a, C, v, rfl, o, n1, ha, k⟩ := h
  refine ⟨_, (pss_one (ps_ost (pv 0) (pv 1))), ?_⟩
  refine ⟨_, rfl, _, rfl, a, C, rfl, o, n1, .inl ⟨ha, fun dx hd hda => ?_⟩⟩
  exact k _ ⟨dx, upd_same, by rw [upd_ne hda]; exact upd_same⟩ (upd_kp hd hda)
theorem kb_init_Missing_value (T : Txt P K mg A) : KBinds K A.d_init_Missing P_init_Missing ["value"] two two :=
  kbindsF T.F_init_Missing rel_two fun _ _ _ _ _ _ us ws hl => match us, ws, hl with
    | [_], [_], _ => rfl
theorem G_init_NoPlace (T : Txt P K mg A) : FnG P w K mg base CX0 2 A.i_NoPlace A.d_init_NoPlace P_init_NoPlace (spSup K A.c_NoPlace A.i_Missing (sp1 K "value")) := super_init T.S_NoPlace T.X_NoPlace.cnm T.n_super (fun env => rfl) (G_init_Missing T) T.b_init_Missing
theorem kb_init_NoPlace_value (T : Txt P K mg A) : KBinds K A.d_init_NoPlace P_init_NoPlace ["value"] two two := kbinds_sup T.S_NoPlace
theorem G_init_NoTie (T : Txt P K mg A) : FnG P w K mg base CX0 2 A.i_NoTie A.d_init_NoTie P_init_NoTie (spSup K A.c_NoTie A.i_Missing (sp1 K "value")) := super_init T.S_NoTie T.X_NoTie.cnm T.n_super (fun env => rfl) (G_init_Missing T) T.b_init_Missing
theorem kb_init_NoTie_value (T : Txt P K mg A) : KBinds K A.d_init_NoTie P_init_NoTie ["value"] two two := kbinds_sup T.S_NoTie
theorem G_init_Twice (T : Txt P K mg A) : FnG P w K mg base CX0 1 A.i_Twice A.d_init_Twice P_init_Twice (sp1 K "value") := by
  refine okG T.F_init_Twice sc_init_Twice (fun vs H Q E h => ?_) (fun cdv A0 outer s H vs Q E hr h => ?_)
  · obtain ⟨a, C, v, rfl, _⟩ := h
    rfl
  obtain ⟨a, C, v, rfl, o, n1, ha, k⟩ := h
  refine ⟨_, (pss_one (ps_ost (pv 0) (pv 1))), ?_⟩
  refine ⟨_, rfl, _, rfl, a, C, rfl, o, n1, .inl ⟨ha, fun dx hd hda => ?_⟩⟩
  exact k _ ⟨dx, upd_same, by rw [upd_ne hda]; exact upd_same⟩ (upd_kp hd hda)
theorem kb_init_Twice_value (T : Txt P K mg A) : KBinds K A.d_init_Twice P_init_Twice ["value"] two two :=
  kbindsF T.F_init_Twice rel_two fun _ _ _ _ _ _ us ws hl => match us, ws, hl with
    | [_], [_], _ => rfl
theorem G_init_TooMany (T : Txt P K mg A) : FnG P w K mg base CX0 1 A.i_TooMany A.d_init_TooMany P_init_TooMany (sp2 K "what" "most") := by
  refine okG T.F_init_TooMany sc_init_TooMany (fun vs H Q E h => ?_) (fun cdv A0 outer s H vs Q E hr h => ?_)
  · obtain ⟨a, C, v, u, rfl, _⟩ := h
    rfl
  obtain ⟨a, C, v, u, rfl, o, n1, n2, ha, k⟩ := h
  refine ⟨_, (pss_cons (ps_ost (pv 0) (pv 1)) (pss_one (ps_ost (pv 0) (pv 2)))), ?_⟩
  refine ⟨_, rfl, _, rfl, a, C, rfl, o, n1, .inl ⟨ha, fun dx hd hda => ?_⟩⟩
  refine ⟨_, rfl, _, rfl, a, C, rfl, o, n2, .inr ⟨dx, _, upd_same, by rw [upd_ne hda]; exact upd_same, by show 1 ≤ 900; decide, ?_⟩⟩
  refine k _ ⟨dx, by rw [upd_ne (Ne.symm hda)]; exact upd_same, upd_same⟩ ?_
  intro b v n h
  rw [upd_ne (ne_of_none h hd)]
  exact upd_kp hd hda b v n h
theorem kb_init_TooMany_most_what (T : Txt P K mg A) : KBinds K A.d_init_TooMany P_init_TooMany ["most", "what"] twoX twoX :=
  kbindsF T.F_init_TooMany rel_twoX fun _ _ _ _ _ _ us ws hl => match us, ws, hl with
    | [_], [_, _], _ => rfl
theorem G_init_BadText (T : Txt P K mg A) : FnG P w K mg base CX0 1 A.i_BadText A.d_init_BadText P_init_BadText (sp2 K "line" "item") := by
  refine okG T.F_init_BadText sc_init_BadText (fun vs H Q E h => ?_) (fun cdv A0 outer s H vs Q E hr h => ?_)
  · obtain ⟨a, C, v, u, rfl, _⟩ := h
    rfl
  obtain ⟨a, C, v, u, rfl, o, n1, n2, ha, k⟩ := h
  refine ⟨_, (pss_cons (ps_ost (pv 0) (pv 1)) (pss_one (ps_ost (pv 0) (pv 2)))), ?_⟩
  refine ⟨_, rfl, _, rfl, a, C, rfl, o, n1, .inl ⟨ha, fun dx hd hda => ?_⟩⟩
  refine ⟨_, rfl, _, rfl, a, C, rfl, o, n2, .inr ⟨dx, _, upd_same, by rw [upd_ne hda]; exact upd_same, by show 1 ≤ 900; decide, ?_⟩⟩
  refine k _ ⟨dx, by rw [upd_ne (Ne.symm hda)]; exact upd_same, upd_same⟩ ?_
  intro b v n h
  rw [upd_ne (ne_of_none h hd)]
  exact upd_kp hd hda b v n h
theorem kb_init_BadText_item_line (T : Txt P K mg A) : KBinds K A.d_init_BadText P_init_BadText ["item", "line"] twoX twoX :=
  kbindsF T.F_init_BadText rel_twoX fun _ _ _ _ _ _ us ws hl => match us, ws, hl with
    | [_], [_, _], _ => rfl
theorem mk1 {x : Str} {C fI : Addr} {up : List Addr} {ns : List Str} {f : Str} {v : V} {H : Hp} {Q : VK} (T : XT K mg x C fI up ns [f]) (k : ∀ a H', Same H H' → ExV H' a C [(f, v)] → Q (.ref a) H') : rMkX C (sp1 K f) [v] H Q := by
  unfold rMkX
  refine ⟨by show 1 ≤ 1000; decide, fun a ha => ⟨a, C, v, rfl, T.oex, T.no _ List.mem_cons_self, upd_same, fun H' ev kp => ⟨rfl, k a H' (fun b o h => kp b o (fun z => by rw [z, ha] at h; cases h) ?_) ev⟩⟩⟩
  exact at_new h ha
theorem mk1K {x : Str} {C fI : Addr} {up : List Addr} {ns : List Str} {f : Str} {v : V} {H : Hp} {Q : VK} (T : XT K mg x C fI up ns [f]) (k : ∀ a H', Same H H' → ExV H' a C [(f, v)] → Q (.ref a) H') :
    rMkXK C (sp1 K f) two [] [v] H Q := by
  have h := mk1 T k
  unfold rMkX at h
  unfold rMkXK
  exact ⟨Nat.zero_le _, h.2⟩
theorem mkS {x : Str} {C D fI f2 : Addr} {up : List Addr} {ns : List Str} {f : Str} {v : V} {H : Hp} {Q : VK} (T : XT K mg x C fI up ns [f]) (S : SupC K C D f2) (k : ∀ a H', Same H H' → ExV H' a C [(f, v)] → Q (.ref a) H') : rMkX C (spSup K D f2 (sp1 K f)) [v] H Q := by
  have h := mk1 T k
  unfold rMkX at h ⊢
  obtain ⟨h1, h2⟩ := h
  refine ⟨h1, fun a ha => ⟨a, C, v, rfl, upd_same, S, ?_⟩⟩
  obtain ⟨a', C', v', e, r⟩ := h2 a ha
  exact ⟨a', C', v', e, r⟩
theorem mkSK {x : Str} {C D fI f2 : Addr} {up : List Addr} {ns : List Str} {f : Str} {v : V} {H : Hp} {Q : VK} (T : XT K mg x C fI up ns [f]) (S : SupC K C D f2) (k : ∀ a H', Same H H' → ExV H' a C [(f, v)] → Q (.ref a) H') :
    rMkXK C (spSup K D f2 (sp1 K f)) two [] [v] H Q := by
  have h := mkS T S k
  unfold rMkX at h
  unfold rMkXK
  exact ⟨Nat.zero_le _, h.2⟩
theorem mk2 {x : Str} {C fI : Addr} {up : List Addr} {ns : List Str} {f g : Str} {v u : V} {H : Hp} {Q : VK} (T : XT K mg x C fI up ns [f, g]) (k : ∀ a H', Same H H' → ExV H' a C [(g, u), (f, v)] → Q (.ref a) H') : rMkX C (sp2 K f g) [v, u] H Q := by
  unfold rMkX
  refine ⟨by show 2 ≤ 1000; decide, fun a ha => ⟨a, C, v, u, rfl, T.oex, T.no _ List.mem_cons_self, T.no _ (List.mem_cons_of_mem _ List.mem_cons_self), upd_same, fun H' ev kp => ⟨rfl, k a H' (fun b o h => kp b o (fun z => by rw [z, ha] at h; cases h) ?_) ev⟩⟩⟩
  exact at_new h ha
theorem mk2K {x : Str} {C fI : Addr} {up : List Addr} {ns : List Str} {f g : Str} {v u : V} {H : Hp} {Q : VK} (T : XT K mg x C fI up ns [f, g]) (k : ∀ a H', Same H H' → ExV H' a C [(g, u), (f, v)] → Q (.ref a) H') :
    rMkXK C (sp2 K f g) twoX [] [u, v] H Q := by
  have h := mk2 T k
  unfold rMkX at h
  unfold rMkXK
  exact ⟨Nat.zero_le _, h.2⟩
/-! ### its kind -/
abbrev kinN : List Str := ["BadNumber", "BadWeb", "BadTable", "BadLot", "Misfit", "NoPlace", "NoTie", "Twice", "TooMany", "BadText"]
/-- an error of the class x, ns above it, stands at a -/
structure Er (K : PySem.W.Frag) (mg : Str → Option Value) (H : Hp) (a : Addr) (x : Str) (ns : List Str) : Prop where
  ex : ∃ (C fI : Addr) (up : List Addr) (fs : List Str) (gs : List (Str × V)), XT K mg x C fI up ns fs ∧ ExV H a C gs
theorem Er.keep {H H' : Hp} {a : Addr} {x : Str} {ns : List Str} (e : Er K mg H a x ns) (s : Same H H') : Er K mg H' a x ns := by
  obtain ⟨C, fI, up, fs, gs, T, ev⟩ := e
  exact ⟨C, fI, up, fs, gs, T, ev.keep s⟩
theorem er_is {H : Hp} {a D : Addr} {x y : Str} {ns : List Str} {Q : VK} (e : Er K mg H a x ns) (c : Cn K mg D y) (q : Q (.bl ((x :: ns).contains y)) H) : rIsiE K mg [.ref a, .ref D] H Q := by
  obtain ⟨C, fI, up, fs, gs, T, ev⟩ := e
  unfold rIsiE
  exact ⟨a, C, fI, gs, x, up, ns, fs, .ref D, .ref D, _, rfl, ev, T, .own D, T.kit c, q⟩
theorem er_isT {H : Hp} {a : Addr} {x : Str} {t : String} {b : Bool} {ns : List Str} {Q : VK} (e : Er K mg H a x ns) (h : PySem.W.kitMeta t = true) (hb : PySem.HandSPX.veTail.contains (.type t) = b) (q : Q (.bl b) H) : rIsiE K mg [.ref a, .ty t] H Q := by
  subst hb
  obtain ⟨C, fI, up, fs, gs, T, ev⟩ := e
  unfold rIsiE
  exact ⟨a, C, fI, gs, x, up, ns, fs, .ty t, .type t, _, rfl, ev, T, .ty t, T.kitT t h, q⟩
theorem er_isTs {H : Hp} {a tp : Addr} {x : Str} {cs : List V} {us : List Value} {ns : List Str} {Q : VK} (e : Er K mg H a x ns) (ht : H tp = some (.tup cs)) (hc : Paired ClsV cs us) (h : ∀ u ∈ us, ∃ t : String, u = .type t ∧ PySem.W.kitMeta t = true ∧ PySem.HandSPX.veTail.contains (.type t) = false) (q : Q (.bl false) H) : rIsiTE K mg [.ref a, .ref tp] H Q := by
  obtain ⟨C, fI, up, fs, gs, T, ev⟩ := e
  unfold rIsiTE
  refine ⟨a, C, fI, gs, x, up, ns, fs, tp, cs, us, false, rfl, ev, T, ht, hc, ?_, q⟩
  clear hc
  induction us with
  | nil => exact kitAny_nil
  | cons u r ih =>
    obtain ⟨t, rfl, h1, h2⟩ := h u List.mem_cons_self
    refine kitAny_cons (b := false) (by rw [T.kitT t h1, h2]) (fun _ => ih fun v hv => h v (List.mem_cons_of_mem _ hv)) (fun z => by cases z)
def sp_kin (K : PySem.W.Frag) (mg : Str → Option Value) : Sp := fun vs H Q _ => ∃ (a : Addr) (x : Str) (ns : List Str), vs = [.ref a] ∧ Er K mg H a x ns ∧
  ∀ q H', Same H H' → H' q = some (.lst (kinN.map fun y => V.bl ((x :: ns).contains y))) → Q (.ref q) H'
theorem G__law_kin (T : Txt P K mg A) : FnG P w K mg base CX0 1 A.a__law_kin A.d__law_kin P__law_kin (sp_kin K mg) := by
  refine okG T.F__law_kin sc__law_kin (fun vs H Q E h => ?_) (fun cdv A0 outer s H vs Q E hr h => ?_)
  · obtain ⟨a, x, ns, rfl, _⟩ := h
    rfl
  obtain ⟨a, x, ns, rfl, er, k⟩ := h
  refine ⟨_, (pss_cons (ps_set (i := 1) sc__law_kin.nd rfl (Or.inl rfl) (pe_lst (pa_cons (pe_callB call_isiE (by rfl) T.n_isinstance (by decide +kernel) (pa_cons (pv 0) (pa_cons (pe_glob (v := .ref A.c_BadNumber) rfl T.X_BadNumber.gC rfl) pa_nil))) (pa_cons (pe_callB call_isiE (by rfl) T.n_isinstance (by decide +kernel) (pa_cons (pv 0) (pa_cons (pe_glob (v := .ref A.c_BadWeb) rfl T.X_BadWeb.gC rfl) pa_nil))) (pa_cons (pe_callB call_isiE (by rfl) T.n_isinstance (by decide +kernel) (pa_cons (pv 0) (pa_cons (pe_glob (v := .ref A.c_BadTable) rfl T.X_BadTable.gC rfl) pa_nil))) (pa_cons (pe_callB call_isiE (by rfl) T.n_isinstance (by decide +kernel) (pa_cons (pv 0) (pa_cons (pe_glob (v := .ref A.c_BadLot) rfl T.X_BadLot.gC rfl) pa_nil))) (pa_cons (pe_callB call_isiE (by rfl) T.n_isinstance (by decide +kernel) (pa_cons (pv 0) (pa_cons (pe_glob (v := .ref A.c_Misfit) rfl T.X_Misfit.gC rfl) pa_nil))) pa_nil)))))))
      (pss_cons (ps_set (i := 1) sc__law_kin.nd rfl (Or.inl rfl) (pe_op op_cat (pv 1) (pe_lst (pa_cons (pe_callB call_isiE (by rfl) T.n_isinstance (by decide +kernel) (pa_cons (pv 0) (pa_cons (pe_glob (v := .ref A.c_NoPlace) rfl T.X_NoPlace.gC rfl) pa_nil))) (pa_cons (pe_callB call_isiE (by rfl) T.n_isinstance (by decide +kernel) (pa_cons (pv 0) (pa_cons (pe_glob (v := .ref A.c_NoTie) rfl T.X_NoTie.gC rfl) pa_nil))) (pa_cons (pe_callB call_isiE (by rfl) T.n_isinstance (by decide +kernel) (pa_cons (pv 0) (pa_cons (pe_glob (v := .ref A.c_Twice) rfl T.X_Twice.gC rfl) pa_nil))) (pa_cons (pe_callB call_isiE (by rfl) T.n_isinstance (by decide +kernel) (pa_cons (pv 0) (pa_cons (pe_glob (v := .ref A.c_TooMany) rfl T.X_TooMany.gC rfl) pa_nil))) pa_nil)))))))
      (pss_one (ps_ret (pe_op op_cat (pv 1) (pe_lst (pa_cons (pe_callB call_isiE (by rfl) T.n_isinstance (by decide +kernel) (pa_cons (pv 0) (pa_cons (pe_glob (v := .ref A.c_BadText) rfl T.X_BadText.gC rfl) pa_nil))) pa_nil))))))), ?_⟩
  refine ⟨_, rfl, er_is er T.X_BadNumber.cnm ⟨_, rfl, er_is er T.X_BadWeb.cnm ⟨_, rfl, er_is er T.X_BadTable.cnm ⟨_, rfl, er_is er T.X_BadLot.cnm ⟨_, rfl, er_is er T.X_Misfit.cnm ⟨by show 5 ≤ sizeLine; decide, fun q1 h1 => ?_⟩⟩⟩⟩⟩⟩
  have s1 : Same H (upd H q1 (.lst ((kinN.take 5).map fun y => V.bl ((x :: ns).contains y)))) := Same.new (fun _ _ h => h) h1
  have er1 := er.keep s1
  refine ⟨_, rfl, _, rfl, er_is er1 T.X_NoPlace.cnm ⟨_, rfl, er_is er1 T.X_NoTie.cnm ⟨_, rfl, er_is er1 T.X_Twice.cnm ⟨_, rfl, er_is er1 T.X_TooMany.cnm ⟨by show 4 ≤ sizeLine; decide, fun q2 h2 => ?_⟩⟩⟩⟩⟩
  refine ⟨_, _, _, _, rfl, rfl, at_new upd_same h2, upd_same, by show 9 ≤ sizeLine; decide, fun q3 h3 => ?_⟩
  have s3 : Same H (upd (upd (upd H q1 (.lst ((kinN.take 5).map fun y => V.bl ((x :: ns).contains y)))) q2 (.lst (((kinN.drop 5).take 4).map fun y => V.bl ((x :: ns).contains y)))) q3 (.lst ((kinN.take 9).map fun y => V.bl ((x :: ns).contains y)))) := Same.new (Same.new s1 h2) h3
  have er3 := er.keep s3
  refine ⟨_, rfl, _, rfl, er_is er3 T.X_BadText.cnm ⟨by show 1 ≤ sizeLine; decide, fun q4 h4 => ?_⟩⟩
  refine ⟨_, _, _, _, rfl, rfl, at_new upd_same h4, upd_same, by show 10 ≤ sizeLine; decide, fun q5 h5 => ?_⟩
  exact k _ _ (Same.new (Same.new s3 h4) h5) upd_same
theorem dp_blist {H : Hp} {q : Addr} {bs : List Bool} (h : H q = some (.lst (bs.map V.bl))) : Dp K H (.ref q) (.list (bs.map PyData.bool)) := .lst (SqL.of h) (dp_bools bs)
theorem layAll_bools : ∀ ns : List Bool, PyData.canLayAll0 (ns.map PyData.bool) = true
  | [] => by simp only [List.map_nil, PyData.canLayAll0]
  | n :: r => by
    simp only [List.map_cons, PyData.canLayAll0, PyData.canLay0]
    rw [layAll_bools r]
    rfl
theorem shaped_bools (ns : List Bool) : SeqAt.shaped (.list (ns.map PyData.bool)) = true := by
  unfold SeqAt.shaped
  simp only [PyData.canLay0, PyData.depth, layAll_bools, depthAll_bools]
  rfl
theorem eqv_bools : ∀ ns ms : List Bool, PyData.eqvAll (ns.map PyData.bool) (ms.map PyData.bool) = decide (ns = ms)
  | [], [] => by simp [PyData.eqvAll]
  | [], m :: r => by simp [PyData.eqvAll]
  | n :: r, [] => by simp [PyData.eqvAll]
  | n :: r, m :: q => by
    simp only [List.map_cons, PyData.eqvAll, PyData.eqv, eqv_bools r q]
    by_cases h1 : n = m <;> by_cases h2 : r = q <;> simp [h1, h2]
theorem eqv_blist (ns ms : List Bool) : PyData.eqv (.list (ns.map PyData.bool)) (.list (ms.map PyData.bool)) = decide (ns = ms) := by
  simp only [PyData.eqv, eqv_bools]
/-- the ten classes, as the law counts them -/
def tab : List (Str × List Str) := [("BadNumber", ["NetError"]), ("BadWeb", ["NetError"]), ("BadTable", ["NetError"]), ("BadLot", ["NetError"]), ("Misfit", ["NetError"]), ("NoPlace", ["Missing", "NetError"]), ("NoTie", ["Missing", "NetError"]), ("Twice", ["NetError"]), ("TooMany", ["NetError"]), ("BadText", ["NetError"])]
def okTab (i : Nat) (x : Str) (ns : List Str) : Bool := (x :: ns).contains "NetError" && (((x :: ns).contains "Missing" == (i == 5 || i == 6)) && (kinN.map (fun y => (x :: ns).contains y) == (List.range 10).map fun j => decide (j = i)))
theorem tab_ok : ∀ (i : Nat) (x : Str) (ns : List Str), tab[i]? = some (x, ns) → okTab i x ns = true ∧ i < 10 := by
  intro i x ns h
  have hi : i < 10 := (List.getElem?_eq_some_iff.mp h).1
  have key : ∀ j < 10, ∀ p, tab[j]? = some p → okTab j p.1 p.2 = true := by
    intro j hj p hp
    have z : (List.range 10).all (fun j => match tab[j]? with | some p => okTab j p.1 p.2 | none => true) = true := by decide +kernel
    have q := List.all_eq_true.mp z j (List.mem_range.mpr hj)
    rw [hp] at q
    exact q
  exact ⟨key i hi _ h, hi⟩
def sp_stands (K : PySem.W.Frag) (mg : Str → Option Value) : Sp := fun vs H Q _ => ∃ (a : Addr) (i : Nat) (x : Str) (ns : List Str), vs = [.ref a, .int (i : Int)] ∧ tab[i]? = some (x, ns) ∧ Er K mg H a x ns ∧ ∀ H', Same H H' → Q (.bl true) H'
theorem G__law_stands (T : Txt P K mg A) : FnG P w K mg base CX0 2 A.a__law_stands A.d__law_stands P__law_stands (sp_stands K mg) := by
  refine okG T.F__law_stands sc__law_stands (fun vs H Q E h => ?_) (fun cdv A0 outer s H vs Q E hr h => ?_)
  · obtain ⟨a, i, x, ns, rfl, _⟩ := h
    rfl
  obtain ⟨a, i, x, ns, rfl, ht, er, k⟩ := h
  obtain ⟨ok, hi⟩ := tab_ok i x ns ht
  unfold okTab at ok
  simp only [Bool.and_eq_true, beq_iff_eq] at ok
  obtain ⟨o1, o2, o3⟩ := ok
  refine ⟨_, (pss_cons (ps_if (PW.pt (pw_or (pt_not (pt_val (pe_callB call_isiE (by rfl) T.n_isinstance (by decide +kernel) (pa_cons (pv 0) (pa_cons (pe_glob (v := .ref A.c_NetError) rfl T.C_NetError.g rfl) pa_nil))))) (pw_or (pt_not (pt_val (pe_callB call_isiE (by rfl) T.n_isinstance (by decide +kernel) (pa_cons (pv 0) (pa_cons (pe_bltn (v := .ty "ValueError") (u := .type "ValueError") (by rfl) T.n_ValueError (by decide +kernel) rfl) pa_nil))))) (pw_or1 (pt_cmpR op_ne (pe_callB call_isiE (by rfl) T.n_isinstance (by decide +kernel) (pa_cons (pv 0) (pa_cons (pe_glob (v := .ref A.c_Missing) rfl T.X_Missing.gC rfl) pa_nil))) (pe_cmpR op_in_seq (pv 1) (pe_tup (pa_cons pe_int (pa_cons pe_int pa_nil))) (by rfl)) (nomark _)))))) (pss_one (ps_ret pe_bl)) pss_nil)
      (pss_cons (ps_if (pt_val (pe_callB call_isiTE (by rfl) T.n_isinstance (by decide +kernel) (pa_cons (pv 0) (pa_cons (pe_tup (pa_cons (pe_bltn (v := .ty "LookupError") (u := .type "LookupError") (by rfl) T.n_LookupError (by decide +kernel) rfl) (pa_cons (pe_bltn (v := .ty "TypeError") (u := .type "TypeError") (by rfl) T.n_TypeError (by decide +kernel) rfl) (pa_cons (pe_bltn (v := .ty "ArithmeticError") (u := .type "ArithmeticError") (by rfl) T.n_ArithmeticError (by decide +kernel) rfl) (pa_cons (pe_bltn (v := .ty "AttributeError") (u := .type "AttributeError") (by rfl) T.n_AttributeError (by decide +kernel) rfl) (pa_cons (pe_bltn (v := .ty "RuntimeError") (u := .type "RuntimeError") (by rfl) T.n_RuntimeError (by decide +kernel) rfl) pa_nil)))))) pa_nil)))) (pss_one (ps_ret pe_bl)) pss_nil)
      (pss_one (ps_ret (pe_cmpR (op_eqD hr.room.units) (pe_callG (G__law_kin T) (hr.mono (by decide)) rfl T.g__law_kin T.F__law_kin.kp T.b__law_kin .nil pass0 (pa_cons (pv 0) pa_nil)) (pe_lc (own := [("spot", 2)]) (g := gName 2) (tt := tYes) rfl sc__law_stands.nd (pi_range1 (by rfl) T.n_range (pa_cons pe_int pa_nil)) (blkOk_by (N := N__law_stands) (sc := defScope s__law_stands) (by decide +kernel)) (fun _ _ _ _ _ => (pg_name (i := 2) sc__law_stands.nd rfl (Or.inl rfl))) (fun _ _ _ _ _ => pts_nil) (fun _ _ _ _ _ => (pe_cmpR op_eq (pv 2) (pv 1) (nomark _)))) (nomark _)))))), ?_⟩
  refine ⟨_, rfl, er_is er T.C_NetError ⟨_, rfl, ?_⟩⟩
  rw [o1]
  refine iteF ⟨_, rfl, er_isT (b := true) er (by decide +kernel) (by decide +kernel) ⟨_, rfl, iteF ?_⟩⟩
  refine ⟨_, rfl, er_is er T.X_Missing.cnm ⟨_, rfl, by show 2 ≤ sizeLine; decide, fun q1 h1 => ⟨q1, _, rfl, .inr (SqT.of upd_same), rfl, rfl, ?_⟩⟩⟩
  have z56 : ∀ j : Nat, j < 10 → (j == 5 || j == 6) = inV (.int (j : Int)) [.int 5, .int 6] := by decide
  refine ⟨rfl, _, rfl, iteNS (by rw [o2, z56 i hi]; rfl) ?_⟩
  have s1 : Same H (upd H q1 (.tup [.int 5, .int 6])) := Same.new (fun _ _ h => h) h1
  refine ⟨_, rfl, by show 5 ≤ sizeLine; decide, fun q2 h2 => ?_⟩
  have s2 := Same.new (o := .tup [.ty "LookupError", .ty "TypeError", .ty "ArithmeticError", .ty "AttributeError", .ty "RuntimeError"]) s1 h2
  refine er_isTs (er.keep s2) upd_same (.cons (.ty "LookupError") (.cons (.ty "TypeError") (.cons (.ty "ArithmeticError") (.cons (.ty "AttributeError") (.cons (.ty "RuntimeError") .nil))))) ?_ ⟨_, rfl, iteF ?_⟩
  · intro u hu
    simp only [List.mem_cons, List.not_mem_nil, or_false] at hu
    rcases hu with rfl | rfl | rfl | rfl | rfl
    · exact ⟨_, rfl, by decide +kernel, by decide +kernel⟩
    · exact ⟨_, rfl, by decide +kernel, by decide +kernel⟩
    · exact ⟨_, rfl, by decide +kernel, by decide +kernel⟩
    · exact ⟨_, rfl, by decide +kernel, by decide +kernel⟩
    · exact ⟨_, rfl, by decide +kernel, by decide +kernel⟩
  refine ⟨_, rfl, a, x, ns, rfl, er.keep s2, fun q3 H3 s3 h3 => ⟨10, rfl, by decide, by decide, fun D hD => ?_⟩⟩
  refine lc_range (lo := 0) (n := 10) (fun j H' => Same H3 H' ∧ H' D = some (.lst (((List.range j).map fun m => decide (m = i)).map V.bl))) ⟨Same.new (fun _ _ h => h) hD, upd_same⟩ ?_ ?_
  · rintro j H' hj ⟨s4, hD4⟩
    refine ⟨rfl, tYes_of (iteT ⟨_, rfl, _, rfl, rfl, _, hD4, ?_, ?_, ?_⟩)⟩
    · rw [List.length_map, List.length_map, List.length_range]
      exact small1000 (by omega)
    · intro b o h
      rw [upd_ne (ne_of_none h hD)]
      exact s4 _ _ h
    · rw [upd_same, List.range_succ, List.map_append, List.map_append]
      have e : decide (V.int (0 + (j : Int)) = V.int (i : Int)) = decide (j = i) := by
        by_cases q : j = i
        · subst q
          simp
        · have q2 : ¬ V.int (0 + (j : Int)) = V.int (i : Int) := fun z => q (by have := V.int.inj z; omega)
          rw [decide_eq_false q2, decide_eq_false q]
      rw [e]
      rfl
  · rintro H4 ⟨s4, hD4⟩
    have h3' := s4 _ _ h3
    have e3 : (kinN.map fun y => V.bl ((x :: ns).contains y)) = ((kinN.map fun y => (x :: ns).contains y).map V.bl) := by rw [List.map_map]; rfl
    rw [e3] at h3'
    refine ⟨_, _, dp_blist h3', dp_blist hD4, shaped_bools _, shaped_bools _, ?_⟩
    rw [eqv_blist, o3, decide_eq_true rfl]
    exact k _ ((s2.trans s3).trans s4)
/-- an error of the class x, its fields fs, told by gs -/
structure Ev (K : PySem.W.Frag) (mg : Str → Option Value) (H : Hp) (a : Addr) (x : Str) (ns fs : List Str) (gs : List (Str × V)) : Prop where
  ex : ∃ (C fI : Addr) (up : List Addr), XT K mg x C fI up ns fs ∧ ExV H a C gs
theorem Ev.er {H : Hp} {a : Addr} {x : Str} {ns fs : List Str} {gs : List (Str × V)} (e : Ev K mg H a x ns fs gs) : Er K mg H a x ns := by
  obtain ⟨C, fI, up, T, ev⟩ := e
  exact ⟨C, fI, up, fs, gs, T, ev⟩
theorem Ev.keep {H H' : Hp} {a : Addr} {x : Str} {ns fs : List Str} {gs : List (Str × V)} (e : Ev K mg H a x ns fs gs) (s : Same H H') : Ev K mg H' a x ns fs gs := by
  obtain ⟨C, fI, up, T, ev⟩ := e
  exact ⟨C, fI, up, T, ev.keep s⟩
/-- what e.f asks -/
theorem Ev.get {H : Hp} {a : Addr} {x f : Str} {v : V} {ns fs : List Str} {gs : List (Str × V)} {Q : VK} (e : Ev K mg H a x ns fs gs) (hf : f ∈ fs) (l : gs.lookup f = some v) (q : Q v H) :
    rXg K f (.ref a) H Q := by
  obtain ⟨C, fI, up, T, ev⟩ := e
  unfold rXg
  exact ⟨a, C, gs, v, rfl, T.xf, T.no f hf, ev, l, q⟩
theorem self_keep {H H' : Hp} {v : V} (h : SelfV H v) (s : Same H H') : SelfV H' v := h.mono fun a o _ e => s a o e
def sp_parts : Sp := fun vs H Q _ => ∃ v, vs = [v] ∧ SelfV H v ∧ ∀ H', Same H H' → Q (.bl true) H'
theorem G__law_parts_right (T : Txt P K mg A) : FnG P w K mg base CX0 3 A.a__law_parts_right A.d__law_parts_right P__law_parts_right sp_parts := by
  refine okG T.F__law_parts_right sc__law_parts_right (fun vs H Q E h => ?_) (fun cdv A0 outer s H vs Q E hr h => ?_)
  · obtain ⟨v, rfl, _⟩ := h
    rfl
  obtain ⟨v, rfl, sv, k⟩ := h
  refine ⟨_, (pss_cons (ps_set (i := 1) sc__law_parts_right.nd rfl (Or.inl rfl) (pe_lst (pa_cons (pe_mkX T.X_BadNumber.oex T.X_BadNumber.iC T.X_BadNumber.tI (G_init_BadNumber T) (hr.mono (by decide)) rfl T.X_BadNumber.gC T.b_init_BadNumber pass0 (pa_cons (pv 0) pa_nil)) (pa_cons (pe_mkX T.X_BadWeb.oex T.X_BadWeb.iC T.X_BadWeb.tI (G_init_BadWeb T) (hr.mono (by decide)) rfl T.X_BadWeb.gC T.b_init_BadWeb pass0 (pa_cons (pv 0) pa_nil)) (pa_cons (pe_mkX T.X_BadTable.oex T.X_BadTable.iC T.X_BadTable.tI (G_init_BadTable T) (hr.mono (by decide)) rfl T.X_BadTable.gC T.b_init_BadTable pass0 (pa_cons (pv 0) pa_nil)) (pa_cons (pe_mkX T.X_BadLot.oex T.X_BadLot.iC T.X_BadLot.tI (G_init_BadLot T) (hr.mono (by decide)) rfl T.X_BadLot.gC T.b_init_BadLot pass0 (pa_cons (pv 0) pa_nil)) (pa_cons (pe_mkX T.X_Misfit.oex T.X_Misfit.iC T.X_Misfit.tI (G_init_Misfit T) (hr.mono (by decide)) rfl T.X_Misfit.gC T.b_init_Misfit pass0 (pa_cons (pv 0) pa_nil)) pa_nil)))))))
      (pss_cons (ps_set (i := 2) sc__law_parts_right.nd rfl (Or.inl rfl) (pe_lst (pa_cons (pe_mkXK0 T.X_BadNumber.oex T.X_BadNumber.iC T.X_BadNumber.tI (G_init_BadNumber T) (hr.mono (by decide)) rfl T.X_BadNumber.gC (kb_init_BadNumber_part T) pass0 (pk_cons (pv 0) pk_nil)) (pa_cons (pe_mkXK0 T.X_BadWeb.oex T.X_BadWeb.iC T.X_BadWeb.tI (G_init_BadWeb T) (hr.mono (by decide)) rfl T.X_BadWeb.gC (kb_init_BadWeb_part T) pass0 (pk_cons (pv 0) pk_nil)) (pa_cons (pe_mkXK0 T.X_BadTable.oex T.X_BadTable.iC T.X_BadTable.tI (G_init_BadTable T) (hr.mono (by decide)) rfl T.X_BadTable.gC (kb_init_BadTable_part T) pass0 (pk_cons (pv 0) pk_nil)) (pa_cons (pe_mkXK0 T.X_BadLot.oex T.X_BadLot.iC T.X_BadLot.tI (G_init_BadLot T) (hr.mono (by decide)) rfl T.X_BadLot.gC (kb_init_BadLot_part T) pass0 (pk_cons (pv 0) pk_nil)) (pa_cons (pe_mkXK0 T.X_Misfit.oex T.X_Misfit.iC T.X_Misfit.tI (G_init_Misfit T) (hr.mono (by decide)) rfl T.X_Misfit.gC (kb_init_Misfit_part T) pass0 (pk_cons (pv 0) pk_nil)) pa_nil)))))))
      (pss_cons (ps_for PassesOwn.never rfl (pi_range1 (by rfl) T.n_range (pa_cons pe_int pa_nil)) (pg_name (i := 3) sc__law_parts_right.nd rfl (Or.inl rfl)) (pss_one (ps_for PassesOwn.never rfl (pi_tup (pe_tup (pa_cons (pe_ix (r := rIxL K) ix_list (pv 1) (pv 3) (fun _ _ => rfl)) (pa_cons (pe_ix (r := rIxL K) ix_list (pv 2) (pv 3) (fun _ _ => rfl)) pa_nil)))) (pg_name (i := 4) sc__law_parts_right.nd rfl (Or.inl rfl)) (pss_one (ps_if (PW.pt (pw_or (pt_cmpR (op_neS hr.room.units) (pe_xg (pv 4)) (pv 0) (nomark _)) (pw_or1 (pt_not (pt_val (pe_callG (G__law_stands T) (hr.mono (by decide)) rfl T.g__law_stands T.F__law_stands.kp T.b__law_stands .nil pass0 (pa_cons (pv 4) (pa_cons (pv 3) pa_nil)))))))) (pss_one (ps_ret pe_bl)) pss_nil)))))
      (pss_one (ps_ret pe_bl))))), ?_⟩
  refine ⟨_, rfl, mk1 T.X_BadNumber fun a1 H1 s1 e1 => ⟨_, rfl, mk1 T.X_BadWeb fun a2 H2 s2 e2 => ⟨_, rfl, mk1 T.X_BadTable fun a3 H3 s3 e3 => ⟨_, rfl, mk1 T.X_BadLot fun a4 H4 s4 e4 => ⟨_, rfl, mk1 T.X_Misfit fun a5 H5 s5 e5 => ⟨by show 5 ≤ sizeLine; decide, fun q1 h1 => ?_⟩⟩⟩⟩⟩⟩
  refine ⟨_, rfl, mk1K T.X_BadNumber fun b1 G1 t1 f1 => ⟨_, rfl, mk1K T.X_BadWeb fun b2 G2 t2 f2 => ⟨_, rfl, mk1K T.X_BadTable fun b3 G3 t3 f3 => ⟨_, rfl, mk1K T.X_BadLot fun b4 G4 t4 f4 => ⟨_, rfl, mk1K T.X_Misfit fun b5 G5 t5 f5 => ⟨by show 5 ≤ sizeLine; decide, fun q2 h2 => ?_⟩⟩⟩⟩⟩⟩
  have S0 : Same H H5 := s1.trans (s2.trans (s3.trans (s4.trans s5)))
  have S1 : Same H5 (upd H5 q1 (.lst [.ref a1, .ref a2, .ref a3, .ref a4, .ref a5])) := Same.new (fun _ _ h => h) h1
  have S2 : Same (upd H5 q1 (.lst [.ref a1, .ref a2, .ref a3, .ref a4, .ref a5])) G5 := t1.trans (t2.trans (t3.trans (t4.trans t5)))
  have S3 : Same G5 (upd G5 q2 (.lst [.ref b1, .ref b2, .ref b3, .ref b4, .ref b5])) := Same.new (fun _ _ h => h) h2
  have hq1 : (upd G5 q2 (.lst [.ref b1, .ref b2, .ref b3, .ref b4, .ref b5])) q1 = some (.lst [.ref a1, .ref a2, .ref a3, .ref a4, .ref a5]) := S3 _ _ (S2 _ _ upd_same)
  have hq2 : (upd G5 q2 (.lst [.ref b1, .ref b2, .ref b3, .ref b4, .ref b5])) q2 = some (.lst [.ref b1, .ref b2, .ref b3, .ref b4, .ref b5]) := upd_same
  have SA : Same H (upd G5 q2 (.lst [.ref b1, .ref b2, .ref b3, .ref b4, .ref b5])) := S0.trans (S1.trans (S2.trans S3))
  have fin : ∀ i : Nat, i < 5 → ∃ (a b : Addr) (x : Str) (ns : List Str), ([.ref a1, .ref a2, .ref a3, .ref a4, .ref a5] : List V)[i]? = some (.ref a) ∧ ([.ref b1, .ref b2, .ref b3, .ref b4, .ref b5] : List V)[i]? = some (.ref b) ∧ tab[i]? = some (x, ns) ∧
      Ev K mg (upd G5 q2 (.lst [.ref b1, .ref b2, .ref b3, .ref b4, .ref b5])) a x ns ["part"] [("part", v)] ∧ Ev K mg (upd G5 q2 (.lst [.ref b1, .ref b2, .ref b3, .ref b4, .ref b5])) b x ns ["part"] [("part", v)] := by
    have SB := S1.trans (S2.trans S3)
    intro i hi
    match i, hi with
    | 0, _ => exact ⟨a1, b1, _, _, rfl, rfl, rfl, Ev.keep ⟨_, _, _, T.X_BadNumber, e1⟩ ((s2.trans (s3.trans (s4.trans s5))).trans SB), Ev.keep ⟨_, _, _, T.X_BadNumber, f1⟩ ((t2.trans (t3.trans (t4.trans t5))).trans S3)⟩
    | 1, _ => exact ⟨a2, b2, _, _, rfl, rfl, rfl, Ev.keep ⟨_, _, _, T.X_BadWeb, e2⟩ ((s3.trans (s4.trans s5)).trans SB), Ev.keep ⟨_, _, _, T.X_BadWeb, f2⟩ ((t3.trans (t4.trans t5)).trans S3)⟩
    | 2, _ => exact ⟨a3, b3, _, _, rfl, rfl, rfl, Ev.keep ⟨_, _, _, T.X_BadTable, e3⟩ ((s4.trans s5).trans SB), Ev.keep ⟨_, _, _, T.X_BadTable, f3⟩ ((t4.trans t5).trans S3)⟩
    | 3, _ => exact ⟨a4, b4, _, _, rfl, rfl, rfl, Ev.keep ⟨_, _, _, T.X_BadLot, e4⟩ (s5.trans SB), Ev.keep ⟨_, _, _, T.X_BadLot, f4⟩ (t5.trans S3)⟩
    | 4, _ => exact ⟨a5, b5, _, _, rfl, rfl, rfl, Ev.keep ⟨_, _, _, T.X_Misfit, e5⟩ SB, Ev.keep ⟨_, _, _, T.X_Misfit, f5⟩ S3⟩
  generalize (upd G5 q2 (.lst [.ref b1, .ref b2, .ref b3, .ref b4, .ref b5])) = HB at hq1 hq2 SA fin ⊢
  generalize ([.ref a1, .ref a2, .ref a3, .ref a4, .ref a5] : List V) = as at hq1 fin
  generalize ([.ref b1, .ref b2, .ref b3, .ref b4, .ref b5] : List V) = bs at hq2 fin
  refine ⟨5, rfl, by decide, by decide, for_range (lo := 0) (n := 5) (fun i σ H' => (∃ u1 u2 : Option V, σ = [some v, some (.ref q1), some (.ref q2), u1, u2]) ∧ Same HB H') ⟨⟨none, none, rfl⟩, fun _ _ h => h⟩ ?_ ?_⟩
  · rintro i σ H' hi ⟨⟨u1, u2, rfl⟩, S⟩
    obtain ⟨a, b, x, ns, ea, eb, ht, va, vb⟩ := fin i hi
    rw [Int.zero_add]
    refine ⟨_, rfl, _, rfl, _, _, _, _, rfl, rfl, SqL.of (S _ _ hq1), atI_nat ea, _, rfl, _, rfl, _, _, _, _, rfl, rfl, SqL.of (S _ _ hq2), atI_nat eb, by show 2 ≤ sizeLine; decide, fun q3 h3 => ?_⟩
    have S3 : Same HB (upd H' q3 (.tup [.ref a, .ref b])) := Same.new S h3
    refine ⟨q3, rfl, ⟨_, SqT.of upd_same⟩, ?_⟩
    refine for_tup (xs := [.ref a, .ref b]) (fun j σ H'' => (∃ u2 : Option V, σ = [some v, some (.ref q1), some (.ref q2), some (.int (i : Int)), u2]) ∧ Same (upd H' q3 (.tup [.ref a, .ref b])) H'') ⟨⟨_, rfl⟩, fun _ _ h => h⟩ (fun j σ H'' _ h => SqT.of (h.2 _ _ upd_same)) ?_ ?_
    · rintro j y σ H'' hy ⟨⟨u2, rfl⟩, S4⟩
      have vy : ∃ c, y = .ref c ∧ Ev K mg H'' c x ns ["part"] [("part", v)] := by
        have m := List.mem_of_getElem? hy
        simp only [List.mem_cons, List.not_mem_nil, or_false] at m
        rcases m with rfl | rfl
        · exact ⟨a, rfl, va.keep (S3.trans S4)⟩
        · exact ⟨b, rfl, vb.keep (S3.trans S4)⟩
      obtain ⟨c, rfl, vc⟩ := vy
      refine ⟨_, rfl, vc.get List.mem_cons_self rfl ⟨_, rfl, ⟨.inl ⟨rfl, self_keep sv (SA.trans (S3.trans S4))⟩, _, rfl, iteF ?_⟩⟩⟩
      refine ⟨_, rfl, _, rfl, c, i, x, ns, rfl, ht, vc.er, fun H5 s5 => ⟨_, rfl, iteF ?_⟩⟩
      exact ⟨⟨_, rfl⟩, S4.trans s5⟩
    · rintro σ H'' ⟨⟨u2, rfl⟩, S4⟩
      exact ⟨⟨_, _, rfl⟩, S3.trans S4⟩
  · rintro σ H' ⟨_, S⟩
    exact k _ (SA.trans S)
theorem er_isb {H : Hp} {a D : Addr} {x y : Str} {b : Bool} {ns : List Str} {Q : VK} (e : Er K mg H a x ns) (c : Cn K mg D y) (hb : (x :: ns).contains y = b) (q : Q (.bl b) H) : rIsiE K mg [.ref a, .ref D] H Q := by
  subst hb
  exact er_is e c q
def sp_fields : Sp := fun vs H Q _ => ∃ v u, vs = [v, u] ∧ SelfV H v ∧ SelfV H u ∧ ∀ H', Same H H' → Q (.bl true) H'
theorem G__law_fields_right (T : Txt P K mg A) : FnG P w K mg base CX0 4 A.a__law_fields_right A.d__law_fields_right P__law_fields_right sp_fields := by
  refine okG T.F__law_fields_right sc__law_fields_right (fun vs H Q E h => ?_) (fun cdv A0 outer s H vs Q E hr h => ?_)
  · obtain ⟨v, u, rfl, _⟩ := h
    rfl
  obtain ⟨v, u, rfl, sv, su, k⟩ := h
  refine ⟨_, (pss_cons (ps_set (i := 2) sc__law_fields_right.nd rfl (Or.inl rfl) (pe_lst (pa_cons (pe_mkX T.X_NoPlace.oex T.X_NoPlace.iC T.X_NoPlace.tI (G_init_NoPlace T) (hr.mono (by decide)) rfl T.X_NoPlace.gC T.b_init_NoPlace pass0 (pa_cons (pv 0) pa_nil)) (pa_cons (pe_mkX T.X_NoTie.oex T.X_NoTie.iC T.X_NoTie.tI (G_init_NoTie T) (hr.mono (by decide)) rfl T.X_NoTie.gC T.b_init_NoTie pass0 (pa_cons (pv 0) pa_nil)) (pa_cons (pe_mkX T.X_Twice.oex T.X_Twice.iC T.X_Twice.tI (G_init_Twice T) (hr.mono (by decide)) rfl T.X_Twice.gC T.b_init_Twice pass0 (pa_cons (pv 0) pa_nil)) (pa_cons (pe_mkXK0 T.X_NoPlace.oex T.X_NoPlace.iC T.X_NoPlace.tI (G_init_NoPlace T) (hr.mono (by decide)) rfl T.X_NoPlace.gC (kb_init_NoPlace_value T) pass0 (pk_cons (pv 0) pk_nil)) (pa_cons (pe_mkXK0 T.X_NoTie.oex T.X_NoTie.iC T.X_NoTie.tI (G_init_NoTie T) (hr.mono (by decide)) rfl T.X_NoTie.gC (kb_init_NoTie_value T) pass0 (pk_cons (pv 0) pk_nil)) (pa_cons (pe_mkXK0 T.X_Twice.oex T.X_Twice.iC T.X_Twice.tI (G_init_Twice T) (hr.mono (by decide)) rfl T.X_Twice.gC (kb_init_Twice_value T) pass0 (pk_cons (pv 0) pk_nil)) pa_nil))))))))
      (pss_cons (ps_for PassesOwn.never rfl (pi_enum (by rfl) T.n_enumerate (pa_cons (pv 2) pa_nil)) (pg_tup rfl (pgs_cons (pg_name (i := 3) sc__law_fields_right.nd rfl (Or.inl rfl)) (pgs_cons (pg_name (i := 4) sc__law_fields_right.nd rfl (Or.inl rfl)) pgs_nil))) (pss_one (ps_if (PW.pt (pw_or (pt_cmpR (op_neS hr.room.units) (pe_xg (pv 4)) (pv 0) (nomark _)) (pw_or1 (pt_not (pt_val (pe_callG (G__law_stands T) (hr.mono (by decide)) rfl T.g__law_stands T.F__law_stands.kp T.b__law_stands .nil pass0 (pa_cons (pv 4) (pa_cons (pe_op op_add pe_int (pe_op op_modN (pe_callTy call_int1 (by rfl) T.n_int (by decide +kernel) (pa_cons (pv 3) pa_nil)) pe_int)) pa_nil)))))))) (pss_one (ps_ret pe_bl)) pss_nil)))
      (pss_cons (ps_set (i := 5) sc__law_fields_right.nd rfl (Or.inl rfl) (pe_mkXK0 T.X_Missing.oex T.X_Missing.iC T.X_Missing.tI (G_init_Missing T) (hr.mono (by decide)) rfl T.X_Missing.gC (kb_init_Missing_value T) pass0 (pk_cons (pv 0) pk_nil)))
      (pss_cons (ps_if (PW.pt (pw_or (pt_cmpR (op_neS hr.room.units) (pe_xg (pv 5)) (pv 0) (nomark _)) (pw_or (pt_cmpR (op_neS hr.room.units) (pe_xg (pe_mkX T.X_Missing.oex T.X_Missing.iC T.X_Missing.tI (G_init_Missing T) (hr.mono (by decide)) rfl T.X_Missing.gC T.b_init_Missing pass0 (pa_cons (pv 1) pa_nil))) (pv 1) (nomark _)) (pw_or (pt_cmpR (op_neD hr.room.units) (pe_callG (G__law_kin T) (hr.mono (by decide)) rfl T.g__law_kin T.F__law_kin.kp T.b__law_kin .nil pass0 (pa_cons (pv 5) pa_nil)) (pe_op op_rep (pe_lst (pa_cons pe_bl pa_nil)) pe_int) (nomark _)) (pw_or1 (pt_not (pt_val (pe_callB call_isiE (by rfl) T.n_isinstance (by decide +kernel) (pa_cons (pv 5) (pa_cons (pe_glob (v := .ref A.c_NetError) rfl T.C_NetError.g rfl) pa_nil)))))))))) (pss_one (ps_ret pe_bl)) pss_nil)
      (pss_cons (ps_for PassesOwn.never rfl (pi_tup (pe_tup (pa_cons (pe_mkX T.X_TooMany.oex T.X_TooMany.iC T.X_TooMany.tI (G_init_TooMany T) (hr.mono (by decide)) rfl T.X_TooMany.gC T.b_init_TooMany pass0 (pa_cons (pv 0) (pa_cons (pv 1) pa_nil))) (pa_cons (pe_mkXK0 T.X_TooMany.oex T.X_TooMany.iC T.X_TooMany.tI (G_init_TooMany T) (hr.mono (by decide)) rfl T.X_TooMany.gC (kb_init_TooMany_most_what T) pass0 (pk_cons (pv 1) (pk_cons (pv 0) pk_nil))) pa_nil)))) (pg_name (i := 4) sc__law_fields_right.nd rfl (Or.inl rfl)) (pss_one (ps_if (PW.pt (pw_or (pt_cmpR (op_neS hr.room.units) (pe_lst (pa_cons (pe_xg (pv 4)) (pa_cons (pe_xg (pv 4)) pa_nil))) (pe_lst (pa_cons (pv 0) (pa_cons (pv 1) pa_nil))) (nomark _)) (pw_or1 (pt_not (pt_val (pe_callG (G__law_stands T) (hr.mono (by decide)) rfl T.g__law_stands T.F__law_stands.kp T.b__law_stands .nil pass0 (pa_cons (pv 4) (pa_cons pe_int pa_nil)))))))) (pss_one (ps_ret pe_bl)) pss_nil)))
      (pss_cons (ps_for PassesOwn.never rfl (pi_tup (pe_tup (pa_cons (pe_mkX T.X_BadText.oex T.X_BadText.iC T.X_BadText.tI (G_init_BadText T) (hr.mono (by decide)) rfl T.X_BadText.gC T.b_init_BadText pass0 (pa_cons (pv 0) (pa_cons (pv 1) pa_nil))) (pa_cons (pe_mkXK0 T.X_BadText.oex T.X_BadText.iC T.X_BadText.tI (G_init_BadText T) (hr.mono (by decide)) rfl T.X_BadText.gC (kb_init_BadText_item_line T) pass0 (pk_cons (pv 1) (pk_cons (pv 0) pk_nil))) pa_nil)))) (pg_name (i := 4) sc__law_fields_right.nd rfl (Or.inl rfl)) (pss_one (ps_if (PW.pt (pw_or (pt_cmpR (op_neS hr.room.units) (pe_lst (pa_cons (pe_xg (pv 4)) (pa_cons (pe_xg (pv 4)) pa_nil))) (pe_lst (pa_cons (pv 0) (pa_cons (pv 1) pa_nil))) (nomark _)) (pw_or1 (pt_not (pt_val (pe_callG (G__law_stands T) (hr.mono (by decide)) rfl T.g__law_stands T.F__law_stands.kp T.b__law_stands .nil pass0 (pa_cons (pv 4) (pa_cons pe_int pa_nil)))))))) (pss_one (ps_ret pe_bl)) pss_nil)))
      (pss_one (ps_ret pe_bl)))))))), ?_⟩
  refine ⟨_, rfl, mkS T.X_NoPlace T.U_NoPlace fun a1 H1 s1 e1 => ⟨_, rfl, mkS T.X_NoTie T.U_NoTie fun a2 H2 s2 e2 => ⟨_, rfl, mk1 T.X_Twice fun a3 H3 s3 e3 => ?_⟩⟩⟩
  refine ⟨_, rfl, mkSK T.X_NoPlace T.U_NoPlace fun b1 G1 t1 f1 => ⟨_, rfl, mkSK T.X_NoTie T.U_NoTie fun b2 G2 t2 f2 => ⟨_, rfl, mk1K T.X_Twice fun b3 G3 t3 f3 => ⟨by show 6 ≤ sizeLine; decide, fun q1 h1 => ?_⟩⟩⟩⟩
  have S1 : Same G3 (upd G3 q1 (.lst [.ref a1, .ref a2, .ref a3, .ref b1, .ref b2, .ref b3])) := Same.new (fun _ _ h => h) h1
  have hq1 : (upd G3 q1 (.lst [.ref a1, .ref a2, .ref a3, .ref b1, .ref b2, .ref b3])) q1 = some (.lst [.ref a1, .ref a2, .ref a3, .ref b1, .ref b2, .ref b3]) := upd_same
  have S6 := t3.trans S1
  have S5 := t2.trans S6
  have S4 := t1.trans S5
  have S3 := s3.trans S4
  have S2 := s2.trans S3
  have SA := s1.trans S2
  have fin : ∀ i : Nat, i < 6 → ∃ (a : Addr) (x : Str) (ns : List Str), ([.ref a1, .ref a2, .ref a3, .ref b1, .ref b2, .ref b3] : List V)[i]? = some (.ref a) ∧ tab[5 + i % 3]? = some (x, ns) ∧
      Ev K mg (upd G3 q1 (.lst [.ref a1, .ref a2, .ref a3, .ref b1, .ref b2, .ref b3])) a x ns ["value"] [("value", v)] := by
    intro i hi
    match i, hi with
    | 0, _ => exact ⟨a1, _, _, rfl, rfl, Ev.keep ⟨_, _, _, T.X_NoPlace, e1⟩ S2⟩
    | 1, _ => exact ⟨a2, _, _, rfl, rfl, Ev.keep ⟨_, _, _, T.X_NoTie, e2⟩ S3⟩
    | 2, _ => exact ⟨a3, _, _, rfl, rfl, Ev.keep ⟨_, _, _, T.X_Twice, e3⟩ S4⟩
    | 3, _ => exact ⟨b1, _, _, rfl, rfl, Ev.keep ⟨_, _, _, T.X_NoPlace, f1⟩ S5⟩
    | 4, _ => exact ⟨b2, _, _, rfl, rfl, Ev.keep ⟨_, _, _, T.X_NoTie, f2⟩ S6⟩
    | 5, _ => exact ⟨b3, _, _, rfl, rfl, Ev.keep ⟨_, _, _, T.X_Twice, f3⟩ S1⟩
  generalize (upd G3 q1 (.lst [.ref a1, .ref a2, .ref a3, .ref b1, .ref b2, .ref b3])) = HB at hq1 SA fin ⊢
  have hlen : ([.ref a1, .ref a2, .ref a3, .ref b1, .ref b2, .ref b3] : List V).length = 6 := rfl
  generalize ([.ref a1, .ref a2, .ref a3, .ref b1, .ref b2, .ref b3] : List V) = as at hq1 fin hlen
  refine ⟨_, rfl, q1, as, rfl, SqL.of hq1, for_it walk_enum (fun i σ H' => (∃ u1 u2 : Option V, σ = [some v, some u, some (.ref q1), u1, u2, none]) ∧ Same HB H') ⟨⟨none, none, rfl⟩, fun _ _ h => h⟩ (fun i σ H' _ h => SqL.of (h.2 _ _ hq1)) ?_ ?_⟩
  · rintro i y σ H' H'' hi ⟨⟨u1, u2, rfl⟩, S⟩ hy
    rw [hlen] at hi
    obtain ⟨a, x, ns, ea, ht, va⟩ := fin i hi
    obtain ⟨T0, i', y', rfl, hT, rfl, ei, ey⟩ := hy
    obtain rfl := Option.some.inj ei
    obtain rfl : V.ref a = y' := Option.some.inj (ea.symm.trans ey)
    have S7 := Same.new (o := .tup [.int (i : Nat), .ref a]) S hT
    have v7 := va.keep S7
    have z53 : ∀ i : Nat, i < 6 → (5 + Int.fmod (i : Int) 3) = ((5 + i % 3 : Nat) : Int) := by decide
    refine ⟨T0, _, rfl, SqT.of upd_same, rfl, _, _, rfl, _, _, rfl, rfl, _, rfl, v7.get List.mem_cons_self rfl ⟨_, rfl, ⟨.inl ⟨rfl, self_keep sv (SA.trans S7)⟩, _, rfl, iteF ?_⟩⟩⟩
    refine ⟨_, rfl, _, rfl, .inl ⟨_, rfl, _, _, rfl, rfl, by show (3 : Int) ≠ 0; decide, _, _, rfl, rfl, a, 5 + i % 3, x, ns, by show [V.ref a, V.int (5 + Int.fmod (i : Int) 3)] = _; rw [z53 i hi], ht, v7.er, fun H5 s5 => ⟨_, rfl, iteF ?_⟩⟩⟩
    exact ⟨⟨_, _, rfl⟩, S7.trans s5⟩
  · rintro σ H' ⟨⟨u1, u2, rfl⟩, S⟩
    refine ⟨_, rfl, mk1K T.X_Missing fun c1 H4 t4 g1 => ?_⟩
    have SB : Same H H4 := SA.trans (S.trans t4)
    have v1 : Ev K mg H4 c1 "Missing" ["NetError"] ["value"] [("value", v)] := ⟨_, _, _, T.X_Missing, g1⟩
    refine ⟨_, rfl, v1.get List.mem_cons_self rfl ⟨_, rfl, ⟨.inl ⟨rfl, self_keep sv SB⟩, _, rfl, iteF ?_⟩⟩⟩
    refine ⟨_, rfl, mk1 T.X_Missing fun c2 H5 t5 g2 => ?_⟩
    have v2 : Ev K mg H5 c2 "Missing" ["NetError"] ["value"] [("value", u)] := ⟨_, _, _, T.X_Missing, g2⟩
    refine v2.get List.mem_cons_self rfl ⟨_, rfl, ⟨.inl ⟨rfl, self_keep su (SB.trans t5)⟩, _, rfl, iteF ?_⟩⟩
    refine ⟨_, rfl, c1, "Missing", ["NetError"], rfl, (v1.keep t5).er, fun q2 H6 t6 h2 => ⟨by show 1 ≤ sizeLine; decide, fun q3 h3 => ⟨_, _, _, rfl, rfl, upd_same, by decide, by decide, by show 1 * 10 ≤ sizeLine; decide, fun q4 h4 => ?_⟩⟩⟩
    have h2' : H6 q2 = some (.lst ((List.replicate 10 false).map V.bl)) := h2
    have h4' : (upd (upd H6 q3 (.lst [.bl false])) q4 (.lst ((List.replicate 10 false).map V.bl))) q4 = some (.lst ((List.replicate 10 false).map V.bl)) := upd_same
    have S8 := Same.new (o := .lst ((List.replicate 10 false).map V.bl)) (Same.new (o := .lst [.bl false]) (fun _ _ h => h) h3) h4
    refine ⟨_, _, dp_blist (S8 _ _ h2'), dp_blist h4', shaped_bools _, shaped_bools _, ?_⟩
    rw [eqv_blist, decide_eq_true rfl]
    refine ⟨_, rfl, iteF ?_⟩
    have S9 := SB.trans (t5.trans (t6.trans S8))
    have v9 := ((v1.keep t5).keep t6).keep S8
    refine ⟨_, rfl, er_isb (b := true) v9.er T.C_NetError (by decide +kernel) ⟨_, rfl, iteF ?_⟩⟩
    refine ⟨_, rfl, _, rfl, mk2 T.X_TooMany fun d1 H9 t9 m1 => ⟨_, rfl, _, rfl, mk2K T.X_TooMany fun d2 H10 t10 m2 => ⟨by show 2 ≤ sizeLine; decide, fun q5 h5 => ?_⟩⟩⟩
    have ez : ∀ x ∈ [v, u], easyV x = true := by
      intro x hx
      rcases List.mem_cons.mp hx with rfl | hx
      · exact sv.easy
      · rw [List.mem_singleton.mp hx]
        exact su.easy
    have S10a := Same.new (o := .tup [.ref d1, .ref d2]) (fun (b : Addr) (o : HO) (h : H10 b = some o) => h) h5
    have S10 := S9.trans (t9.trans (t10.trans S10a))
    have d1v : Ev K mg (upd H10 q5 (.tup [.ref d1, .ref d2])) d1 "TooMany" ["NetError"] ["what", "most"] [("most", u), ("what", v)] := Ev.keep ⟨_, _, _, T.X_TooMany, m1⟩ (t10.trans S10a)
    have d2v : Ev K mg (upd H10 q5 (.tup [.ref d1, .ref d2])) d2 "TooMany" ["NetError"] ["what", "most"] [("most", u), ("what", v)] := Ev.keep ⟨_, _, _, T.X_TooMany, m2⟩ S10a
    refine ⟨q5, rfl, ⟨_, SqT.of upd_same⟩, ?_⟩
    refine for_tup (xs := [.ref d1, .ref d2]) (fun j σ H'' => (∃ u1 u2 : Option V, σ = [some v, some u, some (.ref q1), u1, u2, some (.ref c1)]) ∧ Same (upd H10 q5 (.tup [.ref d1, .ref d2])) H'') ⟨⟨_, _, rfl⟩, fun _ _ h => h⟩ (fun j σ H'' _ h => SqT.of (h.2 _ _ upd_same)) ?_ ?_
    · rintro j y σ H'' hy ⟨⟨w1, w2, rfl⟩, R⟩
      have vy : ∃ c, y = .ref c ∧ Ev K mg H'' c "TooMany" ["NetError"] ["what", "most"] [("most", u), ("what", v)] := by
        have m := List.mem_of_getElem? hy
        simp only [List.mem_cons, List.not_mem_nil, or_false] at m
        rcases m with rfl | rfl
        · exact ⟨d1, rfl, d1v.keep R⟩
        · exact ⟨d2, rfl, d2v.keep R⟩
      obtain ⟨c, rfl, vc⟩ := vy
      refine ⟨_, rfl, vc.get List.mem_cons_self rfl ⟨_, rfl, vc.get (List.mem_cons_of_mem _ List.mem_cons_self) rfl ⟨by show 2 ≤ sizeLine; decide, fun q6 h6 => ⟨_, rfl, _, rfl, by show 2 ≤ sizeLine; decide, fun q7 h7 => ⟨.inr ⟨q6, q7, [v, u], rfl, rfl, at_new upd_same h7, upd_same, ez⟩, _, rfl, iteF ?_⟩⟩⟩⟩⟩
      have R2 := Same.new (o := .lst [v, u]) (Same.new (o := .lst [v, u]) (fun (b : Addr) (o : HO) (h : H'' b = some o) => h) h6) h7
      refine ⟨_, rfl, c, 8, "TooMany", ["NetError"], rfl, rfl, (vc.keep R2).er, fun H5 s5 => ⟨_, rfl, iteF ?_⟩⟩
      exact ⟨⟨_, _, rfl⟩, R.trans (R2.trans s5)⟩
    rintro σ H12 ⟨⟨w1, w2, rfl⟩, S10b⟩
    refine ⟨_, rfl, _, rfl, mk2 T.X_BadText fun d3 H13 t13 m3 => ⟨_, rfl, _, rfl, mk2K T.X_BadText fun d4 H14 t14 m4 => ⟨by show 2 ≤ sizeLine; decide, fun q8 h8 => ?_⟩⟩⟩
    have S11 := S10.trans S10b
    have S12a := Same.new (o := .tup [.ref d3, .ref d4]) (fun (b : Addr) (o : HO) (h : H14 b = some o) => h) h8
    have S12 := S11.trans (t13.trans (t14.trans S12a))
    have d3v : Ev K mg (upd H14 q8 (.tup [.ref d3, .ref d4])) d3 "BadText" ["NetError"] ["line", "item"] [("item", u), ("line", v)] := Ev.keep ⟨_, _, _, T.X_BadText, m3⟩ (t14.trans S12a)
    have d4v : Ev K mg (upd H14 q8 (.tup [.ref d3, .ref d4])) d4 "BadText" ["NetError"] ["line", "item"] [("item", u), ("line", v)] := Ev.keep ⟨_, _, _, T.X_BadText, m4⟩ S12a
    refine ⟨q8, rfl, ⟨_, SqT.of upd_same⟩, ?_⟩
    refine for_tup (xs := [.ref d3, .ref d4]) (fun j σ H'' => (∃ u1 u2 : Option V, σ = [some v, some u, some (.ref q1), u1, u2, some (.ref c1)]) ∧ Same (upd H14 q8 (.tup [.ref d3, .ref d4])) H'') ⟨⟨_, _, rfl⟩, fun _ _ h => h⟩ (fun j σ H'' _ h => SqT.of (h.2 _ _ upd_same)) ?_ ?_
    · rintro j y σ H'' hy ⟨⟨w1, w2, rfl⟩, R⟩
      have vy : ∃ c, y = .ref c ∧ Ev K mg H'' c "BadText" ["NetError"] ["line", "item"] [("item", u), ("line", v)] := by
        have m := List.mem_of_getElem? hy
        simp only [List.mem_cons, List.not_mem_nil, or_false] at m
        rcases m with rfl | rfl
        · exact ⟨d3, rfl, d3v.keep R⟩
        · exact ⟨d4, rfl, d4v.keep R⟩
      obtain ⟨c, rfl, vc⟩ := vy
      refine ⟨_, rfl, vc.get List.mem_cons_self rfl ⟨_, rfl, vc.get (List.mem_cons_of_mem _ List.mem_cons_self) rfl ⟨by show 2 ≤ sizeLine; decide, fun q6 h6 => ⟨_, rfl, _, rfl, by show 2 ≤ sizeLine; decide, fun q7 h7 => ⟨.inr ⟨q6, q7, [v, u], rfl, rfl, at_new upd_same h7, upd_same, ez⟩, _, rfl, iteF ?_⟩⟩⟩⟩⟩
      have R2 := Same.new (o := .lst [v, u]) (Same.new (o := .lst [v, u]) (fun (b : Addr) (o : HO) (h : H'' b = some o) => h) h6) h7
      refine ⟨_, rfl, c, 9, "BadText", ["NetError"], rfl, rfl, (vc.keep R2).er, fun H5 s5 => ⟨_, rfl, iteF ?_⟩⟩
      exact ⟨⟨_, _, rfl⟩, R.trans (R2.trans s5)⟩
    rintro σ H15 ⟨⟨w1, w2, rfl⟩, S12b⟩
    exact k _ (S12.trans S12b)
/-- a drawn value: itself beside itself, whatever becomes of the bag -/
def sp_any : Sp := fun vs H Q _ => ∃ (p c : Addr) (n : Nat), vs = [.ref p] ∧ Bg H p c n ∧ n ≤ 90000 ∧
  ∀ (v : V) (H' : Hp), (∀ H'', Kp p H' H'' → SelfV H'' v) → Kp p H H' → Bg H' p c (n + 2) → Q v H'
theorem log_of {i : Int} (h : i.natAbs < 2 ^ 200) : i.natAbs.log2 < 1920 := by
  by_cases h0 : i.natAbs = 0
  · rw [h0]
    decide
  · refine (Nat.log2_lt h0).mpr (Nat.lt_of_lt_of_le h ?_)
    exact Nat.pow_le_pow_right (by decide) (by decide)
theorem at_new2 {H : Hp} {p q : Addr} {o u u' : HO} (h : H p = some o) (hq : H q = none) : upd (upd H q u) q u' p = some o := by
  rw [upd_upd]
  exact at_new h hq
theorem Bg_new2 {H : Hp} {p c q : Addr} {n : Nat} {o o' : HO} (b : Bg H p c n) (hq : H q = none) : Bg (upd (upd H q o) q o') p c n := by
  rw [upd_upd]
  exact b.new hq
theorem Kp_new2 {H H' : Hp} {p q : Addr} {o o' : HO} (b : Kp p H H') (hq : H' q = none) : Kp p H (upd (upd H' q o) q o') := by
  rw [upd_upd]
  exact b.new hq
theorem by70 (f : Int → Bool) (h : (List.range 70).all (fun (k : Nat) => f (k : Int)) = true) {n : Int} (h0 : 0 ≤ n) (h1 : n < 70) : f n = true := by
  have q := List.all_eq_true.mp h n.toNat (List.mem_range.mpr (by omega))
  have e : ((n.toNat : Nat) : Int) = n := by omega
  rw [e] at q
  exact q
local macro_rules | `(tactic| walk_at "at") => `(tactic| first | assumption | exact upd_same | (refine at_new ?_ (by assumption); walk_at "at") | (refine at_new2 ?_ (by assumption); walk_at "at"))
theorem G__law_any (T : Txt P K mg A) : FnG P w K mg base CX0 3 A.a__law_any A.d__law_any P__law_any sp_any := by
  refine okG T.F__law_any sc__law_any (fun vs H Q E h => ?_) (fun cdv A0 outer s H vs Q E hr h => ?_)
  · obtain ⟨p, c, n, rfl, _⟩ := h
    rfl
  obtain ⟨p, c, n, rfl, bg, hn, k⟩ := h
  refine ⟨_, (pss_cons (ps_set (i := 1) sc__law_any.nd rfl (Or.inl rfl) (pe_callG (G__law_dash T) (hr.mono (by decide)) rfl T.g__law_dash T.F__law_dash.kp T.b__law_dash .nil pass0 (pa_cons (pv 0) (pa_cons pe_int pa_nil))))
      (pss_cons (ps_set (i := 2) sc__law_any.nd rfl (Or.inl rfl) (pe_lst (pa_cons (pv 1) (pa_cons (pe_op op_sub (pe_un un_neg (pe_op op_pow pe_int pe_int)) (pv 1)) (pa_cons (pe_op op_add_str pe_str (pe_callTy call_str_int (by rfl) T.n_str (by decide +kernel) (pa_cons (pv 1) pa_nil))) (pa_cons pe_str (pa_cons pe_non (pa_cons pe_bl (pa_cons (pe_lst (pa_cons (pv 1) (pa_cons (pe_tup (pa_cons pe_non pa_nil)) pa_nil))) (pa_cons (pe_tup (pa_cons (pv 1) (pa_cons (pe_lst (pa_cons (pv 1) pa_nil)) pa_nil))) (pa_cons pe_dnewK (pa_cons (pe_lst pa_nil) (pa_cons (pe_disp (pps_cons pe_str (pv 1) pps_nil) (by rfl) (by rfl) (fun z => by cases z) (by decide)) pa_nil)))))))))))))
      (pss_one (ps_ret (pe_callG (G__law_one_of T) (hr.mono (by decide)) rfl T.g__law_one_of T.F__law_one_of.kp T.b__law_one_of .nil pass0 (pa_cons (pv 0) (pa_cons (pv 2) pa_nil))))))), ?_⟩
  refine ⟨_, rfl, p, c, n, 70, rfl, bg, by omega, by decide, by decide, fun N H1 x0 x1 kp1 bg1 => ?_⟩
  obtain ⟨op, hop⟩ := bg1.has.1
  try dsimp only
  refine ⟨_, rfl, _, _, rfl, rfl, ⟨by decide, by decide, by decide⟩, _, rfl, _, rfl, _, _, rfl, rfl, ?_⟩
  have ls : (Str.ofString (toString N)).length ≤ 100 := of_decide_eq_true (by70 (fun n => decide ((Str.ofString (toString n)).length ≤ 100)) (by decide +kernel) x0 x1)
  refine ⟨_, rfl, _, rfl, log_of (by omega), _, _, rfl, rfl, Nat.le_trans (Nat.add_le_add_left ls _) (by show 1 + 100 ≤ sizeLine; decide), ?_⟩
  refine ⟨_, rfl, by show 1 ≤ sizeLine; decide, fun q1 h1 => ⟨by show 2 ≤ sizeLine; decide, fun q2 h2 => ?_⟩⟩
  refine ⟨_, rfl, _, rfl, by show 1 ≤ sizeLine; decide, fun q3 h3 => ⟨by show 2 ≤ sizeLine; decide, fun q4 h4 => ?_⟩⟩
  refine fun q5 h5 => ⟨Nat.zero_le _, fun q6 h6 => ?_⟩
  refine fun q7 h7 => ⟨_, rfl, upd_same, [(.inr "a", .int N)], rfl, by show 1 ≤ 15; decide, by show 11 ≤ sizeLine; decide, fun q8 h8 => ?_⟩
  try dsimp only
  have e1 : q1 ≠ p := (ne_of_none (o := op) (by walk_at "at") h1).symm
  have e2 : q2 ≠ p := (ne_of_none (o := op) (by walk_at "at") h2).symm
  have e3 : q3 ≠ p := (ne_of_none (o := op) (by walk_at "at") h3).symm
  have e4 : q4 ≠ p := (ne_of_none (o := op) (by walk_at "at") h4).symm
  have e5 : q5 ≠ p := (ne_of_none (o := op) (by walk_at "at") h5).symm
  have e6 : q6 ≠ p := (ne_of_none (o := op) (by walk_at "at") h6).symm
  have e7 : q7 ≠ p := (ne_of_none (o := op) (by walk_at "at") h7).symm
  have e8 : q8 ≠ p := (ne_of_none (o := op) (by walk_at "at") h8).symm
  refine ⟨_, rfl, _, rfl, p, c, q8, n + 1, _, rfl, (Bg_new2 ((((((bg1.new h1).new h2).new h3).new h4).new h5).new h6) h7).new h8, by omega, upd_same, e8, by show 1 ≤ 11; decide, by show 11 ≤ 1000; decide, fun v H' hv kp bg' => ?_⟩
  refine k v H' ?_ (((Kp_new2 ((((((kp1.new h1).new h2).new h3).new h4).new h5).new h6) h7).new h8).trans kp) bg'
  intro H'' kp'
  have g1 : H'' q1 = some (.tup [.non]) := kp' _ _ e1 (kp _ _ e1 (by walk_at "at"))
  have g2 : H'' q2 = some (.lst [.int N, .ref q1]) := kp' _ _ e2 (kp _ _ e2 (by walk_at "at"))
  have g3 : H'' q3 = some (.lst [.int N]) := kp' _ _ e3 (kp _ _ e3 (by walk_at "at"))
  have g4 : H'' q4 = some (.tup [.int N, .ref q3]) := kp' _ _ e4 (kp _ _ e4 (by walk_at "at"))
  have g5 : H'' q5 = some (.dK []) := kp' _ _ e5 (kp _ _ e5 (by walk_at "at"))
  have g6 : H'' q6 = some (.lst []) := kp' _ _ e6 (kp _ _ e6 (by walk_at "at"))
  have g7 : H'' q7 = some (.dK [(.inr "a", .int N)]) := kp' _ _ e7 (kp _ _ e7 (by walk_at "at"))
  have ez : ∀ q : Addr, ∀ x ∈ [V.int N, V.ref q], easyV x = true := by
    intro q x hx
    rcases List.mem_cons.mp hx with rfl | hx
    · rfl
    · rw [List.mem_singleton.mp hx]
      rfl
  simp only [List.mem_cons, List.not_mem_nil, or_false] at hv
  rcases hv with rfl | rfl | rfl | rfl | rfl | rfl | rfl | rfl | rfl | rfl | rfl
  · exact trivial
  · exact trivial
  · exact trivial
  · exact trivial
  · exact trivial
  · exact trivial
  · exact .inl ⟨_, g2, ez _⟩
  · exact .inr (.inl ⟨_, g4, ez _⟩)
  · exact .inr (.inr ⟨_, g5, fun p hp => by cases hp⟩)
  · exact .inl ⟨_, g6, fun p hp => by cases hp⟩
  · refine .inr (.inr ⟨_, g7, fun p hp => ?_⟩)
    rw [List.mem_singleton.mp hp]
    exact ⟨by simp [valV], rfl⟩
def sp_law (K : PySem.W.Frag) : Sp := fun vs H Q _ => ∃ (a : Addr) (ns : List Int), vs = [.ref a] ∧ SqL K H a (ns.map V.int) ∧ ns.length ≤ 63 ∧ ∀ H', Q (.bl true) H'
theorem G_law (T : Txt P K mg A) : FnG P w K mg base CX0 5 A.a_law A.d_law P_law (sp_law K) := by
  refine okG T.F_law sc_law (fun vs H Q E h => ?_) (fun cdv A0 outer s H vs Q E hr h => ?_)
  · obtain ⟨a, ns, rfl, _⟩ := h
    rfl
  obtain ⟨a, ns, rfl, hS, hl, k⟩ := h
  refine ⟨_, (pss_cons (ps_set (i := 1) sc_law.nd rfl (Or.inl rfl) (pe_callG (G__law_cruet T) (hr.mono (by decide)) rfl T.g__law_cruet T.F__law_cruet.kp T.b__law_cruet .nil pass0 (pa_cons (pv 0) pa_nil)))
      (pss_cons (ps_for PassesOwn.never rfl (pi_range1 (by rfl) T.n_range (pa_cons pe_int pa_nil)) (pg_name (i := 2) sc_law.nd rfl (Or.inl rfl)) (pss_cons (ps_par (i := 3) (j := 4) (by rfl) sc_law.nd rfl rfl (by decide) rfl rfl (pa_cons (pe_callG (G__law_any T) (hr.mono (by decide)) rfl T.g__law_any T.F__law_any.kp T.b__law_any .nil pass0 (pa_cons (pv 1) pa_nil)) (pa_cons (pe_callG (G__law_any T) (hr.mono (by decide)) rfl T.g__law_any T.F__law_any.kp T.b__law_any .nil pass0 (pa_cons (pv 1) pa_nil)) pa_nil)) (by rfl))
      (pss_one (ps_if (PW.pt (pw_or (pt_not (pt_val (pe_callG (G__law_parts_right T) (hr.mono (by decide)) rfl T.g__law_parts_right T.F__law_parts_right.kp T.b__law_parts_right .nil pass0 (pa_cons (pv 3) pa_nil)))) (pw_or1 (pt_not (pt_val (pe_callG (G__law_fields_right T) (hr.mono (by decide)) rfl T.g__law_fields_right T.F__law_fields_right.kp T.b__law_fields_right .nil pass0 (pa_cons (pv 3) (pa_cons (pv 4) pa_nil)))))))) (pss_one (ps_ret pe_bl)) pss_nil))))
      (pss_one (ps_ret pe_bl)))), ?_⟩
  refine ⟨_, rfl, a, ns, rfl, hS, hl, fun p c H1 s1 hp hc bg1 => ?_⟩
  refine ⟨3, rfl, by decide, by decide, for_range (lo := 0) (n := 3) (fun i σ H' => (∃ v1 v2 v3 : Option V, σ = [some (.ref a), some (.ref p), v1, v2, v3]) ∧ Bg H' p c (100 * i)) ⟨⟨none, none, none, rfl⟩, bg1⟩ ?_ ?_⟩
  · rintro i σ H' hi ⟨⟨v1, v2, v3, rfl⟩, bg⟩
    refine ⟨_, rfl, p, c, 100 * i, rfl, bg, by omega, fun v H2 sv kp2 bg2 => ⟨_, rfl, p, c, _, rfl, bg2, by omega, fun u H3 su kp3 bg3 => ?_⟩⟩
    have sv3 := sv H3 kp3
    have su3 := su H3 (Kp.refl p H3)
    refine ⟨_, _, rfl, ?_⟩
    refine ⟨_, rfl, v, rfl, sv3, fun H4 s4 => ⟨_, rfl, iteF ?_⟩⟩
    refine ⟨_, rfl, _, rfl, v, u, rfl, self_keep sv3 s4, self_keep su3 s4, fun H5 s5 => ⟨_, rfl, iteF ?_⟩⟩
    exact ⟨⟨_, _, _, rfl⟩, ((bg3.keep s4).keep s5).le (by omega)⟩
  · rintro σ H' _
    exact k _
end
theorem all_mk {l : PySem.W.OpenLaw} {w : World} {K : PySem.W.Frag} {h : Heap} {mg : Str → Option Value} {fa : Addr} (X : K.In h) (G : h.Ns mainGlobals mg) (hfa : mg "law" = some (.ref fa))
    {f0 f1 f2 f3 f4 f5 f6 f7 f8 : Addr} {od0 an0 od1 an1 od2 an2 od3 an3 od4 an4 od5 an5 od6 an6 od7 an7 od8 an8 : Option Addr} {sl0 sl1 sl2 sl3 sl4 sl5 sl6 sl7 sl8 : Array (Option Value)} {oc0 kV0 dc0 pm0 cd0 ct0 oc1 kV1 dc1 pm1 cd1 ct1 oc2 kV2 dc2 pm2 cd2 ct2 oc3 kV3 dc3 pm3 cd3 ct3 oc4 kV4 dc4 pm4 cd4 ct4 oc5 kV5 dc5 pm5 cd5 ct5 oc6 kV6 dc6 pm6 cd6 ct6 oc7 kV7 dc7 pm7 cd7 ct7 oc8 kV8 dc8 pm8 cd8 ct8 : Value}
    {C0 : Addr} {q_0 : Str} {N0 : Addr} {bs0 sb0 : List Value} {sn0 : List Str} {ab0 : Bool} {co0 : Option Bool} {dd0 : Option Addr} {m0a m0b m0c m0d m0e : Option Value}
    {C1 : Addr} {q_1 : Str} {N1 : Addr} {bs1 sb1 : List Value} {sn1 : List Str} {ab1 : Bool} {co1 : Option Bool} {dd1 : Option Addr} {m1a m1b m1c m1d m1e : Option Value}
    {g1 : Addr} {goc1 gkV1 gdc1 gpm1 gcd1 gct1 : Value} {god1 gan1 : Option Addr} {gsl1 : Array (Option Value)}
    {C2 : Addr} {q_2 : Str} {N2 : Addr} {bs2 sb2 : List Value} {sn2 : List Str} {ab2 : Bool} {co2 : Option Bool} {dd2 : Option Addr} {m2a m2b m2c m2d m2e : Option Value}
    {g2 : Addr} {goc2 gkV2 gdc2 gpm2 gcd2 gct2 : Value} {god2 gan2 : Option Addr} {gsl2 : Array (Option Value)}
    {C3 : Addr} {q_3 : Str} {N3 : Addr} {bs3 sb3 : List Value} {sn3 : List Str} {ab3 : Bool} {co3 : Option Bool} {dd3 : Option Addr} {m3a m3b m3c m3d m3e : Option Value}
    {g3 : Addr} {goc3 gkV3 gdc3 gpm3 gcd3 gct3 : Value} {god3 gan3 : Option Addr} {gsl3 : Array (Option Value)}
    {C4 : Addr} {q_4 : Str} {N4 : Addr} {bs4 sb4 : List Value} {sn4 : List Str} {ab4 : Bool} {co4 : Option Bool} {dd4 : Option Addr} {m4a m4b m4c m4d m4e : Option Value}
    {g4 : Addr} {goc4 gkV4 gdc4 gpm4 gcd4 gct4 : Value} {god4 gan4 : Option Addr} {gsl4 : Array (Option Value)}
    {C5 : Addr} {q_5 : Str} {N5 : Addr} {bs5 sb5 : List Value} {sn5 : List Str} {ab5 : Bool} {co5 : Option Bool} {dd5 : Option Addr} {m5a m5b m5c m5d m5e : Option Value}
    {g5 : Addr} {goc5 gkV5 gdc5 gpm5 gcd5 gct5 : Value} {god5 gan5 : Option Addr} {gsl5 : Array (Option Value)}
    {C6 : Addr} {q_6 : Str} {N6 : Addr} {bs6 sb6 : List Value} {sn6 : List Str} {ab6 : Bool} {co6 : Option Bool} {dd6 : Option Addr} {m6a m6b m6c m6d m6e : Option Value}
    {g6 : Addr} {goc6 gkV6 gdc6 gpm6 gcd6 gct6 : Value} {god6 gan6 : Option Addr} {gsl6 : Array (Option Value)}
    {C7 : Addr} {q_7 : Str} {N7 : Addr} {bs7 sb7 : List Value} {sn7 : List Str} {ab7 : Bool} {co7 : Option Bool} {dd7 : Option Addr} {m7a m7b m7c m7d m7e : Option Value}
    {g7 : Addr} {goc7 gkV7 gdc7 gpm7 gct7 : Value} {god7 gan7 : Option Addr} {gsl7 : Array (Option Value)}
    {cda7 cc7 : Addr} {ccl7 cl7 : Value} {cdd7 cld7 : Option Addr} {vs7 : Array Value} {ccs7 csl7 : Array (Option Value)} {file7 : Str} {tf7 : Tok}
    {C8 : Addr} {q_8 : Str} {N8 : Addr} {bs8 sb8 : List Value} {sn8 : List Str} {ab8 : Bool} {co8 : Option Bool} {dd8 : Option Addr} {m8a m8b m8c m8d m8e : Option Value}
    {g8 : Addr} {goc8 gkV8 gdc8 gpm8 gct8 : Value} {god8 gan8 : Option Addr} {gsl8 : Array (Option Value)}
    {cda8 cc8 : Addr} {ccl8 cl8 : Value} {cdd8 cld8 : Option Addr} {vs8 : Array Value} {ccs8 csl8 : Array (Option Value)} {file8 : Str} {tf8 : Tok}
    {C9 : Addr} {q_9 : Str} {N9 : Addr} {bs9 sb9 : List Value} {sn9 : List Str} {ab9 : Bool} {co9 : Option Bool} {dd9 : Option Addr} {m9a m9b m9c m9d m9e : Option Value}
    {g9 : Addr} {goc9 gkV9 gdc9 gpm9 gcd9 gct9 : Value} {god9 gan9 : Option Addr} {gsl9 : Array (Option Value)}
    {C10 : Addr} {q_10 : Str} {N10 : Addr} {bs10 sb10 : List Value} {sn10 : List Str} {ab10 : Bool} {co10 : Option Bool} {dd10 : Option Addr} {m10a m10b m10c m10d m10e : Option Value}
    {g10 : Addr} {goc10 gkV10 gdc10 gpm10 gcd10 gct10 : Value} {god10 gan10 : Option Addr} {gsl10 : Array (Option Value)}
    {C11 : Addr} {q_11 : Str} {N11 : Addr} {bs11 sb11 : List Value} {sn11 : List Str} {ab11 : Bool} {co11 : Option Bool} {dd11 : Option Addr} {m11a m11b m11c m11d m11e : Option Value}
    {g11 : Addr} {goc11 gkV11 gdc11 gpm11 gcd11 gct11 : Value} {god11 gan11 : Option Addr} {gsl11 : Array (Option Value)}
    (a0 : PySem.W.nsIn K mainGlobals "_law_cruet" = some (some (.ref f0)))
    (l0 : K.lookup f0 = some ⟨oc0, od0, .func (PySem.W.fnOf "_law_cruet" "_law_cruet" (defArgs s__law_cruet) (defBody s__law_cruet) (defScope s__law_cruet) .none kV0 dc0 pm0 an0 cd0 ct0), sl0⟩)
    (c0 : PySem.W.codeIn K cd0 "_law_cruet" = true)
    (k0 : PySem.W.keepIn K (.ref f0) = true)
    (a1 : PySem.W.nsIn K mainGlobals "_law_dash" = some (some (.ref f1)))
    (l1 : K.lookup f1 = some ⟨oc1, od1, .func (PySem.W.fnOf "_law_dash" "_law_dash" (defArgs s__law_dash) (defBody s__law_dash) (defScope s__law_dash) .none kV1 dc1 pm1 an1 cd1 ct1), sl1⟩)
    (c1 : PySem.W.codeIn K cd1 "_law_dash" = true)
    (k1 : PySem.W.keepIn K (.ref f1) = true)
    (a2 : PySem.W.nsIn K mainGlobals "_law_one_of" = some (some (.ref f2)))
    (l2 : K.lookup f2 = some ⟨oc2, od2, .func (PySem.W.fnOf "_law_one_of" "_law_one_of" (defArgs s__law_one_of) (defBody s__law_one_of) (defScope s__law_one_of) .none kV2 dc2 pm2 an2 cd2 ct2), sl2⟩)
    (c2 : PySem.W.codeIn K cd2 "_law_one_of" = true)
    (k2 : PySem.W.keepIn K (.ref f2) = true)
    (a3 : PySem.W.nsIn K mainGlobals "_law_any" = some (some (.ref f3)))
    (l3 : K.lookup f3 = some ⟨oc3, od3, .func (PySem.W.fnOf "_law_any" "_law_any" (defArgs s__law_any) (defBody s__law_any) (defScope s__law_any) .none kV3 dc3 pm3 an3 cd3 ct3), sl3⟩)
    (c3 : PySem.W.codeIn K cd3 "_law_any" = true)
    (k3 : PySem.W.keepIn K (.ref f3) = true)
    (a4 : PySem.W.nsIn K mainGlobals "_law_kin" = some (some (.ref f4)))
    (l4 : K.lookup f4 = some ⟨oc4, od4, .func (PySem.W.fnOf "_law_kin" "_law_kin" (defArgs s__law_kin) (defBody s__law_kin) (defScope s__law_kin) .none kV4 dc4 pm4 an4 cd4 ct4), sl4⟩)
    (c4 : PySem.W.codeIn K cd4 "_law_kin" = true)
    (k4 : PySem.W.keepIn K (.ref f4) = true)
    (a5 : PySem.W.nsIn K mainGlobals "_law_stands" = some (some (.ref f5)))
    (l5 : K.lookup f5 = some ⟨oc5, od5, .func (PySem.W.fnOf "_law_stands" "_law_stands" (defArgs s__law_stands) (defBody s__law_stands) (defScope s__law_stands) .none kV5 dc5 pm5 an5 cd5 ct5), sl5⟩)
    (c5 : PySem.W.codeIn K cd5 "_law_stands" = true)
    (k5 : PySem.W.keepIn K (.ref f5) = true)
    (a6 : PySem.W.nsIn K mainGlobals "_law_parts_right" = some (some (.ref f6)))
    (l6 : K.lookup f6 = some ⟨oc6, od6, .func (PySem.W.fnOf "_law_parts_right" "_law_parts_right" (defArgs s__law_parts_right) (defBody s__law_parts_right) (defScope s__law_parts_right) .none kV6 dc6 pm6 an6 cd6 ct6), sl6⟩)
    (c6 : PySem.W.codeIn K cd6 "_law_parts_right" = true)
    (k6 : PySem.W.keepIn K (.ref f6) = true)
    (a7 : PySem.W.nsIn K mainGlobals "_law_fields_right" = some (some (.ref f7)))
    (l7 : K.lookup f7 = some ⟨oc7, od7, .func (PySem.W.fnOf "_law_fields_right" "_law_fields_right" (defArgs s__law_fields_right) (defBody s__law_fields_right) (defScope s__law_fields_right) .none kV7 dc7 pm7 an7 cd7 ct7), sl7⟩)
    (c7 : PySem.W.codeIn K cd7 "_law_fields_right" = true)
    (k7 : PySem.W.keepIn K (.ref f7) = true)
    (a8 : PySem.W.nsIn K mainGlobals "law" = some (some (.ref f8)))
    (l8 : K.lookup f8 = some ⟨oc8, od8, .func (PySem.W.fnOf "law" "law" (defArgs s_law) (defBody s_law) (defScope s_law) .none kV8 dc8 pm8 an8 cd8 ct8), sl8⟩)
    (c8 : PySem.W.codeIn K cd8 "law" = true)
    (k8 : PySem.W.keepIn K (.ref f8) = true)
    (hcn : PySem.W.specialIn K (.builtin "object.__class__") "__get__" = some (some (.builtin "getset_descriptor.__get__")))
    (hct : PySem.W.takesIn K (.builtin "object.__class__") = some true)
    (xa0 : PySem.W.nsIn K mainGlobals "NetError" = some (some (.ref C0)))
    (xl0 : K.lookup C0 = some (excClassObj "NetError" q_0 C0 N0 bs0 [.type "ValueError", .type "Exception", .type "BaseException", .type "object"] true sn0 sb0 ab0 co0 dd0 m0a m0b m0c m0d m0e "ValueError.__new__"))
    (xa1 : PySem.W.nsIn K mainGlobals "BadNumber" = some (some (.ref C1)))
    (xl1 : K.lookup C1 = some (excClassObj "BadNumber" q_1 C1 N1 bs1 [.ref C0, .type "ValueError", .type "Exception", .type "BaseException", .type "object"] true sn1 sb1 ab1 co1 dd1 m1a m1b m1c m1d m1e "ValueError.__new__"))
    (xs1 : PySem.W.findIn K (.ref C1) "__setattr__" = some (some (.builtin "object.__setattr__")))
    (xg1 : PySem.W.findIn K (.ref C1) "__getattribute__" = some (some (.builtin "BaseException.__getattribute__")))
    (xh1 : PySem.W.findIn K (.ref C1) "__getattr__" = some none)
    (xc1 : PySem.W.findIn K (.ref C1) "__class__" = some (some (.builtin "object.__class__")))
    (xi1 : PySem.W.findIn K (.ref C1) "__init__" = some (some (.ref g1)))
    (xt1 : PySem.W.typeIn K (.ref g1) = some (.type "function"))
    (xk1 : PySem.W.keepIn K (.ref C1) = true)
    (xn1_0 : PySem.W.findIn K (.ref C1) "part" = some none)
    (gl1 : K.lookup g1 = some ⟨goc1, god1, .func (PySem.W.fnOf "__init__" "BadNumber.__init__" (defArgs s_init_BadNumber) (defBody s_init_BadNumber) (defScope s_init_BadNumber) .none gkV1 gdc1 gpm1 gan1 gcd1 gct1), gsl1⟩)
    (gc1 : PySem.W.codeIn K gcd1 "BadNumber.__init__" = true)
    (gk1 : PySem.W.keepIn K (.ref g1) = true)
    (xa2 : PySem.W.nsIn K mainGlobals "BadWeb" = some (some (.ref C2)))
    (xl2 : K.lookup C2 = some (excClassObj "BadWeb" q_2 C2 N2 bs2 [.ref C0, .type "ValueError", .type "Exception", .type "BaseException", .type "object"] true sn2 sb2 ab2 co2 dd2 m2a m2b m2c m2d m2e "ValueError.__new__"))
    (xs2 : PySem.W.findIn K (.ref C2) "__setattr__" = some (some (.builtin "object.__setattr__")))
    (xg2 : PySem.W.findIn K (.ref C2) "__getattribute__" = some (some (.builtin "BaseException.__getattribute__")))
    (xh2 : PySem.W.findIn K (.ref C2) "__getattr__" = some none)
    (xc2 : PySem.W.findIn K (.ref C2) "__class__" = some (some (.builtin "object.__class__")))
    (xi2 : PySem.W.findIn K (.ref C2) "__init__" = some (some (.ref g2)))
    (xt2 : PySem.W.typeIn K (.ref g2) = some (.type "function"))
    (xk2 : PySem.W.keepIn K (.ref C2) = true)
    (xn2_0 : PySem.W.findIn K (.ref C2) "part" = some none)
    (gl2 : K.lookup g2 = some ⟨goc2, god2, .func (PySem.W.fnOf "__init__" "BadWeb.__init__" (defArgs s_init_BadWeb) (defBody s_init_BadWeb) (defScope s_init_BadWeb) .none gkV2 gdc2 gpm2 gan2 gcd2 gct2), gsl2⟩)
    (gc2 : PySem.W.codeIn K gcd2 "BadWeb.__init__" = true)
    (gk2 : PySem.W.keepIn K (.ref g2) = true)
    (xa3 : PySem.W.nsIn K mainGlobals "BadTable" = some (some (.ref C3)))
    (xl3 : K.lookup C3 = some (excClassObj "BadTable" q_3 C3 N3 bs3 [.ref C0, .type "ValueError", .type "Exception", .type "BaseException", .type "object"] true sn3 sb3 ab3 co3 dd3 m3a m3b m3c m3d m3e "ValueError.__new__"))
    (xs3 : PySem.W.findIn K (.ref C3) "__setattr__" = some (some (.builtin "object.__setattr__")))
    (xg3 : PySem.W.findIn K (.ref C3) "__getattribute__" = some (some (.builtin "BaseException.__getattribute__")))
    (xh3 : PySem.W.findIn K (.ref C3) "__getattr__" = some none)
    (xc3 : PySem.W.findIn K (.ref C3) "__class__" = some (some (.builtin "object.__class__")))
    (xi3 : PySem.W.findIn K (.ref C3) "__init__" = some (some (.ref g3)))
    (xt3 : PySem.W.typeIn K (.ref g3) = some (.type "function"))
    (xk3 : PySem.W.keepIn K (.ref C3) = true)
    (xn3_0 : PySem.W.findIn K (.ref C3) "part" = some none)
    (gl3 : K.lookup g3 = some ⟨goc3, god3, .func (PySem.W.fnOf "__init__" "BadTable.__init__" (defArgs s_init_BadTable) (defBody s_init_BadTable) (defScope s_init_BadTable) .none gkV3 gdc3 gpm3 gan3 gcd3 gct3), gsl3⟩)
    (gc3 : PySem.W.codeIn K gcd3 "BadTable.__init__" = true)
    (gk3 : PySem.W.keepIn K (.ref g3) = true)
    (xa4 : PySem.W.nsIn K mainGlobals "BadLot" = some (some (.ref C4)))
    (xl4 : K.lookup C4 = some (excClassObj "BadLot" q_4 C4 N4 bs4 [.ref C0, .type "ValueError", .type "Exception", .type "BaseException", .type "object"] true sn4 sb4 ab4 co4 dd4 m4a m4b m4c m4d m4e "ValueError.__new__"))
    (xs4 : PySem.W.findIn K (.ref C4) "__setattr__" = some (some (.builtin "object.__setattr__")))
    (xg4 : PySem.W.findIn K (.ref C4) "__getattribute__" = some (some (.builtin "BaseException.__getattribute__")))
    (xh4 : PySem.W.findIn K (.ref C4) "__getattr__" = some none)
    (xc4 : PySem.W.findIn K (.ref C4) "__class__" = some (some (.builtin "object.__class__")))
    (xi4 : PySem.W.findIn K (.ref C4) "__init__" = some (some (.ref g4)))
    (xt4 : PySem.W.typeIn K (.ref g4) = some (.type "function"))
    (xk4 : PySem.W.keepIn K (.ref C4) = true)
    (xn4_0 : PySem.W.findIn K (.ref C4) "part" = some none)
    (gl4 : K.lookup g4 = some ⟨goc4, god4, .func (PySem.W.fnOf "__init__" "BadLot.__init__" (defArgs s_init_BadLot) (defBody s_init_BadLot) (defScope s_init_BadLot) .none gkV4 gdc4 gpm4 gan4 gcd4 gct4), gsl4⟩)
    (gc4 : PySem.W.codeIn K gcd4 "BadLot.__init__" = true)
    (gk4 : PySem.W.keepIn K (.ref g4) = true)
    (xa5 : PySem.W.nsIn K mainGlobals "Misfit" = some (some (.ref C5)))
    (xl5 : K.lookup C5 = some (excClassObj "Misfit" q_5 C5 N5 bs5 [.ref C0, .type "ValueError", .type "Exception", .type "BaseException", .type "object"] true sn5 sb5 ab5 co5 dd5 m5a m5b m5c m5d m5e "ValueError.__new__"))
    (xs5 : PySem.W.findIn K (.ref C5) "__setattr__" = some (some (.builtin "object.__setattr__")))
    (xg5 : PySem.W.findIn K (.ref C5) "__getattribute__" = some (some (.builtin "BaseException.__getattribute__")))
    (xh5 : PySem.W.findIn K (.ref C5) "__getattr__" = some none)
    (xc5 : PySem.W.findIn K (.ref C5) "__class__" = some (some (.builtin "object.__class__")))
    (xi5 : PySem.W.findIn K (.ref C5) "__init__" = some (some (.ref g5)))
    (xt5 : PySem.W.typeIn K (.ref g5) = some (.type "function"))
    (xk5 : PySem.W.keepIn K (.ref C5) = true)
    (xn5_0 : PySem.W.findIn K (.ref C5) "part" = some none)
    (gl5 : K.lookup g5 = some ⟨goc5, god5, .func (PySem.W.fnOf "__init__" "Misfit.__init__" (defArgs s_init_Misfit) (defBody s_init_Misfit) (defScope s_init_Misfit) .none gkV5 gdc5 gpm5 gan5 gcd5 gct5), gsl5⟩)
    (gc5 : PySem.W.codeIn K gcd5 "Misfit.__init__" = true)
    (gk5 : PySem.W.keepIn K (.ref g5) = true)
    (xa6 : PySem.W.nsIn K mainGlobals "Missing" = some (some (.ref C6)))
    (xl6 : K.lookup C6 = some (excClassObj "Missing" q_6 C6 N6 bs6 [.ref C0, .type "ValueError", .type "Exception", .type "BaseException", .type "object"] true sn6 sb6 ab6 co6 dd6 m6a m6b m6c m6d m6e "ValueError.__new__"))
    (xs6 : PySem.W.findIn K (.ref C6) "__setattr__" = some (some (.builtin "object.__setattr__")))
    (xg6 : PySem.W.findIn K (.ref C6) "__getattribute__" = some (some (.builtin "BaseException.__getattribute__")))
    (xh6 : PySem.W.findIn K (.ref C6) "__getattr__" = some none)
    (xc6 : PySem.W.findIn K (.ref C6) "__class__" = some (some (.builtin "object.__class__")))
    (xi6 : PySem.W.findIn K (.ref C6) "__init__" = some (some (.ref g6)))
    (xt6 : PySem.W.typeIn K (.ref g6) = some (.type "function"))
    (xk6 : PySem.W.keepIn K (.ref C6) = true)
    (xn6_0 : PySem.W.findIn K (.ref C6) "value" = some none)
    (gl6 : K.lookup g6 = some ⟨goc6, god6, .func (PySem.W.fnOf "__init__" "Missing.__init__" (defArgs s_init_Missing) (defBody s_init_Missing) (defScope s_init_Missing) .none gkV6 gdc6 gpm6 gan6 gcd6 gct6), gsl6⟩)
    (gc6 : PySem.W.codeIn K gcd6 "Missing.__init__" = true)
    (gk6 : PySem.W.keepIn K (.ref g6) = true)
    (gx6 : PySem.W.fnIn K g6 = true)
    (xa7 : PySem.W.nsIn K mainGlobals "NoPlace" = some (some (.ref C7)))
    (xl7 : K.lookup C7 = some (excClassObj "NoPlace" q_7 C7 N7 bs7 [.ref C6, .ref C0, .type "ValueError", .type "Exception", .type "BaseException", .type "object"] true sn7 sb7 ab7 co7 dd7 m7a m7b m7c m7d m7e "ValueError.__new__"))
    (xs7 : PySem.W.findIn K (.ref C7) "__setattr__" = some (some (.builtin "object.__setattr__")))
    (xg7 : PySem.W.findIn K (.ref C7) "__getattribute__" = some (some (.builtin "BaseException.__getattribute__")))
    (xh7 : PySem.W.findIn K (.ref C7) "__getattr__" = some none)
    (xc7 : PySem.W.findIn K (.ref C7) "__class__" = some (some (.builtin "object.__class__")))
    (xi7 : PySem.W.findIn K (.ref C7) "__init__" = some (some (.ref g7)))
    (xt7 : PySem.W.typeIn K (.ref g7) = some (.type "function"))
    (xk7 : PySem.W.keepIn K (.ref C7) = true)
    (xn7_0 : PySem.W.findIn K (.ref C7) "value" = some none)
    (gl7 : K.lookup g7 = some ⟨goc7, god7, .func (PySem.W.ksFn "__init__" "NoPlace.__init__" (supA (SPos.q1 ⟨⟨30, 17, 30, 21⟩, ⟨30, 23, 30, 28⟩, ⟨31, 8, 31, 13⟩, ⟨31, 8, 31, 15⟩, ⟨31, 8, 31, 24⟩, ⟨31, 25, 31, 30⟩, ⟨31, 8, 31, 31⟩, ⟨31, 8, 31, 31⟩⟩) (SPos.q2 ⟨⟨30, 17, 30, 21⟩, ⟨30, 23, 30, 28⟩, ⟨31, 8, 31, 13⟩, ⟨31, 8, 31, 15⟩, ⟨31, 8, 31, 24⟩, ⟨31, 25, 31, 30⟩, ⟨31, 8, 31, 31⟩, ⟨31, 8, 31, 31⟩⟩)) (supB (SPos.p0 ⟨⟨30, 17, 30, 21⟩, ⟨30, 23, 30, 28⟩, ⟨31, 8, 31, 13⟩, ⟨31, 8, 31, 15⟩, ⟨31, 8, 31, 24⟩, ⟨31, 25, 31, 30⟩, ⟨31, 8, 31, 31⟩, ⟨31, 8, 31, 31⟩⟩) (SPos.p1 ⟨⟨30, 17, 30, 21⟩, ⟨30, 23, 30, 28⟩, ⟨31, 8, 31, 13⟩, ⟨31, 8, 31, 15⟩, ⟨31, 8, 31, 24⟩, ⟨31, 25, 31, 30⟩, ⟨31, 8, 31, 31⟩, ⟨31, 8, 31, 31⟩⟩) (SPos.p2 ⟨⟨30, 17, 30, 21⟩, ⟨30, 23, 30, 28⟩, ⟨31, 8, 31, 13⟩, ⟨31, 8, 31, 15⟩, ⟨31, 8, 31, 24⟩, ⟨31, 25, 31, 30⟩, ⟨31, 8, 31, 31⟩, ⟨31, 8, 31, 31⟩⟩) (SPos.p3 ⟨⟨30, 17, 30, 21⟩, ⟨30, 23, 30, 28⟩, ⟨31, 8, 31, 13⟩, ⟨31, 8, 31, 15⟩, ⟨31, 8, 31, 24⟩, ⟨31, 25, 31, 30⟩, ⟨31, 8, 31, 31⟩, ⟨31, 8, 31, 31⟩⟩) (SPos.p4 ⟨⟨30, 17, 30, 21⟩, ⟨30, 23, 30, 28⟩, ⟨31, 8, 31, 13⟩, ⟨31, 8, 31, 15⟩, ⟨31, 8, 31, 24⟩, ⟨31, 25, 31, 30⟩, ⟨31, 8, 31, 31⟩, ⟨31, 8, 31, 31⟩⟩) (SPos.p5 ⟨⟨30, 17, 30, 21⟩, ⟨30, 23, 30, 28⟩, ⟨31, 8, 31, 13⟩, ⟨31, 8, 31, 15⟩, ⟨31, 8, 31, 24⟩, ⟨31, 25, 31, 30⟩, ⟨31, 8, 31, 31⟩, ⟨31, 8, 31, 31⟩⟩)) supS .none gkV7 gdc7 gpm7 gan7 (.ref cda7) gct7 cc7), gsl7⟩)
    (gc7 : PySem.W.codeIn K (.ref cda7) "NoPlace.__init__" = true)
    (gd7 : K.lookup cda7 = some ⟨ccl7, cdd7, .fields vs7, ccs7⟩)
    (gv7 : vs7[2]? = some (.str file7 tf7))
    (gf7 : ((l.prog.main.file : Str) == file7) = true)
    (ge7 : K.lookup cc7 = some ⟨cl7, cld7, .cell (some (.ref C7)), csl7⟩)
    (xa8 : PySem.W.nsIn K mainGlobals "NoTie" = some (some (.ref C8)))
    (xl8 : K.lookup C8 = some (excClassObj "NoTie" q_8 C8 N8 bs8 [.ref C6, .ref C0, .type "ValueError", .type "Exception", .type "BaseException", .type "object"] true sn8 sb8 ab8 co8 dd8 m8a m8b m8c m8d m8e "ValueError.__new__"))
    (xs8 : PySem.W.findIn K (.ref C8) "__setattr__" = some (some (.builtin "object.__setattr__")))
    (xg8 : PySem.W.findIn K (.ref C8) "__getattribute__" = some (some (.builtin "BaseException.__getattribute__")))
    (xh8 : PySem.W.findIn K (.ref C8) "__getattr__" = some none)
    (xc8 : PySem.W.findIn K (.ref C8) "__class__" = some (some (.builtin "object.__class__")))
    (xi8 : PySem.W.findIn K (.ref C8) "__init__" = some (some (.ref g8)))
    (xt8 : PySem.W.typeIn K (.ref g8) = some (.type "function"))
    (xk8 : PySem.W.keepIn K (.ref C8) = true)
    (xn8_0 : PySem.W.findIn K (.ref C8) "value" = some none)
    (gl8 : K.lookup g8 = some ⟨goc8, god8, .func (PySem.W.ksFn "__init__" "NoTie.__init__" (supA (SPos.q1 ⟨⟨34, 17, 34, 21⟩, ⟨34, 23, 34, 28⟩, ⟨35, 8, 35, 13⟩, ⟨35, 8, 35, 15⟩, ⟨35, 8, 35, 24⟩, ⟨35, 25, 35, 30⟩, ⟨35, 8, 35, 31⟩, ⟨35, 8, 35, 31⟩⟩) (SPos.q2 ⟨⟨34, 17, 34, 21⟩, ⟨34, 23, 34, 28⟩, ⟨35, 8, 35, 13⟩, ⟨35, 8, 35, 15⟩, ⟨35, 8, 35, 24⟩, ⟨35, 25, 35, 30⟩, ⟨35, 8, 35, 31⟩, ⟨35, 8, 35, 31⟩⟩)) (supB (SPos.p0 ⟨⟨34, 17, 34, 21⟩, ⟨34, 23, 34, 28⟩, ⟨35, 8, 35, 13⟩, ⟨35, 8, 35, 15⟩, ⟨35, 8, 35, 24⟩, ⟨35, 25, 35, 30⟩, ⟨35, 8, 35, 31⟩, ⟨35, 8, 35, 31⟩⟩) (SPos.p1 ⟨⟨34, 17, 34, 21⟩, ⟨34, 23, 34, 28⟩, ⟨35, 8, 35, 13⟩, ⟨35, 8, 35, 15⟩, ⟨35, 8, 35, 24⟩, ⟨35, 25, 35, 30⟩, ⟨35, 8, 35, 31⟩, ⟨35, 8, 35, 31⟩⟩) (SPos.p2 ⟨⟨34, 17, 34, 21⟩, ⟨34, 23, 34, 28⟩, ⟨35, 8, 35, 13⟩, ⟨35, 8, 35, 15⟩, ⟨35, 8, 35, 24⟩, ⟨35, 25, 35, 30⟩, ⟨35, 8, 35, 31⟩, ⟨35, 8, 35, 31⟩⟩) (SPos.p3 ⟨⟨34, 17, 34, 21⟩, ⟨34, 23, 34, 28⟩, ⟨35, 8, 35, 13⟩, ⟨35, 8, 35, 15⟩, ⟨35, 8, 35, 24⟩, ⟨35, 25, 35, 30⟩, ⟨35, 8, 35, 31⟩, ⟨35, 8, 35, 31⟩⟩) (SPos.p4 ⟨⟨34, 17, 34, 21⟩, ⟨34, 23, 34, 28⟩, ⟨35, 8, 35, 13⟩, ⟨35, 8, 35, 15⟩, ⟨35, 8, 35, 24⟩, ⟨35, 25, 35, 30⟩, ⟨35, 8, 35, 31⟩, ⟨35, 8, 35, 31⟩⟩) (SPos.p5 ⟨⟨34, 17, 34, 21⟩, ⟨34, 23, 34, 28⟩, ⟨35, 8, 35, 13⟩, ⟨35, 8, 35, 15⟩, ⟨35, 8, 35, 24⟩, ⟨35, 25, 35, 30⟩, ⟨35, 8, 35, 31⟩, ⟨35, 8, 35, 31⟩⟩)) supS .none gkV8 gdc8 gpm8 gan8 (.ref cda8) gct8 cc8), gsl8⟩)
    (gc8 : PySem.W.codeIn K (.ref cda8) "NoTie.__init__" = true)
    (gd8 : K.lookup cda8 = some ⟨ccl8, cdd8, .fields vs8, ccs8⟩)
    (gv8 : vs8[2]? = some (.str file8 tf8))
    (gf8 : ((l.prog.main.file : Str) == file8) = true)
    (ge8 : K.lookup cc8 = some ⟨cl8, cld8, .cell (some (.ref C8)), csl8⟩)
    (xa9 : PySem.W.nsIn K mainGlobals "Twice" = some (some (.ref C9)))
    (xl9 : K.lookup C9 = some (excClassObj "Twice" q_9 C9 N9 bs9 [.ref C0, .type "ValueError", .type "Exception", .type "BaseException", .type "object"] true sn9 sb9 ab9 co9 dd9 m9a m9b m9c m9d m9e "ValueError.__new__"))
    (xs9 : PySem.W.findIn K (.ref C9) "__setattr__" = some (some (.builtin "object.__setattr__")))
    (xg9 : PySem.W.findIn K (.ref C9) "__getattribute__" = some (some (.builtin "BaseException.__getattribute__")))
    (xh9 : PySem.W.findIn K (.ref C9) "__getattr__" = some none)
    (xc9 : PySem.W.findIn K (.ref C9) "__class__" = some (some (.builtin "object.__class__")))
    (xi9 : PySem.W.findIn K (.ref C9) "__init__" = some (some (.ref g9)))
    (xt9 : PySem.W.typeIn K (.ref g9) = some (.type "function"))
    (xk9 : PySem.W.keepIn K (.ref C9) = true)
    (xn9_0 : PySem.W.findIn K (.ref C9) "value" = some none)
    (gl9 : K.lookup g9 = some ⟨goc9, god9, .func (PySem.W.fnOf "__init__" "Twice.__init__" (defArgs s_init_Twice) (defBody s_init_Twice) (defScope s_init_Twice) .none gkV9 gdc9 gpm9 gan9 gcd9 gct9), gsl9⟩)
    (gc9 : PySem.W.codeIn K gcd9 "Twice.__init__" = true)
    (gk9 : PySem.W.keepIn K (.ref g9) = true)
    (xa10 : PySem.W.nsIn K mainGlobals "TooMany" = some (some (.ref C10)))
    (xl10 : K.lookup C10 = some (excClassObj "TooMany" q_10 C10 N10 bs10 [.ref C0, .type "ValueError", .type "Exception", .type "BaseException", .type "object"] true sn10 sb10 ab10 co10 dd10 m10a m10b m10c m10d m10e "ValueError.__new__"))
    (xs10 : PySem.W.findIn K (.ref C10) "__setattr__" = some (some (.builtin "object.__setattr__")))
    (xg10 : PySem.W.findIn K (.ref C10) "__getattribute__" = some (some (.builtin "BaseException.__getattribute__")))
    (xh10 : PySem.W.findIn K (.ref C10) "__getattr__" = some none)
    (xc10 : PySem.W.findIn K (.ref C10) "__class__" = some (some (.builtin "object.__class__")))
    (xi10 : PySem.W.findIn K (.ref C10) "__init__" = some (some (.ref g10)))
    (xt10 : PySem.W.typeIn K (.ref g10) = some (.type "function"))
    (xk10 : PySem.W.keepIn K (.ref C10) = true)
    (xn10_0 : PySem.W.findIn K (.ref C10) "what" = some none)
    (xn10_1 : PySem.W.findIn K (.ref C10) "most" = some none)
    (gl10 : K.lookup g10 = some ⟨goc10, god10, .func (PySem.W.fnOf "__init__" "TooMany.__init__" (defArgs s_init_TooMany) (defBody s_init_TooMany) (defScope s_init_TooMany) .none gkV10 gdc10 gpm10 gan10 gcd10 gct10), gsl10⟩)
    (gc10 : PySem.W.codeIn K gcd10 "TooMany.__init__" = true)
    (gk10 : PySem.W.keepIn K (.ref g10) = true)
    (xa11 : PySem.W.nsIn K mainGlobals "BadText" = some (some (.ref C11)))
    (xl11 : K.lookup C11 = some (excClassObj "BadText" q_11 C11 N11 bs11 [.ref C0, .type "ValueError", .type "Exception", .type "BaseException", .type "object"] true sn11 sb11 ab11 co11 dd11 m11a m11b m11c m11d m11e "ValueError.__new__"))
    (xs11 : PySem.W.findIn K (.ref C11) "__setattr__" = some (some (.builtin "object.__setattr__")))
    (xg11 : PySem.W.findIn K (.ref C11) "__getattribute__" = some (some (.builtin "BaseException.__getattribute__")))
    (xh11 : PySem.W.findIn K (.ref C11) "__getattr__" = some none)
    (xc11 : PySem.W.findIn K (.ref C11) "__class__" = some (some (.builtin "object.__class__")))
    (xi11 : PySem.W.findIn K (.ref C11) "__init__" = some (some (.ref g11)))
    (xt11 : PySem.W.typeIn K (.ref g11) = some (.type "function"))
    (xk11 : PySem.W.keepIn K (.ref C11) = true)
    (xn11_0 : PySem.W.findIn K (.ref C11) "line" = some none)
    (xn11_1 : PySem.W.findIn K (.ref C11) "item" = some none)
    (gl11 : K.lookup g11 = some ⟨goc11, god11, .func (PySem.W.fnOf "__init__" "BadText.__init__" (defArgs s_init_BadText) (defBody s_init_BadText) (defScope s_init_BadText) .none gkV11 gdc11 gpm11 gan11 gcd11 gct11), gsl11⟩)
    (gc11 : PySem.W.codeIn K gcd11 "BadText.__init__" = true)
    (gk11 : PySem.W.keepIn K (.ref g11) = true)
    (hop : PySem.W.nsIn K cStatics "thirdparty.any" = some none)
    (htop : (l.prog.main.scope.names.lookup ("super" : Str)).isSome = false)
    (zs : PySem.W.nsIn K mainGlobals "super" = some none)
    (z0 : PySem.W.nsIn K mainGlobals "ArithmeticError" = some none)
    (z1 : PySem.W.nsIn K mainGlobals "AttributeError" = some none)
    (z2 : PySem.W.nsIn K mainGlobals "LookupError" = some none)
    (z3 : PySem.W.nsIn K mainGlobals "RuntimeError" = some none)
    (z4 : PySem.W.nsIn K mainGlobals "TypeError" = some none)
    (z5 : PySem.W.nsIn K mainGlobals "ValueError" = some none)
    (z6 : PySem.W.nsIn K mainGlobals "abs" = some none)
    (z7 : PySem.W.nsIn K mainGlobals "enumerate" = some none)
    (z8 : PySem.W.nsIn K mainGlobals "int" = some none)
    (z9 : PySem.W.nsIn K mainGlobals "isinstance" = some none)
    (z10 : PySem.W.nsIn K mainGlobals "len" = some none)
    (z11 : PySem.W.nsIn K mainGlobals "range" = some none)
    (z12 : PySem.W.nsIn K mainGlobals "str" = some none)
    : ∃ fd : FuncData, (∀ (s : Shared) (v : Value), BindsTo s fd ⟨[v], []⟩ [("script", v)]) ∧ ∀ base : Heap, K.In base → base.Ns mainGlobals mg → FnG l.prog w K mg base CX0 5 fa fd ["script"] (sp_law K) := by
  have e := hfa.symm.trans (PySem.W.mg_of X G a8)
  cases e
  have F0 := fun_mk (st := s__law_cruet) l0 c0 k0
  have b0 := F0.binds (ps := P__law_cruet) fun _ _ _ _ _ _ us hl => match us, hl with | [_], _ => rfl
  have F1 := fun_mk (st := s__law_dash) l1 c1 k1
  have b1 := F1.binds (ps := P__law_dash) fun _ _ _ _ _ _ us hl => match us, hl with | [_, _], _ => rfl
  have F2 := fun_mk (st := s__law_one_of) l2 c2 k2
  have b2 := F2.binds (ps := P__law_one_of) fun _ _ _ _ _ _ us hl => match us, hl with | [_, _], _ => rfl
  have F3 := fun_mk (st := s__law_any) l3 c3 k3
  have b3 := F3.binds (ps := P__law_any) fun _ _ _ _ _ _ us hl => match us, hl with | [_], _ => rfl
  have F4 := fun_mk (st := s__law_kin) l4 c4 k4
  have b4 := F4.binds (ps := P__law_kin) fun _ _ _ _ _ _ us hl => match us, hl with | [_], _ => rfl
  have F5 := fun_mk (st := s__law_stands) l5 c5 k5
  have b5 := F5.binds (ps := P__law_stands) fun _ _ _ _ _ _ us hl => match us, hl with | [_, _], _ => rfl
  have F6 := fun_mk (st := s__law_parts_right) l6 c6 k6
  have b6 := F6.binds (ps := P__law_parts_right) fun _ _ _ _ _ _ us hl => match us, hl with | [_], _ => rfl
  have F7 := fun_mk (st := s__law_fields_right) l7 c7 k7
  have b7 := F7.binds (ps := P__law_fields_right) fun _ _ _ _ _ _ us hl => match us, hl with | [_, _], _ => rfl
  have F8 := fun_mk (st := s_law) l8 c8 k8
  have b8 := F8.binds (ps := P_law) fun _ _ _ _ _ _ us hl => match us, hl with | [_], _ => rfl
  have n0 : Cn K mg C0 "NetError" := ⟨PySem.W.mg_of X G xa0, _, _, _, _, _, _, _, _, _, _, _, _, _, _, xl0⟩
  have n1 : Cn K mg C1 "BadNumber" := ⟨PySem.W.mg_of X G xa1, _, _, _, _, _, _, _, _, _, _, _, _, _, _, xl1⟩
  have n2 : Cn K mg C2 "BadWeb" := ⟨PySem.W.mg_of X G xa2, _, _, _, _, _, _, _, _, _, _, _, _, _, _, xl2⟩
  have n3 : Cn K mg C3 "BadTable" := ⟨PySem.W.mg_of X G xa3, _, _, _, _, _, _, _, _, _, _, _, _, _, _, xl3⟩
  have n4 : Cn K mg C4 "BadLot" := ⟨PySem.W.mg_of X G xa4, _, _, _, _, _, _, _, _, _, _, _, _, _, _, xl4⟩
  have n5 : Cn K mg C5 "Misfit" := ⟨PySem.W.mg_of X G xa5, _, _, _, _, _, _, _, _, _, _, _, _, _, _, xl5⟩
  have n6 : Cn K mg C6 "Missing" := ⟨PySem.W.mg_of X G xa6, _, _, _, _, _, _, _, _, _, _, _, _, _, _, xl6⟩
  have n7 : Cn K mg C7 "NoPlace" := ⟨PySem.W.mg_of X G xa7, _, _, _, _, _, _, _, _, _, _, _, _, _, _, xl7⟩
  have n8 : Cn K mg C8 "NoTie" := ⟨PySem.W.mg_of X G xa8, _, _, _, _, _, _, _, _, _, _, _, _, _, _, xl8⟩
  have n9 : Cn K mg C9 "Twice" := ⟨PySem.W.mg_of X G xa9, _, _, _, _, _, _, _, _, _, _, _, _, _, _, xl9⟩
  have n10 : Cn K mg C10 "TooMany" := ⟨PySem.W.mg_of X G xa10, _, _, _, _, _, _, _, _, _, _, _, _, _, _, xl10⟩
  have n11 : Cn K mg C11 "BadText" := ⟨PySem.W.mg_of X G xa11, _, _, _, _, _, _, _, _, _, _, _, _, _, _, xl11⟩
  have X1 : XT K mg "BadNumber" C1 g1 [C0] ["NetError"] ["part"] := ⟨PySem.W.mg_of X G xa1, ⟨_, _, _, _, _, _, _, _, _, _, _, _, _, xl1⟩, (.cons n0 .nil), xs1, xg1, xh1, xc1, hcn, hct, xi1, xt1, xk1, fun f hf => by
    rcases List.mem_cons.mp hf with rfl | hf
    · exact xn1_0
    cases hf⟩
  have GF1 := fun_mk (st := s_init_BadNumber) gl1 gc1 gk1
  have gb1 := GF1.binds (ps := P_init_BadNumber) fun _ _ _ _ _ _ us hl => match us, hl with | [_, _], _ => rfl
  have X2 : XT K mg "BadWeb" C2 g2 [C0] ["NetError"] ["part"] := ⟨PySem.W.mg_of X G xa2, ⟨_, _, _, _, _, _, _, _, _, _, _, _, _, xl2⟩, (.cons n0 .nil), xs2, xg2, xh2, xc2, hcn, hct, xi2, xt2, xk2, fun f hf => by
    rcases List.mem_cons.mp hf with rfl | hf
    · exact xn2_0
    cases hf⟩
  have GF2 := fun_mk (st := s_init_BadWeb) gl2 gc2 gk2
  have gb2 := GF2.binds (ps := P_init_BadWeb) fun _ _ _ _ _ _ us hl => match us, hl with | [_, _], _ => rfl
  have X3 : XT K mg "BadTable" C3 g3 [C0] ["NetError"] ["part"] := ⟨PySem.W.mg_of X G xa3, ⟨_, _, _, _, _, _, _, _, _, _, _, _, _, xl3⟩, (.cons n0 .nil), xs3, xg3, xh3, xc3, hcn, hct, xi3, xt3, xk3, fun f hf => by
    rcases List.mem_cons.mp hf with rfl | hf
    · exact xn3_0
    cases hf⟩
  have GF3 := fun_mk (st := s_init_BadTable) gl3 gc3 gk3
  have gb3 := GF3.binds (ps := P_init_BadTable) fun _ _ _ _ _ _ us hl => match us, hl with | [_, _], _ => rfl
  have X4 : XT K mg "BadLot" C4 g4 [C0] ["NetError"] ["part"] := ⟨PySem.W.mg_of X G xa4, ⟨_, _, _, _, _, _, _, _, _, _, _, _, _, xl4⟩, (.cons n0 .nil), xs4, xg4, xh4, xc4, hcn, hct, xi4, xt4, xk4, fun f hf => by
    rcases List.mem_cons.mp hf with rfl | hf
    · exact xn4_0
    cases hf⟩
  have GF4 := fun_mk (st := s_init_BadLot) gl4 gc4 gk4
  have gb4 := GF4.binds (ps := P_init_BadLot) fun _ _ _ _ _ _ us hl => match us, hl with | [_, _], _ => rfl
  have X5 : XT K mg "Misfit" C5 g5 [C0] ["NetError"] ["part"] := ⟨PySem.W.mg_of X G xa5, ⟨_, _, _, _, _, _, _, _, _, _, _, _, _, xl5⟩, (.cons n0 .nil), xs5, xg5, xh5, xc5, hcn, hct, xi5, xt5, xk5, fun f hf => by
    rcases List.mem_cons.mp hf with rfl | hf
    · exact xn5_0
    cases hf⟩
  have GF5 := fun_mk (st := s_init_Misfit) gl5 gc5 gk5
  have gb5 := GF5.binds (ps := P_init_Misfit) fun _ _ _ _ _ _ us hl => match us, hl with | [_, _], _ => rfl
  have X6 : XT K mg "Missing" C6 g6 [C0] ["NetError"] ["value"] := ⟨PySem.W.mg_of X G xa6, ⟨_, _, _, _, _, _, _, _, _, _, _, _, _, xl6⟩, (.cons n0 .nil), xs6, xg6, xh6, xc6, hcn, hct, xi6, xt6, xk6, fun f hf => by
    rcases List.mem_cons.mp hf with rfl | hf
    · exact xn6_0
    cases hf⟩
  have GF6 := fun_mk (st := s_init_Missing) gl6 gc6 gk6
  have gb6 := GF6.binds (ps := P_init_Missing) fun _ _ _ _ _ _ us hl => match us, hl with | [_, _], _ => rfl
  have X9 : XT K mg "Twice" C9 g9 [C0] ["NetError"] ["value"] := ⟨PySem.W.mg_of X G xa9, ⟨_, _, _, _, _, _, _, _, _, _, _, _, _, xl9⟩, (.cons n0 .nil), xs9, xg9, xh9, xc9, hcn, hct, xi9, xt9, xk9, fun f hf => by
    rcases List.mem_cons.mp hf with rfl | hf
    · exact xn9_0
    cases hf⟩
  have GF9 := fun_mk (st := s_init_Twice) gl9 gc9 gk9
  have gb9 := GF9.binds (ps := P_init_Twice) fun _ _ _ _ _ _ us hl => match us, hl with | [_, _], _ => rfl
  have X10 : XT K mg "TooMany" C10 g10 [C0] ["NetError"] ["what", "most"] := ⟨PySem.W.mg_of X G xa10, ⟨_, _, _, _, _, _, _, _, _, _, _, _, _, xl10⟩, (.cons n0 .nil), xs10, xg10, xh10, xc10, hcn, hct, xi10, xt10, xk10, fun f hf => by
    rcases List.mem_cons.mp hf with rfl | hf
    · exact xn10_0
    rcases List.mem_cons.mp hf with rfl | hf
    · exact xn10_1
    cases hf⟩
  have GF10 := fun_mk (st := s_init_TooMany) gl10 gc10 gk10
  have gb10 := GF10.binds (ps := P_init_TooMany) fun _ _ _ _ _ _ us hl => match us, hl with | [_, _, _], _ => rfl
  have X11 : XT K mg "BadText" C11 g11 [C0] ["NetError"] ["line", "item"] := ⟨PySem.W.mg_of X G xa11, ⟨_, _, _, _, _, _, _, _, _, _, _, _, _, xl11⟩, (.cons n0 .nil), xs11, xg11, xh11, xc11, hcn, hct, xi11, xt11, xk11, fun f hf => by
    rcases List.mem_cons.mp hf with rfl | hf
    · exact xn11_0
    rcases List.mem_cons.mp hf with rfl | hf
    · exact xn11_1
    cases hf⟩
  have GF11 := fun_mk (st := s_init_BadText) gl11 gc11 gk11
  have gb11 := GF11.binds (ps := P_init_BadText) fun _ _ _ _ _ _ us hl => match us, hl with | [_, _, _], _ => rfl
  have X7 : XT K mg "NoPlace" C7 g7 [C6, C0] ["Missing", "NetError"] ["value"] := ⟨PySem.W.mg_of X G xa7, ⟨_, _, _, _, _, _, _, _, _, _, _, _, _, xl7⟩, (.cons n6 (.cons n0 .nil)), xs7, xg7, xh7, xc7, hcn, hct, xi7, xt7, xk7, fun f hf => by
    rcases List.mem_cons.mp hf with rfl | hf
    · exact xn7_0
    cases hf⟩
  have S7 : SFun l.prog K ⟨⟨30, 17, 30, 21⟩, ⟨30, 23, 30, 28⟩, ⟨31, 8, 31, 13⟩, ⟨31, 8, 31, 15⟩, ⟨31, 8, 31, 24⟩, ⟨31, 25, 31, 30⟩, ⟨31, 8, 31, 31⟩, ⟨31, 8, 31, 31⟩⟩ "NoPlace.__init__" g7 C7 cc7 cda7 (PySem.W.ksFn "__init__" "NoPlace.__init__" (supA (SPos.q1 ⟨⟨30, 17, 30, 21⟩, ⟨30, 23, 30, 28⟩, ⟨31, 8, 31, 13⟩, ⟨31, 8, 31, 15⟩, ⟨31, 8, 31, 24⟩, ⟨31, 25, 31, 30⟩, ⟨31, 8, 31, 31⟩, ⟨31, 8, 31, 31⟩⟩) (SPos.q2 ⟨⟨30, 17, 30, 21⟩, ⟨30, 23, 30, 28⟩, ⟨31, 8, 31, 13⟩, ⟨31, 8, 31, 15⟩, ⟨31, 8, 31, 24⟩, ⟨31, 25, 31, 30⟩, ⟨31, 8, 31, 31⟩, ⟨31, 8, 31, 31⟩⟩)) (supB (SPos.p0 ⟨⟨30, 17, 30, 21⟩, ⟨30, 23, 30, 28⟩, ⟨31, 8, 31, 13⟩, ⟨31, 8, 31, 15⟩, ⟨31, 8, 31, 24⟩, ⟨31, 25, 31, 30⟩, ⟨31, 8, 31, 31⟩, ⟨31, 8, 31, 31⟩⟩) (SPos.p1 ⟨⟨30, 17, 30, 21⟩, ⟨30, 23, 30, 28⟩, ⟨31, 8, 31, 13⟩, ⟨31, 8, 31, 15⟩, ⟨31, 8, 31, 24⟩, ⟨31, 25, 31, 30⟩, ⟨31, 8, 31, 31⟩, ⟨31, 8, 31, 31⟩⟩) (SPos.p2 ⟨⟨30, 17, 30, 21⟩, ⟨30, 23, 30, 28⟩, ⟨31, 8, 31, 13⟩, ⟨31, 8, 31, 15⟩, ⟨31, 8, 31, 24⟩, ⟨31, 25, 31, 30⟩, ⟨31, 8, 31, 31⟩, ⟨31, 8, 31, 31⟩⟩) (SPos.p3 ⟨⟨30, 17, 30, 21⟩, ⟨30, 23, 30, 28⟩, ⟨31, 8, 31, 13⟩, ⟨31, 8, 31, 15⟩, ⟨31, 8, 31, 24⟩, ⟨31, 25, 31, 30⟩, ⟨31, 8, 31, 31⟩, ⟨31, 8, 31, 31⟩⟩) (SPos.p4 ⟨⟨30, 17, 30, 21⟩, ⟨30, 23, 30, 28⟩, ⟨31, 8, 31, 13⟩, ⟨31, 8, 31, 15⟩, ⟨31, 8, 31, 24⟩, ⟨31, 25, 31, 30⟩, ⟨31, 8, 31, 31⟩, ⟨31, 8, 31, 31⟩⟩) (SPos.p5 ⟨⟨30, 17, 30, 21⟩, ⟨30, 23, 30, 28⟩, ⟨31, 8, 31, 13⟩, ⟨31, 8, 31, 15⟩, ⟨31, 8, 31, 24⟩, ⟨31, 25, 31, 30⟩, ⟨31, 8, 31, 31⟩, ⟨31, 8, 31, 31⟩⟩)) supS .none gkV7 gdc7 gpm7 gan7 (.ref cda7) gct7 cc7) := ⟨⟨_, _, _, _, _, _, _, _, rfl, gl7, gc7⟩, ⟨_, _, _, _, _, _, gd7, gv7, gf7⟩, ⟨_, _, _, ge7⟩, htop, hop⟩
  have U7 : SupC K C7 C7 g6 := X7.supc X6 gx6
  have gb7 : Binds K (PySem.W.ksFn "__init__" "NoPlace.__init__" (supA (SPos.q1 ⟨⟨30, 17, 30, 21⟩, ⟨30, 23, 30, 28⟩, ⟨31, 8, 31, 13⟩, ⟨31, 8, 31, 15⟩, ⟨31, 8, 31, 24⟩, ⟨31, 25, 31, 30⟩, ⟨31, 8, 31, 31⟩, ⟨31, 8, 31, 31⟩⟩) (SPos.q2 ⟨⟨30, 17, 30, 21⟩, ⟨30, 23, 30, 28⟩, ⟨31, 8, 31, 13⟩, ⟨31, 8, 31, 15⟩, ⟨31, 8, 31, 24⟩, ⟨31, 25, 31, 30⟩, ⟨31, 8, 31, 31⟩, ⟨31, 8, 31, 31⟩⟩)) (supB (SPos.p0 ⟨⟨30, 17, 30, 21⟩, ⟨30, 23, 30, 28⟩, ⟨31, 8, 31, 13⟩, ⟨31, 8, 31, 15⟩, ⟨31, 8, 31, 24⟩, ⟨31, 25, 31, 30⟩, ⟨31, 8, 31, 31⟩, ⟨31, 8, 31, 31⟩⟩) (SPos.p1 ⟨⟨30, 17, 30, 21⟩, ⟨30, 23, 30, 28⟩, ⟨31, 8, 31, 13⟩, ⟨31, 8, 31, 15⟩, ⟨31, 8, 31, 24⟩, ⟨31, 25, 31, 30⟩, ⟨31, 8, 31, 31⟩, ⟨31, 8, 31, 31⟩⟩) (SPos.p2 ⟨⟨30, 17, 30, 21⟩, ⟨30, 23, 30, 28⟩, ⟨31, 8, 31, 13⟩, ⟨31, 8, 31, 15⟩, ⟨31, 8, 31, 24⟩, ⟨31, 25, 31, 30⟩, ⟨31, 8, 31, 31⟩, ⟨31, 8, 31, 31⟩⟩) (SPos.p3 ⟨⟨30, 17, 30, 21⟩, ⟨30, 23, 30, 28⟩, ⟨31, 8, 31, 13⟩, ⟨31, 8, 31, 15⟩, ⟨31, 8, 31, 24⟩, ⟨31, 25, 31, 30⟩, ⟨31, 8, 31, 31⟩, ⟨31, 8, 31, 31⟩⟩) (SPos.p4 ⟨⟨30, 17, 30, 21⟩, ⟨30, 23, 30, 28⟩, ⟨31, 8, 31, 13⟩, ⟨31, 8, 31, 15⟩, ⟨31, 8, 31, 24⟩, ⟨31, 25, 31, 30⟩, ⟨31, 8, 31, 31⟩, ⟨31, 8, 31, 31⟩⟩) (SPos.p5 ⟨⟨30, 17, 30, 21⟩, ⟨30, 23, 30, 28⟩, ⟨31, 8, 31, 13⟩, ⟨31, 8, 31, 15⟩, ⟨31, 8, 31, 24⟩, ⟨31, 25, 31, 30⟩, ⟨31, 8, 31, 31⟩, ⟨31, 8, 31, 31⟩⟩)) supS .none gkV7 gdc7 gpm7 gan7 (.ref cda7) gct7 cc7) P_init_NoPlace [] := binds_sup
  have X8 : XT K mg "NoTie" C8 g8 [C6, C0] ["Missing", "NetError"] ["value"] := ⟨PySem.W.mg_of X G xa8, ⟨_, _, _, _, _, _, _, _, _, _, _, _, _, xl8⟩, (.cons n6 (.cons n0 .nil)), xs8, xg8, xh8, xc8, hcn, hct, xi8, xt8, xk8, fun f hf => by
    rcases List.mem_cons.mp hf with rfl | hf
    · exact xn8_0
    cases hf⟩
  have S8 : SFun l.prog K ⟨⟨34, 17, 34, 21⟩, ⟨34, 23, 34, 28⟩, ⟨35, 8, 35, 13⟩, ⟨35, 8, 35, 15⟩, ⟨35, 8, 35, 24⟩, ⟨35, 25, 35, 30⟩, ⟨35, 8, 35, 31⟩, ⟨35, 8, 35, 31⟩⟩ "NoTie.__init__" g8 C8 cc8 cda8 (PySem.W.ksFn "__init__" "NoTie.__init__" (supA (SPos.q1 ⟨⟨34, 17, 34, 21⟩, ⟨34, 23, 34, 28⟩, ⟨35, 8, 35, 13⟩, ⟨35, 8, 35, 15⟩, ⟨35, 8, 35, 24⟩, ⟨35, 25, 35, 30⟩, ⟨35, 8, 35, 31⟩, ⟨35, 8, 35, 31⟩⟩) (SPos.q2 ⟨⟨34, 17, 34, 21⟩, ⟨34, 23, 34, 28⟩, ⟨35, 8, 35, 13⟩, ⟨35, 8, 35, 15⟩, ⟨35, 8, 35, 24⟩, ⟨35, 25, 35, 30⟩, ⟨35, 8, 35, 31⟩, ⟨35, 8, 35, 31⟩⟩)) (supB (SPos.p0 ⟨⟨34, 17, 34, 21⟩, ⟨34, 23, 34, 28⟩, ⟨35, 8, 35, 13⟩, ⟨35, 8, 35, 15⟩, ⟨35, 8, 35, 24⟩, ⟨35, 25, 35, 30⟩, ⟨35, 8, 35, 31⟩, ⟨35, 8, 35, 31⟩⟩) (SPos.p1 ⟨⟨34, 17, 34, 21⟩, ⟨34, 23, 34, 28⟩, ⟨35, 8, 35, 13⟩, ⟨35, 8, 35, 15⟩, ⟨35, 8, 35, 24⟩, ⟨35, 25, 35, 30⟩, ⟨35, 8, 35, 31⟩, ⟨35, 8, 35, 31⟩⟩) (SPos.p2 ⟨⟨34, 17, 34, 21⟩, ⟨34, 23, 34, 28⟩, ⟨35, 8, 35, 13⟩, ⟨35, 8, 35, 15⟩, ⟨35, 8, 35, 24⟩, ⟨35, 25, 35, 30⟩, ⟨35, 8, 35, 31⟩, ⟨35, 8, 35, 31⟩⟩) (SPos.p3 ⟨⟨34, 17, 34, 21⟩, ⟨34, 23, 34, 28⟩, ⟨35, 8, 35, 13⟩, ⟨35, 8, 35, 15⟩, ⟨35, 8, 35, 24⟩, ⟨35, 25, 35, 30⟩, ⟨35, 8, 35, 31⟩, ⟨35, 8, 35, 31⟩⟩) (SPos.p4 ⟨⟨34, 17, 34, 21⟩, ⟨34, 23, 34, 28⟩, ⟨35, 8, 35, 13⟩, ⟨35, 8, 35, 15⟩, ⟨35, 8, 35, 24⟩, ⟨35, 25, 35, 30⟩, ⟨35, 8, 35, 31⟩, ⟨35, 8, 35, 31⟩⟩) (SPos.p5 ⟨⟨34, 17, 34, 21⟩, ⟨34, 23, 34, 28⟩, ⟨35, 8, 35, 13⟩, ⟨35, 8, 35, 15⟩, ⟨35, 8, 35, 24⟩, ⟨35, 25, 35, 30⟩, ⟨35, 8, 35, 31⟩, ⟨35, 8, 35, 31⟩⟩)) supS .none gkV8 gdc8 gpm8 gan8 (.ref cda8) gct8 cc8) := ⟨⟨_, _, _, _, _, _, _, _, rfl, gl8, gc8⟩, ⟨_, _, _, _, _, _, gd8, gv8, gf8⟩, ⟨_, _, _, ge8⟩, htop, hop⟩
  have U8 : SupC K C8 C8 g6 := X8.supc X6 gx6
  have gb8 : Binds K (PySem.W.ksFn "__init__" "NoTie.__init__" (supA (SPos.q1 ⟨⟨34, 17, 34, 21⟩, ⟨34, 23, 34, 28⟩, ⟨35, 8, 35, 13⟩, ⟨35, 8, 35, 15⟩, ⟨35, 8, 35, 24⟩, ⟨35, 25, 35, 30⟩, ⟨35, 8, 35, 31⟩, ⟨35, 8, 35, 31⟩⟩) (SPos.q2 ⟨⟨34, 17, 34, 21⟩, ⟨34, 23, 34, 28⟩, ⟨35, 8, 35, 13⟩, ⟨35, 8, 35, 15⟩, ⟨35, 8, 35, 24⟩, ⟨35, 25, 35, 30⟩, ⟨35, 8, 35, 31⟩, ⟨35, 8, 35, 31⟩⟩)) (supB (SPos.p0 ⟨⟨34, 17, 34, 21⟩, ⟨34, 23, 34, 28⟩, ⟨35, 8, 35, 13⟩, ⟨35, 8, 35, 15⟩, ⟨35, 8, 35, 24⟩, ⟨35, 25, 35, 30⟩, ⟨35, 8, 35, 31⟩, ⟨35, 8, 35, 31⟩⟩) (SPos.p1 ⟨⟨34, 17, 34, 21⟩, ⟨34, 23, 34, 28⟩, ⟨35, 8, 35, 13⟩, ⟨35, 8, 35, 15⟩, ⟨35, 8, 35, 24⟩, ⟨35, 25, 35, 30⟩, ⟨35, 8, 35, 31⟩, ⟨35, 8, 35, 31⟩⟩) (SPos.p2 ⟨⟨34, 17, 34, 21⟩, ⟨34, 23, 34, 28⟩, ⟨35, 8, 35, 13⟩, ⟨35, 8, 35, 15⟩, ⟨35, 8, 35, 24⟩, ⟨35, 25, 35, 30⟩, ⟨35, 8, 35, 31⟩, ⟨35, 8, 35, 31⟩⟩) (SPos.p3 ⟨⟨34, 17, 34, 21⟩, ⟨34, 23, 34, 28⟩, ⟨35, 8, 35, 13⟩, ⟨35, 8, 35, 15⟩, ⟨35, 8, 35, 24⟩, ⟨35, 25, 35, 30⟩, ⟨35, 8, 35, 31⟩, ⟨35, 8, 35, 31⟩⟩) (SPos.p4 ⟨⟨34, 17, 34, 21⟩, ⟨34, 23, 34, 28⟩, ⟨35, 8, 35, 13⟩, ⟨35, 8, 35, 15⟩, ⟨35, 8, 35, 24⟩, ⟨35, 25, 35, 30⟩, ⟨35, 8, 35, 31⟩, ⟨35, 8, 35, 31⟩⟩) (SPos.p5 ⟨⟨34, 17, 34, 21⟩, ⟨34, 23, 34, 28⟩, ⟨35, 8, 35, 13⟩, ⟨35, 8, 35, 15⟩, ⟨35, 8, 35, 24⟩, ⟨35, 25, 35, 30⟩, ⟨35, 8, 35, 31⟩, ⟨35, 8, 35, 31⟩⟩)) supS .none gkV8 gdc8 gpm8 gan8 (.ref cda8) gct8 cc8) P_init_NoTie [] := binds_sup
  let A : Ad := ⟨f0, (PySem.W.fnOf "_law_cruet" "_law_cruet" (defArgs s__law_cruet) (defBody s__law_cruet) (defScope s__law_cruet) .none kV0 dc0 pm0 an0 cd0 ct0), f1, (PySem.W.fnOf "_law_dash" "_law_dash" (defArgs s__law_dash) (defBody s__law_dash) (defScope s__law_dash) .none kV1 dc1 pm1 an1 cd1 ct1), f2, (PySem.W.fnOf "_law_one_of" "_law_one_of" (defArgs s__law_one_of) (defBody s__law_one_of) (defScope s__law_one_of) .none kV2 dc2 pm2 an2 cd2 ct2), f3, (PySem.W.fnOf "_law_any" "_law_any" (defArgs s__law_any) (defBody s__law_any) (defScope s__law_any) .none kV3 dc3 pm3 an3 cd3 ct3), f4, (PySem.W.fnOf "_law_kin" "_law_kin" (defArgs s__law_kin) (defBody s__law_kin) (defScope s__law_kin) .none kV4 dc4 pm4 an4 cd4 ct4), f5, (PySem.W.fnOf "_law_stands" "_law_stands" (defArgs s__law_stands) (defBody s__law_stands) (defScope s__law_stands) .none kV5 dc5 pm5 an5 cd5 ct5), f6, (PySem.W.fnOf "_law_parts_right" "_law_parts_right" (defArgs s__law_parts_right) (defBody s__law_parts_right) (defScope s__law_parts_right) .none kV6 dc6 pm6 an6 cd6 ct6), f7, (PySem.W.fnOf "_law_fields_right" "_law_fields_right" (defArgs s__law_fields_right) (defBody s__law_fields_right) (defScope s__law_fields_right) .none kV7 dc7 pm7 an7 cd7 ct7), fa, (PySem.W.fnOf "law" "law" (defArgs s_law) (defBody s_law) (defScope s_law) .none kV8 dc8 pm8 an8 cd8 ct8), C0, C1, C2, C3, C4, C5, C6, C7, C8, C9, C10, C11, g1, (PySem.W.fnOf "__init__" "BadNumber.__init__" (defArgs s_init_BadNumber) (defBody s_init_BadNumber) (defScope s_init_BadNumber) .none gkV1 gdc1 gpm1 gan1 gcd1 gct1), g2, (PySem.W.fnOf "__init__" "BadWeb.__init__" (defArgs s_init_BadWeb) (defBody s_init_BadWeb) (defScope s_init_BadWeb) .none gkV2 gdc2 gpm2 gan2 gcd2 gct2), g3, (PySem.W.fnOf "__init__" "BadTable.__init__" (defArgs s_init_BadTable) (defBody s_init_BadTable) (defScope s_init_BadTable) .none gkV3 gdc3 gpm3 gan3 gcd3 gct3), g4, (PySem.W.fnOf "__init__" "BadLot.__init__" (defArgs s_init_BadLot) (defBody s_init_BadLot) (defScope s_init_BadLot) .none gkV4 gdc4 gpm4 gan4 gcd4 gct4), g5, (PySem.W.fnOf "__init__" "Misfit.__init__" (defArgs s_init_Misfit) (defBody s_init_Misfit) (defScope s_init_Misfit) .none gkV5 gdc5 gpm5 gan5 gcd5 gct5), g6, (PySem.W.fnOf "__init__" "Missing.__init__" (defArgs s_init_Missing) (defBody s_init_Missing) (defScope s_init_Missing) .none gkV6 gdc6 gpm6 gan6 gcd6 gct6), g7, (PySem.W.ksFn "__init__" "NoPlace.__init__" (supA (SPos.q1 ⟨⟨30, 17, 30, 21⟩, ⟨30, 23, 30, 28⟩, ⟨31, 8, 31, 13⟩, ⟨31, 8, 31, 15⟩, ⟨31, 8, 31, 24⟩, ⟨31, 25, 31, 30⟩, ⟨31, 8, 31, 31⟩, ⟨31, 8, 31, 31⟩⟩) (SPos.q2 ⟨⟨30, 17, 30, 21⟩, ⟨30, 23, 30, 28⟩, ⟨31, 8, 31, 13⟩, ⟨31, 8, 31, 15⟩, ⟨31, 8, 31, 24⟩, ⟨31, 25, 31, 30⟩, ⟨31, 8, 31, 31⟩, ⟨31, 8, 31, 31⟩⟩)) (supB (SPos.p0 ⟨⟨30, 17, 30, 21⟩, ⟨30, 23, 30, 28⟩, ⟨31, 8, 31, 13⟩, ⟨31, 8, 31, 15⟩, ⟨31, 8, 31, 24⟩, ⟨31, 25, 31, 30⟩, ⟨31, 8, 31, 31⟩, ⟨31, 8, 31, 31⟩⟩) (SPos.p1 ⟨⟨30, 17, 30, 21⟩, ⟨30, 23, 30, 28⟩, ⟨31, 8, 31, 13⟩, ⟨31, 8, 31, 15⟩, ⟨31, 8, 31, 24⟩, ⟨31, 25, 31, 30⟩, ⟨31, 8, 31, 31⟩, ⟨31, 8, 31, 31⟩⟩) (SPos.p2 ⟨⟨30, 17, 30, 21⟩, ⟨30, 23, 30, 28⟩, ⟨31, 8, 31, 13⟩, ⟨31, 8, 31, 15⟩, ⟨31, 8, 31, 24⟩, ⟨31, 25, 31, 30⟩, ⟨31, 8, 31, 31⟩, ⟨31, 8, 31, 31⟩⟩) (SPos.p3 ⟨⟨30, 17, 30, 21⟩, ⟨30, 23, 30, 28⟩, ⟨31, 8, 31, 13⟩, ⟨31, 8, 31, 15⟩, ⟨31, 8, 31, 24⟩, ⟨31, 25, 31, 30⟩, ⟨31, 8, 31, 31⟩, ⟨31, 8, 31, 31⟩⟩) (SPos.p4 ⟨⟨30, 17, 30, 21⟩, ⟨30, 23, 30, 28⟩, ⟨31, 8, 31, 13⟩, ⟨31, 8, 31, 15⟩, ⟨31, 8, 31, 24⟩, ⟨31, 25, 31, 30⟩, ⟨31, 8, 31, 31⟩, ⟨31, 8, 31, 31⟩⟩) (SPos.p5 ⟨⟨30, 17, 30, 21⟩, ⟨30, 23, 30, 28⟩, ⟨31, 8, 31, 13⟩, ⟨31, 8, 31, 15⟩, ⟨31, 8, 31, 24⟩, ⟨31, 25, 31, 30⟩, ⟨31, 8, 31, 31⟩, ⟨31, 8, 31, 31⟩⟩)) supS .none gkV7 gdc7 gpm7 gan7 (.ref cda7) gct7 cc7), g8, (PySem.W.ksFn "__init__" "NoTie.__init__" (supA (SPos.q1 ⟨⟨34, 17, 34, 21⟩, ⟨34, 23, 34, 28⟩, ⟨35, 8, 35, 13⟩, ⟨35, 8, 35, 15⟩, ⟨35, 8, 35, 24⟩, ⟨35, 25, 35, 30⟩, ⟨35, 8, 35, 31⟩, ⟨35, 8, 35, 31⟩⟩) (SPos.q2 ⟨⟨34, 17, 34, 21⟩, ⟨34, 23, 34, 28⟩, ⟨35, 8, 35, 13⟩, ⟨35, 8, 35, 15⟩, ⟨35, 8, 35, 24⟩, ⟨35, 25, 35, 30⟩, ⟨35, 8, 35, 31⟩, ⟨35, 8, 35, 31⟩⟩)) (supB (SPos.p0 ⟨⟨34, 17, 34, 21⟩, ⟨34, 23, 34, 28⟩, ⟨35, 8, 35, 13⟩, ⟨35, 8, 35, 15⟩, ⟨35, 8, 35, 24⟩, ⟨35, 25, 35, 30⟩, ⟨35, 8, 35, 31⟩, ⟨35, 8, 35, 31⟩⟩) (SPos.p1 ⟨⟨34, 17, 34, 21⟩, ⟨34, 23, 34, 28⟩, ⟨35, 8, 35, 13⟩, ⟨35, 8, 35, 15⟩, ⟨35, 8, 35, 24⟩, ⟨35, 25, 35, 30⟩, ⟨35, 8, 35, 31⟩, ⟨35, 8, 35, 31⟩⟩) (SPos.p2 ⟨⟨34, 17, 34, 21⟩, ⟨34, 23, 34, 28⟩, ⟨35, 8, 35, 13⟩, ⟨35, 8, 35, 15⟩, ⟨35, 8, 35, 24⟩, ⟨35, 25, 35, 30⟩, ⟨35, 8, 35, 31⟩, ⟨35, 8, 35, 31⟩⟩) (SPos.p3 ⟨⟨34, 17, 34, 21⟩, ⟨34, 23, 34, 28⟩, ⟨35, 8, 35, 13⟩, ⟨35, 8, 35, 15⟩, ⟨35, 8, 35, 24⟩, ⟨35, 25, 35, 30⟩, ⟨35, 8, 35, 31⟩, ⟨35, 8, 35, 31⟩⟩) (SPos.p4 ⟨⟨34, 17, 34, 21⟩, ⟨34, 23, 34, 28⟩, ⟨35, 8, 35, 13⟩, ⟨35, 8, 35, 15⟩, ⟨35, 8, 35, 24⟩, ⟨35, 25, 35, 30⟩, ⟨35, 8, 35, 31⟩, ⟨35, 8, 35, 31⟩⟩) (SPos.p5 ⟨⟨34, 17, 34, 21⟩, ⟨34, 23, 34, 28⟩, ⟨35, 8, 35, 13⟩, ⟨35, 8, 35, 15⟩, ⟨35, 8, 35, 24⟩, ⟨35, 25, 35, 30⟩, ⟨35, 8, 35, 31⟩, ⟨35, 8, 35, 31⟩⟩)) supS .none gkV8 gdc8 gpm8 gan8 (.ref cda8) gct8 cc8), g9, (PySem.W.fnOf "__init__" "Twice.__init__" (defArgs s_init_Twice) (defBody s_init_Twice) (defScope s_init_Twice) .none gkV9 gdc9 gpm9 gan9 gcd9 gct9), g10, (PySem.W.fnOf "__init__" "TooMany.__init__" (defArgs s_init_TooMany) (defBody s_init_TooMany) (defScope s_init_TooMany) .none gkV10 gdc10 gpm10 gan10 gcd10 gct10), g11, (PySem.W.fnOf "__init__" "BadText.__init__" (defArgs s_init_BadText) (defBody s_init_BadText) (defScope s_init_BadText) .none gkV11 gdc11 gpm11 gan11 gcd11 gct11), cc7, cda7, cc8, cda8⟩
  have T : Txt l.prog K mg A := ⟨PySem.W.mg_of X G a0, F0, b0, PySem.W.mg_of X G a1, F1, b1, PySem.W.mg_of X G a2, F2, b2, PySem.W.mg_of X G a3, F3, b3, PySem.W.mg_of X G a4, F4, b4, PySem.W.mg_of X G a5, F5, b5, PySem.W.mg_of X G a6, F6, b6, PySem.W.mg_of X G a7, F7, b7, PySem.W.mg_of X G a8, F8, b8, n0, X1, GF1, gb1, X2, GF2, gb2, X3, GF3, gb3, X4, GF4, gb4, X5, GF5, gb5, X6, GF6, gb6, X7, S7, U7, gb7, X8, S8, U8, gb8, X9, GF9, gb9, X10, GF10, gb10, X11, GF11, gb11, PySem.W.mg_none_of X G zs, PySem.W.mg_none_of X G z0, PySem.W.mg_none_of X G z1, PySem.W.mg_none_of X G z2, PySem.W.mg_none_of X G z3, PySem.W.mg_none_of X G z4, PySem.W.mg_none_of X G z5, PySem.W.mg_none_of X G z6, PySem.W.mg_none_of X G z7, PySem.W.mg_none_of X G z8, PySem.W.mg_none_of X G z9, PySem.W.mg_none_of X G z10, PySem.W.mg_none_of X G z11, PySem.W.mg_none_of X G z12⟩
  exact ⟨(PySem.W.fnOf "law" "law" (defArgs s_law) (defBody s_law) (defScope s_law) .none kV8 dc8 pm8 an8 cd8 ct8), fun s v => .of_eq rfl, fun base _ _ => G_law T⟩
theorem walk {l : PySem.W.OpenLaw} {q : Program} {loose : List Str} {XP : (Str → Option Value) → Heap → Prop} {YP : World → Heap → Prop} {d : DefRec} {K : Params → PySem.W.Frag} (hn : l.most = some 63) (hdf : d.params.defaults = [])
    (hY : ∀ (w : World) (h : Heap), YP w h → (K w.params).In h)
    (F : ∀ (w : World) (mg : Str → Option Value) (fa : Addr) (h : Heap), (K w.params).In h → h.Ns mainGlobals mg → mg d.name = some (.ref fa) →
      ∃ fd : FuncData, (∀ (s : Shared) (u : Value), BindsTo s fd ⟨[u], []⟩ [("script", u)]) ∧ ∀ base : Heap, (K w.params).In base → base.Ns mainGlobals mg → FnG l.prog w (K w.params) mg base CX0 5 fa fd ["script"] (sp_law (K w.params))) :
    PySem.W.WalkO q loose XP YP l.row.toRowW d [] (fun f vs => PySem.call f vs) :=
  walk_ofG (n := 63) (k := 5) (x := "script") (CX := fun _ => CX0) (sp := fun w => sp_law (K w.params)) hn (by decide) hdf ⟨⟨rfl, by decide, by decide⟩, rfl⟩ hY F (fun _ _ a ns hl _ hS => ⟨a, ns, rfl, hS, hl, fun _ => rfl⟩) fun _ _ _ _ _ z => z
end K00
open PySem PySem.W PyProof.Rows
set_option maxRecDepth 100000 in
set_option maxHeartbeats 0 in
theorem PySem.Challenge.cw_flowtells_k00_errors_keep_their_fields_holds : PySem.Challenge.rw_flowtells_k00_errors_keep_their_fields.Holds := by
  w_on; o_law; k_head; (case hw => w_witness2)
  k_fill
  refine K00.walk (l := PySem.Challenge.rw_flowtells_k00_errors_keep_their_fields) rfl rfl (fun w h Y => PySem.W.kIn_of Y) ?F
  case F =>
    intro w mg fa h KX G hmg
    refine' K00.all_mk KX G hmg ?a0 ?l0 ?c0 ?k0 ?a1 ?l1 ?c1 ?k1 ?a2 ?l2 ?c2 ?k2 ?a3 ?l3 ?c3 ?k3 ?a4 ?l4 ?c4 ?k4 ?a5 ?l5 ?c5 ?k5 ?a6 ?l6 ?c6 ?k6 ?a7 ?l7 ?c7 ?k7 ?a8 ?l8 ?c8 ?k8 ?hcn ?hct ?xa0 ?xl0 ?xa1 ?xl1 ?xs1 ?xg1 ?xh1 ?xc1 ?xi1 ?xt1 ?xk1 ?xn1_0 ?gl1 ?gc1 ?gk1 ?xa2 ?xl2 ?xs2 ?xg2 ?xh2 ?xc2 ?xi2 ?xt2 ?xk2 ?xn2_0 ?gl2 ?gc2 ?gk2 ?xa3 ?xl3 ?xs3 ?xg3 ?xh3 ?xc3 ?xi3 ?xt3 ?xk3 ?xn3_0 ?gl3 ?gc3 ?gk3 ?xa4 ?xl4 ?xs4 ?xg4 ?xh4 ?xc4 ?xi4 ?xt4 ?xk4 ?xn4_0 ?gl4 ?gc4 ?gk4 ?xa5 ?xl5 ?xs5 ?xg5 ?xh5 ?xc5 ?xi5 ?xt5 ?xk5 ?xn5_0 ?gl5 ?gc5 ?gk5 ?xa6 ?xl6 ?xs6 ?xg6 ?xh6 ?xc6 ?xi6 ?xt6 ?xk6 ?xn6_0 ?gl6 ?gc6 ?gk6 ?gx6 ?xa7 ?xl7 ?xs7 ?xg7 ?xh7 ?xc7 ?xi7 ?xt7 ?xk7 ?xn7_0 ?gl7 ?gc7 ?gd7 ?gv7 ?gf7 ?ge7 ?xa8 ?xl8 ?xs8 ?xg8 ?xh8 ?xc8 ?xi8 ?xt8 ?xk8 ?xn8_0 ?gl8 ?gc8 ?gd8 ?gv8 ?gf8 ?ge8 ?xa9 ?xl9 ?xs9 ?xg9 ?xh9 ?xc9 ?xi9 ?xt9 ?xk9 ?xn9_0 ?gl9 ?gc9 ?gk9 ?xa10 ?xl10 ?xs10 ?xg10 ?xh10 ?xc10 ?xi10 ?xt10 ?xk10 ?xn10_0 ?xn10_1 ?gl10 ?gc10 ?gk10 ?xa11 ?xl11 ?xs11 ?xg11 ?xh11 ?xc11 ?xi11 ?xt11 ?xk11 ?xn11_0 ?xn11_1 ?gl11 ?gc11 ?gk11 ?hop ?htop ?zs ?z0 ?z1 ?z2 ?z3 ?z4 ?z5 ?z6 ?z7 ?z8 ?z9 ?z10 ?z11 ?z12
    (case a0 => k_is)
    (case l0 => k_is)
    (case c0 => k_is)
    (case k0 => k_is)
    (case a1 => k_is)
    (case l1 => k_is)
    (case c1 => k_is)
    (case k1 => k_is)
    (case a2 => k_is)
    (case l2 => k_is)
    (case c2 => k_is)
    (case k2 => k_is)
    (case a3 => k_is)
    (case l3 => k_is)
    (case c3 => k_is)
    (case k3 => k_is)
    (case a4 => k_is)
    (case l4 => k_is)
    (case c4 => k_is)
    (case k4 => k_is)
    (case a5 => k_is)
    (case l5 => k_is)
    (case c5 => k_is)
    (case k5 => k_is)
    (case a6 => k_is)
    (case l6 => k_is)
    (case c6 => k_is)
    (case k6 => k_is)
    (case a7 => k_is)
    (case l7 => k_is)
    (case c7 => k_is)
    (case k7 => k_is)
    (case a8 => k_is)
    (case l8 => k_is)
    (case c8 => k_is)
    (case k8 => k_is)
    (case hcn => k_is)
    (case hct => k_is)
    (case xa0 => k_is)
    (case xl0 => k_is)
    (case xa1 => k_is)
    (case xl1 => k_is)
    (case xs1 => k_is)
    (case xg1 => k_is)
    (case xh1 => k_is)
    (case xc1 => k_is)
    (case xi1 => k_is)
    (case xt1 => k_is)
    (case xk1 => k_is)
    (case xn1_0 => k_is)
    (case gl1 => k_is)
    (case gc1 => k_is)
    (case gk1 => k_is)
    (case xa2 => k_is)
    (case xl2 => k_is)
    (case xs2 => k_is)
    (case xg2 => k_is)
    (case xh2 => k_is)
    (case xc2 => k_is)
    (case xi2 => k_is)
    (case xt2 => k_is)
    (case xk2 => k_is)
    (case xn2_0 => k_is)
    (case gl2 => k_is)
    (case gc2 => k_is)
    (case gk2 => k_is)
    (case xa3 => k_is)
    (case xl3 => k_is)
    (case xs3 => k_is)
    (case xg3 => k_is)
    (case xh3 => k_is)
    (case xc3 => k_is)
    (case xi3 => k_is)
    (case xt3 => k_is)
    (case xk3 => k_is)
    (case xn3_0 => k_is)
    (case gl3 => k_is)
    (case gc3 => k_is)
    (case gk3 => k_is)
    (case xa4 => k_is)
    (case xl4 => k_is)
    (case xs4 => k_is)
    (case xg4 => k_is)
    (case xh4 => k_is)
    (case xc4 => k_is)
    (case xi4 => k_is)
    (case xt4 => k_is)
    (case xk4 => k_is)
    (case xn4_0 => k_is)
    (case gl4 => k_is)
    (case gc4 => k_is)
    (case gk4 => k_is)
    (case xa5 => k_is)
    (case xl5 => k_is)
    (case xs5 => k_is)
    (case xg5 => k_is)
    (case xh5 => k_is)
    (case xc5 => k_is)
    (case xi5 => k_is)
    (case xt5 => k_is)
    (case xk5 => k_is)
    (case xn5_0 => k_is)
    (case gl5 => k_is)
    (case gc5 => k_is)
    (case gk5 => k_is)
    (case xa6 => k_is)
    (case xl6 => k_is)
    (case xs6 => k_is)
    (case xg6 => k_is)
    (case xh6 => k_is)
    (case xc6 => k_is)
    (case xi6 => k_is)
    (case xt6 => k_is)
    (case xk6 => k_is)
    (case xn6_0 => k_is)
    (case gl6 => k_is)
    (case gc6 => k_is)
    (case gk6 => k_is)
    (case gx6 => k_is)
    (case xa7 => k_is)
    (case xl7 => k_is)
    (case xs7 => k_is)
    (case xg7 => k_is)
    (case xh7 => k_is)
    (case xc7 => k_is)
    (case xi7 => k_is)
    (case xt7 => k_is)
    (case xk7 => k_is)
    (case xn7_0 => k_is)
    (case gl7 => k_is)
    (case gc7 => k_is)
    (case gd7 => k_is)
    (case gv7 => first | rfl | decide +kernel | k_is)
    (case gf7 => first | rfl | decide +kernel | k_is)
    (case ge7 => k_is)
    (case xa8 => k_is)
    (case xl8 => k_is)
    (case xs8 => k_is)
    (case xg8 => k_is)
    (case xh8 => k_is)
    (case xc8 => k_is)
    (case xi8 => k_is)
    (case xt8 => k_is)
    (case xk8 => k_is)
    (case xn8_0 => k_is)
    (case gl8 => k_is)
    (case gc8 => k_is)
    (case gd8 => k_is)
    (case gv8 => first | rfl | decide +kernel | k_is)
    (case gf8 => first | rfl | decide +kernel | k_is)
    (case ge8 => k_is)
    (case xa9 => k_is)
    (case xl9 => k_is)
    (case xs9 => k_is)
    (case xg9 => k_is)
    (case xh9 => k_is)
    (case xc9 => k_is)
    (case xi9 => k_is)
    (case xt9 => k_is)
    (case xk9 => k_is)
    (case xn9_0 => k_is)
    (case gl9 => k_is)
    (case gc9 => k_is)
    (case gk9 => k_is)
    (case xa10 => k_is)
    (case xl10 => k_is)
    (case xs10 => k_is)
    (case xg10 => k_is)
    (case xh10 => k_is)
    (case xc10 => k_is)
    (case xi10 => k_is)
    (case xt10 => k_is)
    (case xk10 => k_is)
    (case xn10_0 => k_is)
    (case xn10_1 => k_is)
    (case gl10 => k_is)
    (case gc10 => k_is)
    (case gk10 => k_is)
    (case xa11 => k_is)
    (case xl11 => k_is)
    (case xs11 => k_is)
    (case xg11 => k_is)
    (case xh11 => k_is)
    (case xc11 => k_is)
    (case xi11 => k_is)
    (case xt11 => k_is)
    (case xk11 => k_is)
    (case xn11_0 => k_is)
    (case xn11_1 => k_is)
    (case gl11 => k_is)
    (case gc11 => k_is)
    (case gk11 => k_is)
    (case hop => k_is)
    (case htop => first | rfl | decide +kernel | k_is)
    (case zs => k_is)
    (case z0 => k_is)
    (case z1 => k_is)
    (case z2 => k_is)
    (case z3 => k_is)
    (case z4 => k_is)
    (case z5 => k_is)
    (case z6 => k_is)
    (case z7 => k_is)
    (case z8 => k_is)
    (case z9 => k_is)
    (case z10 => k_is)
    (case z11 => k_is)
    (case z12 => k_is)
