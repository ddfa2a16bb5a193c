import PyProof.Rows.All
import Wide.All
import OpenK.AllK
import Wide.FinOn
import HandS.ForMost
import HandS.ForExc
import HandS.IsInst
import HandS.Strs
import HandS.Flow
import PyProof.ReprRoads
import HandS.Walk
import HandS.Style
import HandS.ExcInit
import HandS.ExcField
import KE.KExcIs
import KE.KSuper
import KE.KEqNest
import HandS.DictComp
import HandS.More
import PyProof.Rows.EqNone
import PyProof.Rows.EqBoolInt
import HandS.Conv
import HandS.TryOnly
import HandS.ExcOwn
import HandS.TupAny
import HandS.Lambda
import HandS.EndTab
import HandS.OwnEq
import PyProof.InstNe
import HandS.ClsMeth
import KE.KCallOwn
import HandS.StrMore
import HandS.Zip
import KE.KItemsList
import HandS.ListItems
import KE.KTypeOf
import HandS.ExcIs
import HandS.TupMul
import HandS.ExcValue
import KE.GoesEnum
import HandS.Iter
import HandS.ExcInitHot
import HandS.SuiteRaise
import HandS.RaiseFrom
import PySem.Challenge.RW_flowtells_k09_webs_and_turns_refused
set_option Elab.async false
set_option linter.all false
set_option maxRecDepth 100000
set_option maxHeartbeats 4000000
/-! Room with the guards told: defs that may ask for the repr of a list -/
namespace FT
open PySem PySem.Spec PyProof.Rows L2

structure RG (k : Nat) (A : Around) : Prop where
  room : Room k A
  gd : A.guards = some []
theorem RG.mono {j k : Nat} {A : Around} (r : RG k A) (h : j ≤ k) : RG j A := ⟨r.room.mono h, r.gd⟩
theorem RG.deeper {k : Nat} {A : Around} (r : RG (k + 1) A) (env : Env) : RG k (A.deeper env) := ⟨r.room.deeper env, r.gd⟩
theorem RG.make {k : Nat} {A : Around} (r : RG (k + 1) A) (C : Addr) (us : List Value) (kw : List (Str × Value)) :
    RG k (A.under (.builtin "type.__call__" ⟨.ref C :: us, kw⟩)) := by
  refine ⟨r.room.make C us kw, ?_⟩
  have e := r.gd
  first
    | exact e
    | simpa [Around.under, Code.guards, Code.isGuard, guardIds, pushGuards] using e

section
variable (P : Program) (w : World) (K : PySem.W.Frag) (mg : Str → Option Value) (base : Heap) (CX : CXT)
/-- what a def keeps, where the guards are told -/
structure FnG (k : Nat) (f : Addr) (fd : FuncData) (ps : List Str) (sp : Sp) : Prop where
  arity : ∀ vs H Q E, sp vs H Q E → vs.length = ps.length
  goes : ∀ {A : Around} {outer : List Env} {s : Shared} {H : Hp} {args : Args} {us : List Value} {vs : List V} {Q : VK} {E : XK},
    RG k A → Env0 P w K mg base A outer s H → BindsTo s fd args (ps.zip us) → Vals vs us → sp vs H Q E →
      codeAny (model P w) A (.call (.ref f) args) (CR CX outer P w H s Q E) s
end
section
variable {P : Program} {w : World} {K : PySem.W.Frag} {mg : Str → Option Value} {base : Heap} {CX : CXT} {j k : Nat} {f : Addr} {fd : FuncData} {ps : List Str} {sp : Sp}
theorem FnG.of (F : FnOk P w K mg base CX k f fd ps sp) : FnG P w K mg base CX k f fd ps sp :=
  ⟨F.len, fun {A outer s H args us vs Q E} r e b v h => F.run A outer s H args us vs Q E r.room e b v h⟩
theorem FnG.mono (F : FnG P w K mg base CX j f fd ps sp) (h : j ≤ k) : FnG P w K mg base CX k f fd ps sp :=
  ⟨F.arity, fun r e b v q => F.goes (r.mono h) e b v q⟩
end

section
variable {X : Cx} {CX : CXT} {k : Nat} {f : Addr} {fd : FuncData} {ps ks : List Str} {sp : Sp} {dvs : List V} {ds : List Value} {E : XK} {x : Str} {p pos : Pos} {e : Expr} {es : List Expr} {t tk : TA}
  {kws : List Keyword} {g : List Value → List Value → List Value} {gV : List V → List V → List V}

theorem run_args {pins : List (Addr × Obj)} {σ : L2.St} {H : Hp} {s : Shared} {Q : VK} {args : List Value} {kw : List (Str × Value)} {us : List Value} {vs : List V}
    (F : FnG X.prog X.w X.K X.mg X.base CX k f fd ps sp) (hr : RG k X.A) (hx : Passes CX X E) (I : Inv X pins σ H s)
    (hb : BindsTo s fd ⟨args, kw⟩ (ps.zip us)) (r : Vals vs us) (h : sp vs H Q E) :
    wpAny (model X.prog X.w) X.A (call (.ref f) args kw) (EP X pins σ Q) X.xe s := by
  refine wpAny_call ?_
  refine codeAny_mono (F.goes hr I.env0 hb r h) ?_
  intro z s' q
  match z, q with
  | .error z, q => exact hx pins σ H s z s' I q
  | .ok (.ret u), q => exact I.after q
/-- f(a, b, ..) -/
theorem pe_callG (F : FnG X.prog X.w X.K X.mg X.base CX k f fd ps sp) (hr : RG k X.A) (hg : Gl X x) (hm : X.mg x = some (.ref f))
    (hk : PySem.W.keepIn X.K (.ref f) = true) (hb : Binds X.K fd ps ds) (hd : Vals dvs ds) (hx : Passes CX X E) (ha : PA X (e :: es) t)
    (hdb : (x == ("__debug__" : Str)) = false := by decide)
    (he : starEach (e :: es) X.env = (false, eval e X.env) :: starEach es X.env := by rfl)
    (hpl : (backTo pos (starEach es X.env)).any (·.1) = false := by rfl) :
    PE X (.Call (.Name x p) (e :: es) [] pos) (tCall sp dvs E t) := by
  constructor
  intro pins s σ H Q I h
  refine wpAny_Call_Name_kw (ld_glob I hg hm ?_ hdb)
  refine PySem.W.callWith_K (h₀ := X.base) I.ok.mod.kin hk ?_ he hpl
  refine thn (ha.run pos pins s σ H _ I h) ?_
  rintro us s1 ⟨vs, H1, I1, r, q⟩
  have r2 := r.append hd
  have hl : (us ++ ds).length = ps.length := r2.length.symm.trans (F.arity _ _ _ _ q)
  exact ⟨I1.kIn, run_args F hr hx I1 (hb s1 us I1.kIn hl) r2 q⟩
/-- f() -/
theorem pe_callG0 (F : FnG X.prog X.w X.K X.mg X.base CX k f fd ps sp) (hr : RG k X.A) (hg : Gl X x) (hm : X.mg x = some (.ref f))
    (hk : PySem.W.keepIn X.K (.ref f) = true) (hb : Binds X.K fd ps ds) (hd : Vals dvs ds) (hx : Passes CX X E)
    (hdb : (x == ("__debug__" : Str)) = false := by decide) : PE X (.Call (.Name x p) [] [] pos) (tCall sp dvs E tNil) := by
  constructor
  intro pins s σ H Q I h
  refine wpAny_Call_Name_kw (ld_glob I hg hm ?_ hdb)
  have hl : ([] ++ ds).length = ps.length := hd.length.symm.trans (F.arity _ _ _ _ h)
  exact PySem.W.callWith_K0 I.kIn hk (run_args (us := [] ++ ds) F hr hx I (hb s [] I.kIn hl) hd h)
/-- f(a, .., k = v, ..) -/
theorem pe_callGK (F : FnG X.prog X.w X.K X.mg X.base CX k f fd ps sp) (hr : RG k X.A) (hg : Gl X x) (hm : X.mg x = some (.ref f))
    (hk : PySem.W.keepIn X.K (.ref f) = true) (hb : KBinds X.K fd ps ks g gV) (hx : Passes CX X E) (ha : PA X (e :: es) t) (hkw : PK X kws tk)
    (hall : (backToKw pos (keywordEach kws X.env)).all (·.1.isSome) = true := by rfl)
    (hks : (backToKw pos (keywordEach kws X.env)).filterMap (·.1) = ks := by rfl)
    (hdb : (x == ("__debug__" : Str)) = false := by decide)
    (he : starEach (e :: es) X.env = (false, eval e X.env) :: starEach es X.env := by rfl)
    (hpl : ((backTo pos (starEach (e :: es) X.env)).any (·.1) || (backToKw pos (keywordEach kws X.env)).any (·.1.isNone)) = false := by rfl) :
    PE X (.Call (.Name x p) (e :: es) kws pos) (tCallK sp gV E t tk) := by
  constructor
  intro pins s σ H Q I h
  refine wpAny_Call_Name_kw (ld_glob I hg hm ?_ hdb)
  refine PySem.W.callWith_KW (h₀ := X.base) I.ok.mod.kin hk hall (thn (ha.run pos pins s σ H _ I h) ?_) hpl he
  rintro us s1 ⟨vs, H1, I1, r, q⟩
  refine thn (hkw.run pos pins s1 σ H1 _ I1 q) ?_
  rintro ws s2 ⟨zs, H2, I2, rz, q2⟩
  refine ⟨I2.kIn, ?_⟩
  rw [hks]
  have r3 := hb.rel r rz
  exact run_args F hr hx I2 (hb.to s2 us ws I2.kIn (r3.length.symm.trans (F.arity _ _ _ _ q2))) r3 q2
/-- f(k = v, ..) -/
theorem pe_callGK0 (F : FnG X.prog X.w X.K X.mg X.base CX k f fd ps sp) (hr : RG k X.A) (hg : Gl X x) (hm : X.mg x = some (.ref f))
    (hk : PySem.W.keepIn X.K (.ref f) = true) (hb : KBinds X.K fd ps ks g gV) (hx : Passes CX X E) (hkw : PK X kws tk)
    (hall : (backToKw pos (keywordEach kws X.env)).all (·.1.isSome) = true := by rfl)
    (hks : (backToKw pos (keywordEach kws X.env)).filterMap (·.1) = ks := by rfl)
    (hdb : (x == ("__debug__" : Str)) = false := by decide)
    (hpl : ((backTo pos (starEach [] X.env)).any (·.1) || (backToKw pos (keywordEach kws X.env)).any (·.1.isNone)) = false := by rfl) :
    PE X (.Call (.Name x p) [] kws pos) (tCallK sp gV E tNil tk) := by
  constructor
  intro pins s σ H Q I h
  refine wpAny_Call_Name_kw (ld_glob I hg hm ?_ hdb)
  refine PySem.W.callWith_KW0 (h₀ := X.base) I.ok.mod.kin hk hall ?_ hpl
  refine thn (hkw.run pos pins s σ H _ I h) ?_
  rintro ws s2 ⟨zs, H2, I2, rz, q2⟩
  refine ⟨I2.kIn, ?_⟩
  rw [hks]
  have r3 := hb.rel (.nil : Vals [] []) rz
  exact run_args F hr hx I2 (hb.to s2 [] ws I2.kIn (r3.length.symm.trans (F.arity _ _ _ _ q2))) r3 q2
end

section
variable {P : Program} {w : World} {K : PySem.W.Frag} {mg : Str → Option Value} {base : Heap} {CX : CXT}
/-- a def's body: the guards are told in it; it may let an error out -/
theorem okGX {x qual : Str} {st : Stmt} {f : Addr} {fd : FuncData} {N ps : List Str} {k : Nat} {sp : Sp} (F : Fun K x qual st f fd) (S : FnScope N ps (defScope st))
    (arity : ∀ vs H Q E, sp vs H Q E → vs.length = ps.length)
    (hbody : ∀ (cdv : Value) (A : Around) (outer : List Env) (s : Shared) (H : Hp) (vs : List V) (Q : VK) (E : XK),
      RG k (A.deeper (envOfC qual (defScope st) s.heap.objs.size f cdv)) → sp vs H Q E →
        ∃ t, PSs (cxOf CX P w K mg base N qual (defScope st) f cdv A outer s H E) (defBody st) t ∧ t { nx := fun _ H' => Q .non H', rt := Q } (start N vs) H) :
    FnG P w K mg base CX (k + 1) f fd ps sp := by
  obtain ⟨oc, od, kV, doc, pm, an, cdv, ct, osl, rfl, lk, hcd⟩ := F.ex
  refine ⟨arity, ?_⟩
  intro A outer s H args us vs Q E hr e0 hb r hsp
  -- the same def's own rule at this one place: a promise that holds here alone
  have KX : K.In s.heap := e0.mod.kin.keeps fun b o q => (e0.bs b o q).1
  have lim : s.heap.NoLimit := e0.mod.nolimit.keeps fun b o q => (e0.bs b o q).1
  have hl := arity _ _ _ _ hsp
  obtain ⟨t, ht, hq⟩ := hbody cdv A outer s H vs Q E (hr.deeper _) hsp
  refine codeAny_call_function hr.room.depth (KX _ _ lk) rfl S.co S.gen rfl (PySem.W.codeRec_of KX hcd) (hb _ _ _ _ ?_)
  refine wpAny_newFunctionEnv_cells S.kind ?_ ?_
  · rintro ⟨n, v⟩ hy
    cases S.par n (List.of_mem_zip hy).1 with
    | inl q => exact .inl q
    | inr q => exact .inr ⟨q, PySem.W.cellsFrom_some _ _ _ (.inl q)⟩
  · intro env he s1 hin
    subst he
    refine ⟨lim.keeps hin.toInCall.keep, codeAny_func ?_⟩
    have I := inv_start (CX := CX) (P := P) (w := w) (qual := qual) (f := f) (cd := cdv) (E := E) S hr.room.hd e0 hl r hin
    refine wpAny_mono (ht.run [] s1 (start N vs) H _ I hq) ?_ (fun _ _ q => q)
    intro fl s' hs
    match fl, hs with
    | .ret u, ⟨v, σ', H', J, rv, q⟩ => exact ⟨v, H', J.os, J.bare, J.base, J.hok, rv, q⟩
    | .next, ⟨σ', H', J, q⟩ => exact ⟨.non, H', J.os, J.bare, J.base, J.hok, rfl, q⟩
    | .brk, ⟨_, _, _, q⟩ => exact q.elim
    | .cont, ⟨_, _, _, q⟩ => exact q.elim
/-- the same, nothing leaves it -/
theorem okG {x qual : Str} {st : Stmt} {f : Addr} {fd : FuncData} {N ps : List Str} {k : Nat} {sp : Sp} (F : Fun K x qual st f fd) (S : FnScope N ps (defScope st))
    (arity : ∀ vs H Q E, sp vs H Q E → vs.length = ps.length)
    (hbody : ∀ (cdv : Value) (A : Around) (outer : List Env) (s : Shared) (H : Hp) (vs : List V) (Q : VK) (E : XK),
      RG k (A.deeper (envOfC qual (defScope st) s.heap.objs.size f cdv)) → sp vs H Q E →
        ∃ t, PSs (cxOf CX P w K mg base N qual (defScope st) f cdv A outer s H E).nox (defBody st) t ∧ t { nx := fun _ H' => Q .non H', rt := Q } (start N vs) H) :
    FnG P w K mg base CX (k + 1) f fd ps sp := by
  refine okGX F S arity ?_
  intro cdv A outer s H vs Q E hr h
  obtain ⟨t, h1, h2⟩ := hbody cdv A outer s H vs Q E hr h
  exact ⟨t, h1.nox, h2⟩
end
end FT

/-! the law's own call, where the guards are told -/
namespace FT
open PySem PySem.Spec PyProof.Rows L2

section
variable {P : Program} {w : World} {K : PySem.W.Frag} {mg mb : Str → Option Value} {CX : CXT} {k : Nat} {fa a : Addr} {fd : FuncData} {x : Str} {sp : Sp} {s : Shared} {vs : List Value} {ns : List Int}
/-- the script as the one thing that is tracked, or none where the module holds it -/
theorem script_heap (KX : K.In s.heap) (ha : s.heap.get? a = some { cls := .type "list", data := .seq vs.toArray }) (hi : IntsAre vs ns) (hl : ns.length ≤ sizeLine) :
    ∃ H : Hp, Only H ∧ SqL K H a (ns.map V.int) ∧ HOk P w H s.heap ∧ ∀ b u, H b = some u → b = a ∧ K.lookup a = none := by
  have rv := vals_ints hi
  by_cases hk : K.lookup a = none
  · refine ⟨fun b => if b = a then some (.frz { cls := .type "list", data := .seq vs.toArray } (.lst (ns.map V.int))) else none, ?_, ?_, ?_, ?_⟩
    · intro b
      by_cases hb : b = a
      · right
        exact ⟨_, _, if_pos hb⟩
      · left
        exact if_neg hb
    · left
      right
      exact ⟨_, if_pos rfl⟩
    · intro b u z
      by_cases hb : b = a
      · subst hb
        obtain rfl := Option.some.inj ((if_pos rfl).symm.trans z)
        exact ⟨ha, by rw [List.length_map]; exact hl, vs, _, rv, ha⟩
      · cases (if_neg hb).symm.trans z
    · intro b u z
      refine ⟨?_, hk⟩
      by_cases hb : b = a
      · exact hb
      · cases (if_neg hb).symm.trans z
  · obtain ⟨o, ho⟩ := Option.ne_none_iff_exists'.mp hk
    have e := (KX a o ho).symm.trans ha
    obtain rfl := Option.some.inj e
    have nope : ∀ {u : HO}, ¬ (none : Option HO) = some u := fun z => by cases z
    refine ⟨fun _ => none, fun _ => .inl rfl, .inr ?_, fun b u z => (nope z).elim, fun b u z => (nope z).elim⟩
    refine ⟨_, vs.toArray, _, ho, rfl, rfl, rfl, ?_, by simpa using rv⟩
    rw [List.size_toArray, hi.length]
    exact hl
theorem law_callG (KX : K.In s.heap) (hns : s.heap.Ns mainGlobals mg) (hb : s.heap.Ns builtinsNs mb) (hbb : ∀ x : Str, x ≠ "__name__" → mb x = bootBuiltins x)
    (hlim : s.heap.NoLimit) (hg : s.gens = #[]) (ha : s.heap.get? a = some { cls := .type "list", data := .seq vs.toArray }) (hi : IntsAre vs ns) (hl : ns.length ≤ sizeLine)
    (hr : RG k callerA) (F : ∀ base : Heap, K.In base → base.Ns mainGlobals mg → FnG P w K mg base CX k fa fd [x] sp)
    (hbind : ∀ (s : Shared) (u : Value), BindsTo s fd ⟨[u], []⟩ [(x, u)])
    (hsp : ∀ H : Hp, Only H → SqL K H a (ns.map V.int) → sp [.ref a] H (fun v _ => v = .bl true) fun _ _ _ => False)
    (hCX : ∀ H e s', CX [] H s (fun _ _ _ => False) e s' → False) :
    codeAny (model P w) callerA (.call (.ref fa) ⟨[.ref a], []⟩)
      (fun r s' => r = .ok (.ret (.bool true)) ∧ OldK s.heap s'.heap ∧ s'.os = s.os ∧ AllBare s'.gens) s := by
  obtain ⟨H, hO, hS, hok, hA⟩ := script_heap (P := P) (w := w) KX ha hi hl
  have hid : ∀ {b : Addr} {o : Obj}, s.heap.get? b = some o → H b = none → (hidT s.heap H).get? b = some o := fun e n => hidT_get e n
  have dictFree : ∀ {b : Addr} {o : Obj} {es : Array DictEntry} {n : Nat}, s.heap.get? b = some o → o.data = .dict es n → H b = none := by
    intro b o es n e d
    cases q : H b with
    | none => rfl
    | some u =>
      obtain ⟨rfl, _⟩ := hA b u q
      obtain rfl := Option.some.inj (ha.symm.trans e)
      cases d
  have nsB : ∀ {b : Addr} {m : Str → Option Value}, s.heap.Ns b m → (hidT s.heap H).Ns b m := by
    rintro b m ⟨o, es, n, e, d, r⟩
    exact ⟨o, es, n, hid e (dictFree e d), d, r⟩
  have kB : K.In (hidT s.heap H) := by
    intro b o e
    refine hid (KX b o e) ?_
    cases q : H b with
    | none => rfl
    | some u =>
      obtain ⟨rfl, z⟩ := hA b u q
      cases z.symm.trans e
  obtain ⟨mc, c1, c2⟩ := hlim
  have M : Mod K mg (hidT s.heap H) := ⟨kB, nsB hns, ⟨mb, nsB hb, hbb⟩, ⟨mc, nsB c1, c2⟩⟩
  have none_in : ∀ b : Addr, ¬ b ∈ ([] : List Addr) := fun b => List.not_mem_nil
  have e0 : Env0 P w K mg (hidT s.heap H) callerA [] s H :=
    { frames := rfl, mod := M, bs := fun b o e => of_hidT e, bsz := Nat.le_of_eq (hidT_size _ _), funs := trivial, frf := fun b hb => absurd hb (none_in b), hok := hok, bare := .of_eq hg }
  have run := (F _ kB (nsB hns)).goes hr e0 (us := [.ref a]) (vs := [.ref a]) (hbind s (.ref a)) (Paired.cons (show RelV (V.ref a) (Value.ref a) from rfl) Paired.nil) (hsp H hO hS)
  refine codeAny_mono run ?_
  intro r s' q
  match r, q with
  | .error e, q => exact (hCX H e s' q).elim
  | .ok (.ret u), ⟨v, H', os, bare, un, hok', rv, hv⟩ =>
    obtain rfl : v = .bl true := hv
    obtain rfl : u = Value.bool true := rv
    refine ⟨rfl, OldK.of_keep ?_, os, bare⟩
    intro b o e
    cases q : H b with
    | none => exact un.keep b o e q (none_in b) (none_in b)
    | some t =>
      obtain ⟨ob, xs, z⟩ := (hO b).resolve_left (by rw [q]; exact fun c => by cases c)
      have e1 := (hok b _ z).1
      have e2 := (hok' b _ (un.frzs b ob _ z)).1
      obtain rfl := Option.some.inj (e.symm.trans e1)
      exact e2
end
/-- the goal that k_head leaves -/
theorem walk_ofG {l : PySem.W.OpenLaw} {n k : Nat} {q : Program} {loose : List Str} {XP : (Str → Option Value) → Heap → Prop} {YP : World → Heap → Prop} {d : DefRec} {K : Params → PySem.W.Frag} {CX : World → CXT} {sp : World → Sp} {x : Str}
    (hn : l.most = some n) (hn2 : n ≤ sizeLine) (hdf : d.params.defaults = []) (hr : RG k callerA) (hY : ∀ (w : World) (h : Heap), YP w h → (K w.params).In h)
    (F : ∀ (w : World) (mg : Str → Option Value) (fa : Addr) (h : Heap), (K w.params).In h → h.Ns mainGlobals mg → mg d.name = some (.ref fa) →
      ∃ fd : FuncData, (∀ (s : Shared) (u : Value), BindsTo s fd ⟨[u], []⟩ [(x, u)]) ∧
        ∀ base : Heap, (K w.params).In base → base.Ns mainGlobals mg → FnG l.prog w (K w.params) mg base (CX w) k fa fd [x] (sp w))
    (hsp : ∀ (w : World) (H : Hp) (a : Addr) (ns : List Int), ns.length ≤ n → Only H → SqL (K w.params) H a (ns.map V.int) → sp w [.ref a] H (fun v _ => v = .bl true) fun _ _ _ => False)
    (hCX : ∀ (w : World) (H : Hp) (s : Shared) (e : Value) (s' : Shared), CX w [] H s (fun _ _ _ => False) e s' → False) :
    PySem.W.WalkO q loose XP YP l.row.toRowW d [] (fun f vs => PySem.call f vs) := by
  apply Att.attach_call hn hdf
  intro w s₀ s₁ mg mb fa o pm cd doc a vs ns G Y ho hd hcd hmg hobj hints hlen hg
  have KX := hY w _ Y
  obtain ⟨fd, hb, hF⟩ := F w mg fa _ KX G.T.g hmg
  have hsz := Nat.le_trans hlen hn2
  refine law_callG (mb := mb) (sp := sp w) (CX := CX w) KX G.T.g G.T.b G.T.builtins G.T.nolimit hg hobj hints hsz hr hF hb ?_ (hCX w · s₁)
  intro H hO hS
  exact hsp w H a ns hlen hO hS
end FT

/-! repr of plain data, of a flat dict -/
namespace FT
open PySem PySem.Spec PyProof.Rows L2

mutual
theorem noD {K : PySem.W.Frag} {H : Hp} : ∀ (d : PyData) (v : V), Dp K H v d → d.hasDict = false
  | .none, _, _ => by simp only [PyData.hasDict]
  | .bool _, _, _ => by simp only [PyData.hasDict]
  | .int _, _, _ => by simp only [PyData.hasDict]
  | .str _, _, _ => by simp only [PyData.hasDict]
  | .list ds, _, h => by
    cases h with
    | lst _ a =>
      simp only [PyData.hasDict]
      exact noDs ds _ a
  | .tuple ds, _, h => by
    cases h with
    | tup _ a =>
      simp only [PyData.hasDict]
      exact noDs ds _ a
  | .dict _, _, h => by cases h
theorem noDs {K : PySem.W.Frag} {H : Hp} : ∀ (ds : List PyData) (vs : List V), DpAll K H vs ds → PyData.hasDictAll ds = false
  | [], _, _ => by simp only [PyData.hasDictAll]
  | d :: ds, _, h => by
    cases h with
    | cons a b =>
      simp only [PyData.hasDictAll]
      rw [noD d _ a, noDs ds _ b]
      rfl
end
/-- a flat value's data -/
def flatD : V → Option PyData
  | .non => some .none
  | .bl b => some (.bool b)
  | .int i => some (.int i)
  | .str x => some (.str x)
  | _ => none
def keyD : Key → PyData
  | .inl i => .int i
  | .inr x => .str x
theorem flat_reads {h : Heap} {v : V} {u : Value} {d : PyData} (e : flatD v = some d) (r : RelV v u) : Reads h u d [] := by
  cases v with
  | non => cases e; cases r; exact .none
  | bl b => cases e; cases r; exact .bool b
  | int i => cases e; obtain ⟨t, rfl⟩ := r; exact .int i t
  | str x => cases e; obtain ⟨t, rfl⟩ := r; exact .str x t
  | byt _ => cases e
  | flt _ => cases e
  | ref _ => cases e
  | ty _ => cases e
theorem key_reads {h : Heap} {k : Key} {u : Value} (e : keyIs k u = true) : Reads h u (keyD k) [] := by
  rcases keyIs_shape e with ⟨i, t, rfl, rfl⟩ | ⟨x, t, rfl, rfl⟩
  · exact .int i t
  · exact .str x t
/-- the data of a flat dict, entry by entry -/
inductive FlatKv : List (Key × V) → List (PyData × PyData) → Prop
  | nil : FlatKv [] []
  | cons {k : Key} {v : V} {d : PyData} {kvs : List (Key × V)} {ds : List (PyData × PyData)} : flatD v = some d → FlatKv kvs ds → FlatKv ((k, v) :: kvs) ((keyD k, d) :: ds)
theorem flatkv_reads {P : Program} {w : World} {h : Heap} : ∀ {kvs : List (Key × V)} {ds : List (PyData × PyData)} {es : List DictEntry} {vs : List (Key × Value)}, FlatKv kvs ds → KV kvs vs → Pairs (mixKind P w) es vs →
    ReadsAll h (es.map (·.key)) (ds.map (·.1)) [] ∧ ReadsAll h (es.map (·.val)) (ds.map (·.2)) []
  | _, _, _, _, .nil, .nil, .nil => ⟨.nil, .nil⟩
  | _, _, _, _, .cons e f, .cons r q, .cons p1 p2 p3 => by
    obtain ⟨a, b⟩ := flatkv_reads f q p3
    obtain ⟨r1, r2⟩ := r
    refine ⟨?_, ?_⟩
    · have e1 := key_reads (h := h) (show keyIs _ _ = true from (mixKind_is P w _ _).symm.trans p1)
      rw [← r1] at e1
      exact ReadsAll.cons e1 a
    · rw [← p2] at r2
      exact ReadsAll.cons (flat_reads e r2) b

section
variable {X : Cx}
/-- repr(v), v plain data -/
def rRepr (K : PySem.W.Frag) : List V → Hp → VK → Prop := fun xs H Q => ∃ v d, xs = [v] ∧ Dp K H v d ∧ d.showable = true ∧ d.depth ≤ 60 ∧ d.shown.length ≤ sizeLine ∧ Q (.str d.shown) H
theorem call_repr (hg : X.A.guards = some []) (hu : X.A.units + 64 < cLine) : CallR X (.builtin "repr") (rRepr X.K) := by
  rintro pins s σ H xs us Q I r ⟨v, d, rfl, hd, hs, hdep, hsz, q⟩
  obtain ⟨u, rfl, r1⟩ := vals1 r
  have hno := noD d v hd
  have key : ∀ {a : Addr}, u = .ref a → wpAny (model X.prog X.w) X.A (call (.builtin "repr") [u]) (EP X pins σ Q) X.xe s := by
    rintro a rfl
    obtain ⟨as, rd⟩ := Dp.reads I d v _ hd r1
    refine repr_of_reads' rd hs (PyData.noDict_hsm hno) hg (by omega) (fun _ _ e => e) ?_ hsz
    intro h' t tk hk
    exact ⟨.str d.shown, H, I.kept hk, ⟨_, rfl⟩, q⟩
  cases hd with
  | non => cases r1; exact PySem.P.repr_of_none ⟨.str _, H, I.tok _, ⟨_, rfl⟩, by simpa only [PyData.shown] using q⟩
  | bl b => cases r1; exact PySem.P.repr_of_bool ⟨.str _, H, I.tok _, ⟨_, rfl⟩, by simpa only [PyData.shown] using q⟩
  | int i =>
    obtain ⟨t, rfl⟩ := r1
    have z : i.natAbs.log2 < 1920 := by simpa only [PyData.showable, decide_eq_true_eq] using hs
    exact PySem.P.repr_of_int z ⟨.str _, H, I.tok _, ⟨_, rfl⟩, by simpa only [PyData.shown] using q⟩
  | str x =>
    obtain ⟨t, rfl⟩ := r1
    have z : (reprText x).length ≤ sizeLine := by simpa only [PyData.shown] using hsz
    exact PySem.P.repr_of_str ⟨.str _, H, I.tok _, ⟨_, rfl⟩, by simpa only [PyData.shown] using q⟩ z
  | lst _ _ => exact key r1
  | tup _ _ => exact key r1
/-- repr(d), d a dict of flat values -/
def rReprD : List V → Hp → VK → Prop := fun xs H Q => ∃ (a : Addr) (kvs : List (Key × V)) (ds : List (PyData × PyData)), xs = [.ref a] ∧ H a = some (.dK kvs) ∧ FlatKv kvs ds ∧ (PyData.dict ds).showable = true ∧
  (PyData.dict ds).depth ≤ 60 ∧ (PyData.dict ds).shown.length ≤ sizeLine ∧ Q (.str (PyData.dict ds).shown) H
theorem call_reprD (hg : X.A.guards = some []) (hu : X.A.units + 64 < cLine) : CallR X (.builtin "repr") rReprD := by
  rintro pins s σ H xs us Q I r ⟨a, kvs, ds, rfl, ha, hf, hs, hdep, hsz, q⟩
  obtain ⟨u, rfl, r1⟩ := vals1 r
  obtain rfl : u = .ref a := r1
  obtain ⟨_, hsys, vs, kv, o, es, ep, h1, h2, h3, _, h5, _⟩ := (show ObjOk X.prog X.w H s.heap a (.dK kvs) from I.hok a _ ha)
  obtain ⟨ra, rb⟩ := flatkv_reads (h := s.heap) hf kv h5
  have rd : Reads s.heap (.ref a) (.dict ds) (a :: [] ++ []) := .dict h1 h2.1 h3 ra rb
  refine repr_of_reads' rd hs ?_ hg (by omega) (fun _ _ e => e) ?_ hsz
  · intro _ hm
    have e : sysModules = a := by simpa using hm
    rw [e] at hsys
    simp at hsys
  · intro h' t tk hk
    exact ⟨.str _, H, I.kept hk, ⟨_, rfl⟩, q⟩
theorem call_repr2 (hg : X.A.guards = some []) (hu : X.A.units + 64 < cLine) : CallR X (.builtin "repr") (fun xs H Q => rRepr X.K xs H Q ∨ rReprD xs H Q) := CallR.or (call_repr hg hu) (call_reprD hg hu)
end
end FT

/-! small words: heaps but for one place, lists of ints as data, a cut between two statements -/
namespace FT
open PySem PySem.Spec PyProof.Rows L2

/-- all but p stands as it stood -/
def Kp (p : Addr) (H H' : Hp) : Prop := ∀ b o, b ≠ p → H b = some o → H' b = some o
theorem Kp.refl (p : Addr) (H : Hp) : Kp p H H := fun _ _ _ h => h
theorem Kp.trans {p : Addr} {H H1 H2 : Hp} (a : Kp p H H1) (b : Kp p H1 H2) : Kp p H H2 := fun c o n h => b c o n (a c o n h)
theorem Kp.put {p : Addr} {H H' : Hp} {o : HO} (a : Kp p H H') : Kp p H (upd H' p o) := fun c u n h => by rw [upd_ne n]; exact a c u n h
theorem Kp.new {p q : Addr} {H H' : Hp} {o : HO} (a : Kp p H H') (hq : H' q = none) : Kp p H (upd H' q o) := fun c u n h => by
  have e := a c u n h
  rw [upd_ne (ne_of_none e hq)]
  exact e
theorem Kp.of_same {p : Addr} {H H' : Hp} (a : Same H H') : Kp p H H' := fun c o _ h => a c o h
theorem Same.new {H H' : Hp} {q : Addr} {o : HO} (a : Same H H') (hq : H' q = none) : Same H (upd H' q o) := fun c u h => by
  have e := a c u h
  rw [upd_ne (ne_of_none e hq)]
  exact e
theorem at_new {H : Hp} {p q : Addr} {o u : HO} (h : H p = some o) (hq : H q = none) : upd H q u p = some o := by rw [upd_ne (ne_of_none h hq)]; exact h
theorem at_oth {H : Hp} {p q : Addr} {o u : HO} (h : H p = some o) (n : p ≠ q) : upd H q u p = some o := by rw [upd_ne n]; exact h
theorem ne_lst {H : Hp} {p q : Addr} {xs ys : List V} (h : H p = some (.lst xs)) (g : H q = some (.lst ys)) (n : xs ≠ ys) : p ≠ q := ne_of h g fun e => n (HO.lst.inj e)

/-- a cut: whatever stands behind, W is what the first statement must reach -/
theorem seq_cut {t u : TS} {D : Ends} {σ : L2.St} {H : Hp} (W : L2.St → Hp → Prop) (h1 : ∀ N : L2.St → Hp → Prop, (∀ σ' H', W σ' H' → N σ' H') → t { D with nx := N } σ H)
    (h2 : ∀ σ' H', W σ' H' → u D σ' H') : tSeq t u D σ H := h1 (u D) h2

theorem dp_ints {K : PySem.W.Frag} {H : Hp} : ∀ ns : List Int, DpAll K H (ns.map V.int) (ns.map PyData.int)
  | [] => .nil
  | n :: r => .cons (.int n) (dp_ints r)
theorem dp_bools {K : PySem.W.Frag} {H : Hp} : ∀ ns : List Bool, DpAll K H (ns.map V.bl) (ns.map PyData.bool)
  | [] => .nil
  | n :: r => .cons (.bl n) (dp_bools r)
theorem depthAll_ints : ∀ ns : List Int, PyData.depthAll (ns.map PyData.int) = 0
  | [] => by simp only [List.map_nil, PyData.depthAll]
  | n :: r => by
    simp only [List.map_cons, PyData.depthAll, PyData.depth]
    rw [depthAll_ints r]
    rfl
theorem layAll_ints : ∀ ns : List Int, PyData.canLayAll0 (ns.map PyData.int) = true
  | [] => by simp only [List.map_nil, PyData.canLayAll0]
  | n :: r => by
    simp only [List.map_cons, PyData.canLayAll0, PyData.canLay0]
    rw [layAll_ints r]
    rfl
theorem shaped_ints (ns : List Int) : SeqAt.shaped (.list (ns.map PyData.int)) = true := by
  unfold SeqAt.shaped
  simp only [PyData.canLay0, PyData.depth, layAll_ints, depthAll_ints]
  rfl
theorem eqv_ints : ∀ ns ms : List Int, PyData.eqvAll (ns.map PyData.int) (ms.map PyData.int) = decide (ns = ms)
  | [], [] => by simp [PyData.eqvAll]
  | [], m :: r => by simp [PyData.eqvAll]
  | n :: r, [] => by simp [PyData.eqvAll]
  | n :: r, m :: q => by
    simp only [List.map_cons, PyData.eqvAll, PyData.eqv, eqv_ints r q]
    by_cases h1 : n = m <;> by_cases h2 : r = q <;> simp [h1, h2]
theorem eqv_list (ns ms : List Int) : PyData.eqv (.list (ns.map PyData.int)) (.list (ms.map PyData.int)) = decide (ns = ms) := by
  simp only [PyData.eqv, eqv_ints]
theorem mod_fits {i m : Int} (h1 : 1 ≤ m) : 0 ≤ i.fmod m ∧ i.fmod m < m := ⟨Int.fmod_nonneg_of_pos _ (by omega), Int.fmod_lt_of_pos _ (by omega)⟩
/-- an item at a rest of the length -/
theorem at_mod {ns : List Int} (t : Int) (h : ns ≠ []) : ∃ x, atI (ns.map V.int) (t.fmod (ns.length : Int)) = some (.int x) := by
  have hl : 0 < ns.length := List.length_pos_iff.mpr h
  obtain ⟨h0, h1⟩ := mod_fits (i := t) (m := (ns.length : Int)) (by omega)
  obtain ⟨j, hj⟩ : ∃ j : Nat, t.fmod (ns.length : Int) = (j : Int) := ⟨(t.fmod (ns.length : Int)).toNat, by omega⟩
  have hlt : j < ns.length := by omega
  refine ⟨ns[j], ?_⟩
  rw [hj]
  exact atI_nat (by rw [List.getElem?_map, List.getElem?_eq_getElem hlt]; rfl)
end FT

/-! the bag of draws; a list or a tuple walked; kinds of values -/
namespace FT
open PySem PySem.Spec PyProof.Rows L2

/-- the bag at p, its ints at c, after n draws at most -/
structure Bg (H : Hp) (p c : Addr) (n : Nat) : Prop where
  ne : c ≠ p
  at_ : ∃ (ms : List Int) (t l : Int), H p = some (.lst [.ref c, .int t, .int l]) ∧ H c = some (.lst (ms.map V.int)) ∧ ms.length ≤ 63 ∧ 0 ≤ t ∧ t ≤ (n : Int)
section
variable {H H' : Hp} {p c q : Addr} {n m : Nat} {o : HO}
theorem Bg.same (b : Bg H p c n) (h1 : H' p = H p) (h2 : H' c = H c) : Bg H' p c n := by
  obtain ⟨e, ms, t, l, a1, a2, a3⟩ := b
  exact ⟨e, ms, t, l, h1.trans a1, h2.trans a2, a3⟩
theorem Bg.has (b : Bg H p c n) : (∃ o, H p = some o) ∧ ∃ o, H c = some o := by
  obtain ⟨e, ms, t, l, a1, a2, a3⟩ := b
  exact ⟨⟨_, a1⟩, ⟨_, a2⟩⟩
theorem Bg.keep (b : Bg H p c n) (s : Same H H') : Bg H' p c n := by
  obtain ⟨e, ms, t, l, a1, a2, a3⟩ := b
  exact ⟨e, ms, t, l, s _ _ a1, s _ _ a2, a3⟩
theorem Bg.new (b : Bg H p c n) (hq : H q = none) : Bg (upd H q o) p c n := b.keep (Same.new (fun _ _ h => h) hq)
theorem Bg.oth (b : Bg H p c n) (h1 : p ≠ q) (h2 : c ≠ q) : Bg (upd H q o) p c n := b.same (upd_ne h1) (upd_ne h2)
theorem Bg.le (b : Bg H p c n) (h : n ≤ m) : Bg H p c m := by
  obtain ⟨e, ms, t, l, a1, a2, a3, a4, a5⟩ := b
  exact ⟨e, ms, t, l, a1, a2, a3, a4, by omega⟩
end

/-- an int, as the package takes it -/
def isI : V → Bool
  | .int _ => true
  | _ => false
def isB : V → Bool
  | .bl _ => true
  | _ => false
/-- values whose kind is known -/
def OkV (H : Hp) : V → Prop
  | .non => True
  | .bl _ => True
  | .int _ => True
  | .str _ => True
  | .ref a => (∃ xs, H a = some (.lst xs)) ∨ (∃ xs, H a = some (.tup xs)) ∨ ∃ kvs, H a = some (.dK kvs)
  | _ => False
theorem OkV.mono {H H' : Hp} {v : V} (h : OkV H v) (s : ∀ a o, v = .ref a → H a = some o → H' a = some o) : OkV H' v := by
  cases v with
  | ref a =>
    rcases h with ⟨xs, e⟩ | ⟨xs, e⟩ | ⟨xs, e⟩
    · exact .inl ⟨xs, s _ _ rfl e⟩
    · exact .inr (.inl ⟨xs, s _ _ rfl e⟩)
    · exact .inr (.inr ⟨xs, s _ _ rfl e⟩)
  | non => exact h
  | bl _ => exact h
  | int _ => exact h
  | str _ => exact h
  | byt _ => exact h
  | flt _ => exact h
  | ty _ => exact h
def isLT (H : Hp) : V → Bool
  | .ref a => match H a with
    | some (.lst _) => true
    | some (.tup _) => true
    | _ => false
  | _ => false
/-- its class, and what isinstance says -/
theorem kindV {K : PySem.W.Frag} {H : Hp} {v : V} (h : OkV H v) : ∃ T : String, TyX K H v (.type T) ∧ kitB T "int" = some (isI v || isB v) ∧ kitB T "bool" = some (isB v) ∧
    PySem.W.kitAny K (.type T) [.type "list", .type "tuple"] = some (isLT H v) := by
  have any2 : ∀ {T : String} {a b : Bool}, kitB T "list" = some a → kitB T "tuple" = some b → PySem.W.kitAny K (.type T) [.type "list", .type "tuple"] = some (a || b) := by
    intro T a b h1 h2
    refine kitAny_cons (kit_ty h1) (fun e => ?_) (fun e => by rw [e]; rfl)
    subst e
    refine kitAny_cons (kit_ty h2) (fun e => by subst e; exact kitAny_nil) (fun e => by rw [e]; rfl)
  cases v with
  | non => exact ⟨"NoneType", .base .non, (show kitB "NoneType" "int" = some false by decide +kernel), (show kitB "NoneType" "bool" = some false by decide +kernel), any2 (a := false) (b := false) (by decide +kernel) (by decide +kernel)⟩
  | bl b => exact ⟨"bool", .base (.bl b), (show kitB "bool" "int" = some true by decide +kernel), (show kitB "bool" "bool" = some true by decide +kernel), any2 (a := false) (b := false) (by decide +kernel) (by decide +kernel)⟩
  | int b => exact ⟨"int", .base (.int b), (show kitB "int" "int" = some true by decide +kernel), (show kitB "int" "bool" = some false by decide +kernel), any2 (a := false) (b := false) (by decide +kernel) (by decide +kernel)⟩
  | str b => exact ⟨"str", .base (.str b), (show kitB "str" "int" = some false by decide +kernel), (show kitB "str" "bool" = some false by decide +kernel), any2 (a := false) (b := false) (by decide +kernel) (by decide +kernel)⟩
  | ref a =>
    rcases h with ⟨xs, e⟩ | ⟨xs, e⟩ | ⟨xs, e⟩
    · refine ⟨"list", .base (.lst e), (show kitB "list" "int" = some false by decide +kernel), (show kitB "list" "bool" = some false by decide +kernel), ?_⟩
      have z : isLT H (.ref a) = (true || false) := by simp only [isLT, e]; rfl
      rw [z]
      exact any2 (by decide +kernel) (by decide +kernel)
    · refine ⟨"tuple", .base (.tup e), (show kitB "tuple" "int" = some false by decide +kernel), (show kitB "tuple" "bool" = some false by decide +kernel), ?_⟩
      have z : isLT H (.ref a) = (false || true) := by simp only [isLT, e]; rfl
      rw [z]
      exact any2 (by decide +kernel) (by decide +kernel)
    · refine ⟨"dict", .base (.dK e), (show kitB "dict" "int" = some false by decide +kernel), (show kitB "dict" "bool" = some false by decide +kernel), ?_⟩
      have z : isLT H (.ref a) = (false || false) := by simp only [isLT, e]; rfl
      rw [z]
      exact any2 (by decide +kernel) (by decide +kernel)
  | byt _ => exact h.elim
  | flt _ => exact h.elim
  | ty _ => exact h.elim

/-! a name that holds a list or a tuple, walked -/
def SeqR (K : PySem.W.Frag) (H : Hp) (a : Addr) (R : It → Hp → Prop) : Prop := ((∃ xs, SqL K H a xs) ∧ R (Itl K a) H) ∨ ((∃ xs, SqT K H a xs) ∧ R (Itt K a) H)
def iSeq (K : PySem.W.Frag) (tl : TE) : TI := fun σ H R => tl σ H fun x H1 => ∃ a, x = .ref a ∧ SeqR K H1 a R
theorem pi_seqV {X : Cx} {tg l : Expr} {i : Nat} (hl : PE X l (tVar i)) : PI X tg l (iSeq X.K (tVar i)) := by
  constructor
  rintro pins s σ H R I ⟨v, e, a, rfl, h⟩
  rcases h with ⟨hx, r⟩ | ⟨hx, r⟩
  · exact (pi_list hl).run pins s σ H R I ⟨_, e, a, rfl, hx, r⟩
  · exact (pi_tup hl).run pins s σ H R I ⟨_, e, a, rfl, hx, r⟩
/-- a list or a tuple of xs stands at a -/
def SqA (K : PySem.W.Frag) (H : Hp) (a : Addr) (xs : List V) : Prop := SqL K H a xs ∨ SqT K H a xs
theorem sqL_at {K : PySem.W.Frag} {H H' : Hp} {a : Addr} {xs : List V} (h : SqL K H a xs) (s : ∀ o, H a = some o → H' a = some o) : SqL K H' a xs := by
  rcases h with (h | ⟨o, h⟩) | h
  · exact .inl (.inl (s _ h))
  · exact .inl (.inr ⟨o, s _ h⟩)
  · exact .inr h
theorem sqT_at {K : PySem.W.Frag} {H H' : Hp} {a : Addr} {xs : List V} (h : SqT K H a xs) (s : ∀ o, H a = some o → H' a = some o) : SqT K H' a xs := by
  rcases h with (h | ⟨o, h⟩) | h
  · exact .inl (.inl (s _ h))
  · exact .inl (.inr ⟨o, s _ h⟩)
  · exact .inr h
theorem seq_by {K : PySem.W.Frag} {H : Hp} {a : Addr} {xs : List V} {R : It → Hp → Prop} (h : SqA K H a xs)
    (r : ∀ (J : It) (G : Hp → Prop), Walk J xs.length G (YAt xs) → (∀ H', (∀ o, H a = some o → H' a = some o) → G H') → R J H) :
    SeqR K H a R := by
  rcases h with h | h
  · exact .inl ⟨⟨_, h⟩, r _ _ walk_list fun H' s => sqL_at h s⟩
  · exact .inr ⟨⟨_, h⟩, r _ _ walk_tup fun H' s => sqT_at h s⟩
end FT
namespace FT
open PySem PySem.Spec PyProof.Rows L2
theorem kbindsF {K : PySem.W.Frag} {x qual : Str} {st : Stmt} {f : Addr} {fd : FuncData} {ps ks : List Str} {g : List Value → List Value → List Value} {gV : List V → List V → List V} (F : Fun K x qual st f fd)
    (rel : ∀ {vs : List V} {us : List Value} {zs : List V} {ws : List Value}, Vals vs us → Vals zs ws → Vals (gV vs zs) (g us ws))
    (h : ∀ (kV doc pm : Value) (an : Option Addr) (cdv ct : Value) (us ws : List Value), (g us ws).length = ps.length →
      bindArgs (PySem.W.fnOf x qual (defArgs st) (defBody st) (defScope st) .none kV doc pm an cdv ct) ⟨us, ks.zip ws⟩ = pure (ps.zip (g us ws))) : KBinds K fd ps ks g gV := by
  obtain ⟨oc, od, kV, doc, pm, an, cdv, ct, osl, rfl, _, _⟩ := F.ex
  exact ⟨fun s us ws _ hl => .of_eq (h kV doc pm an cdv ct us ws hl), rel⟩
end FT
namespace FT
open PySem PySem.Spec PyProof.Rows L2
theorem tYes_of {σ : L2.St} {H : Hp} {Q : Bool → Hp → Prop} (h : Q true H) : tYes σ H Q := h
end FT
namespace FT
open PySem PySem.Spec PyProof.Rows L2
theorem textFrom_le {m : Nat} : ∀ (ts : List Str) (k : Nat) (acc : Str), (∀ t ∈ ts, t.length ≤ m) → (textFrom k acc ts).length ≤ acc.length + ts.length * (m + 2)
  | [], k, acc, _ => by
    show acc.length ≤ _
    exact Nat.le_add_right _ _
  | t :: r, k, acc, h => by
    have ih := textFrom_le r (k + 1) (acc ++ (if k > 0 then ", " else "" : String) ++ t) fun u hu => h u (List.mem_cons_of_mem _ hu)
    have h1 := h t List.mem_cons_self
    have e : (acc ++ (if k > 0 then ", " else "" : String) ++ t).length ≤ acc.length + 2 + t.length := by
      rw [strLen_append, strLen_append]
      split <;> (simp only [Nat.add_le_add_iff_right]; show acc.length + _ ≤ acc.length + 2; exact Nat.add_le_add_left (by decide) _)
    show (textFrom (k + 1) _ r).length ≤ _
    rw [List.length_cons, Nat.succ_mul]
    omega
theorem listText_le {m : Nat} {ts : List Str} (h : ∀ t ∈ ts, t.length ≤ m) : (listText ts).length ≤ 2 + ts.length * (m + 2) := by
  have q := textFrom_le ts 0 "[" h
  unfold listText
  rw [strLen_append]
  have e1 : ((("[" : String) : Str)).length = 1 := rfl
  have e2 : ((("]" : String) : Str)).length = 1 := rfl
  rw [e1] at q
  rw [e2]
  omega
theorem shownAll_map : ∀ ds : List PyData, PyData.shownAll ds = ds.map PyData.shown
  | [] => by simp only [PyData.shownAll, List.map_nil]
  | d :: r => by simp only [PyData.shownAll, List.map_cons, shownAll_map r]
/-- the repr of a list, as a word -/
@[irreducible] def showL (ds : List PyData) : Str := (PyData.list ds).shown
theorem showL_eq (ds : List PyData) : showL ds = (PyData.list ds).shown := by unfold showL; rfl
/-- repr of a list of short things -/
theorem rep_list {K : PySem.W.Frag} {H : Hp} {q : Addr} {vs : List V} {ds : List PyData} {Q : VK} (h : SqL K H q vs) (dp : DpAll K H vs ds) (sh : PyData.showableAll ds = true) (dep : PyData.depthAll ds ≤ 50)
    (hl : ∀ d ∈ ds, d.shown.length ≤ 100) (hn : ds.length ≤ 100) (k : Q (.str (showL ds)) H) : rRepr K [.ref q] H Q ∨ rReprD [.ref q] H Q := by
  rw [showL_eq] at k
  refine .inl ⟨_, .list ds, rfl, .lst h dp, by simp only [PyData.showable, sh], by simp only [PyData.depth]; omega, ?_, k⟩
  simp only [PyData.shown, shownAll_map]
  have q := listText_le (m := 100) (ts := ds.map PyData.shown) fun t ht => by
    obtain ⟨d, hd, rfl⟩ := List.mem_map.mp ht
    exact hl d hd
  rw [List.length_map] at q
  have : ds.length * (100 + 2) ≤ 100 * 102 := Nat.mul_le_mul_right _ hn
  have z : (10300 : Nat) ≤ sizeLine := by decide
  omega
theorem showAll_bools : ∀ bs : List Bool, PyData.showableAll (bs.map PyData.bool) = true
  | [] => by simp only [List.map_nil, PyData.showableAll]
  | b :: r => by simp only [List.map_cons, PyData.showableAll, PyData.showable, showAll_bools r, Bool.and_true]
theorem depthAll_bools : ∀ bs : List Bool, PyData.depthAll (bs.map PyData.bool) = 0
  | [] => by simp only [List.map_nil, PyData.depthAll]
  | b :: r => by simp only [List.map_cons, PyData.depthAll, PyData.depth, depthAll_bools r, Nat.max_self]
theorem rep_bools {K : PySem.W.Frag} {H : Hp} {q : Addr} {bs : List Bool} {Q : VK} (h : SqL K H q (bs.map V.bl)) (hn : bs.length ≤ 100) (k : Q (.str (showL (bs.map PyData.bool))) H) : rRepr K [.ref q] H Q ∨ rReprD [.ref q] H Q := by
  refine rep_list h (dp_bools bs) (showAll_bools bs) (by rw [depthAll_bools]; decide) (fun d hd => ?_) (by rw [List.length_map]; exact hn) k
  obtain ⟨b, _, rfl⟩ := List.mem_map.mp hd
  simp only [PyData.shown]
  cases b <;> decide
end FT

/-! own exceptions as values: made by place and by name, their fields, their kind -/
namespace PySem
namespace HandSPX
open PySem.W PySem.Calls PyProof.Rows
section
variable {M : Model} {A : Around} {E : Value → Shared → Prop} {h : Heap} {g : Array GenState} {d : Drawn} {t : Nat} {os : OsState}
variable {nm q : Str} {C N : Addr} {bs bm bmB : List Value} {hdct : Bool} {sn : List Str} {sub : List Value} {ab : Bool} {col : Option Bool} {dd : Option Addr} {k0 k1 k2 k3 k5 : Option Value} {B newId initId : String}
theorem kw_check_new (F : ExcBaseFacts B newId initId bmB) (hT : ∀ X : String, bm.contains (.type X) = bmB.contains (.type X)) {rest : List Value} {kw : List (Str × Value)} {Q : Unit → Shared → Prop}
    (hC : h.get? C = some (excClassObj nm q C N bs bm hdct sn sub ab col dd k0 k1 k2 k3 k5 newId)) (hq : Q () ⟨h, g, d, t, os⟩) : wpAny M A (checkBuiltinCall newId ⟨.ref C :: rest, kw⟩) Q E ⟨h, g, d, t, os⟩ := by
  have hcont : (Value.ref C :: bm).contains (.type B) = true := by rw [List.contains_cons, hT, F.hasB, Bool.or_true]
  have hstar := F.noStar
  simp only [checkBuiltinCall, F.newKind, F.newSplit, F.newRow]
  repeat (first | refine wpAny_loadPart_at hC ?_ | (refine wpAny_isSubtype_exc hC ?_; rw [hcont]) | refine wpAny_staticBase_exc hC ?_ | refine wpAny_madeBy_exc hC ?_ | simp only [bne_self_eq_false, Bool.false_eq_true, if_false] | wp_step)
  exact hq
theorem kw_check_tc {rest : List Value} {kw : List (Str × Value)} {Q : Unit → Shared → Prop} (hC : h.get? C = some (excClassObj nm q C N bs bm hdct sn sub ab col dd k0 k1 k2 k3 k5 newId))
    (hq : Q () ⟨h, g, d, t, os⟩) : wpAny M A (checkBuiltinCall "type.__call__" ⟨.ref C :: rest, kw⟩) Q E ⟨h, g, d, t, os⟩ := by
  have f3 := tc_sub
  have hT : (⟨h, g, d, t, os⟩ : Shared).TypeIs (.ref C) "type" := ⟨_, hC, rfl⟩
  simp only [checkBuiltinCall, tc_kind, tc_split]
  repeat (any_goals (first | assumption | with_reducible refine wpAny_loadPart_at hC ?_ | with_reducible refine wpAny_onRaise ?_ | with_reducible refine wpAny_map ?_ | wp_step))
end
section
variable {prog : Program} {w : World} {A : Around} {E : Value → Shared → Prop} {R : Result → Shared → Prop} {h : Heap} {g : Array GenState} {d : Drawn} {t : Nat} {os : OsState}
variable {nm q : Str} {C N : Addr} {bs bm bmB : List Value} {hdct : Bool} {sn : List Str} {sub : List Value} {ab : Bool} {col : Option Bool} {dd : Option Addr} {k0 k1 k2 k3 k5 : Option Value} {B newId initId : String}
theorem kw_new_own (F : ExcBaseFacts B newId initId bmB) (hT : ∀ X : String, bm.contains (.type X) = bmB.contains (.type X)) {rest : List Value} {kw : List (Str × Value)}
    (hC : h.get? C = some (excClassObj nm q C N bs bm hdct sn sub ab col dd k0 k1 k2 k3 k5 newId))
    (hq : R (.ok (.ret (.ref (h.objs.size + 1)))) ⟨(h.push { cls := .type "tuple", data := .seq rest.toArray }).push
      { cls := .ref C, data := .fields #[.ref h.objs.size, .none, .none, .none, .bool false, .none] }, g, d, t, os⟩) (hrest : rest.length ≤ sizeLine) :
    codeAny (model prog w) A (.builtin newId ⟨.ref C :: rest, kw⟩) R ⟨h, g, d, t, os⟩ := by
  have hends := F.ends
  have hcB : (Value.ref C :: bm).contains (.type B) = true := by rw [List.contains_cons, hT, F.hasB, Bool.or_true]
  have hcA : (Value.ref C :: bm).contains (.type "AttributeError") = false := by rw [List.contains_cons, hT, F.noAttr]; rfl
  have hcN : (Value.ref C :: bm).contains (.type "NameError") = false := by rw [List.contains_cons, hT, F.noName]; rfl
  refine codeAny_builtinAt F.entry ?_
  unfold Builtin.«BaseException.__new__»
  refine wpAt_bind ?_
  show wpAt _ _ _ (stack >>= _) _ _ _
  refine wpAt_bind (wpAt_stack fun p below => wpAt_of_wpAny ?_)
  wp_walk
  refine wpAt_of_wpAny ?_
  rw [F.owner]
  repeat (first | with_reducible refine wpAny_madeHere_exc F.canon hC ?_ | with_reducible refine wpAny_loadPart_at hC ?_ | (with_reducible refine wpAny_isSubtype_exc hC ?_; first | rw [hcB] | rw [hcA] | rw [hcN]) | wp_step)
  show R _ _
  rw [Heap.size_push]
  exact hq
theorem kw_type_call (F : ExcBaseFacts B newId initId bmB) (hT : ∀ X : String, bm.contains (.type X) = bmB.contains (.type X)) {rest : List Value} {kw : List (Str × Value)} {fI : Addr} {Q : Fin → Shared → Prop}
    (hC : h.get? C = some (excClassObj nm q C N bs bm hdct sn sub ab col dd k0 k1 k2 k3 k5 newId))
    (hi : W.Looks (model prog w) h (typeLookup (.ref C) "__init__") (some (.ref fI))) (hb : ∀ self, W.Looks (model prog w) h (bindSpecial (.ref fI) self) (.ref fI, [self])) (hrest : rest.length ≤ sizeLine)
    (hq : codeAny (model prog w) A (.call (.ref fI) ⟨.ref (h.objs.size + 1) :: rest, kw⟩)
      (fun r s' => match r with | .ok (.ret v) => v = .none ∧ Q (.done (.ret (.ref (h.objs.size + 1)))) s' | .ok _ => False | .error e => E e s')
      ⟨(h.push (W.kdv_tup rest)).push (excO C h.objs.size), g, d, t, os⟩) :
    wpAny (model prog w) A (Builtin.«type.__call__» ⟨.ref C :: rest, kw⟩) Q E ⟨h, g, d, t, os⟩ := by
  repeat (first | with_reducible refine wpAny_loadPart_at hC ?_ | with_reducible refine wpAny_madeBy_exc hC ?_ | wp_step)
  refine codeAny_call_builtin_code (Code.quiet_builtin _ F.quiet) (kw_check_new F hT hC ?_)
  refine kw_new_own F hT hC ?_ hrest
  show wpAny _ _ _ _ _ _
  have k : ∀ b o, h.get? b = some o → ((h.push (W.kdv_tup rest)).push (excO C h.objs.size)).get? b = some o := fun b o e => Heap.get?_push_of_some _ (Heap.get?_push_of_some _ e)
  have hC₁ := k _ _ hC
  have hget : ((h.push (W.kdv_tup rest)).push (excO C h.objs.size)).get? (h.objs.size + 1) = some (excO C h.objs.size) := by heap_get
  have hcC : (Value.ref C :: bm).contains (.ref C) = true := by simp
  have i1 := hi.keeps k
  have b1 := (hb (.ref (h.objs.size + 1))).keeps k
  unfold isInstance
  repeat (first | with_reducible refine wpAny_loadPart_at hget ?_ | (with_reducible refine wpAny_isSubtype_exc hC₁ ?_; rw [hcC]) | wp_step)
  show wpAny _ _ (typeLookup (.ref C) _) _ _ _
  refine i1.at ?_
  refine wpAny_holding (wpAny_bind (b1.at ?_))
  refine wpAny_bind (wpAny_call (codeAny_mono hq fun r s' z => ?_))
  rcases r with e | (v | _ | _ | _) <;> first | exact z | exact z.elim | skip
  obtain ⟨rfl, z⟩ := z
  first
    | exact wpAny_pure (wpAny_pure z)
    | (wp_walk; exact z)
theorem kw_call_own (F : ExcBaseFacts B newId initId bmB) (hT : ∀ X : String, bm.contains (.type X) = bmB.contains (.type X)) {rest : List Value} {kw : List (Str × Value)} {fI : Addr}
    (hC : h.get? C = some (excClassObj nm q C N bs bm hdct sn sub ab col dd k0 k1 k2 k3 k5 newId))
    (hi : W.Looks (model prog w) h (typeLookup (.ref C) "__init__") (some (.ref fI))) (hb : ∀ self, W.Looks (model prog w) h (bindSpecial (.ref fI) self) (.ref fI, [self])) (hrest : rest.length ≤ sizeLine)
    (hq : codeAny (model prog w) (A.under (.builtin "type.__call__" ⟨.ref C :: rest, kw⟩)) (.call (.ref fI) ⟨.ref (h.objs.size + 1) :: rest, kw⟩) (W.InitBack (h.objs.size + 1) R)
      ⟨(h.push (W.kdv_tup rest)).push (excO C h.objs.size), g, d, t, os⟩) :
    codeAny (model prog w) A (.call (.ref C) ⟨rest, kw⟩) R ⟨h, g, d, t, os⟩ := by
  have f1 := tc_lookup
  have f2 := tc_bind (.ref C)
  have hTy : (⟨h, g, d, t, os⟩ : Shared).TypeIs (.ref C) "type" := ⟨_, hC, rfl⟩
  refine codeAny_of_tree ?_
  show wpAny _ _ (callAny (.ref C) _) _ _ _
  repeat (any_goals (first | assumption | with_reducible refine wpAny_loadPart_at hC ?_ | wp_step))
  refine ⟨rfl, ?_⟩
  refine codeAny_call_builtin_at (Code.quiet_builtin _ (by decide +kernel)) entry_typeCall (kw_check_tc hC (kw_type_call F hT hC hi hb hrest ?_))
  refine codeAny_mono hq fun r s' z => ?_
  rcases r with e | (v | _ | _ | _) <;> exact z
end
end HandSPX
end PySem

namespace FT
open PySem PySem.Spec PyProof.Rows L2

/-- C(..) as a value, C's own __init__ keeping sp -/
@[irreducible] def rMkX (C : Addr) (sp : Sp) (vs : List V) (H1 : Hp) (Q : VK) : Prop := vs.length ≤ 1000 ∧ ∀ a, H1 a = none → sp (.ref a :: vs) (upd H1 a (exo a C none)) (fun v H2 => v = .non ∧ Q (.ref a) H2) (fun _ _ _ => False)
def tMkX (C : Addr) (sp : Sp) (ta : TA) : TE := fun σ H Q => ta σ H fun vs H1 => rMkX C sp vs H1 Q
@[irreducible] def rMkXK (C : Addr) (sp : Sp) (gV : List V → List V → List V) (vs zs : List V) (H2 : Hp) (Q : VK) : Prop := vs.length ≤ 1000 ∧ ∀ a, H2 a = none → sp (gV (.ref a :: vs) zs) (upd H2 a (exo a C none)) (fun v H3 => v = .non ∧ Q (.ref a) H3) (fun _ _ _ => False)
def tMkXK (C : Addr) (sp : Sp) (gV : List V → List V → List V) (ta tk : TA) : TE := fun σ H Q => ta σ H fun vs H1 => tk σ H1 fun zs H2 => rMkXK C sp gV vs zs H2 Q
section
variable {X : Cx} {CX : CXT} {k : Nat} {fI C : Addr} {fd : FuncData} {ps ks : List Str} {sp : Sp} {x : Str} {p pos : Pos} {e : Expr} {es : List Expr} {t tk : TA} {kws : List Keyword} {g : List Value → List Value → List Value} {gV : List V → List V → List V}
/-- the making itself: args are there -/
theorem run_mkx {pins : List (Addr × Obj)} {σ : L2.St} {H : Hp} {s : Shared} {Q : VK} {us : List Value} {kw : List (Str × Value)} {all : Value → List Value} {allV : V → List V} (T : OexC X.K C) (iC : PySem.W.findIn X.K (.ref C) "__init__" = some (some (.ref fI))) (tI : PySem.W.typeIn X.K (.ref fI) = some (.type "function"))
    (F : FnG X.prog X.w X.K X.mg X.base CX k fI fd ps sp) (hr : RG (k + 1) X.A) (hx : Passes CX X (fun _ _ _ => False)) (I : Inv X pins σ H s) (hus : us.length ≤ sizeLine)
    (hb : ∀ (a : Addr) (s' : Shared), X.K.In s'.heap → (all (.ref a)).length = ps.length → BindsTo s' fd ⟨.ref a :: us, kw⟩ (ps.zip (all (.ref a)))) (r : ∀ a : Addr, Vals (allV (.ref a)) (all (.ref a)))
    (h : ∀ a, H a = none → sp (allV (.ref a)) (upd H a (exo a C none)) (fun v H2 => v = .non ∧ Q (.ref a) H2) (fun _ _ _ => False)) :
    wpAny (model X.prog X.w) X.A (call (.ref C) us kw) (EP X pins σ Q) X.xe s := by
  obtain ⟨nm, q, N, bs, bm, sn, sub, ab, col, dd, k0, k1, k2, k3, k5, hC, hbm⟩ := T.cls
  obtain ⟨hp, gg, dr, tk, os⟩ := s
  have hsz : hp.objs.size ≤ hp.objs.size + 1 := Nat.le_succ _
  have hn : H (hp.objs.size + 1) = none := I.hok.fresh hsz
  have hq := h (hp.objs.size + 1) hn
  have kk : ∀ b o, hp.get? b = some o → ((hp.push (PySem.W.kdv_tup us)).push (PySem.HandSPX.excO C hp.objs.size)).get? b = some o := fun b o e => Heap.get?_push_of_some _ (Heap.get?_push_of_some _ e)
  have hget : ((hp.push (PySem.W.kdv_tup us)).push (PySem.HandSPX.excO C hp.objs.size)).get? (hp.objs.size + 1) = some (PySem.HandSPX.excO C hp.objs.size) := by heap_get
  have I2 : Inv X pins σ (upd H (hp.objs.size + 1) (exo (hp.objs.size + 1) C none)) ⟨(hp.push (PySem.W.kdv_tup us)).push (PySem.HandSPX.excO C hp.objs.size), gg, dr, tk, os⟩ :=
    I.laid (t' := tk) (a := hp.objs.size + 1) (o := exo (hp.objs.size + 1) C none) (h' := (hp.push (PySem.W.kdv_tup us)).push (PySem.HandSPX.excO C hp.objs.size)) kk hsz (exo_ok hget)
  have hl : (all (.ref (hp.objs.size + 1))).length = ps.length := (r _).length.symm.trans (F.arity _ _ _ _ hq)
  refine wpAny_call (PySem.HandSPX.kw_call_own PySem.F.excBase_ValueError (fun Y => PySem.HandSPX.refsVE_contains Y bm hbm) (I.kIn _ _ hC) (PySem.W.looks_findIn I.kIn iC) (fun self => PySem.W.bind_fn I.kIn self tI) hus
    (codeAny_mono (F.goes (hr.make C us kw) (I2.env0.make C us kw) (hb _ _ I2.kIn hl) (r _) hq) fun rr s' hq' => ?_))
  cases rr with
  | error er => exact hx pins σ _ _ er s' I2 hq'
  | ok fl =>
    cases fl with
    | ret u =>
      obtain ⟨v, H2, os2, bare2, un2, hok2, rv, ev, q2⟩ := hq'
      subst ev
      obtain rfl : u = Value.none := rv
      exact ⟨rfl, .ref (hp.objs.size + 1), H2, I2.call' (ch := []) os2 un2 hok2 bare2 (fun b z => absurd z (by simp)), rfl, q2⟩
    | next => exact False.elim hq'
    | brk => exact False.elim hq'
    | cont => exact False.elim hq'
theorem pe_mkX (T : OexC X.K C) (iC : PySem.W.findIn X.K (.ref C) "__init__" = some (some (.ref fI))) (tI : PySem.W.typeIn X.K (.ref fI) = some (.type "function"))
    (F : FnG X.prog X.w X.K X.mg X.base CX k fI fd ps sp) (hr : RG (k + 1) X.A) (hg : Gl X x) (hm : X.mg x = some (.ref C)) (hb : Binds X.K fd ps []) (hx : Passes CX X (fun _ _ _ => False)) (ha : PA X (e :: es) t)
    (hdb : (x == ("__debug__" : Str)) = false := by decide) (he : starEach (e :: es) X.env = (false, eval e X.env) :: starEach es X.env := by rfl) (hpl : (backTo pos (starEach es X.env)).any (·.1) = false := by rfl) :
    PE X (.Call (.Name x p) (e :: es) [] pos) (tMkX C sp t) := by
  constructor
  intro pins s σ H Q I h
  refine wpAny_Call_Name_kw (ld_glob I hg hm ?_ hdb)
  refine PySem.W.callWith_K (h₀ := X.base) I.ok.mod.kin T.kC (thn (ha.run pos pins s σ H _ I h) ?_) he hpl
  rintro us s1 ⟨vs, H1, I1, r1, q⟩
  unfold rMkX at q
  obtain ⟨hz, q1⟩ := q
  have hus : us.length ≤ sizeLine := by
    rw [← Paired.length r1, sizeLine_eq]
    omega
  refine ⟨I1.kIn, run_mkx (all := fun a => a :: us) (allV := fun a => a :: vs) T iC tI F hr hx I1 hus (fun a s' ki hl => ?_) (fun a => .cons rfl r1) q1⟩
  have q := hb s' (.ref a :: us) ki (by simpa using hl)
  rw [List.append_nil] at q
  exact q
theorem pe_mkXK0 (T : OexC X.K C) (iC : PySem.W.findIn X.K (.ref C) "__init__" = some (some (.ref fI))) (tI : PySem.W.typeIn X.K (.ref fI) = some (.type "function"))
    (F : FnG X.prog X.w X.K X.mg X.base CX k fI fd ps sp) (hr : RG (k + 1) X.A) (hg : Gl X x) (hm : X.mg x = some (.ref C)) (hb : KBinds X.K fd ps ks g gV) (hx : Passes CX X (fun _ _ _ => False)) (hkw : PK X kws tk)
    (hall : (backToKw pos (keywordEach kws X.env)).all (·.1.isSome) = true := by rfl)
    (hks : (backToKw pos (keywordEach kws X.env)).filterMap (·.1) = ks := by rfl)
    (hdb : (x == ("__debug__" : Str)) = false := by decide)
    (hpl : ((backTo pos (starEach [] X.env)).any (·.1) || (backToKw pos (keywordEach kws X.env)).any (·.1.isNone)) = false := by rfl) :
    PE X (.Call (.Name x p) [] kws pos) (tMkXK C sp gV tNil tk) := by
  constructor
  intro pins s σ H Q I h
  refine wpAny_Call_Name_kw (ld_glob I hg hm ?_ hdb)
  refine PySem.W.callWith_KW0 (h₀ := X.base) I.ok.mod.kin T.kC hall ?_ hpl
  refine thn (hkw.run pos pins s σ H _ I h) ?_
  rintro ws s1 ⟨zs, H1, I1, r1, q⟩
  unfold rMkXK at q
  obtain ⟨hz, q1⟩ := q
  refine ⟨I1.kIn, ?_⟩
  rw [hks]
  have rr : ∀ a : Addr, Vals (gV [.ref a] zs) (g [.ref a] ws) := fun a => hb.rel (.cons rfl .nil) r1
  exact run_mkx (us := []) (all := fun a => g [a] ws) (allV := fun a => gV [a] zs) T iC tI F hr hx I1 (Nat.zero_le _) (fun a s' ki hl => hb.to s' [.ref a] ws ki hl) rr q1
end
end FT

namespace FT
open PySem PySem.Spec PyProof.Rows L2

/-- the class of the name y stands at D -/
structure Cn (K : PySem.W.Frag) (mg : Str → Option Value) (D : Addr) (y : Str) : Prop where
  g : mg y = some (.ref D)
  ex : ∃ q N bs bm sn sub ab col dd k0 k1 k2 k3 k5, K.lookup D = some (excClassObj y q D N bs bm true sn sub ab col dd k0 k1 k2 k3 k5 "ValueError.__new__")
theorem Cn.name {K : PySem.W.Frag} {mg : Str → Option Value} {D : Addr} {x y : Str} (a : Cn K mg D x) (b : Cn K mg D y) : x = y := by
  obtain ⟨_, _, _, _, _, _, _, _, _, _, _, _, _, _, _, h1⟩ := a
  obtain ⟨_, _, _, _, _, _, _, _, _, _, _, _, _, _, _, h2⟩ := b
  have e := Option.some.inj (h1.symm.trans h2)
  simp only [Obj.mk.injEq, Data.cls.injEq, ClassData.mk.injEq] at e
  exact e.2.2.1.1
theorem Cn.cls {K : PySem.W.Frag} {mg : Str → Option Value} {D : Addr} {y : Str} (a : Cn K mg D y) : ((PySem.W.clsIn K D).isSome && PySem.W.typeIn K (.ref D) == some (.type "type")) = true := by
  obtain ⟨_, _, _, _, _, _, _, _, _, _, _, _, _, _, _, h⟩ := a
  have e1 : (PySem.W.clsIn K D).isSome = true := by
    unfold PySem.W.clsIn
    rw [h]
    rfl
  have e2 : PySem.W.typeIn K (.ref D) = some (.type "type") := by
    show (K.lookup D).map (·.cls) = _
    rw [h]
    rfl
  rw [e1, e2]
  decide
/-- an own error class: its name x, at C, its __init__ at fI, the classes above it (up, of the names ns), its fields fs -/
structure XT (K : PySem.W.Frag) (mg : Str → Option Value) (x : Str) (C fI : Addr) (up : List Addr) (ns fs : List Str) : Prop where
  gC : mg x = some (.ref C)
  cls : ∃ q N bs sn sub ab col dd k0 k1 k2 k3 k5, K.lookup C = some (excClassObj x q C N bs (up.map Value.ref ++ PySem.HandSPX.veTail) true sn sub ab col dd k0 k1 k2 k3 k5 "ValueError.__new__")
  ups : Paired (fun a n => Cn K mg a n) up ns
  sa : PySem.W.findIn K (.ref C) "__setattr__" = some (some (.builtin "object.__setattr__"))
  ga : PySem.W.findIn K (.ref C) "__getattribute__" = some (some (.builtin "BaseException.__getattribute__"))
  gg : PySem.W.findIn K (.ref C) "__getattr__" = some none
  ca : PySem.W.findIn K (.ref C) "__class__" = some (some (.builtin "object.__class__"))
  cn : PySem.W.specialIn K (.builtin "object.__class__") "__get__" = some (some (.builtin "getset_descriptor.__get__"))
  ct : PySem.W.takesIn K (.builtin "object.__class__") = some true
  iC : PySem.W.findIn K (.ref C) "__init__" = some (some (.ref fI))
  tI : PySem.W.typeIn K (.ref fI) = some (.type "function")
  kC : PySem.W.keepIn K (.ref C) = true
  no : ∀ f ∈ fs, PySem.W.findIn K (.ref C) f = some none
theorem ve_refs : ∀ up : List Addr, PySem.HandSPX.refsVE (up.map Value.ref ++ PySem.HandSPX.veTail) = true
  | [] => by decide +kernel
  | a :: r => ve_refs r
section
variable {K : PySem.W.Frag} {mg : Str → Option Value} {x y f : Str} {C D fI : Addr} {up : List Addr} {ns fs : List Str}
theorem XT.mro (T : XT K mg x C fI up ns fs) (b : Value) : PySem.W.mroIn K C b = some ((Value.ref C :: (up.map Value.ref ++ PySem.HandSPX.veTail)).contains b) := by
  obtain ⟨_, _, _, _, _, _, _, _, _, _, _, _, _, h⟩ := T.cls
  unfold PySem.W.mroIn PySem.W.clsIn
  rw [h]
  rfl
theorem ve_has (b : String) : ∀ up : List Addr, (up.map Value.ref ++ PySem.HandSPX.veTail).contains (.type b) = PySem.HandSPX.veTail.contains (.type b)
  | [] => rfl
  | a :: r => by
    rw [List.map_cons, List.cons_append, List.contains_cons, ve_has b r]
    rfl
theorem XT.mroT (T : XT K mg x C fI up ns fs) (b : String) : PySem.W.mroIn K C (.type b) = some (PySem.HandSPX.veTail.contains (.type b)) := by
  rw [T.mro, List.contains_cons, ve_has]
  rfl
theorem XT.oex (T : XT K mg x C fI up ns fs) : OexC K C := by
  have m := T.mroT "BaseException"
  obtain ⟨q, N, bs, sn, sub, ab, col, dd, k0, k1, k2, k3, k5, h⟩ := T.cls
  refine ⟨⟨x, q, N, bs, _, sn, sub, ab, col, dd, k0, k1, k2, k3, k5, h, ve_refs up⟩, T.sa, m.trans (by decide +kernel), ?_, T.kC⟩
  show (K.lookup C).map (·.cls) = _
  rw [h]
  rfl
theorem XT.cnm (T : XT K mg x C fI up ns fs) : Cn K mg C x := by
  obtain ⟨q, N, bs, sn, sub, ab, col, dd, k0, k1, k2, k3, k5, h⟩ := T.cls
  exact ⟨T.gC, q, N, bs, _, sn, sub, ab, col, dd, k0, k1, k2, k3, k5, h⟩
theorem XT.hd (T : XT K mg x C fI up ns fs) : PySem.W.hasDictIn K C = true := by
  obtain ⟨q, N, bs, sn, sub, ab, col, dd, k0, k1, k2, k3, k5, h⟩ := T.cls
  unfold PySem.W.hasDictIn PySem.W.clsIn
  rw [h]
  rfl
theorem XT.xf (T : XT K mg x C fI up ns fs) : XfC K C := ⟨T.ga, T.gg, T.oex.exC, T.hd⟩
theorem cn_beq {a : Addr} {n : Str} (h : Cn K mg a n) (c : Cn K mg D y) : (Value.ref D == Value.ref a) = (y == n) := by
  by_cases e : D = a
  · subst e
    rw [c.name h]
    simp
  · have e2 : y ≠ n := fun z => by
      subst z
      exact e (Value.ref.inj (Option.some.inj (c.g.symm.trans h.g)))
    have e3 : (Value.ref D == Value.ref a) = false := by
      rw [beq_eq_false_iff_ne]
      exact fun z => e (Value.ref.inj z)
    have e4 : (y == n) = false := by
      rw [beq_eq_false_iff_ne]
      exact e2
    rw [e3, e4]
theorem has_refs : ∀ {up : List Addr} {ns : List Str}, Paired (fun a n => Cn K mg a n) up ns → Cn K mg D y → (up.map Value.ref ++ PySem.HandSPX.veTail).contains (.ref D) = ns.contains y
  | _, _, .nil, _ => by rfl
  | _, _, .cons h p, c => by
    rw [List.map_cons, List.cons_append, List.contains_cons, has_refs p c, List.contains_cons, cn_beq h c]
/-- isinstance of such an error, by the names -/
theorem XT.kit (T : XT K mg x C fI up ns fs) (c : Cn K mg D y) : PySem.W.kitOne K (.ref C) (.ref D) = some ((x :: ns).contains y) := by
  have e : (Value.ref C :: (up.map Value.ref ++ PySem.HandSPX.veTail)).contains (.ref D) = (x :: ns).contains y := by
    rw [List.contains_cons, List.contains_cons, has_refs T.ups c, cn_beq T.cnm c]
  unfold PySem.W.kitOne
  split
  · rename_i h
    have z : C = D := Value.ref.inj (beq_iff_eq.mp h)
    subst z
    rw [T.cnm.name c]
    simp
  · show (if ((PySem.W.clsIn K D).isSome && PySem.W.typeIn K (.ref D) == some (.type "type")) = true then PySem.W.mroIn K C (.ref D) else none) = _
    rw [if_pos c.cls, T.mro, e]
theorem XT.kitT (T : XT K mg x C fI up ns fs) (t : String) (h : PySem.W.kitMeta t = true) : PySem.W.kitOne K (.ref C) (.type t) = some (PySem.HandSPX.veTail.contains (.type t)) := by
  unfold PySem.W.kitOne
  split
  · rename_i z
    cases beq_iff_eq.mp z
  · show (if PySem.W.kitMeta t = true then PySem.W.mroIn K C (.type t) else none) = _
    rw [if_pos h, T.mroT]
/-- such an error stands at a, its fields gs -/
def ExV (H : Hp) (a C : Addr) (gs : List (Str × V)) : Prop := ∃ dd, H a = some (exo a C (some dd)) ∧ H dd = some (exd dd gs)
theorem ExV.mono {H H' : Hp} {a : Addr} {gs : List (Str × V)} (e : ExV H a C gs) (s : ∀ b o, H b = some o → (∀ xs, o ≠ .lst xs) → H' b = some o) : ExV H' a C gs := by
  obtain ⟨dd, h1, h2⟩ := e
  refine ⟨dd, s _ _ h1 fun xs z => ?_, s _ _ h2 fun xs z => ?_⟩
  · have z' : HO.ext _ = HO.lst xs := z
    cases z'
  · have z' : HO.ext _ = HO.lst xs := z
    cases z'
theorem ExV.keep {H H' : Hp} {a : Addr} {gs : List (Str × V)} (e : ExV H a C gs) (s : Same H H') : ExV H' a C gs := e.mono fun b o h _ => s b o h
theorem exv_inst {X : Cx} {pins : List (Addr × Obj)} {σ : L2.St} {H : Hp} {s : Shared} {a : Addr} {gs : List (Str × V)} (I : Inv X pins σ H s) (e : ExV H a C gs) :
    ∃ ox od, PySem.W.InstAt s.heap a ox C (some od) ∧ ∀ n v, gs.lookup n = some v → ∃ u, RelV v u ∧ PySem.W.lookIn n od = some (some u) := by
  obtain ⟨dd, h1, h2⟩ := e
  obtain ⟨t1, ho⟩ := exo_at I.hok h1
  obtain ⟨mA, hns, rel⟩ := exd_at I.hok h2
  obtain ⟨od, hd, hl⟩ := lookIn_ns hns
  refine ⟨_, od, ⟨ho, rfl, rfl, hd⟩, fun n v l => ?_⟩
  obtain ⟨u, hu, ru⟩ := RelO.some_of (v := v) (o := mA n) (by rw [← l]; exact rel n)
  exact ⟨u, ru, by rw [hl, hu]⟩
/-- e.f of such an error -/
@[irreducible] def rXg (K : PySem.W.Frag) (f : Str) (x : V) (H1 : Hp) (Q : VK) : Prop := ∃ (a C : Addr) (gs : List (Str × V)) (v : V), x = .ref a ∧ XfC K C ∧ PySem.W.findIn K (.ref C) f = some none ∧ ExV H1 a C gs ∧ gs.lookup f = some v ∧ Q v H1
def tXg (K : PySem.W.Frag) (f : Str) (te : TE) : TE := fun σ H Q => te σ H fun x H1 => rXg K f x H1 Q
theorem pe_xg {X : Cx} {e : Expr} {te : TE} {pos : Pos} {n : Str} (he : PE X e te) (hb : attributeBase e n X.env (eval e X.env) = eval e X.env := by rfl) : PE X (.Attribute e n pos) (tXg X.K n te) := by
  refine ⟨fun pins s σ H Q I h => ?_⟩
  refine attr_of hb (thn (he.run pins s σ H _ I h) fun u s1 hh => ?_)
  obtain ⟨x, H1, I1, rx, hh⟩ := hh
  unfold rXg at hh
  obtain ⟨a, C, gs, v, ex, T, hno, ev, l, q⟩ := hh
  subst ex
  obtain rfl : u = Value.ref a := rx
  obtain ⟨ox, od, J, hl⟩ := exv_inst I1 ev
  obtain ⟨u, ru, hu⟩ := hl n v l
  exact HandSPX.exc_get I1.kIn J T.ga T.gg T.exC (PySem.W.findObj_own T.hdC hno rfl hu) (handed_of ru) ⟨v, H1, I1.tok _, ru, q⟩
/-- isinstance(error, c) -/
@[irreducible] def rIsiE (K : PySem.W.Frag) (mg : Str → Option Value) : List V → Hp → VK → Prop := fun xs H Q => ∃ (a C fI : Addr) (gs : List (Str × V)) (x : Str) (up : List Addr) (ns fs : List Str) (c : V) (u : Value) (b : Bool), xs = [.ref a, c] ∧ ExV H a C gs ∧ XT K mg x C fI up ns fs ∧ ClsV c u ∧ PySem.W.kitOne K (.ref C) u = some b ∧ Q (.bl b) H
@[irreducible] def rIsiTE (K : PySem.W.Frag) (mg : Str → Option Value) : List V → Hp → VK → Prop := fun xs H Q => ∃ (a C fI : Addr) (gs : List (Str × V)) (x : Str) (up : List Addr) (ns fs : List Str) (tp : Addr) (cs : List V) (us : List Value) (b : Bool), xs = [.ref a, .ref tp] ∧ ExV H a C gs ∧ XT K mg x C fI up ns fs ∧ H tp = some (.tup cs) ∧ Paired ClsV cs us ∧ PySem.W.kitAny K (.ref C) us = some b ∧ Q (.bl b) H
theorem XT.kitx {a : Addr} {ox od : Obj} (T : XT K mg x C fI up ns fs) : PySem.W.KitX K (.ref a) (.ref C) (fun h => PySem.W.InstAt h a ox C (some od)) := by
  refine PySem.W.kitx_exc (gt := none) ?_ T.ga T.gg T.oex.exC T.ca T.cn T.ct ?_
  · have := T.cnm.cls
    rw [Bool.and_eq_true] at this
    exact this.1
  · rw [T.mroT]
    decide +kernel
theorem call_isiE {X : Cx} : CallR X (.builtin "isinstance") (rIsiE X.K X.mg) := by
  intro pins s σ H xs us Q I r h
  unfold rIsiE at h
  obtain ⟨a, C, fI, gs, x, up, ns, fs, c, u, b, rfl, ev, T, k, e, q⟩ := h
  obtain ⟨u1, u2, rfl, r1, r2⟩ := vals2 r
  have e2 := k.eq r2
  subst e2
  cases (show u1 = Value.ref a from r1)
  obtain ⟨ox, od, J, _⟩ := exv_inst I ev
  exact PySem.W.kia_one (T.kitx (ox := ox) (od := od)) I.kIn J e (fun z => nomatch z) fun tk => ⟨.bl b, H, I.tok tk, rfl, q⟩
theorem call_isiTE {X : Cx} : CallR X (.builtin "isinstance") (rIsiTE X.K X.mg) := by
  intro pins s σ H xs us Q I r h
  unfold rIsiTE at h
  obtain ⟨a, C, fI, gs, x, up, ns, fs, tp, cs, ws, b, rfl, ev, T, hT, k, e, q⟩ := h
  obtain ⟨u1, u2, rfl, r1, r2⟩ := vals2 r
  cases (show u1 = Value.ref a from r1)
  cases (show u2 = Value.ref tp from r2)
  obtain ⟨ox, od, J, _⟩ := exv_inst I ev
  obtain ⟨_, its, rv, o, h1, h2, n, h3⟩ := (show ObjOk X.prog X.w H s.heap tp (.tup cs) from I.hok tp _ hT)
  have e3 := ClsV.all k rv
  subst e3
  obtain ⟨oc, od, dt, sl⟩ := o
  simp only at h2 h3
  subst h2 h3
  exact PySem.W.kia_tup (T.kitx (ox := ox) (od := _)) I.kIn J h1 e (fun z => nomatch z) fun tk => ⟨.bl b, H, I.tok tk, rfl, q⟩
end
end FT

namespace FT
open PySem PySem.Spec PyProof.Rows L2
abbrev supA (q1 q2 : Pos) : Arguments := { posonlyargs := [], args := [{ arg := "self", annotation := none, pos := q1 }, { arg := "value", annotation := none, pos := q2 }], vararg := none, kwonlyargs := [], kw_defaults := [], kwarg := none, defaults := [] }
abbrev supB (p0 p1 p2 p3 p4 p5 : Pos) : List Stmt := [.Expr (.Call (.Attribute (.Call (.Name "super" p0) [] [] p1) "__init__" p2) [.Name "value" p3] [] p4) p5]
abbrev supS : Scope := { kind := .function, names := [(PySem.Str.ofString "self", .local), (PySem.Str.ofString "value", .local), (PySem.Str.ofString "__class__", .free), (PySem.Str.ofString "super", .globalImplicit)], isGenerator := false, isCoroutine := false, more := [] }
structure SPos where
  (q1 q2 p0 p1 p2 p3 p4 p5 : Pos)
abbrev supE (p : SPos) : Expr := .Call (.Attribute (.Call (.Name "super" p.p0) [] [] p.p1) "__init__" p.p2) [.Name "value" p.p3] [] p.p4
/-- a method that says super() -/
structure SFun (P : Program) (K : PySem.W.Frag) (p : SPos) (qual : Str) (f D cc cda : Addr) (fd : FuncData) : Prop where
  ex : ∃ (oc : Value) (od : Option Addr) (kV doc pm : Value) (an : Option Addr) (ct : Value) (osl : Array (Option Value)),
    fd = PySem.W.ksFn "__init__" qual (supA p.q1 p.q2) (supB p.p0 p.p1 p.p2 p.p3 p.p4 p.p5) supS .none kV doc pm an (.ref cda) ct cc ∧ K.lookup f = some ⟨oc, od, .func fd, osl⟩ ∧ PySem.W.codeIn K (.ref cda) qual = true
  code : ∃ (ccl : Value) (cdd : Option Addr) (vs : Array Value) (ccs : Array (Option Value)) (file : Str) (tf : Tok), K.lookup cda = some ⟨ccl, cdd, .fields vs, ccs⟩ ∧ vs[2]? = some (.str file tf) ∧ ((P.main.file : Str) == file) = true
  cell : ∃ (cl : Value) (cld : Option Addr) (csl : Array (Option Value)), K.lookup cc = some ⟨cl, cld, .cell (some (.ref D)), csl⟩
  top : (P.main.scope.names.lookup ("super" : Str)).isSome = false
  opq : PySem.W.nsIn K cStatics "thirdparty.any" = some none
/-- what the class C, whose method this is, and D above it must have -/
structure SupC (K : PySem.W.Frag) (C D f2 : Addr) : Prop where
  sub : PySem.W.mroIn K C (.ref D) = some true
  sup : PySem.W.ks_superIn K C D "__init__" = some (some (.ref f2))
  tf : PySem.W.typeIn K (.ref f2) = some (.type "function")
  fn : PySem.W.fnIn K f2 = true
def spSup (K : PySem.W.Frag) (D f2 : Addr) (sp : Sp) : Sp := fun vs H Q _ => ∃ a C v, vs = [.ref a, v] ∧ H a = some (exo a C none) ∧ SupC K C D f2 ∧ sp vs H (fun _ H' => Q .non H') (fun _ _ _ => False)
theorem un_frame {fs ex : List Addr} {H H' : Hp} {h h1 h2 : Heap} {L : Addr} (hL : h.objs.size ≤ L) (k : ∀ b o, h.get? b = some o → h1.get? b = some o) (u : Un (L :: fs) ex H H' h1 h2) : Un fs ex H H' h h2 where
  keep := fun b o q n hf hx => u.keep b o (k b o q) n (fun z => by
    rcases List.mem_cons.mp z with rfl | z
    · exact absurd (Heap.lt_size q) (Nat.not_lt.mpr hL)
    · exact hf z) hx
  slot := fun b o q n hf hx => u.slot b o (k b o q) n (List.mem_cons_of_mem _ hf) hx
  free := fun b o q n hx => u.free b o (k b o q) n hx
  there := fun b o q hx => u.there b o (k b o q) hx
  tups := u.tups
  frzs := u.frzs
  tbls := u.tbls
theorem super_init {P : Program} {w : World} {K : PySem.W.Frag} {mg : Str → Option Value} {base : Heap} {qual : Str} {f f2 D cc cda : Addr} {fd fd2 : FuncData} {k : Nat} {sp : Sp} {yD : Str} {p : SPos} {pl : Sem Bool}
    (SF : SFun P K p qual f D cc cda fd) (cD : Cn K mg D yD) (hs : mg "super" = none)
    (he : ∀ env : Env, eval (supE p) env = (do
      let ov ← attributeBase (.Call (.Name "super" p.p0) [] [] p.p1) "__init__" env (eval (.Call (.Name "super" p.p0) [] [] p.p1) env)
      standAt p.p2.atName
      let (f, first) ← holding [ov] (getMethod ov "__init__" pl)
      callWith p.p4 f first (backTo p.p4 (starEach [.Name "value" p.p3] env)) []))
    (F2 : FnG P w K mg base CX0 k f2 fd2 ["self", "value"] sp) (b2 : Binds K fd2 ["self", "value"] []) :
    FnG P w K mg base CX0 (k + 1) f fd ["self", "value"] (spSup K D f2 sp) := by
  obtain ⟨oc, od, kV, doc, pm, an, ct, osl, rfl, lk, hcd⟩ := SF.ex
  obtain ⟨ccl, cdd, vs2, ccs, file, tf, lc, hvs2, hfile⟩ := SF.code
  obtain ⟨cl, cld, csl, lcell⟩ := SF.cell
  refine ⟨fun vs H Q E h => by obtain ⟨a, C, v, rfl, _⟩ := h; rfl, ?_⟩
  rintro A outer s H args us vs Q E hr e0 hb r ⟨a, C, v, rfl, ha, SC, hsp⟩
  obtain ⟨u1, u, rfl, r1, ru⟩ := vals2 r
  obtain rfl : u1 = .ref a := r1
  obtain ⟨t1, hoa⟩ := exo_at e0.hok ha
  have kb : ∀ b o, base.get? b = some o → s.heap.get? b = some o := fun b o q => (e0.bs b o q).1
  have KX : K.In s.heap := e0.mod.kin.keeps kb
  have lim : s.heap.NoLimit := e0.mod.nolimit.keeps kb
  refine PySem.ks_codeAny_call_defAt hr.room.depth (KX _ _ lk) rfl lim (PySem.W.codeRec_of KX hcd) rfl hb (fun x hx => by rcases List.mem_cons.mp hx with rfl | hx; (intro z; cases z); rcases List.mem_cons.mp hx with rfl | hx; (intro z; cases z); rcases List.mem_cons.mp hx with rfl | hx; (intro z; cases z); rcases List.mem_cons.mp hx with rfl | hx; (intro z; cases z); cases hx) ?_ (fun h₁ hns hk₁ => ?_) rfl rfl rfl
  · intro x hx
    rcases List.mem_cons.mp hx with rfl | hx
    · rfl
    · rcases List.mem_cons.mp hx with rfl | hx
      · rfl
      · cases hx
  have K1 : K.In h₁ := KX.keeps hk₁
  obtain ⟨mb, nb, hmb⟩ := e0.mod.blt
  obtain ⟨oD, hD1, hD2⟩ : ∃ oD, h₁.get? D = some oD ∧ ∃ cdD, oD.data = .cls cdD := by
    obtain ⟨_, _, _, _, _, _, _, _, _, _, _, _, _, _, hD⟩ := cD.ex
    exact ⟨_, K1 _ _ hD, _, rfl⟩
  obtain ⟨cdD, hD2⟩ := hD2
  refine PySem.ks_wpAt_execs_cons (PySem.ks_wpAt_Expr_any (PySem.ks_wpAt_MethodCall (PySem.ks_wpAt_super_base rfl rfl (by decide) rfl (K1 _ _ lk) rfl rfl rfl (K1 _ _ lc) rfl hvs2 hfile SF.top ?_) (he _)))
  refine PySem.W.ks_loadName_global rfl rfl (PySem.Calls.loadGlobal_builtin ((e0.mod.glob.keeps kb).keeps hk₁) hs ((nb.keeps kb).keeps hk₁) ((hmb _ (by decide +kernel)).trans (show bootBuiltins "super" = some (.type "super") by decide +kernel)) ⟨rfl, ?_⟩)
  refine wpAny_loadName_free rfl rfl rfl ⟨_, K1 _ _ lcell, rfl⟩ ?_
  refine wpAny_loadName_local rfl rfl hns rfl ?_
  refine PySem.ks_wpAny_isType_cls hD1 hD2 ⟨rfl, ?_⟩
  refine PySem.ks_wpAny_call_super hD1 hD2 (hk₁ _ _ hoa) rfl (fun c e => by cases e) (PySem.W.looks_mroIn K1 SC.sub) (fun h2 e2 k2 => ?_)
  have K2 : K.In h2 := K1.keeps k2
  have keep2 : ∀ b o, s.heap.get? b = some o → h2.get? b = some o := fun b o q => k2 _ _ (hk₁ _ _ q)
  have hns2 : h2.Ns s.heap.objs.size (fun x => ([("self", Value.ref a), ("value", u)] : List (Str × Value)).reverse.lookup x) := by
    obtain ⟨o, es, ep, ho, r⟩ := hns
    exact ⟨o, es, ep, k2 _ _ ho, r⟩
  obtain ⟨cd, hcl⟩ : ∃ cd, PySem.W.clsIn K C = some cd := by
    cases q : PySem.W.clsIn K C with
    | some cd => exact ⟨cd, rfl⟩
    | none =>
      have z := SC.sub
      unfold PySem.W.mroIn at z
      rw [q] at z
      cases z
  have hsup : PySem.W.alongIn K "__init__" ((cd.mro.dropWhile (· != .ref D)).drop 1) = some (some (.ref f2)) := by
    have z := SC.sup
    unfold PySem.W.ks_superIn at z
    rw [hcl] at z
    exact z
  obtain ⟨of, hof, hofc⟩ : ∃ of, h2.get? f2 = some of ∧ of.cls = .type "function" := by
    have z : (K.lookup f2).map (·.cls) = some (.type "function") := SC.tf
    cases q : K.lookup f2 with
    | none => rw [q] at z; cases z
    | some of => rw [q] at z; exact ⟨of, K2 _ _ q, Option.some.inj z⟩
  have IA : PySem.W.InstAt s.heap a { cls := .ref C, dict := none, data := .fields #[.ref t1, .none, .none, .none, .bool false, .none] } C none := ⟨hoa, rfl, rfl, trivial⟩
  refine PySem.ks_wpAny_getMethod_super e2 (PySem.W.looks_opaque K2 SF.opq) (l₀ := cd.mro) (fun A Q E s k q => wpAny_bind ((PySem.W.looks_clsIn K2 hcl) A _ E s k (wpAny_pure q))) rfl K2 hsup hof hofc (PySem.W.ks_ne KX IA hcl) (by decide) ?_
  have k3 : ∀ b o, h2.get? b = some o → (h2.push { cls := .type "method", data := .fields #[.ref f2, .ref a] }).get? b = some o := fun b o q => Heap.get?_push_of_some _ q
  have hm : (h2.push { cls := .type "method", data := .fields #[.ref f2, .ref a] }).get? h2.objs.size = some { cls := .type "method", dict := none, data := .fields #[.ref f2, .ref a], slots := #[] } := Heap.get?_push_at rfl rfl
  have hns3 : (h2.push { cls := .type "method", data := .fields #[.ref f2, .ref a] }).Ns s.heap.objs.size (fun x => ([("self", Value.ref a), ("value", u)] : List (Str × Value)).reverse.lookup x) := by
    obtain ⟨o, es, ep, ho, r⟩ := hns2
    exact ⟨o, es, ep, k3 _ _ ho, r⟩
  have keep3 : ∀ b o, s.heap.get? b = some o → (h2.push { cls := .type "method", data := .fields #[.ref f2, .ref a] }).get? b = some o := fun b o q => k3 _ _ (keep2 _ _ q)
  refine PySem.W.callWith_of (P := PySem.W.MethP K h2.objs.size f2 (.ref a)) (by rfl) (PySem.W.keeps_M SC.fn) (PySem.Calls.evalArgs_plain ?_)
  refine spliced_more (wpAny_Name (wpAny_loadName_local rfl rfl hns3 rfl ?_) (by decide)) 
  refine spliced_none ⟨⟨hm, K2.keeps k3⟩, ?_⟩
  refine wpAny_call (PySem.ks_codeAny_call_bound hm ?_)
  have hL : s.heap.objs.size < (h2.push { cls := .type "method", data := .fields #[.ref f2, .ref a] }).objs.size := by
    obtain ⟨o, es, ep, ho, _⟩ := hns3
    exact Heap.lt_size ho
  have e1 : Env0 P w K mg base (A.deeper (callEnv (PySem.W.ksFn "__init__" qual (supA p.q1 p.q2) (supB p.p0 p.p1 p.p2 p.p3 p.p4 p.p5) supS .none kV doc pm an (.ref cda) ct cc) s.heap.objs.size f)) (callEnv (PySem.W.ksFn "__init__" qual (supA p.q1 p.q2) (supB p.p0 p.p1 p.p2 p.p3 p.p4 p.p5) supS .none kV doc pm an (.ref cda) ct cc) s.heap.objs.size f :: outer)
      ⟨h2.push { cls := .type "method", data := .fields #[.ref f2, .ref a] }, s.gens, s.drawn, s.toks + 2 + 1, s.os⟩ H :=
    { frames := Around.frames_deeper e0.frames
      mod := e0.mod
      bs := fun b o q => ⟨keep3 b o (kb b o q), (e0.bs b o q).2⟩
      bsz := Nat.le_of_lt (Nat.lt_of_le_of_lt e0.bsz hL)
      funs := by
        obtain ⟨o, es, ep, ho, hd, _⟩ := hns3
        refine ⟨fun z => (nomatch z), ⟨s.heap.objs.size, o, rfl, ?_, ho, fun vs z => by rw [hd] at z; cases z⟩, e0.funs.of_keeps fun b o q _ => ⟨o, keep3 b o q, rfl⟩⟩
        cases z : base.get? s.heap.objs.size with
        | none => rfl
        | some o => exact absurd (Heap.lt_size (kb _ _ z)) (Nat.lt_irrefl _)
      frf := fun b hb => by
        rcases List.mem_cons.mp hb with rfl | hb
        · exact e0.hok.fresh (Nat.le_refl _)
        · exact e0.frf b hb
      hok := e0.hok.kept keep3
      bare := e0.bare }
  have run := F2.goes (hr.deeper _) e1 (args := ⟨[.ref a, u], []⟩) (us := [.ref a, u] ++ []) (b2 _ [.ref a, u] (K2.keeps k3) rfl) (by rw [List.append_nil]; exact r) hsp
  refine codeAny_mono run ?_
  intro rr s' q
  match rr, q with
  | .error e, q => exact q.elim
  | .ok (.ret u'), ⟨v', H', os, bare, un, hok', rv, q'⟩ =>
    have fin : CE outer P w H s Q .none s' := ⟨.non, H', os, bare, un_frame (Nat.le_refl _) keep3 un, hok', rfl, q'⟩
    first
      | exact wpAt_of_wpAny (wpAny_execs_nil fin)
      | trace_state
end FT
namespace FT
open PySem PySem.Spec PyProof.Rows L2
theorem binds_sup {K : PySem.W.Frag} {qual : Str} {q1 q2 p0 p1 p2 p3 p4 p5 : Pos} {kV doc pm cdv ct : Value} {an : Option Addr} {cc : Addr} : Binds K (PySem.W.ksFn "__init__" qual (supA q1 q2) (supB p0 p1 p2 p3 p4 p5) supS .none kV doc pm an cdv ct cc) ["self", "value"] [] :=
  fun s us _ hl => match us, hl with
    | [_, _], _ => .of_eq rfl
def two {α : Type} : List α → List α → List α
  | [a], [b] => [a, b]
  | _, _ => []
def twoX {α : Type} : List α → List α → List α
  | [a], [b, c] => [a, c, b]
  | _, _ => []
def three {α : Type} : List α → List α → List α
  | [a], [b, c] => [a, b, c]
  | _, _ => []
theorem rel_two {vs : List V} {us : List Value} {zs : List V} {ws : List Value} (r : Vals vs us) (q : Vals zs ws) : Vals (two vs zs) (two us ws) := by
  cases r with
  | nil => exact .nil
  | cons a r =>
    cases r with
    | nil =>
      cases q with
      | nil => exact .nil
      | cons b q =>
        cases q with
        | nil => exact .cons a (.cons b .nil)
        | cons _ _ => exact .nil
    | cons _ _ => exact .nil
theorem rel_twoX {vs : List V} {us : List Value} {zs : List V} {ws : List Value} (r : Vals vs us) (q : Vals zs ws) : Vals (twoX vs zs) (twoX us ws) := by
  cases r with
  | nil => exact .nil
  | cons a r =>
    cases r with
    | nil =>
      cases q with
      | nil => exact .nil
      | cons b q =>
        cases q with
        | nil => exact .nil
        | cons c q =>
          cases q with
          | nil => exact .cons a (.cons c (.cons b .nil))
          | cons _ _ => exact .nil
    | cons _ _ => exact .nil
theorem kbinds_sup {P : Program} {K : PySem.W.Frag} {p : SPos} {qual : Str} {f D cc cda : Addr} {fd : FuncData} (S : SFun P K p qual f D cc cda fd) : KBinds K fd ["self", "value"] ["value"] two two := by
  obtain ⟨oc, od, kV, doc, pm, an, ct, osl, rfl, lk, hcd⟩ := S.ex
  refine ⟨fun s us ws _ hl => ?_, rel_two⟩
  match us, ws, hl with
  | [_], [_], _ => exact .of_eq rfl
theorem XT.supc {K : PySem.W.Frag} {mg : Str → Option Value} {x y : Str} {C D fI f2 : Addr} {up : List Addr} {ns ns2 fs fs2 : List Str} (T : XT K mg x C fI (D :: up) ns fs) (T2 : XT K mg y D f2 up ns2 fs2) (fn : PySem.W.fnIn K f2 = true) : SupC K C C f2 := by
  obtain ⟨q, N, bs, sn, sub, ab, col, dd, k0, k1, k2, k3, k5, h⟩ := T.cls
  obtain ⟨q', N', bs', sn', sub', ab', col', dd', k0', k1', k2', k3', k5', h'⟩ := T2.cls
  refine ⟨by rw [T.mro, List.contains_cons]; simp, ?_, T2.tI, fn⟩
  have e := T2.iC
  unfold PySem.W.findIn at e
  dsimp only at e
  rw [h'] at e
  unfold PySem.W.ks_superIn PySem.W.clsIn
  rw [h]
  show PySem.W.alongIn K "__init__" (((Value.ref C :: ((D :: up).map Value.ref ++ PySem.HandSPX.veTail)).dropWhile (· != .ref C)).drop 1) = _
  have z : ((Value.ref C :: ((D :: up).map Value.ref ++ PySem.HandSPX.veTail)).dropWhile (· != .ref C)).drop 1 = (D :: up).map Value.ref ++ PySem.HandSPX.veTail := by
    simp [List.dropWhile_cons]
  rw [z]
  exact e
end FT

/-! a value beside itself -/
namespace FT
open PySem PySem.Spec PyProof.Rows L2
/-- an item whose equality with itself needs no look inside -/
def easyV : V → Bool
  | .ref _ => true
  | v => flatB v
theorem easy_same {A : Around} {s : Shared} {v : V} {u u' : Value} (r : RelV v u) (r' : RelV v u') (f : easyV v = true) : SeqAt.EqAt A s u u' true := by
  cases v with
  | ref a =>
    cases (show u = Value.ref a from r)
    cases (show u' = Value.ref a from r')
    exact SeqAt.EqAt.same _
  | non => exact eqAt_same r r' f
  | bl _ => exact eqAt_same r r' f
  | int _ => exact eqAt_same r r' f
  | str _ => exact eqAt_same r r' f
  | byt _ => exact eqAt_same r r' f
  | flt _ => cases f
  | ty _ => cases f
theorem easy_items {A : Around} {s : Shared} : ∀ {xs : List V} {us us' : List Value}, Vals xs us → Vals xs us' → (∀ x ∈ xs, easyV x = true) → ∀ j (h1 : j < us.length) (h2 : j < us'.length), SeqAt.EqAt A s us[j] us'[j] true
  | _, _, _, .nil, .nil, _ => fun j h1 _ => absurd h1 (Nat.not_lt_zero j)
  | _, _, _, .cons a r, .cons a' r', f => fun j h1 h2 => match j with
    | 0 => easy_same a a' (f _ List.mem_cons_self)
    | j + 1 => easy_items r r' (fun x hx => f x (List.mem_cons_of_mem _ hx)) j (Nat.lt_of_succ_lt_succ h1) (Nat.lt_of_succ_lt_succ h2)
/-- a value that may stand beside itself -/
def SelfV (H : Hp) : V → Prop
  | .ref a => (∃ xs, H a = some (.lst xs) ∧ ∀ x ∈ xs, easyV x = true) ∨ (∃ xs, H a = some (.tup xs) ∧ ∀ x ∈ xs, easyV x = true) ∨ ∃ kvs, H a = some (.dK kvs) ∧ ∀ p ∈ kvs, valV kvs p.1 = some p.2 ∧ flatB p.2 = true
  | .non => True
  | .bl _ => True
  | .int _ => True
  | .str _ => True
  | _ => False
theorem SelfV.mono {H H' : Hp} {v : V} (h : SelfV H v) (s : ∀ a o, v = .ref a → H a = some o → H' a = some o) : SelfV H' v := by
  cases v with
  | ref a =>
    rcases h with ⟨xs, e, k⟩ | ⟨xs, e, k⟩ | ⟨xs, e, k⟩
    · exact .inl ⟨xs, s _ _ rfl e, k⟩
    · exact .inr (.inl ⟨xs, s _ _ rfl e, k⟩)
    · exact .inr (.inr ⟨xs, s _ _ rfl e, k⟩)
  | non => exact h
  | bl _ => exact h
  | int _ => exact h
  | str _ => exact h
  | byt _ => exact h
  | flt _ => exact h
  | ty _ => exact h
theorem SelfV.easy {H : Hp} {v : V} (h : SelfV H v) : easyV v = true := by
  cases v <;> first | rfl | exact (show False from h).elim
section
variable {X : Cx}
/-- x != x; [x, y] != [x, y] -/
def rNeS (K : PySem.W.Frag) : R2 := fun x y H Q => ((x = y ∧ SelfV H x) ∨ ∃ a b xs, x = .ref a ∧ y = .ref b ∧ H a = some (.lst xs) ∧ H b = some (.lst xs) ∧ ∀ x ∈ xs, easyV x = true) ∧ Q (.bl false) H
theorem ne_lists {pins : List (Addr × Obj)} {σ : L2.St} {H : Hp} {s : Shared} {Q : VK} {a b : Addr} {xs : List V} (hu : X.A.units < cLine) (I : Inv X pins σ H s) (h1 : H a = some (.lst xs)) (h2 : H b = some (.lst xs)) (f : ∀ x ∈ xs, easyV x = true) (q : Q (.bl false) H) :
    wpAny (model X.prog X.w) X.A (compareOp .NotEq (.ref a) (.ref b)) (EP X pins σ Q) X.xe s := by
  obtain ⟨us, r1, p1, _⟩ := I.list (SqL.of h1)
  obtain ⟨us', r2, p2, _⟩ := I.list (SqL.of h2)
  have hsz : us.toArray.size = us'.toArray.size := by
    rw [List.size_toArray, List.size_toArray, ← r1.length, ← r2.length]
  refine PySem.EqBoolInt.of_rcne (SeqAt.RcNeAt.lists (e := fun _ => true) p1.isList p2.isList hsz hu (fun j g1 g2 => ?_)) ?_
  · have k := easy_items (A := X.A.in1) (s := s) r1 r2 f j (by simpa using g1) (by simpa using g2)
    simpa using k
  · rw [show ((List.range us.toArray.size).all fun _ => true) = true from List.all_eq_true.mpr fun _ _ => rfl]
    exact ⟨.bl false, H, I, rfl, q⟩
theorem op_neS (hu : X.A.units + 64 < cLine) : OpR X (compareOp .NotEq) (rNeS X.K) := by
  have hu' : X.A.units < cLine := by omega
  rintro pins s σ H x y v u Q I rx ry ⟨h, q⟩
  rcases h with ⟨rfl, h⟩ | ⟨a, b, xs, rfl, rfl, h1, h2, f⟩
  · cases x with
    | ref a =>
      cases (show v = Value.ref a from rx)
      cases (show u = Value.ref a from ry)
      rcases h with ⟨xs, e, f⟩ | ⟨xs, e, f⟩ | ⟨kvs, e, f⟩
      · exact ne_lists hu' I e e f q
      · obtain ⟨us, r1, p1, _⟩ := I.tuple (SqT.of e)
        refine PySem.EqBoolInt.of_rcne (SeqAt.RcNeAt.tuples (e := fun _ => true) p1 p1 hu' (fun j g1 g2 => ?_)) ?_
        · have k := easy_items (A := X.A.in1) (s := s) r1 r1 f j (by simpa using g1) (by simpa using g2)
          simpa using k
        · have z : ((List.range (min us.toArray.size us.toArray.size)).all fun _ => true) = true := List.all_eq_true.mpr fun _ _ => rfl
          rw [z]
          have z2 : (us.toArray.size == us.toArray.size) = true := beq_self_eq_true _
          rw [z2]
          exact ⟨.bl false, H, I, rfl, q⟩
      · exact op_ne_dictA hu' pins s σ H (.ref a) (.ref a) _ _ Q I rfl rfl ⟨a, a, kvs, kvs, rfl, rfl, e, e, rfl, f, q⟩
    | non =>
      cases (show v = Value.none from rx)
      cases (show u = Value.none from ry)
      exact PySem.EqNone.ne_none_none ⟨.bl false, H, I, rfl, q⟩
    | bl b =>
      cases (show v = Value.bool b from rx)
      cases (show u = Value.bool b from ry)
      refine PyProof.Rows.ne_bool ⟨.bl false, H, I, ?_, q⟩
      show Value.bool (b != b) = Value.bool false
      rw [bne_self_eq_false]
    | int i =>
      obtain ⟨t, rfl⟩ := (show ∃ t, v = Value.int i t from rx)
      obtain ⟨t', rfl⟩ := (show ∃ t, u = Value.int i t from ry)
      refine PyProof.Rows.ne_int ⟨.bl false, H, I, ?_, q⟩
      show Value.bool (i != i) = Value.bool false
      rw [bne_self_eq_false]
    | str i =>
      obtain ⟨t, rfl⟩ := (show ∃ t, v = Value.str i t from rx)
      obtain ⟨t', rfl⟩ := (show ∃ t, u = Value.str i t from ry)
      refine PyProof.Rows.ne_str ⟨.bl false, H, I, ?_, q⟩
      show Value.bool (i != i) = Value.bool false
      rw [bne_self_eq_false]
    | byt _ => exact h.elim
    | flt _ => exact h.elim
    | ty _ => exact h.elim
  · cases (show v = Value.ref a from rx)
    cases (show u = Value.ref b from ry)
    exact ne_lists hu' I h1 h2 f q
end
end FT

/-! names of things that are joined pair by pair: two ways to tell whether all hang together -/
namespace MC
abbrev Pr := List (Nat × Nat)
/-- joined by pairs -/
inductive Con (ps : Pr) : Nat → Nat → Prop
  | refl (x : Nat) : Con ps x x
  | to {a b c : Nat} : (a, b) ∈ ps → Con ps b c → Con ps a c
  | fro {a b c : Nat} : (a, b) ∈ ps → Con ps a c → Con ps b c
theorem Con.trans {ps : Pr} {x y z : Nat} (h : Con ps x y) : Con ps y z → Con ps x z := by
  induction h with
  | refl => exact fun h => h
  | to m _ ih => exact fun h => .to m (ih h)
  | fro m _ ih => exact fun h => .fro m (ih h)
theorem Con.symm {ps : Pr} {x y : Nat} (h : Con ps x y) : Con ps y x := by
  induction h with
  | refl => exact .refl _
  | to m _ ih => exact ih.trans (.fro m (.refl _))
  | fro m _ ih => exact ih.trans (.to m (.refl _))
theorem Con.mono {ps qs : Pr} {x y : Nat} (h : Con ps x y) (s : ∀ p ∈ ps, p ∈ qs) : Con qs x y := by
  induction h with
  | refl => exact .refl _
  | to m _ ih => exact .to (s _ m) ih
  | fro m _ ih => exact .fro (s _ m) ih
theorem con_nil {x y : Nat} (h : Con [] x y) : x = y := by
  cases h with
  | refl => rfl
  | to m _ => cases m
  | fro m _ => cases m
/-- one pair more -/
theorem con_snoc {ps : Pr} {a b x y : Nat} : Con (ps ++ [(a, b)]) x y ↔ Con ps x y ∨ (Con ps x a ∧ Con ps b y) ∨ (Con ps x b ∧ Con ps a y) := by
  constructor
  · intro h
    induction h with
    | refl => exact .inl (.refl _)
    | @to c d e m _ ih =>
      rcases List.mem_append.mp m with m | m
      · rcases ih with h | ⟨h1, h2⟩ | ⟨h1, h2⟩
        · exact .inl (.to m h)
        · exact .inr (.inl ⟨.to m h1, h2⟩)
        · exact .inr (.inr ⟨.to m h1, h2⟩)
      · have e : (c, d) = (a, b) := List.mem_singleton.mp m
        cases e
        rcases ih with h | ⟨h1, h2⟩ | ⟨h1, h2⟩
        · exact .inr (.inl ⟨.refl _, h⟩)
        · exact .inr (.inl ⟨.refl _, h2⟩)
        · exact .inl h2
    | @fro c d e m _ ih =>
      rcases List.mem_append.mp m with m | m
      · rcases ih with h | ⟨h1, h2⟩ | ⟨h1, h2⟩
        · exact .inl (.fro m h)
        · exact .inr (.inl ⟨.fro m h1, h2⟩)
        · exact .inr (.inr ⟨.fro m h1, h2⟩)
      · have e : (c, d) = (a, b) := List.mem_singleton.mp m
        cases e
        rcases ih with h | ⟨h1, h2⟩ | ⟨h1, h2⟩
        · exact .inr (.inr ⟨.refl _, h⟩)
        · exact .inl h2
        · exact .inr (.inr ⟨.refl _, h2⟩)
  · have m : (a, b) ∈ ps ++ [(a, b)] := List.mem_append_right _ List.mem_cons_self
    have s : ∀ p ∈ ps, p ∈ ps ++ [(a, b)] := fun p h => List.mem_append_left _ h
    rintro (h | ⟨h1, h2⟩ | ⟨h1, h2⟩)
    · exact h.mono s
    · exact (h1.mono s).trans (.to m (h2.mono s))
    · exact (h1.mono s).trans (.fro m (h2.mono s))
/-- the higher name of two goes over to the lower -/
def jn (ns : List Nat) (a b : Nat) : List Nat := ns.map fun x => if x = max (ns.getD a 0) (ns.getD b 0) then min (ns.getD a 0) (ns.getD b 0) else x
def names (n : Nat) (ps : Pr) : List Nat := ps.foldl (fun ns p => jn ns p.1 p.2) (List.range n)
/-- pairs below n -/
def Below (n : Nat) (ps : Pr) : Prop := ∀ p ∈ ps, p.1 < n ∧ p.2 < n
structure Nm (n : Nat) (ps : Pr) (ns : List Nat) : Prop where
  len : ns.length = n
  iff : ∀ x y, x < n → y < n → (ns.getD x 0 = ns.getD y 0 ↔ Con ps x y)
  own : ∀ x, x < n → ns.getD x 0 < n ∧ Con ps (ns.getD x 0) x
  low : ∀ x, x < n → ns.getD x 0 ≤ x
theorem getD_jn {ns : List Nat} {a b x : Nat} (h : x < ns.length) : (jn ns a b).getD x 0 = if ns.getD x 0 = max (ns.getD a 0) (ns.getD b 0) then min (ns.getD a 0) (ns.getD b 0) else ns.getD x 0 := by
  unfold jn
  rw [List.getD_eq_getElem?_getD, List.getElem?_map, List.getElem?_eq_getElem h]
  simp only [Option.map_some, Option.getD_some]
  rw [show ns.getD x 0 = ns[x] by rw [List.getD_eq_getElem?_getD, List.getElem?_eq_getElem h]; rfl]
theorem Nm.next {n : Nat} {ps : Pr} {ns : List Nat} {a b : Nat} (h : Nm n ps ns) (ha : a < n) (hb : b < n) : Nm n (ps ++ [(a, b)]) (jn ns a b) := by
  have len : (jn ns a b).length = n := by unfold jn; rw [List.length_map, h.len]
  have g : ∀ x, x < n → (jn ns a b).getD x 0 = if ns.getD x 0 = max (ns.getD a 0) (ns.getD b 0) then min (ns.getD a 0) (ns.getD b 0) else ns.getD x 0 := fun x hx => getD_jn (by rw [h.len]; exact hx)
  have s : ∀ p ∈ ps, p ∈ ps ++ [(a, b)] := fun p h => List.mem_append_left _ h
  have cab : Con (ps ++ [(a, b)]) a b := con_snoc.mpr (.inr (.inl ⟨.refl _, .refl _⟩))
  refine ⟨len, ?_, ?_, ?_⟩
  · intro x y hx hy
    rw [g x hx, g y hy, con_snoc, ← h.iff x y hx hy, ← h.iff x a hx ha, ← h.iff b y hb hy, ← h.iff x b hx hb, ← h.iff a y ha hy]
    generalize ns.getD a 0 = A
    generalize ns.getD b 0 = B
    generalize ns.getD x 0 = U
    generalize ns.getD y 0 = W
    by_cases h1 : U = max A B
    · by_cases h2 : W = max A B
      · rw [if_pos h1, if_pos h2]
        omega
      · rw [if_pos h1, if_neg h2]
        omega
    · by_cases h2 : W = max A B
      · rw [if_neg h1, if_pos h2]
        omega
      · rw [if_neg h1, if_neg h2]
        omega
  · intro x hx
    rw [g x hx]
    obtain ⟨o1, o2⟩ := h.own x hx
    by_cases e : ns.getD x 0 = max (ns.getD a 0) (ns.getD b 0)
    · rw [if_pos e]
      obtain ⟨oa1, oa2⟩ := h.own a ha
      obtain ⟨ob1, ob2⟩ := h.own b hb
      have ca : Con (ps ++ [(a, b)]) (ns.getD a 0) a := oa2.mono s
      have cb : Con (ps ++ [(a, b)]) (ns.getD b 0) b := ob2.mono s
      have cx : Con (ps ++ [(a, b)]) (ns.getD x 0) x := o2.mono s
      by_cases le : ns.getD a 0 ≤ ns.getD b 0
      · rw [Nat.min_eq_left le]
        rw [Nat.max_eq_right le] at e
        rw [e] at cx
        exact ⟨oa1, ca.trans (cab.trans (cb.symm.trans cx))⟩
      · have le' : ns.getD b 0 ≤ ns.getD a 0 := by omega
        rw [Nat.min_eq_right le']
        rw [Nat.max_eq_left le'] at e
        rw [e] at cx
        exact ⟨ob1, cb.trans (cab.symm.trans (ca.symm.trans cx))⟩
    · rw [if_neg e]
      exact ⟨o1, o2.mono s⟩
  · intro x hx
    rw [g x hx]
    have := h.low x hx
    split <;> omega
theorem getD_range {n x : Nat} (h : x < n) : (List.range n).getD x 0 = x := by
  rw [List.getD_eq_getElem?_getD, List.getElem?_range h]
  rfl
theorem Nm.zero (n : Nat) : Nm n [] (List.range n) := by
  refine ⟨List.length_range, ?_, ?_, ?_⟩
  · intro x y hx hy
    rw [getD_range hx, getD_range hy]
    exact ⟨fun e => by rw [e]; exact .refl _, con_nil⟩
  · intro x hx
    rw [getD_range hx]
    exact ⟨hx, .refl _⟩
  · intro x hx
    rw [getD_range hx]
    exact Nat.le_refl _
theorem Nm.fold {n : Nat} : ∀ (qs ps : Pr) (ns : List Nat), Nm n ps ns → Below n qs → Nm n (ps ++ qs) (qs.foldl (fun ns p => jn ns p.1 p.2) ns)
  | [], ps, ns, h, _ => by rw [List.append_nil]; exact h
  | (a, b) :: qs, ps, ns, h, hb => by
    have := Nm.fold qs (ps ++ [(a, b)]) (jn ns a b) (h.next (hb _ List.mem_cons_self).1 (hb _ List.mem_cons_self).2) fun p m => hb p (List.mem_cons_of_mem _ m)
    rw [List.append_assoc] at this
    exact this
theorem names_nm {n : Nat} {ps : Pr} (h : Below n ps) : Nm n ps (names n ps) := Nm.fold ps [] _ (Nm.zero n) h
/-- all hang together -/
def Whole (n : Nat) (ps : Pr) : Prop := ∀ x, x < n → Con ps 0 x
theorem Nm.whole {n : Nat} {ps : Pr} {ns : List Nat} (h : Nm n ps ns) : Whole n ps ↔ ∀ x ∈ ns, x = 0 := by
  constructor
  · intro w x hx
    obtain ⟨i, hi, e⟩ := List.mem_iff_getElem.mp hx
    have hin : i < n := by rw [← h.len]; exact hi
    have h0 : 0 < n := by omega
    have e1 := (h.iff 0 i h0 hin).mpr (w i hin)
    have l := h.low 0 h0
    have e2 : ns.getD i 0 = x := by rw [List.getD_eq_getElem?_getD, List.getElem?_eq_getElem hi, ← e]; rfl
    omega
  · intro z x hx
    have hl : x < ns.length := by rw [h.len]; exact hx
    have e2 : ns.getD x 0 = ns[x] := by rw [List.getD_eq_getElem?_getD, List.getElem?_eq_getElem hl]; rfl
    have c := (h.own x hx).2
    rw [e2, z _ (List.getElem_mem hl)] at c
    exact c
/-- one round: both ends take the lower of their two numbers -/
def rnd1 (ls : List Nat) (p : Nat × Nat) : List Nat := (ls.set p.1 (min (ls.getD p.1 0) (ls.getD p.2 0))).set p.2 (min (ls.getD p.1 0) (ls.getD p.2 0))
def rnd (ps : Pr) (ls : List Nat) : List Nat := ps.foldl rnd1 ls
def rnds (ps : Pr) : Nat → List Nat → List Nat
  | 0, ls => ls
  | k + 1, ls => rnds ps k (rnd ps ls)
theorem len_rnd1 (ls : List Nat) (p : Nat × Nat) : (rnd1 ls p).length = ls.length := by unfold rnd1; rw [List.length_set, List.length_set]
theorem get_rnd1 {ls : List Nat} {p : Nat × Nat} {x : Nat} (h1 : p.1 < ls.length) (h2 : p.2 < ls.length) :
    (rnd1 ls p).getD x 0 = if x = p.1 ∨ x = p.2 then min (ls.getD p.1 0) (ls.getD p.2 0) else ls.getD x 0 := by
  unfold rnd1
  rw [List.getD_eq_getElem?_getD, List.getElem?_set, List.getElem?_set, List.length_set]
  by_cases e2 : p.2 = x
  · rw [if_pos e2, if_pos h2, if_pos (.inr e2.symm)]
    rfl
  · rw [if_neg e2]
    by_cases e1 : p.1 = x
    · rw [if_pos e1, if_pos h1, if_pos (.inl e1.symm)]
      rfl
    · rw [if_neg e1, if_neg (by rintro (z | z); exact e1 z.symm; exact e2 z.symm), ← List.getD_eq_getElem?_getD]
/-- what a round keeps: every number is one of a thing that it hangs together with; none goes up -/
structure Ls (n : Nat) (ps : Pr) (ls : List Nat) : Prop where
  len : ls.length = n
  own : ∀ x, x < n → ls.getD x 0 < n ∧ Con ps (ls.getD x 0) x
theorem Ls.next {n : Nat} {ps : Pr} {ls : List Nat} {p : Nat × Nat} (h : Ls n ps ls) (m : p ∈ ps) (b : Below n ps) : Ls n ps (rnd1 ls p) := by
  obtain ⟨b1, b2⟩ := b p m
  refine ⟨(len_rnd1 ls p).trans h.len, fun x hx => ?_⟩
  rw [get_rnd1 (by rw [h.len]; exact b1) (by rw [h.len]; exact b2)]
  have cp : Con ps p.1 p.2 := .to m (.refl _)
  obtain ⟨o1, o2⟩ := h.own p.1 b1
  obtain ⟨q1, q2⟩ := h.own p.2 b2
  split
  · rename_i e
    have cx : Con ps p.1 x := by
      rcases e with rfl | rfl
      · exact .refl _
      · exact cp
    by_cases le : ls.getD p.1 0 ≤ ls.getD p.2 0
    · rw [Nat.min_eq_left le]
      exact ⟨o1, o2.trans cx⟩
    · rw [Nat.min_eq_right (by omega)]
      exact ⟨q1, q2.trans (cp.symm.trans cx)⟩
  · exact h.own x hx
theorem down1 {ls : List Nat} {p : Nat × Nat} (h1 : p.1 < ls.length) (h2 : p.2 < ls.length) (x : Nat) : (rnd1 ls p).getD x 0 ≤ ls.getD x 0 := by
  rw [get_rnd1 h1 h2]
  split
  · rename_i e
    rcases e with rfl | rfl
    · exact Nat.min_le_left _ _
    · exact Nat.min_le_right _ _
  · exact Nat.le_refl _
theorem fold_down {n : Nat} : ∀ (qs : Pr) (ls : List Nat), ls.length = n → Below n qs → (qs.foldl rnd1 ls).length = n ∧ ∀ x, (qs.foldl rnd1 ls).getD x 0 ≤ ls.getD x 0
  | [], ls, hl, _ => ⟨hl, fun x => Nat.le_refl _⟩
  | p :: qs, ls, hl, b => by
    obtain ⟨b1, b2⟩ := b p List.mem_cons_self
    have r := fold_down qs (rnd1 ls p) ((len_rnd1 ls p).trans hl) fun q m => b q (List.mem_cons_of_mem _ m)
    exact ⟨r.1, fun x => Nat.le_trans (r.2 x) (down1 (by rw [hl]; exact b1) (by rw [hl]; exact b2) x)⟩
theorem Ls.fold {n : Nat} {ps : Pr} (b : Below n ps) : ∀ (qs : Pr) (ls : List Nat), Ls n ps ls → (∀ p ∈ qs, p ∈ ps) → Ls n ps (qs.foldl rnd1 ls)
  | [], ls, h, _ => h
  | p :: qs, ls, h, m => Ls.fold b qs _ (h.next (m _ List.mem_cons_self) b) fun q z => m q (List.mem_cons_of_mem _ z)
/-- a nought at one end of a pair goes over to the other within a round -/
theorem fold_zero {n : Nat} : ∀ (qs : Pr) (ls : List Nat) (p : Nat × Nat), ls.length = n → Below n qs → p ∈ qs → (ls.getD p.1 0 = 0 ∨ ls.getD p.2 0 = 0) → (qs.foldl rnd1 ls).getD p.1 0 = 0 ∧ (qs.foldl rnd1 ls).getD p.2 0 = 0
  | [], ls, p, _, _, m, _ => by cases m
  | q :: qs, ls, p, hl, b, m, z => by
    obtain ⟨b1, b2⟩ := b q List.mem_cons_self
    have hl1 : (rnd1 ls q).length = n := (len_rnd1 ls q).trans hl
    have bq : Below n qs := fun q m => b q (List.mem_cons_of_mem _ m)
    have g1 : q.1 < ls.length := by rw [hl]; exact b1
    have g2 : q.2 < ls.length := by rw [hl]; exact b2
    by_cases e : p = q
    · subst e
      have r := fold_down qs (rnd1 ls p) hl1 bq
      have z0 : min (ls.getD p.1 0) (ls.getD p.2 0) = 0 := by omega
      have r1 := r.2 p.1
      have r2 := r.2 p.2
      rw [get_rnd1 g1 g2, if_pos (.inl rfl), z0] at r1
      rw [get_rnd1 g1 g2, if_pos (.inr rfl), z0] at r2
      exact ⟨Nat.le_zero.mp r1, Nat.le_zero.mp r2⟩
    · have m' : p ∈ qs := (List.mem_cons.mp m).resolve_left e
      have d1 := down1 g1 g2 p.1
      have d2 := down1 g1 g2 p.2
      exact fold_zero qs (rnd1 ls q) p hl1 bq m' (by omega)
/-- how many noughts -/
def zs (n : Nat) (ls : List Nat) : Nat := (List.range n).countP fun x => decide (ls.getD x 0 = 0)
theorem zs_le {n : Nat} {ls ms : List Nat} (h : ∀ x, x < n → ls.getD x 0 = 0 → ms.getD x 0 = 0) : zs n ls ≤ zs n ms := by
  unfold zs
  refine List.countP_mono_left ?_
  intro x hx hz
  exact decide_eq_true (h x (List.mem_range.mp hx) (of_decide_eq_true hz))
theorem countP_lt {p q : Nat → Bool} : ∀ (l : List Nat), (∀ x ∈ l, p x = true → q x = true) → (∃ x ∈ l, p x = false ∧ q x = true) → l.countP p < l.countP q
  | [], _, ⟨x, m, _⟩ => by cases m
  | y :: l, h, ⟨x, m, h1, h2⟩ => by
    have le : l.countP p ≤ l.countP q := List.countP_mono_left fun x hx => h x (List.mem_cons_of_mem _ hx)
    rcases List.mem_cons.mp m with rfl | m
    · rw [List.countP_cons, List.countP_cons, h1, h2]
      simp only [Bool.false_eq_true, if_false, if_true]
      omega
    · have ih := countP_lt l (fun x hx => h x (List.mem_cons_of_mem _ hx)) ⟨x, m, h1, h2⟩
      rw [List.countP_cons, List.countP_cons]
      have := h y List.mem_cons_self
      cases hp : p y with
      | true => rw [this hp]; omega
      | false => cases q y <;> (simp only [Bool.false_eq_true, if_false, if_true]; omega)
theorem zs_all {n : Nat} {ls : List Nat} (h : zs n ls = n) : ∀ x, x < n → ls.getD x 0 = 0 := by
  intro x hx
  cases d : decide (ls.getD x 0 = 0) with
  | true => exact of_decide_eq_true d
  | false =>
    have lt := countP_lt (p := fun x => decide (ls.getD x 0 = 0)) (q := fun _ => true) (List.range n) (fun _ _ _ => rfl) ⟨x, List.mem_range.mpr hx, d, rfl⟩
    have e : (List.range n).countP (fun _ => true) = n := by rw [List.countP_true, List.length_range]
    have h' : (List.range n).countP (fun x => decide (ls.getD x 0 = 0)) = n := h
    rw [e, h'] at lt
    exact absurd lt (Nat.lt_irrefl _)
/-- a round makes a nought more, while there is one to make -/
theorem rnd_more {n : Nat} {ps : Pr} {ls : List Nat} (hl : ls.length = n) (b : Below n ps) (w : Whole n ps) (h0 : ls.getD 0 0 = 0) (lt : zs n ls < n) : zs n ls < zs n (rnd ps ls) := by
  have dn := fold_down ps ls hl b
  by_cases c : ∃ x, x < n ∧ ls.getD x 0 ≠ 0 ∧ (rnd ps ls).getD x 0 = 0
  · obtain ⟨x, hx, h1, h2⟩ := c
    refine countP_lt _ (fun y _ hy => ?_) ⟨x, List.mem_range.mpr hx, decide_eq_false h1, decide_eq_true h2⟩
    have := dn.2 y
    have hy' := of_decide_eq_true hy
    exact decide_eq_true (by rw [hy'] at this; exact Nat.le_zero.mp this)
  · exfalso
    have cl : ∀ x, x < n → (rnd ps ls).getD x 0 = 0 → ls.getD x 0 = 0 := fun x hx hz => Classical.byContradiction fun q => c ⟨x, hx, q, hz⟩
    -- noughts are closed under pairs, so all are noughts
    have key : ∀ x y, Con ps x y → ls.getD x 0 = 0 → ls.getD y 0 = 0 := by
      intro x y h
      induction h with
      | refl => exact fun h => h
      | @to a b' c' m _ ih =>
        intro ha
        have z := fold_zero ps ls (a, b') hl b m (.inl ha)
        exact ih (cl _ (b _ m).2 z.2)
      | @fro a b' c' m _ ih =>
        intro hb
        have z := fold_zero ps ls (a, b') hl b m (.inr hb)
        exact ih (cl _ (b _ m).1 z.1)
    have all : zs n ls = n := by
      unfold zs
      have e : (List.range n).countP (fun x => decide (ls.getD x 0 = 0)) = (List.range n).length := by
        rw [List.countP_eq_length]
        intro x hx
        exact decide_eq_true (key 0 x (w x (List.mem_range.mp hx)) h0)
      rw [e, List.length_range]
    omega
theorem rnds_spec {n : Nat} {ps : Pr} (b : Below n ps) : ∀ (k : Nat) (ls : List Nat), Ls n ps ls → ls.getD 0 0 = 0 → Ls n ps (rnds ps k ls) ∧ (rnds ps k ls).getD 0 0 = 0 ∧ (Whole n ps → min n (zs n ls + k) ≤ zs n (rnds ps k ls))
  | 0, ls, h, h0 => ⟨h, h0, fun _ => by show min n (zs n ls + 0) ≤ zs n ls; omega⟩
  | k + 1, ls, h, h0 => by
    have h1 : Ls n ps (rnd ps ls) := Ls.fold b ps ls h fun _ m => m
    have dn := fold_down ps ls h.len b
    have h01 : (rnd ps ls).getD 0 0 = 0 := by
      have := dn.2 0
      rw [h0] at this
      exact Nat.le_zero.mp this
    obtain ⟨r1, r2, r3⟩ := rnds_spec b k (rnd ps ls) h1 h01
    refine ⟨r1, r2, fun w => ?_⟩
    have q := r3 w
    show min n (zs n ls + (k + 1)) ≤ zs n (rnds ps k (rnd ps ls))
    by_cases lt : zs n ls < n
    · have := rnd_more h.len b w h0 lt
      omega
    · have le := zs_le (n := n) (ls := ls) (ms := rnd ps ls) fun x hx z => by
        have := dn.2 x
        rw [z] at this
        exact Nat.le_zero.mp this
      omega
/-- after n rounds all are noughts just if all hang together -/
theorem rnds_whole {n k : Nat} {ps : Pr} (b : Below n ps) (hk : n ≤ k) (hn : 0 < n) : (∀ x ∈ rnds ps k (List.range n), x = 0) ↔ Whole n ps := by
  have l0 : Ls n ps (List.range n) := ⟨List.length_range, fun x hx => by rw [getD_range hx]; exact ⟨hx, .refl _⟩⟩
  obtain ⟨r1, r2, r3⟩ := rnds_spec b k _ l0 (getD_range hn)
  constructor
  · intro z x hx
    have hl : x < (rnds ps k (List.range n)).length := by rw [r1.len]; exact hx
    have e2 : (rnds ps k (List.range n)).getD x 0 = (rnds ps k (List.range n))[x] := by rw [List.getD_eq_getElem?_getD, List.getElem?_eq_getElem hl]; rfl
    have c := (r1.own x hx).2
    rw [e2, z _ (List.getElem_mem hl)] at c
    exact c
  · intro w x hx
    obtain ⟨i, hi, e⟩ := List.mem_iff_getElem.mp hx
    have q := r3 w
    have le : zs n (rnds ps k (List.range n)) ≤ n := by
      unfold zs
      have := List.countP_le_length (p := fun x => decide ((rnds ps k (List.range n)).getD x 0 = 0)) (l := List.range n)
      rw [List.length_range] at this
      exact this
    have a := zs_all (show zs n (rnds ps k (List.range n)) = n by omega) i (by rw [← r1.len]; exact hi)
    rw [List.getD_eq_getElem?_getD, List.getElem?_eq_getElem hi] at a
    rw [← e]
    exact a
theorem names_rnds {n k : Nat} {ps : Pr} (b : Below n ps) (hk : n ≤ k) (hn : 0 < n) : (∀ x ∈ names n ps, x = 0) ↔ ∀ x ∈ rnds ps k (List.range n), x = 0 :=
  (names_nm b).whole.symm.trans (rnds_whole b hk hn).symm
theorem con_mem {ps qs : Pr} {x y : Nat} (h : ∀ p, p ∈ ps ↔ p ∈ qs) : Con ps x y ↔ Con qs x y := ⟨fun c => c.mono fun p m => (h p).mp m, fun c => c.mono fun p m => (h p).mpr m⟩
/-- with a pair left out all still hang together just if its ends have one name -/
theorem whole_less {n a b : Nat} {ps qs : Pr} (w : Whole n (ps ++ (a, b) :: qs)) (hb : Below n (ps ++ (a, b) :: qs)) : Whole n (ps ++ qs) ↔ (names n (ps ++ qs)).getD a 0 = (names n (ps ++ qs)).getD b 0 := by
  have hab := hb (a, b) (List.mem_append_right _ List.mem_cons_self)
  have bl : Below n (ps ++ qs) := fun p m => hb p (by
    rcases List.mem_append.mp m with m | m
    · exact List.mem_append_left _ m
    · exact List.mem_append_right _ (List.mem_cons_of_mem _ m))
  rw [(names_nm bl).iff a b hab.1 hab.2]
  constructor
  · intro z
    exact (z a hab.1).symm.trans (z b hab.2)
  · intro c x hx
    have q := w x hx
    have e : Con (ps ++ qs ++ [(a, b)]) 0 x := (con_mem fun p => by
      simp only [List.mem_append, List.mem_cons, List.not_mem_nil, or_false]
      constructor
      · rintro ((h | h) | h)
        · exact .inl h
        · exact .inr (.inr h)
        · exact .inr (.inl h)
      · rintro (h | h | h)
        · exact .inl (.inl h)
        · exact .inr h
        · exact .inl (.inr h)).mpr q
    rcases con_snoc.mp e with h | ⟨h1, h2⟩ | ⟨h1, h2⟩
    · exact h
    · exact h1.trans (c.trans h2)
    · exact h1.trans (c.symm.trans h2)
end MC

namespace FT
open PySem PySem.Spec PyProof.Rows L2
/-! any(xs), xs a list of ints -/
theorem truth_ints {prog : Program} {w : World} {A : Around} {ns : List Int} {its : List Value} (e : IntsAre its ns) :
    TruthOf prog w A (fun i v => its.toArray[i]? = some v) (fun i => decide (ns.getD i 0 ≠ 0)) := fun i v s Q E hv hq => by
  have hv' : its[i]? = some v := by simpa using hv
  have key : ∀ {its : List Value} {ns : List Int}, IntsAre its ns → ∀ (i : Nat) (v : Value), its[i]? = some v → ∃ n t, v = .int n t ∧ ns.getD i 0 = n := by
    intro its ns h
    induction h with
    | nil => intro i v h; cases h
    | cons n t h ih =>
      intro i v hv
      cases i with
      | zero => exact ⟨n, t, (Option.some.inj hv).symm, rfl⟩
      | succ i => exact ih i v hv
  obtain ⟨n, t, rfl, en⟩ := key e i v hv'
  have hq' : Q (decide (ns.getD i 0 ≠ 0)) s := hq
  rw [en] at hq'
  have e2 : (n != 0) = decide (n ≠ 0) := by by_cases h : n = 0 <;> simp [h]
  rw [← e2] at hq'
  exact PySem.P.truthy_int hq'
theorem anyI_range : ∀ ns : List Int, (List.range ns.length).any (fun i => decide (ns.getD i 0 ≠ 0)) = ns.any fun n => decide (n ≠ 0)
  | [] => rfl
  | b :: bs => by
    rw [List.length_cons, List.range_succ_eq_map, List.any_cons, List.any_map, List.any_cons, ← anyI_range bs]
    all_goals rfl
section
variable {X : Cx}
def rAnyI (K : PySem.W.Frag) : List V → Hp → VK → Prop := fun vs H Q => ∃ (a : Addr) (ns : List Int), vs = [V.ref a] ∧ SqL K H a (ns.map V.int) ∧ Q (.bl (ns.any fun n => decide (n ≠ 0))) H
theorem cr_anyI (hc : X.calm = true) : CallR X (.builtin "any") (rAnyI X.K) := by
  intro pins s σ H vs us Q I r h
  obtain ⟨a, ns, rfl, hs, q⟩ := h
  obtain ⟨its, rv, hl, _⟩ := I.list hs
  rw [Vals.ref1 r]
  have hb := rv.ints
  refine call_any_walk (iter_any hl.isList fun s₂ e2 st hne => ?_)
  subst e2
  refine ⟨_, _, _, _, _, _, _, rfl, Walks.list (A := X.A.in1) (I.ok.hd hc) _ a hne its.toArray, st, truth_ints hb, fun h' tk hk => ?_⟩
  refine ⟨.bl _, H, I.kept fun b o eo => hk b o (fun hmem => ?_) (Heap.get?_push_of_some _ eo), ?_, q⟩
  · rcases List.mem_cons.mp hmem with e1 | hmem
    · exact absurd (e1 ▸ Heap.lt_size eo) (Nat.lt_irrefl _)
    · cases hmem
  · show Value.bool _ = Value.bool _
    rw [← anyI_range, List.size_toArray]
    have := hb.length
    congr 2
    rw [this]
end
/-- numbers of things, as Python's -/
abbrev nv (ns : List Nat) : List V := ns.map fun (n : Nat) => V.int (n : Int)
theorem nv_ints (ns : List Nat) : nv ns = (ns.map fun (n : Nat) => (n : Int)).map V.int := by simp [nv, List.map_map]
theorem SqA.same {K : PySem.W.Frag} {H H' : Hp} {a : Addr} {xs : List V} (h : SqA K H a xs) (s : Same H H') : SqA K H' a xs := by
  rcases h with h | h
  · exact .inl (sqL_at h fun o e => s _ _ e)
  · exact .inr (sqT_at h fun o e => s _ _ e)
/-- a, b = x: x a list or a tuple -/
def gSq (K : PySem.W.Frag) (n : Nat) (t : TGs) : TG := fun v σ H Q => ∃ a xs, v = .ref a ∧ SqA K H a xs ∧ xs.length = n ∧ t xs σ H Q
theorem pg_sq {X : Cx} {pos : Pos} {es : List Expr} {k : Nat} {t : TGs} {n : Nat} (hc : X.calm = true) (h : PGs X es t)
    (hn : (assignEach es X.env).length = n := by rfl) (hst : (assignEach es X.env).findIdx? (·.1) = none := by rfl) : PG X (.Tuple es k pos) (gSq X.K n t) := by
  constructor
  rintro pins s σ H v u Q I r ⟨a, xs, e1, hq, hl, hw⟩
  rcases hq with hq | hq
  · exact (pg_lst hc h hn hst).run pins s σ H v u Q I r ⟨a, xs, e1, hq, hl, hw⟩
  · exact (pg_tup hc h hn hst).run pins s σ H v u Q I r ⟨a, xs, e1, hq, hl, hw⟩
/-- a list or a tuple of xs that is tracked at a -/
def SqX (H : Hp) (a : Addr) (xs : List V) : Prop := H a = some (.lst xs) ∨ H a = some (.tup xs)
theorem SqX.sq {K : PySem.W.Frag} {H : Hp} {a : Addr} {xs : List V} (h : SqX H a xs) : SqA K H a xs := by
  rcases h with h | h
  · exact .inl (SqL.of h)
  · exact .inr (SqT.of h)
theorem SqX.same {H H' : Hp} {a : Addr} {xs : List V} (h : SqX H a xs) (s : Same H H') : SqX H' a xs := by
  rcases h with h | h
  · exact .inl (s _ _ h)
  · exact .inr (s _ _ h)
theorem SqX.has {H : Hp} {a : Addr} {xs : List V} (h : SqX H a xs) : ∃ o, H a = some o := by
  rcases h with h | h <;> exact ⟨_, h⟩
theorem SqX.ok {H : Hp} {a : Addr} {xs : List V} (h : SqX H a xs) : OkV H (.ref a) := by
  rcases h with h | h
  · exact .inl ⟨_, h⟩
  · exact .inr (.inl ⟨_, h⟩)
theorem SqX.lt {H : Hp} {a : Addr} {xs : List V} (h : SqX H a xs) : isLT H (.ref a) = true := by
  rcases h with h | h <;> simp only [isLT, h]
theorem SqX.inj {H : Hp} {a : Addr} {xs ys : List V} (h : SqX H a xs) (g : SqX H a ys) : xs = ys := by
  rcases h with h | h <;> rcases g with g | g
  · exact HO.lst.inj (Option.some.inj (h.symm.trans g))
  · cases h.symm.trans g
  · cases h.symm.trans g
  · exact HO.tup.inj (Option.some.inj (h.symm.trans g))
/-- a list or a tuple of pairs, each a list or a tuple -/
def PrI (H : Hp) (x : V) (p : Nat × Nat) : Prop := ∃ t, x = .ref t ∧ SqX H t [.int (p.1 : Int), .int (p.2 : Int)]
def PrsA (H : Hp) (a : Addr) (ps : MC.Pr) : Prop := ∃ xs, SqX H a xs ∧ Paired (PrI H) xs ps
theorem PrI.same {H H' : Hp} {x : V} {p : Nat × Nat} (h : PrI H x p) (s : Same H H') : PrI H' x p := by
  obtain ⟨t, e, q⟩ := h
  exact ⟨t, e, q.same s⟩
theorem paired_imp {α β : Type} {R S : α → β → Prop} (f : ∀ x y, R x y → S x y) : ∀ {xs : List α} {ys : List β}, Paired R xs ys → Paired S xs ys
  | _, _, .nil => .nil
  | _, _, .cons h t => .cons (f _ _ h) (paired_imp f t)
theorem PrsA.same {H H' : Hp} {a : Addr} {ps : MC.Pr} (h : PrsA H a ps) (s : Same H H') : PrsA H' a ps := by
  obtain ⟨xs, q, r⟩ := h
  exact ⟨xs, q.same s, paired_imp (fun _ _ z => z.same s) r⟩
theorem nv_at {ns : List Nat} {i : Nat} (h : i < ns.length) : atI (nv ns) (i : Int) = some (.int ((ns.getD i 0 : Nat) : Int)) := by
  refine atI_nat ?_
  rw [List.getElem?_map, List.getElem?_eq_getElem h, List.getD_eq_getElem?_getD, List.getElem?_eq_getElem h]
  rfl
theorem nv_range (n : Nat) : rgV 0 (n : Int) = nv (List.range n) := by
  unfold rgV nv
  have e : ((n : Int) - 0).toNat = n := by omega
  rw [e]
  refine List.map_congr_left fun i _ => ?_
  rw [Int.zero_add]
end FT
namespace FT
open PySem PySem.Spec PyProof.Rows L2
/-- all n things hang together by ps -/
def hang (n : Nat) (ps : MC.Pr) : Bool := (MC.names n ps).all fun x => decide (x = 0)
theorem hang_iff {n : Nat} {ps : MC.Pr} : hang n ps = true ↔ ∀ x ∈ MC.names n ps, x = 0 := by
  unfold hang
  rw [List.all_eq_true]
  exact ⟨fun h x hx => of_decide_eq_true (h x hx), fun h x hx => decide_eq_true (h x hx)⟩
theorem nv_set (ns : List Nat) (i x : Nat) : (nv ns).set i (.int (x : Int)) = nv (ns.set i x) := by
  unfold nv
  rw [List.map_set]
theorem any_names {n : Nat} {ps : MC.Pr} : (((MC.names n ps).map fun (n : Nat) => (n : Int)).any fun n => decide (n ≠ 0)) = !hang n ps := by
  unfold hang
  rw [List.any_map]
  induction MC.names n ps with
  | nil => rfl
  | cons x r ih =>
    rw [List.any_cons, List.all_cons, ih, Bool.not_and]
    congr 1
    by_cases h : x = 0
    · subst h
      rfl
    · have h2 : ¬ ((x : Int) = 0) := by omega
      simp [h]
end FT
namespace FT
open PySem PySem.Spec PyProof.Rows L2
/-! nested lists and tuples, made into tuples -/
inductive Tr
  | leaf (v : V)
  | node (ts : List Tr)
/-- v, nested d deep at most, is the tree t: lists and tuples are its nodes -/
def Src : Nat → Hp → V → Tr → Prop
  | 0, H, v, t => OkV H v ∧ isLT H v = false ∧ t = .leaf v
  | d + 1, H, v, t => (OkV H v ∧ isLT H v = false ∧ t = .leaf v) ∨ ∃ a xs ts, v = .ref a ∧ SqX H a xs ∧ xs.length ≤ 1000 ∧ t = .node ts ∧ Paired (Src d H) xs ts
/-- the same, tuples alone -/
def Dst : Nat → Hp → V → Tr → Prop
  | 0, _, v, t => t = .leaf v
  | d + 1, H, v, t => t = .leaf v ∨ ∃ a ys ts, v = .ref a ∧ H a = some (.tup ys) ∧ t = .node ts ∧ Paired (Dst d H) ys ts
theorem isLT_same {H H' : Hp} {v : V} (ok : OkV H v) (s : Same H H') (h : isLT H v = false) : isLT H' v = false := by
  cases v with
  | ref a =>
    rcases ok with ⟨xs, e⟩ | ⟨xs, e⟩ | ⟨xs, e⟩
    · simp only [isLT, e] at h
      cases h
    · simp only [isLT, e] at h
      cases h
    · simp only [isLT, s _ _ e]
  | _ => rfl
theorem Src.same : ∀ {d : Nat} {H H' : Hp} {v : V} {t : Tr}, Src d H v t → Same H H' → Src d H' v t
  | 0, H, H', v, t, ⟨h1, h2, h3⟩, s => ⟨h1.mono fun a o _ h => s a o h, isLT_same h1 s h2, h3⟩
  | d + 1, H, H', v, t, h, s => by
    rcases h with ⟨h1, h2, h3⟩ | ⟨a, xs, ts, e, hx, hl, et, p⟩
    · exact .inl ⟨h1.mono fun a o _ h => s a o h, isLT_same h1 s h2, h3⟩
    · exact .inr ⟨a, xs, ts, e, hx.same s, hl, et, paired_imp (fun _ _ z => Src.same z s) p⟩
theorem Dst.keep : ∀ {d : Nat} {H H' : Hp} {v : V} {t : Tr}, Dst d H v t → (∀ b xs, H b = some (.tup xs) → H' b = some (.tup xs)) → Dst d H' v t
  | 0, _, _, _, _, h, _ => h
  | d + 1, H, H', v, t, h, s => by
    rcases h with h | ⟨a, ys, ts, e, ha, et, p⟩
    · exact .inl h
    · exact .inr ⟨a, ys, ts, e, s _ _ ha, et, paired_imp (fun _ _ z => Dst.keep z s) p⟩
theorem Dst.same {d : Nat} {H H' : Hp} {v : V} {t : Tr} (h : Dst d H v t) (s : Same H H') : Dst d H' v t := h.keep fun b xs e => s _ _ e
theorem paired_snoc {α β : Type} {R : α → β → Prop} {x : α} {y : β} (h : R x y) : ∀ {xs : List α} {ys : List β}, Paired R xs ys → Paired R (xs ++ [x]) (ys ++ [y])
  | _, _, .nil => .cons h .nil
  | _, _, .cons a r => .cons a (paired_snoc h r)
end FT

/-! own objects and own errors, made by defs whose guards are told -/
namespace FT
open PySem PySem.Spec PyProof.Rows L2
section
variable {X : Cx} {CX : CXT} {k : Nat} {fI f C : Addr} {fd : FuncData} {ps ks : List Str} {sp : Sp} {x : Str} {p pos : Pos} {e : Expr} {es : List Expr} {t tk : TA} {kws : List Keyword} {g : List Value → List Value → List Value} {gV : List V → List V → List V} {E : XK}
/-- raise C(e, ..) -/
theorem pmk_G (T : OexC X.K C) (iC : PySem.W.findIn X.K (.ref C) "__init__" = some (some (.ref fI))) (tI : PySem.W.typeIn X.K (.ref fI) = some (.type "function"))
    (F : FnG X.prog X.w X.K X.mg X.base CX k fI fd ps sp) (hr : RG (k + 1) X.A) (hg : Gl X x) (hm : X.mg x = some (.ref C)) (hb : Binds X.K fd ps []) (hx : Passes CX X (fun _ _ _ => False)) (ha : PA X (e :: es) t)
    (hdb : (x == ("__debug__" : Str)) = false := by decide) (he : starEach (e :: es) X.env = (false, eval e X.env) :: starEach es X.env := by rfl) (hpl : (backTo pos (starEach es X.env)).any (·.1) = false := by rfl) :
    PMk X (.Call (.Name x p) (e :: es) [] pos) (tMkO C sp [] t) := by
  intro pins s σ H Q I h
  obtain ⟨nm, q, N, bs, bm, sn, sub, ab, col, dd, k0, k1, k2, k3, k5, hC, hbm⟩ := T.cls
  refine wpAny_Call_Name_kw (ld_glob I hg hm ?_ hdb)
  refine PySem.W.callWith_K (h₀ := X.base) I.ok.mod.kin T.kC (thn (ha.run pos pins s σ H _ I h) ?_) he hpl
  rintro us s1 ⟨vs, H1, I1, r1, hz, q1⟩
  refine ⟨I1.kIn, ?_⟩
  show wpAny _ _ (call (.ref C) us) _ _ _
  obtain ⟨hp, gg, dr, tk, os⟩ := s1
  have hsz : hp.objs.size ≤ hp.objs.size + 1 := Nat.le_succ _
  have hn : H1 (hp.objs.size + 1) = none := I1.hok.fresh hsz
  have hq := q1 (hp.objs.size + 1) hn
  have kk : ∀ b o, hp.get? b = some o → ((hp.push (PySem.W.kdv_tup us)).push (PySem.HandSPX.excO C hp.objs.size)).get? b = some o := fun b o e => Heap.get?_push_of_some _ (Heap.get?_push_of_some _ e)
  have hget : ((hp.push (PySem.W.kdv_tup us)).push (PySem.HandSPX.excO C hp.objs.size)).get? (hp.objs.size + 1) = some (PySem.HandSPX.excO C hp.objs.size) := by heap_get
  have I2 : Inv X pins σ (upd H1 (hp.objs.size + 1) (exo (hp.objs.size + 1) C none)) ⟨(hp.push (PySem.W.kdv_tup us)).push (PySem.HandSPX.excO C hp.objs.size), gg, dr, tk, os⟩ :=
    I1.laid (t' := tk) (a := hp.objs.size + 1) (o := exo (hp.objs.size + 1) C none) (h' := (hp.push (PySem.W.kdv_tup us)).push (PySem.HandSPX.excO C hp.objs.size)) kk hsz (exo_ok hget)
  have r2 : Vals (V.ref (hp.objs.size + 1) :: (vs ++ [])) (Value.ref (hp.objs.size + 1) :: (us ++ [])) := .cons rfl (r1.append .nil)
  have hl : (Value.ref (hp.objs.size + 1) :: us ++ []).length = ps.length := by
    have e := r2.length
    rw [F.arity _ _ _ _ hq] at e
    exact e.symm
  have hus : us.length ≤ sizeLine := by
    rw [← Paired.length r1, sizeLine_eq]
    omega
  refine wpAny_call (PySem.HandSPX.kw_call_own (kw := []) PySem.F.excBase_ValueError (fun Y => PySem.HandSPX.refsVE_contains Y bm hbm) (I1.kIn _ _ hC) (PySem.W.looks_findIn I1.kIn iC) (fun self => PySem.W.bind_fn I1.kIn self tI) hus
    (codeAny_mono (F.goes (hr.make C us []) (I2.env0.make C us []) (hb _ (Value.ref (hp.objs.size + 1) :: us) I2.kIn hl) r2 hq) fun r s' hq' => ?_))
  cases r with
  | error er => exact hx pins σ _ _ er s' I2 hq'
  | ok fl =>
    cases fl with
    | ret u =>
      obtain ⟨v, H2, os2, bare2, un2, hok2, rv, ev, d, fs, ea, ed, hd1, q2⟩ := hq'
      subst ev
      obtain ⟨h2, g2, d2, t2, os'⟩ := s'
      exact ⟨rv, mk_end (raises_own T.exC T.tyC) I1 hsz kk un2 hok2 os2 bare2 ea ed hd1 q2⟩
    | next => exact False.elim hq'
    | brk => exact False.elim hq'
    | cont => exact False.elim hq'
/-- C(..), C an own class: what stands is told -/
@[irreducible] def rMkG (C : Addr) (sp : Sp) (E : XK) (all : V → List V) (H : Hp) (Q : VK) : Prop := ∀ x dx, H x = none → H dx = none → dx ≠ x → sp (all (.ref x)) (upd (upd H dx (.own x)) x (.ins C dx [])) (fun v H2 => v = .non ∧ Q (.ref x) H2) E
def tMkG (C : Addr) (sp : Sp) (E : XK) (ta : TA) : TE := fun σ H Q => ta σ H fun vs H1 => rMkG C sp E (fun x => x :: vs) H1 Q
def tMkGK (C : Addr) (sp : Sp) (E : XK) (gV : List V → List V → List V) (ta tk : TA) : TE := fun σ H Q => ta σ H fun vs H1 => tk σ H1 fun zs H2 => rMkG C sp E (fun x => gV (x :: vs) zs) H2 Q
theorem run_mkg {pins : List (Addr × Obj)} {σ : L2.St} {H : Hp} {s : Shared} {Q : VK} {us : List Value} {kw : List (Str × Value)} {all : Value → List Value} {allV : V → List V} (M : Mk X.K C f) (F : FnG X.prog X.w X.K X.mg X.base CX k f fd ps sp) (hr : RG (k + 1) X.A)
    (hx : Passes CX X E) (I : Inv X pins σ H s)
    (hb : ∀ (a : Addr) (s' : Shared), X.K.In s'.heap → (all (.ref a)).length = ps.length → BindsTo s' fd ⟨.ref a :: us, kw⟩ (ps.zip (all (.ref a)))) (r : ∀ a : Addr, Vals (allV (.ref a)) (all (.ref a)))
    (h : rMkG C sp E allV H Q) : wpAny (model X.prog X.w) X.A (call (.ref C) us kw) (EP X pins σ Q) X.xe s := by
  unfold rMkG at h
  have hq := h (s.heap.objs.size + 1) s.heap.objs.size (I.hok.fresh (Nat.le_succ _)) (I.hok.fresh (Nat.le_refl _)) (Nat.ne_of_lt (Nat.lt_succ_self _))
  have I2 := Inv.made (C := C) I
  have hl : (all (.ref (s.heap.objs.size + 1))).length = ps.length := (r _).length.symm.trans (F.arity _ _ _ _ hq)
  refine wpAny_call (make_map (f := f) I.kIn M.makes M.init (beq_iff_eq.mp M.fn) (codeAny_mono (F.goes (hr.make C us kw) (I2.env0.make C us kw) (hb _ _ I2.kIn hl) (r _) hq) fun r s' hq' => ?_))
  cases r with
  | error e => exact hx pins σ _ _ e s' I2 hq'
  | ok fl =>
    cases fl with
    | ret u =>
      obtain ⟨v, H', I3, rv, ev, q3⟩ := I2.after hq'
      subst ev
      exact ⟨rv, ⟨V.ref (s.heap.objs.size + 1), H', I3, rfl, q3⟩⟩
    | next => exact False.elim hq'
    | brk => exact False.elim hq'
    | cont => exact False.elim hq'
theorem pe_mkG (M : Mk X.K C f) (F : FnG X.prog X.w X.K X.mg X.base CX k f fd ps sp) (hr : RG (k + 1) X.A) (hg : Gl X x) (hm : X.mg x = some (.ref C)) (hb : Binds X.K fd ps []) (hx : Passes CX X E)
    (ha : PA X (e :: es) t) (hdb : (x == ("__debug__" : Str)) = false := by decide) (he : starEach (e :: es) X.env = (false, eval e X.env) :: starEach es X.env := by rfl) (hpl : (backTo pos (starEach es X.env)).any (·.1) = false := by rfl) :
    PE X (.Call (.Name x p) (e :: es) [] pos) (tMkG C sp E t) := by
  constructor
  intro pins s σ H Q I h
  refine wpAny_Call_Name_kw (ld_glob I hg hm ?_ hdb)
  refine PySem.W.callWith_K (h₀ := X.base) I.ok.mod.kin M.kp (thn (ha.run pos pins s σ H _ I h) ?_) he hpl
  rintro us s1 ⟨vs, H1, I1, r, q⟩
  refine ⟨I1.kIn, run_mkg (all := fun a => a :: us) (allV := fun a => a :: vs) M F hr hx I1 (fun a s' ki hl => ?_) (fun a => .cons rfl r) q⟩
  have z := hb s' (.ref a :: us) ki (by simpa using hl)
  rw [List.append_nil] at z
  exact z
theorem pe_mkGK0 (M : Mk X.K C f) (F : FnG X.prog X.w X.K X.mg X.base CX k f fd ps sp) (hr : RG (k + 1) X.A) (hg : Gl X x) (hm : X.mg x = some (.ref C)) (hb : KBinds X.K fd ps ks g gV) (hx : Passes CX X E) (hkw : PK X kws tk)
    (hall : (backToKw pos (keywordEach kws X.env)).all (·.1.isSome) = true := by rfl)
    (hks : (backToKw pos (keywordEach kws X.env)).filterMap (·.1) = ks := by rfl)
    (hdb : (x == ("__debug__" : Str)) = false := by decide)
    (hpl : ((backTo pos (starEach [] X.env)).any (·.1) || (backToKw pos (keywordEach kws X.env)).any (·.1.isNone)) = false := by rfl) :
    PE X (.Call (.Name x p) [] kws pos) (tMkGK C sp E gV tNil tk) := by
  constructor
  intro pins s σ H Q I h
  refine wpAny_Call_Name_kw (ld_glob I hg hm ?_ hdb)
  refine PySem.W.callWith_KW0 (h₀ := X.base) I.ok.mod.kin M.kp hall ?_ hpl
  refine thn (hkw.run pos pins s σ H _ I h) ?_
  rintro ws s1 ⟨zs, H1, I1, r1, q1⟩
  refine ⟨I1.kIn, ?_⟩
  rw [hks]
  exact run_mkg (us := []) (all := fun a => g [a] ws) (allV := fun a => gV [a] zs) M F hr hx I1 (fun a s' ki hl => hb.to s' [.ref a] ws ki hl) (fun a => hb.rel (.cons rfl .nil) r1) q1
end
end FT
namespace FT
open PySem PySem.Spec PyProof.Rows L2
/-- what isinstance asks of an own class -/
structure IsO (K : PySem.W.Frag) (C : Addr) : Prop where
  ca : PySem.W.findIn K (.ref C) "__class__" = some (some (.builtin "object.__class__"))
  cn : PySem.W.specialIn K (.builtin "object.__class__") "__get__" = some (some (.builtin "getset_descriptor.__get__"))
  ct : PySem.W.takesIn K (.builtin "object.__class__") = some true
  cm : PySem.W.mroIn K C (.type "object") = some true
theorem own_ty {K : PySem.W.Frag} {H : Hp} {a C dx : Addr} {fs : List (Str × V)} (e : H a = some (.ins C dx fs)) (c : Cls K C) (i : IsO K C) : TyX K H (.ref a) (.ref C) := .base (.ins e c i.ca i.cn i.ct i.cm)
theorem kit_self {K : PySem.W.Frag} {C : Addr} : PySem.W.kitOne K (.ref C) (.ref C) = some true := by
  unfold PySem.W.kitOne
  rw [if_pos (beq_self_eq_true _)]
end FT
namespace FT
open PySem PySem.Spec PyProof.Rows L2
theorem cutV_take (xs : List V) (i : Nat) (h : i ≤ xs.length) : cutV xs none (some (i : Int)) = xs.take i := by
  unfold cutV
  rw [HT.sIx_none, HT.sIx_nat, List.drop_zero, Nat.sub_zero, Nat.min_eq_left h]
theorem cutV_drop (xs : List V) (i : Nat) (h : i ≤ xs.length) : cutV xs (some (i : Int)) none = xs.drop i := by
  unfold cutV
  rw [HT.sIx_none, HT.sIx_nat, Nat.min_eq_left h, List.take_of_length_le (by rw [List.length_drop]; exact Nat.le_refl _)]
section
variable {K : PySem.W.Frag} {H : Hp} {q a b : Addr} {xs ys : List V} {i : Nat} {Q : VK}
theorem slA_take (hq : H q = some (.tup xs)) (hi : i ≤ xs.length) (k : ∀ b H', Same H H' → H' b = some (.tup (xs.take i)) → Q (.ref b) H') : rSlA K (.ref q) none (some (i : Int)) H Q := by
  refine ⟨q, xs, rfl, SqT.of hq, fun w => ?_, fun _ p hp => ?_⟩
  · have e : i = xs.length := by
      have := w.2
      rw [HT.sIx_nat] at this
      omega
    exact k q H (fun _ _ h => h) (by rw [e, List.take_length]; exact hq)
  · rw [cutV_take xs i hi]
    exact k p _ (Same.new (fun _ _ h => h) hp) upd_same
theorem slA_drop {j : Int} (hj : j = (i : Int)) (hq : H q = some (.tup xs)) (hi : i ≤ xs.length) (k : ∀ b H', Same H H' → H' b = some (.tup (xs.drop i)) → Q (.ref b) H') : rSlA K (.ref q) (some j) none H Q := by
  subst hj
  refine ⟨q, xs, rfl, SqT.of hq, fun w => ?_, fun _ p hp => ?_⟩
  · have e : i = 0 := by
      have := w.1
      rw [HT.sIx_nat] at this
      omega
    exact k q H (fun _ _ h => h) (by rw [e, List.drop_zero]; exact hq)
  · rw [cutV_drop xs i hi]
    exact k p _ (Same.new (fun _ _ h => h) hp) upd_same
theorem catA_all (ha : H a = some (.tup xs)) (hb : H b = some (.tup ys)) (hl : xs.length + ys.length ≤ sizeLine) (k : ∀ c H', Same H H' → H' c = some (.tup (xs ++ ys)) → Q (.ref c) H') : rCatA K (.ref a) (.ref b) H Q := by
  refine ⟨a, b, xs, ys, rfl, rfl, SqT.of ha, SqT.of hb, hl, fun e => ?_, fun _ e => ?_, fun _ _ p hp => ?_⟩
  · exact k b H (fun _ _ h => h) (by rw [e]; exact hb)
  · exact k a H (fun _ _ h => h) (by rw [e, List.append_nil]; exact ha)
  · exact k p _ (Same.new (fun _ _ h => h) hp) upd_same
end
theorem paired_take {α β : Type} {R : α → β → Prop} : ∀ {xs : List α} {ys : List β}, Paired R xs ys → ∀ i, Paired R (xs.take i) (ys.take i)
  | _, _, .nil, i => by rw [List.take_nil, List.take_nil]; exact .nil
  | _, _, .cons h t, 0 => .nil
  | _, _, .cons h t, i + 1 => .cons h (paired_take t i)
theorem paired_drop {α β : Type} {R : α → β → Prop} : ∀ {xs : List α} {ys : List β}, Paired R xs ys → ∀ i, Paired R (xs.drop i) (ys.drop i)
  | _, _, .nil, i => by rw [List.drop_nil, List.drop_nil]; exact .nil
  | _, _, .cons h t, 0 => .cons h t
  | _, _, .cons h t, i + 1 => paired_drop t i
theorem paired_app {α β : Type} {R : α → β → Prop} {as : List α} {bs : List β} (q : Paired R as bs) : ∀ {xs : List α} {ys : List β}, Paired R xs ys → Paired R (xs ++ as) (ys ++ bs)
  | _, _, .nil => q
  | _, _, .cons h t => .cons h (paired_app q t)
end FT

/-! lambdas handed to defs, where the guards are told; tables of code objects; == and != by an own __eq__ -/
namespace FT
open PySem PySem.Spec PyProof.Rows L2 LamX
section
variable {X : Cx} {pins : List (Addr × Obj)} {σ : L2.St} {H HZ : Hp} {s s1 : Shared}
/-- x(), in the def that got the lambda -/
theorem pe_actG {CXg : CXT} {Eg : XK} {Ng : List Str} {qg : Str} {sg : Scope} {g f c' : Addr} {cdg pm ctv : Value} {params : Arguments} {body : Expr} {scope : Scope} {k i : Nat} {a : Str} {pn : List (Addr × Obj)} {xe : Value → Shared → Prop} {W : WX} {E : XK} {tb : TE} {p1 p2 : Pos}
    (I : Inv X pins σ H s) (L : LamS X.env.scope scope) (hf : s.heap.get? f = some (PySem.W.kla_obj "<lambda>" (X.env.qual ++ "<lambda>") params body scope (cloFrom X.env.cells scope.names []) pm c' ctv)) (hfn : H f = none) (hfr : f ∉ frs X.stack)
    (hbind : bindArgs (PySem.W.kla_fn "<lambda>" (X.env.qual ++ "<lambda>") params body scope (cloFrom X.env.cells scope.names []) pm (.ref c') ctv) ⟨[], []⟩ = pure [])
    (tk : Takes ((cxOf CXg X.prog X.w X.K X.mg X.base Ng qg sg g cdg X.A X.stack s H Eg).tr pn xe) W) (hr : RG (k + 1) (X.A.deeper (envOfC qg sg s.heap.objs.size g cdg)))
    (hbody : ∀ (A : Around) (outer : List Env) (s : Shared) (H : Hp), RG k (A.deeper (lamEnv X scope s.heap.objs.size f c')) → PE (lamCx X A outer s H E scope f c') body tb)
    (hN : Ng[i]? = some a) (hv : Vis sg a) (hd : (a == ("__debug__" : Str)) = false := by decide) (hcd : (a == ("__classdict__" : Str)) = false := by decide) :
    PE ((cxOf CXg X.prog X.w X.K X.mg X.base Ng qg sg g cdg X.A X.stack s H Eg).tr pn xe) (.Call (.Name a p1) [] [] p2)
      (fun σZ HZ Q => (∀ cls d H', E cls d H' → W cls d σZ H') ∧ σZ[i]? = some (some (.ref f)) ∧ HZ c' = some (CodeO c' (X.env.qual ++ "<lambda>")) ∧ tb σ HZ Q) := by
  refine ⟨fun pinsZ sZ σZ HZ Q IZ h => ?_⟩
  obtain ⟨hW, hs, hc, ht⟩ := h
  refine wpAny_Call_Name_kw (thn ((pe_var (pos := p1) (i := i) hN hv hd hcd).run pinsZ sZ σZ HZ (fun v H1 => v = .ref f ∧ H1 = HZ) IZ ⟨.ref f, hs, rfl, rfl⟩) fun u s1 ⟨v, H1, I1, r1, q1⟩ => ?_)
  obtain ⟨ev, eH⟩ := q1
  subst ev
  rw [eH] at I1
  obtain rfl : u = Value.ref f := r1
  have of1 : s1.heap.get? f = some (PySem.W.kla_obj "<lambda>" (X.env.qual ++ "<lambda>") params body scope (cloFrom X.env.cells scope.names []) pm c' ctv) := I1.base.keep f _ hf hfn hfr (fun z => nomatch (show f ∈ ([] : List Addr) from z))
  refine PySem.W.callWith_F0 ⟨_, _, _, _, of1⟩ ?_
  have un : Un (frs X.stack) [] H HZ s.heap s1.heap := I1.base
  obtain ⟨⟨oc, vs, t, hoc, hdc, hvc⟩, _, _⟩ := I1.hok c' _ hc
  have rc : codeAny (model X.prog X.w) (X.A.deeper (envOfC qg sg s.heap.objs.size g cdg)) (.call (.ref f) ⟨[], []⟩) (CR (L2.CX X.prog X.w) (envOfC qg sg s.heap.objs.size g cdg :: X.stack) X.prog X.w HZ s1 Q E) s1 := by
    refine PySem.W.kla_callFunE hr.room.depth of1 rfl L.co L.gen rfl ⟨c', oc, vs, t, rfl, hoc, hdc, hvc⟩ ?_
    rw [hbind]
    refine wpAny_pure (wpAny_newFunctionEnv (fun y hy => (L.own y hy).2) (fun y hy => absurd hy (by simp)) (fun h₁ hns hsb => ⟨I1.nolimit.fresh _ hsb, ?_⟩) L.kind)
    show codeAny _ _ (.expr body (lamEnv X scope s1.heap.objs.size f c')) _ _
    have kp : ∀ b o, s1.heap.get? b = some o → h₁.get? b = some o := fun b o e => hsb.extBut b o (Nat.ne_of_lt (Heap.lt_size e)) (Heap.get?_push_of_some _ e)
    have J : Inv (lamCx X (X.A.deeper (envOfC qg sg s.heap.objs.size g cdg)) (envOfC qg sg s.heap.objs.size g cdg :: X.stack) s1 HZ E scope f c') [] σ HZ { s1 with heap := h₁, toks := s1.toks + ([] : List (Str × Value)).length } :=
      lam_start2 I L I1.env0 hr.room.hd un hns kp
    refine PySem.W.kla_codeExpr (wpAny_mono ((hbody _ _ s1 HZ (hr.deeper _)).run [] _ _ HZ Q J ht) (fun v s' hq => ?_) fun e s' hq => hq)
    obtain ⟨w', H', J', rv, q⟩ := hq
    exact ⟨w', H', J'.os, J'.bare, J'.base, J'.hok, rv, q⟩
  refine wpAny_call (codeAny_mono rc fun r s' hq => ?_)
  cases r with
  | error e => exact tk e s' (XE.of_call I1 (fun cls d H' hE => hW cls d H' hE) hq)
  | ok fl =>
    cases fl with
    | ret u => exact I1.after hq
    | next => exact False.elim hq
    | brk => exact False.elim hq
    | cont => exact False.elim hq
end
/-- a def and the object of its code -/
structure FunC (K : PySem.W.Frag) (x qual : Str) (st : Stmt) (f : Addr) (fd : FuncData) (c : Addr) : Prop where
  ex : ∃ (oc : Value) (od : Option Addr) (kV doc pm : Value) (an : Option Addr) (ct : Value) (osl : Array (Option Value)), fd = PySem.W.fnOf x qual (defArgs st) (defBody st) (defScope st) .none kV doc pm an (.ref c) ct ∧
    K.lookup f = some ⟨oc, od, .func (PySem.W.fnOf x qual (defArgs st) (defBody st) (defScope st) .none kV doc pm an (.ref c) ct), osl⟩ ∧ PySem.W.codeIn K (.ref c) qual = true
  kp : PySem.W.keepIn K (.ref f) = true
section
variable {P : Program} {w : World} {K : PySem.W.Frag} {mg : Str → Option Value} {base : Heap} {CX : CXT}
/-- okG for a def whose code object is told -/
theorem okGC {x qual : Str} {st : Stmt} {f c : Addr} {fd : FuncData} {N ps : List Str} {k : Nat} {sp : Sp} (F : FunC K x qual st f fd c) (S : FnScope N ps (defScope st))
    (arity : ∀ vs H Q E, sp vs H Q E → vs.length = ps.length)
    (hbody : ∀ (A : Around) (outer : List Env) (s : Shared) (H : Hp) (vs : List V) (Q : VK) (E : XK),
      RG k (A.deeper (envOfC qual (defScope st) s.heap.objs.size f (.ref c))) → sp vs H Q E →
        ∃ t, PSs (cxOf CX P w K mg base N qual (defScope st) f (.ref c) A outer s H E).nox (defBody st) t ∧ t { nx := fun _ H' => Q .non H', rt := Q } (start N vs) H) :
    FnG P w K mg base CX (k + 1) f fd ps sp := by
  obtain ⟨oc, od, kV, doc, pm, an, ct, osl, rfl, lk, hcd⟩ := F.ex
  refine ⟨arity, ?_⟩
  intro A outer s H args us vs Q E hr e0 hb r hsp
  have KX : K.In s.heap := e0.mod.kin.keeps fun b o q => (e0.bs b o q).1
  have lim : s.heap.NoLimit := e0.mod.nolimit.keeps fun b o q => (e0.bs b o q).1
  have hl := arity _ _ _ _ hsp
  obtain ⟨t, ht, hq⟩ := hbody A outer s H vs Q E (hr.deeper _) hsp
  have ht := ht.nox
  refine codeAny_call_function hr.room.depth (KX _ _ lk) rfl S.co S.gen rfl (PySem.W.codeRec_of KX hcd) (hb _ _ _ _ ?_)
  refine wpAny_newFunctionEnv_cells S.kind ?_ ?_
  · rintro ⟨n, v⟩ hy
    cases S.par n (List.of_mem_zip hy).1 with
    | inl q => exact .inl q
    | inr q => exact .inr ⟨q, PySem.W.cellsFrom_some _ _ _ (.inl q)⟩
  · intro env he s1 hin
    subst he
    refine ⟨lim.keeps hin.toInCall.keep, codeAny_func ?_⟩
    have I := inv_start (CX := CX) (P := P) (w := w) (qual := qual) (f := f) (cd := .ref c) (E := E) S hr.room.hd e0 hl r hin
    refine wpAny_mono (ht.run [] s1 (start N vs) H _ I hq) ?_ (fun _ _ q => q)
    intro fl s' hs
    match fl, hs with
    | .ret u, ⟨v, σ', H', J, rv, q⟩ => exact ⟨v, H', J.os, J.bare, J.base, J.hok, rv, q⟩
    | .next, ⟨σ', H', J, q⟩ => exact ⟨.non, H', J.os, J.bare, J.base, J.hok, rfl, q⟩
    | .brk, ⟨_, _, _, q⟩ => exact q.elim
    | .cont, ⟨_, _, _, q⟩ => exact q.elim
theorem FunC.fun_ {x qual : Str} {st : Stmt} {f c : Addr} {fd : FuncData} (F : FunC K x qual st f fd c) : Fun K x qual st f fd := by
  obtain ⟨oc, od, kV, doc, pm, an, ct, osl, rfl, lk, hcd⟩ := F.ex
  exact ⟨⟨oc, od, kV, doc, pm, an, .ref c, ct, osl, rfl, lk, hcd⟩, F.kp⟩
/-- the promise told of the very state -/
theorem run_ofG {x qual : Str} {st : Stmt} {f : Addr} {fd : FuncData} {N ps : List Str} {k : Nat} (F : Fun K x qual st f fd) (S : FnScope N ps (defScope st))
    {A : Around} {outer : List Env} {s : Shared} {H : Hp} {args : Args} {us : List Value} {vs : List V} {Q : VK} {E : XK} (hr : RG (k + 1) A) (e0 : Env0 P w K mg base A outer s H) (hb : BindsTo s fd args (ps.zip us)) (r : Vals vs us) (hl : vs.length = ps.length)
    (hbody : ∀ cdv : Value, RG k (A.deeper (envOfC qual (defScope st) s.heap.objs.size f cdv)) → ∃ t, PSs (cxOf CX P w K mg base N qual (defScope st) f cdv A outer s H E) (defBody st) t ∧ t { nx := fun _ H' => Q .non H', rt := Q } (L2.start N vs) H) :
    codeAny (model P w) A (.call (.ref f) args) (CR CX outer P w H s Q E) s := by
  obtain ⟨oc, od, kV, doc, pm, an, cdv, ct, osl, rfl, lk, hcd⟩ := F.ex
  have KX : K.In s.heap := e0.mod.kin.keeps fun b o e => (e0.bs b o e).1
  have lim : s.heap.NoLimit := e0.mod.nolimit.keeps fun b o e => (e0.bs b o e).1
  refine codeAny_call_function hr.room.depth (KX _ _ lk) rfl S.co S.gen rfl (PySem.W.codeRec_of KX hcd) (hb _ _ _ _ ?_)
  refine wpAny_newFunctionEnv_cells S.kind ?_ ?_
  · rintro ⟨n, v⟩ hy
    cases S.par n (List.of_mem_zip hy).1 with
    | inl q => exact .inl q
    | inr q => exact .inr ⟨q, PySem.W.cellsFrom_some _ _ _ (.inl q)⟩
  · intro env he s1 hin
    subst he
    refine ⟨lim.keeps hin.toInCall.keep, codeAny_func ?_⟩
    obtain ⟨t, ht, hq⟩ := hbody cdv (hr.deeper _)
    have I := inv_start (CX := CX) (P := P) (w := w) (qual := qual) (f := f) (cd := cdv) (E := E) S hr.room.hd e0 hl r hin
    refine wpAny_mono (ht.run [] s1 (start N vs) H _ I hq) ?_ (fun _ _ q => q)
    intro fl s' hs
    match fl, hs with
    | .ret u, ⟨v, σ', H', J, rv, q⟩ => exact ⟨v, H', J.os, J.bare, J.base, J.hok, rv, q⟩
    | .next, ⟨σ', H', J, q⟩ => exact ⟨.non, H', J.os, J.bare, J.base, J.hok, rfl, q⟩
    | .brk, ⟨_, _, _, q⟩ => exact q.elim
    | .cont, ⟨_, _, _, q⟩ => exact q.elim
end
/-- the def that calls what it got -/
def GivesG (X : Cx) (Ng : List Str) (k : Nat) (x : Str) (sg : Scope) (g : Addr) (bg : List Stmt) (a : Str) (q : Str) (TT : (XK → Hp → VK → Prop) → Hp → VK → Prop) : Prop :=
  ∀ (cdg : Value) (f c' : Addr) (s : Shared) (H : Hp) (Q : VK) (tl : XK → Hp → VK → Prop), RG k (X.A.deeper (envOfC x sg s.heap.objs.size g cdg)) →
    (∀ (W : WX) (pn : List (Addr × Obj)) (xe : Value → Shared → Prop) (E : XK) (p1 p2 : Pos), Takes ((cxOf CX0 X.prog X.w X.K X.mg X.base Ng x sg g cdg X.A X.stack s H E0).tr pn xe) W →
      PE ((cxOf CX0 X.prog X.w X.K X.mg X.base Ng x sg g cdg X.A X.stack s H E0).tr pn xe) (.Call (.Name a p1) [] [] p2) (fun σZ HZ Q => (∀ cls d H', E cls d H' → W cls d σZ H') ∧ σZ[0]? = some (some (.ref f)) ∧ HZ c' = some (CodeO c' q) ∧ tl E HZ Q)) →
    H c' = some (CodeO c' q) → TT tl H Q →
    ∃ t, PSs (cxOf CX0 X.prog X.w X.K X.mg X.base Ng x sg g cdg X.A X.stack s H E0).nox bg t ∧ t { nx := fun _ H' => Q .non H', rt := Q } (L2.start Ng [.ref f]) H
section
variable {X : Cx}
/-- x(lambda: body) -/
theorem pe_lamG {T : List (Addr × Str)} {TT : (XK → Hp → VK → Prop) → Hp → VK → Prop} {x a : Str} {g c P : Addr} {k : Nat} {sg : Stmt} {fd : FuncData} {Ng : List Str}
    {params : Arguments} {body : Expr} {scope : Scope} {t : XK → TE} {p lpos pos : Pos} (hg : Gl X x) (hm : X.mg x = some (.ref g)) (F : Fun X.K x x sg g fd) (hb : L2.Binds X.K fd [a] []) (Sg : FnScope Ng [a] (defScope sg)) (hNg : Ng[0]? = some a) (hva : Vis (defScope sg) a)
    (hG : GivesG X Ng (k + 1) x (defScope sg) g (defBody sg) a (X.env.qual ++ "<lambda>") TT)
    (TB : TabB X.base X.mg c P) (hcode : X.env.code = .ref c) (hmT : (P, X.env.qual ++ "<lambda>") ∈ T) (hu : ∀ p ∈ T, p.1 = P → p.2 = X.env.qual ++ "<lambda>") (hr : RG (k + 2) X.A) (L : LamS X.env.scope scope) (hdef : defaultsOf params X.env = ([], []))
    (hbind : ∀ (q : Str) (cl : List (Str × Addr)) (pm cv ctv : Value), bindArgs (PySem.W.kla_fn "<lambda>" q params body scope cl pm cv ctv) ⟨[], []⟩ = pure [])
    (hbody : ∀ (A : Around) (outer : List Env) (s : Shared) (H : Hp) (E : XK) (f c' : Addr), RG k (A.deeper (lamEnv X scope s.heap.objs.size f c')) → PE (lamCx X A outer s H E scope f c') body (t E))
    (hdb : (x == ("__debug__" : Str)) = false := by decide) (hd : (a == ("__debug__" : Str)) = false := by decide) (hcd : (a == ("__classdict__" : Str)) = false := by decide) :
    PE X (.Call (.Name x p) [.Lambda params body scope lpos] [] pos) (tLam T TT t) := by
  refine ⟨fun pins s σ H Q I h => ?_⟩
  obtain ⟨hT, h⟩ := h
  refine wpAny_Call_Name_kw (ld_glob I hg hm ?_ hdb)
  refine PySem.W.callWith_K (h₀ := X.base) I.ok.mod.kin F.kp ?_ (by rfl) (by rfl)
  show wpAny _ _ (spliced ((false, eval (.Lambda params body scope lpos) X.env) :: backTo pos (starEach [] X.env))) _ _ s
  refine Calls.spliced_cons (lam_make2 I TB hcode hmT hu hT hdef (L.has I.ok) fun f c' pm' ctv H1 s' I1 eN T1 hf hfn hfr hco => ?_)
  refine Calls.spliced_nil ⟨I1.kIn, ?_⟩
  have rc : codeAny (model X.prog X.w) X.A (.call (.ref g) ⟨[.ref f], []⟩) (CR CX0 X.stack X.prog X.w H1 s' Q E0) s' := by
    refine run_ofG (N := Ng) (ps := [a]) (us := [.ref f]) (vs := [.ref f]) F Sg hr I1.env0 (hb s' [.ref f] I1.kIn rfl) (.cons rfl .nil) rfl fun cdv hr' => ?_
    obtain ⟨t', ht', hq'⟩ := hG cdv f c' s' H1 Q (fun E H' Q' => t E σ H' Q') hr' (fun W pn xe E p1 p2 tk => pe_actG (i := 0) I1 L hf hfn hfr (hbind _ _ _ _ _) tk hr' (fun A outer s H hr2 => hbody A outer s H E f c' hr2) hNg hva hd hcd) hco (h H1 eN T1)
    exact ⟨t', ht'.nox, hq'⟩
  refine wpAny_call (codeAny_mono rc fun r s2 hq => ?_)
  cases r with
  | error e => exact (show False from hq).elim
  | ok fl =>
    cases fl with
    | ret u => exact I1.after hq
    | next => exact False.elim hq
    | brk => exact False.elim hq
    | cont => exact False.elim hq
end
end FT

/-! == and != by an own __eq__ -/
namespace FT
open PySem PySem.Spec PyProof.Rows L2 LamX
theorem RG.in1 {k : Nat} {A : Around} (r : RG (k + 1) A) : RG k A.in1 := ⟨r.room.in1, r.gd⟩
/-- an own class with __eq__ and no __ne__ -/
structure OEq (K : PySem.W.Frag) (C f : Addr) : Prop where
  cls : ∃ nm q N bs hdct sn sub ab col dd k0 k1 k2 k3 k5 newId, K.lookup C = some (excClassObj nm q C N bs [.type "object"] hdct sn sub ab col dd k0 k1 k2 k3 k5 newId)
  fe : PySem.W.findIn K (.ref C) "__eq__" = some (some (.ref f))
  fn : PySem.W.isFn K (.ref f) = true
  ne : PySem.W.findIn K (.ref C) "__ne__" = some (some (.builtin "object.__ne__"))
section
variable {prog : Program} {w : World} {A : Around} {E : Value → Shared → Prop} {h : Heap} {g : Array GenState} {d : Drawn} {t : Nat} {os : OsState} {K : PySem.W.Frag} {C x y f : Addr} {ox : Obj} {od : Option Obj}
theorem ifBound_ne {M : Model} {args : List Value} {Q : Option Value → Shared → Prop} {s : Shared} (X : K.In s.heap) (I : PySem.W.InstAt s.heap x ox C od) (hs : PySem.W.findIn K (.ref C) "__ne__" = some (some (.builtin "object.__ne__")))
    (h : wpAny M A (call (.builtin "object.__ne__") (.ref x :: args)) (fun v => Q (some v)) E s) : wpAny M A (callSpecialIfBound? (.ref x) "__ne__" args) Q E s := by
  have S := PySem.F.cmp_object.ne
  simp only [callSpecialIfBound?, bindSpecialIfBound?]
  refine wpAny_holding (wpAny_bind (wpAny_bind (wpAny_bind (I.type.here ((PySem.W.looks_findIn X hs).here ?_)))))
  simp only [S.bind]
  refine wpAny_bind (wpAny_askSetting (wpAny_ite ?_))
  have fin : wpAny M A (call (.builtin "object.__ne__") ([.ref x] ++ args) >>= fun v => pure (some v)) Q E s := wpAny_bind (wpAny_mono h (fun v s' h' => wpAny_pure h') fun _ _ h' => h')
  split
  · exact wpAny_bind (wpAny_pure (wpAny_pure fin))
  · exact wpAny_tryCatch (wpAny_bind (wpAny_pure (wpAny_pure fin)))
theorem objNe_own (O : OEq K C f) (X : K.In h) (I : PySem.W.InstAt h x ox C od) (hu : A.units < cLine) {Q : Fin → Shared → Prop}
    (hcall : wpAny (model prog w) A (call (.ref f) [.ref x, .ref y]) (fun v s' => ∃ b, v = .bool b ∧ Q (.done (.ret (.bool (!b)))) s') E ⟨h, g, d, t, os⟩) :
    wpAny (model prog w) A (Builtin.«object.__ne__» ⟨[.ref x, .ref y], []⟩) Q E ⟨h, g, d, t, os⟩ := by
  unfold Builtin.«object.__ne__»
  repeat (first
    | with_reducible refine wpAny_cRoomFor hu ?_
    | (refine wpAny_bind (m := callSpecialIfBound? (.ref x) (Str.ofString "__eq__") [.ref y])
        (PySem.W.ifBound_K (s := ⟨h, g, d, t, os⟩) X I O.fe O.fn (wpAny_mono hcall (fun r s' hr => by
          obtain ⟨b, rfl, hq⟩ := hr
          repeat (first | exact hq | exact wpAny_pure hq | exact wpAny_truthy_bool hq | (refine wpAny_bind (m := truthy (.bool _)) (wpAny_truthy_bool ?_)) | wp_step)) fun _ _ e => e)))
    | wp_step)
theorem tryNe_own (O : OEq K C f) (X : K.In h) (I : PySem.W.InstAt h x ox C od) (hu : A.units + 1 < cLine) {Q : Option Value → Shared → Prop}
    (hcall : wpAny (model prog w) A.in1 (call (.ref f) [.ref x, .ref y]) (fun v s' => ∃ b, v = .bool b ∧ Q (some (.bool (!b))) s') E ⟨h, g, d, t, os⟩) :
    wpAny (model prog w) A (tryCompare (.ref x) "__ne__" (.ref y)) Q E ⟨h, g, d, t, os⟩ := by
  obtain ⟨nm, q, N, bs, hdct, sn, sub, ab, col, dd, k0, k1, k2, k3, k5, newId, hC⟩ := O.cls
  have FB := PySem.F.cmp_object
  simp only [tryCompare]
  refine wpAny_bind (ifBound_ne (s := ⟨h, g, d, t, os⟩) X I O.ne (wpAny_call (codeAny_call_builtin FB.ne.plain PySem.F.cmpEntry_ne
    (wpAny_check_slot_inst PySem.F.cmpKind_ne PySem.F.cmpSplit_ne (PySem.F.cmpArgs_ne _ _) FB.hasObject I.at_ I.cls (X _ _ hC)
      (objNe_own (A := A.in1) O X I hu (wpAny_mono hcall (fun v s' hv => ?_) fun _ _ e => e))))))
  obtain ⟨b, rfl, hq⟩ := hv
  first | exact ⟨b, rfl, wpAny_pure hq⟩ | exact ⟨b, rfl, wpAny_pure (wpAny_pure hq)⟩ | exact ⟨b, rfl, hq⟩
theorem compareNe_own (O : OEq K C f) (X : K.In h) (I : PySem.W.InstAt h x ox C od) {oy : Obj} (hy : h.get? y = some oy) (hyc : oy.cls = .ref C) (hu : A.units + 1 < cLine) {Q : Value → Shared → Prop}
    (hcall : wpAny (model prog w) A.in1 (call (.ref f) [.ref x, .ref y]) (fun v s' => ∃ b, v = .bool b ∧ Q (.bool (!b)) s') E ⟨h, g, d, t, os⟩) :
    wpAny (model prog w) A (compareOp .NotEq (.ref x) (.ref y)) Q E ⟨h, g, d, t, os⟩ := by
  unfold compareOp richCompare
  simp only [oneThing_ref]
  refine wpAny_holding ?_
  refine wpAny_bind (wpAny_cRoomFor (Nat.lt_of_succ_lt hu) ?_)
  rw [cmpInfo_NotEq]
  dsimp only
  refine wpAny_bind (wpAny_typeOf_ref I.at_ ?_)
  rw [I.cls]
  refine wpAny_bind (wpAny_typeOf_ref hy ?_)
  rw [hyc]
  rw [show (Value.ref C != Value.ref C) = false from by simp]
  simp only [Bool.false_eq_true, if_false]
  refine wpAny_bind (wpAny_pure ?_)
  simp only [Bool.false_eq_true, if_false]
  refine wpAny_bind (tryNe_own O X I hu (wpAny_mono hcall (fun v s' hv => ?_) fun _ _ e => e))
  obtain ⟨b, rfl, hq⟩ := hv
  first | exact ⟨b, rfl, wpAny_pure hq⟩ | exact ⟨b, rfl, wpAny_pure (wpAny_pure hq)⟩
end
/-- what stands to the right of an own object -/
def RightV (H : Hp) (C : Addr) : V → Prop
  | .ref b => (∃ xs, H b = some (.lst xs)) ∨ (∃ xs, H b = some (.tup xs)) ∨ ∃ dx fs, H b = some (.ins C dx fs)
  | _ => False
@[irreducible] def rEqO (C : Addr) (sp : Sp) (x y : V) (H : Hp) (Q : VK) : Prop := ∃ a dx fs, x = .ref a ∧ H a = some (.ins C dx fs) ∧ RightV H C y ∧ sp [x, y] H (fun v H' => ∃ b, v = .bl b ∧ Q (.bl b) H') (fun _ _ _ => False)
@[irreducible] def rNeO (C : Addr) (sp : Sp) (x y : V) (H : Hp) (Q : VK) : Prop := ∃ a b dx fs dy gs, x = .ref a ∧ y = .ref b ∧ H a = some (.ins C dx fs) ∧ H b = some (.ins C dy gs) ∧ sp [x, y] H (fun v H' => ∃ b, v = .bl b ∧ Q (.bl (!b)) H') (fun _ _ _ => False)
section
variable {X : Cx} {CX : CXT} {k : Nat} {f C : Addr} {fd : FuncData} {ps : List Str} {sp : Sp}
theorem own_run {A : Around} {pins : List (Addr × Obj)} {σ : L2.St} {H : Hp} {s : Shared} {Q : VK} {us : List Value} {vs : List V} (F : FnG X.prog X.w X.K X.mg X.base CX k f fd ps sp) (hr : RG k A) (e0 : Env0 X.prog X.w X.K X.mg X.base A X.stack s H) (hb : Binds X.K fd ps []) (hx : Passes CX X (fun _ _ _ => False)) (I : Inv X pins σ H s)
    (r : Vals vs us) (h : sp vs H Q (fun _ _ _ => False)) : wpAny (model X.prog X.w) A (call (.ref f) us) (EP X pins σ Q) X.xe s := by
  have hl : (us ++ []).length = ps.length := by
    rw [List.append_nil]
    exact r.length.symm.trans (F.arity _ _ _ _ h)
  have hb' := hb s us I.kIn hl
  rw [List.append_nil] at hb'
  refine wpAny_call (codeAny_mono (F.goes hr e0 hb' r h) fun r s' hq => ?_)
  cases r with
  | error e => exact hx pins σ H s e s' I hq
  | ok fl =>
    cases fl with
    | ret u => exact I.after hq
    | next => exact False.elim hq
    | brk => exact False.elim hq
    | cont => exact False.elim hq
theorem op_eqO (O : OEq X.K C f) (F : FnG X.prog X.w X.K X.mg X.base CX k f fd ps sp) (hr : RG k X.A) (hb : Binds X.K fd ps []) (hx : Passes CX X (fun _ _ _ => False))
    (hn1 : PySem.W.notFirst X.K C (.type "list") = true) (hn2 : PySem.W.notFirst X.K C (.type "tuple") = true) : OpR X (compareOp .Eq) (rEqO C sp) := by
  intro pins s σ H x y v u Q I rx ry h
  unfold rEqO at h
  obtain ⟨a, dx, fs, rfl, ha, hy, q⟩ := h
  cases (show v = Value.ref a from rx)
  obtain ⟨mA, J, _⟩ := ins_get I.hok ha
  obtain ⟨od, J, _⟩ := J.look
  obtain ⟨m, hF⟩ := I.fr
  have go : ∀ (tb : Value), (∃ b, y = .ref b) → PySem.W.Looks (model X.prog X.w) s.heap (typeOf u) tb → PySem.W.notFirst X.K C tb = true → wpAny (model X.prog X.w) X.A (compareOp .Eq (.ref a) u) (EP X pins σ Q) X.xe s := fun tb hb2 L hn => by
    show wpAny _ _ (richCompare .Eq (.ref a) u) _ _ _
    refine PySem.W.cmp_K (op := .Eq) (tb := tb) hr.room.units0 hF I.ok.mod.kin J L hn O.fe O.fn ?_
    refine wpAny_mono (own_run (us := [.ref a, u]) (vs := [.ref a, y]) F hr I.env0 hb hx I (.cons rfl (.cons ry .nil)) q) (fun w s' z => ?_) fun _ _ x => x
    obtain ⟨z', H', I', rz, b, eb, qz⟩ := z
    subst eb
    cases (show w = Value.bool b from rz)
    exact ⟨.bl b, H', I', rfl, qz⟩
  cases y with
  | ref b =>
    cases (show u = Value.ref b from ry)
    rcases hy with ⟨xs, hb1⟩ | ⟨xs, hb1⟩ | ⟨dy, gs, hb1⟩
    · obtain ⟨us, r1, p1, _⟩ := I.list (SqL.of hb1)
      obtain ⟨ob, hob, hoc⟩ : ∃ ob, s.heap.get? b = some ob ∧ ob.cls = .type "list" := by
        obtain ⟨o, e, c, _⟩ := p1.isList
        exact ⟨o, e, c⟩
      exact go (.type "list") ⟨b, rfl⟩ (fun A Q E s k q => wpAny_typeOf_ref (k _ _ hob) (by rw [hoc]; exact q)) hn1
    · obtain ⟨us, r1, p1, _⟩ := I.tuple (SqT.of hb1)
      obtain ⟨ob, hob, hoc⟩ : ∃ ob, s.heap.get? b = some ob ∧ ob.cls = .type "tuple" := by
        obtain ⟨o, e, c, _⟩ := p1
        exact ⟨o, e, c⟩
      exact go (.type "tuple") ⟨b, rfl⟩ (fun A Q E s k q => wpAny_typeOf_ref (k _ _ hob) (by rw [hoc]; exact q)) hn2
    · obtain ⟨mB, J', _⟩ := ins_get I.hok hb1
      obtain ⟨od', J', _⟩ := J'.look
      exact go (.ref C) ⟨b, rfl⟩ J'.type (by simp [PySem.W.notFirst])
  | _ => exact hy.elim
theorem op_neO (O : OEq X.K C f) (F : FnG X.prog X.w X.K X.mg X.base CX k f fd ps sp) (hr : RG (k + 1) X.A) (hu : X.A.units + 1 < cLine) (hb : Binds X.K fd ps []) (hx : Passes CX X (fun _ _ _ => False)) : OpR X (compareOp .NotEq) (rNeO C sp) := by
  intro pins s σ H x y v u Q I rx ry h
  unfold rNeO at h
  obtain ⟨a, b, dx, fs, dy, gs, rfl, rfl, ha, hb1, q⟩ := h
  cases (show v = Value.ref a from rx)
  cases (show u = Value.ref b from ry)
  obtain ⟨mA, J, _⟩ := ins_get I.hok ha
  obtain ⟨od, J, _⟩ := J.look
  obtain ⟨mB, J', _⟩ := ins_get I.hok hb1
  obtain ⟨od', J', _⟩ := J'.look
  have z := I.kIn
  have run := own_run (A := X.A.in1) (us := [.ref a, .ref b]) (vs := [.ref a, .ref b]) F hr.in1 I.env0.in1 hb hx I (.cons rfl (.cons rfl .nil)) q
  obtain ⟨hh, g, d, t, os⟩ := s
  refine compareNe_own O z J J'.at_ J'.cls hu (wpAny_mono run (fun w s' z => ?_) fun _ _ x => x)
  obtain ⟨z', H', I', rz, b, eb, qz⟩ := z
  subst eb
  cases (show w = Value.bool b from rz)
  exact ⟨b, rfl, .bl (!b), H', I', rfl, qz⟩
end
end FT

/-! static methods read off their class; str(x) by an own __str__; slices with a step -/
namespace FT
open PySem PySem.Spec PyProof.Rows L2 LamX
/-- C.m is a staticmethod: its record at p, its def at g -/
structure SMet (K : PySem.W.Frag) (C : Addr) (m : Str) (p g : Addr) : Prop where
  rd : PySem.W.readsIn K C (.type "type") = true
  ga : PySem.W.specialIn K (.ref C) "__getattribute__" = some (some (.builtin "type.__getattribute__"))
  at_ : PySem.W.findCls K (.ref C) (.type "type") m = some (.get (.builtin "staticmethod.__get__") (.ref p) .none (.ref C))
  rc : PySem.W.recIn K p "staticmethod" = some [.ref g] ∨ ∃ rest, PySem.W.recIn K p "staticmethod" = some (.ref g :: rest)
def tSM (C : Addr) (sp : Sp) (E : XK) (ta : TE) (t : TA) : TE := fun σ H Q => ta σ H fun x H1 => x = .ref C ∧ t σ H1 fun vs H2 => sp vs H2 Q E
def tSMK (C : Addr) (sp : Sp) (gV : List V → List V → List V) (E : XK) (ta : TE) (tk : TA) : TE := fun σ H Q => ta σ H fun x H1 => x = .ref C ∧ tk σ H1 fun zs H2 => sp (gV [] zs) H2 Q E
section
variable {X : Cx} {CX : CXT} {k : Nat} {C p g : Addr} {fd : FuncData} {ps ks : List Str} {gl : List Value → List Value → List Value} {gV : List V → List V → List V} {sp : Sp} {E : XK} {o e : Expr} {es : List Expr} {kws : List Keyword} {m : Str} {pos apos : Pos} {ta : TE} {t tk : TA} {pl : Sem Bool}
theorem getmethsm_ok {pins : List (Addr × Obj)} {σ : L2.St} {H : Hp} {s : Shared} {A : Around} {E : Value → Shared → Prop} {Q : Value × List Value → Shared → Prop} (I : Inv X pins σ H s) (S : SMet X.K C m p g)
    (h : ∀ s', Inv X pins σ H s' → Q (.ref g, []) s') : wpAny (model X.prog X.w) A (getMethod (.ref C) m pl) Q E s := by
  have ⟨rest, hp⟩ : ∃ rest, PySem.W.recIn X.K p "staticmethod" = some (.ref g :: rest) := by
    rcases S.rc with h | h
    · exact ⟨_, h⟩
    · exact h
  refine PySem.W.method_cls I.kIn S.ga (PySem.W.cls_bind I.kIn S.rd S.at_ (wpAny_call (PySem.W.sm_get (s := { s with toks := s.toks + 1 }) I.kIn hp (PySem.W.handed_on rfl ?_))))
  exact h _ (I.tok _)
theorem pe_smeth (he : PE X o ta) (S : SMet X.K C m p g) (F : FnG X.prog X.w X.K X.mg X.base CX k g fd ps sp) (hr : RG k X.A) (hk : PySem.W.keepIn X.K (.ref g) = true) (hb : Binds X.K fd ps []) (hx : Passes CX X E) (ha : PA X (e :: es) t)
    (hst : starEach (e :: es) X.env = (false, eval e X.env) :: starEach es X.env := by rfl) (hpl : (backTo pos (starEach es X.env)).any (·.1) = false := by rfl)
    (ht : eval (.Call (.Attribute o m apos) (e :: es) [] pos) X.env = (do
      let ov ← eval o X.env
      standAt apos.atName
      let (f, first) ← holding [ov] (getMethod ov m pl)
      callWith pos f first (backTo pos (starEach (e :: es) X.env)) (backToKw pos (keywordEach [] X.env))) := by rfl) :
    PE X (.Call (.Attribute o m apos) (e :: es) [] pos) (tSM C sp E ta t) := by
  refine ⟨fun pins s σ H Q I h => ?_⟩
  refine PySem.W.methodCall_KW (pl := pl) (thn (he.run pins s σ H _ I h) fun u s1 ⟨x, H1, I1, rx, ex, q⟩ => ?_) ht
  subst ex
  obtain rfl : u = Value.ref C := rx
  refine getmethsm_ok I1 S fun s2 I2 => ?_
  refine PySem.W.callWith_K (first := []) (h₀ := X.base) I2.ok.mod.kin hk (thn (ha.run pos pins s2 σ H1 _ I2 q) ?_) hst hpl
  rintro us s3 ⟨vs, H2, I3, r, q2⟩
  refine ⟨I3.kIn, ?_⟩
  have r2 := r.append (.nil : Vals [] [])
  have hl : (us ++ []).length = ps.length := by
    rw [List.append_nil]
    exact r.length.symm.trans (F.arity _ _ _ _ q2)
  have hb' := hb s3 us I3.kIn hl
  rw [List.append_nil] at hb'
  exact run_args (kw := []) F hr hx I3 hb' r q2
theorem pe_smethK0 (he : PE X o ta) (S : SMet X.K C m p g) (F : FnG X.prog X.w X.K X.mg X.base CX k g fd ps sp) (hr : RG k X.A) (hk : PySem.W.keepIn X.K (.ref g) = true) (hb : KBinds X.K fd ps ks gl gV) (hx : Passes CX X E) (hkw : PK X kws tk)
    (hall : (backToKw pos (keywordEach kws X.env)).all (·.1.isSome) = true := by rfl)
    (hks : (backToKw pos (keywordEach kws X.env)).filterMap (·.1) = ks := by rfl)
    (hpl : ((backTo pos (starEach [] X.env)).any (·.1) || (backToKw pos (keywordEach kws X.env)).any (·.1.isNone)) = false := by rfl)
    (ht : eval (.Call (.Attribute o m apos) [] kws pos) X.env = (do
      let ov ← eval o X.env
      standAt apos.atName
      let (f, first) ← holding [ov] (getMethod ov m pl)
      callWith pos f first (backTo pos (starEach [] X.env)) (backToKw pos (keywordEach kws X.env))) := by rfl) :
    PE X (.Call (.Attribute o m apos) [] kws pos) (tSMK C sp gV E ta tk) := by
  refine ⟨fun pins s σ H Q I h => ?_⟩
  refine PySem.W.methodCall_KW (pl := pl) (thn (he.run pins s σ H _ I h) fun u s1 ⟨x, H1, I1, rx, ex, q⟩ => ?_) ht
  subst ex
  obtain rfl : u = Value.ref C := rx
  refine getmethsm_ok I1 S fun s2 I2 => ?_
  refine PySem.W.callWith_KW0 (h₀ := X.base) I2.ok.mod.kin hk hall ?_ hpl
  refine thn (hkw.run pos pins s2 σ H1 _ I2 q) ?_
  rintro ws s3 ⟨zs, H2, I3, rz, q2⟩
  refine ⟨I3.kIn, ?_⟩
  rw [hks]
  have r3 := hb.rel (.nil : Vals [] []) rz
  exact run_args F hr hx I3 (hb.to s3 [] ws I3.kIn (r3.length.symm.trans (F.arity _ _ _ _ q2))) r3 q2
/-- str(x), x an own object with __str__ -/
@[irreducible] def rStrO (C : Addr) (sp : Sp) (xs : List V) (H : Hp) (Q : VK) : Prop := ∃ a dx fs, xs = [V.ref a] ∧ H a = some (.ins C dx fs) ∧ sp [.ref a] H (fun z H' => ∃ t, z = .str t ∧ Q z H') (fun _ _ _ => False)
theorem call_strO {f : Addr} (hs : PySem.W.findIn X.K (.ref C) "__str__" = some (some (.ref f))) (hf : PySem.W.isFn X.K (.ref f) = true) (F : FnG X.prog X.w X.K X.mg X.base CX k f fd ps sp) (hr : RG (k + 2) X.A) (hb : Binds X.K fd ps []) (hx : Passes CX X (fun _ _ _ => False)) : CallR X (.type "str") (rStrO C sp) := by
  intro pins s σ H xs us Q I r h
  unfold rStrO at h
  obtain ⟨a, dx, fs, rfl, ha, q⟩ := h
  obtain ⟨u, rfl, ru⟩ := r.one
  cases (show u = Value.ref a from ru)
  obtain ⟨mA, J, _⟩ := ins_get I.hok ha
  obtain ⟨od, J, _⟩ := J.look
  have hr2 : RG k X.A.in1.in1 := (show RG (k + 1) X.A.in1 from RG.in1 hr).in1
  refine PySem.W.kso_call hr2.room.units0 I.kIn J hs hf (wpAny_mono (own_run (us := [.ref a]) (vs := [.ref a]) F hr2 I.env0.in1.in1 hb hx I (.cons rfl .nil) q) (fun w s' z => ?_) fun _ _ x => x)
  obtain ⟨z', H', I', rz, t, ez, qz⟩ := z
  subst ez
  obtain ⟨tk, e⟩ := (show ∃ tk, w = Value.str t tk from rz)
  cases e
  exact ⟨.str t, H', I', ⟨tk, rfl⟩, qz⟩
/-! xs[a::2] -/
def stpV (lo : Option Int) (xs : List V) : List V := (sliceRange (sliceBounds lo none (some 2) xs.length).1 (sliceBounds lo none (some 2) xs.length).2.1 (sliceBounds lo none (some 2) xs.length).2.2).filterMap (xs[·]?)
theorem vals_pick {xs : List V} {its : List Value} (r : Vals xs its) : ∀ is : List Nat, Vals (is.filterMap (xs[·]?)) (is.filterMap (its[·]?))
  | [] => .nil
  | i :: is => by
    have ih := vals_pick r is
    have hl := r.length
    rw [List.filterMap_cons, List.filterMap_cons]
    by_cases h : i < xs.length
    · have h2 : i < its.length := by omega
      have e2 : its[i]? = some its[i] := List.getElem?_eq_getElem h2
      obtain ⟨x, hx, rx⟩ : ∃ x, xs[i]? = some x ∧ RelV x its[i] := by
        clear ih
        induction r generalizing i with
        | nil => cases h2
        | @cons a b as bs ab rest ih =>
          cases i with
          | zero => exact ⟨a, rfl, ab⟩
          | succ i => exact ih i rest.length (Nat.lt_of_succ_lt_succ h) (Nat.lt_of_succ_lt_succ h2) (List.getElem?_eq_getElem _)
      rw [hx, e2]
      exact .cons rx ih
    · rw [List.getElem?_eq_none (by omega), List.getElem?_eq_none (by omega)]
      exact ih
def tStp (K : PySem.W.Frag) (te : TE) (tl : TO) : TE := fun σ H Q => te σ H fun x H1 => ∃ a xs, x = .ref a ∧ tl σ H1 fun lo H2 => SqL K H2 a xs ∧ ∀ p, H2 p = none → Q (.ref p) (upd H2 p (.lst (stpV lo xs)))
theorem pe_stp {l : Option Expr} {tl : TO} {j : Nat} {p1 p3 : Pos} (he : PE X e ta) (hl : PO X l tl) : PE X (.Subscript e (.Slice l none (some (.Constant (.int 2) j p1)) p3) pos) (tStp X.K ta tl) := by
  refine ⟨fun pins s σ H Q I h => ?_⟩
  refine Subscript_ (thn (he.run pins s σ H _ I h) fun v s1 ⟨x, H1, I1, r1, q1⟩ => ?_)
  obtain ⟨a, xs, ex, q⟩ := q1
  subst ex
  cases r1
  have hst : PO X (some (.Constant (.int 2) j p1)) (tPart (tC (.int 2))) := po_some pe_int
  refine wpAny_Slice (thn (hl.run pins s1 σ H1 _ I1 q) fun vl s2 ⟨lo, H2, I2, pl, hx, q2⟩ => ?_)
  refine thn (po_none.run pins s2 σ H2 (fun o H3 => o = none ∧ H3 = H2) I2 ⟨rfl, rfl⟩) fun vu s3 ⟨u, H3, I3, pu, eu, e3⟩ => ?_
  subst eu e3
  refine thn (hst.run pins s3 σ H3 (fun o H4 => o = some 2 ∧ H4 = H3) I3 ⟨2, rfl, rfl, rfl⟩) fun vs s4 ⟨o, H4, I4, ps, eo, e4⟩ => ?_
  subst eo e4
  have I5 : Inv X pins σ H4 { s4 with heap := s4.heap.push { cls := .type "slice", data := .fields #[vl, vu, vs] } } := I4.kept (t' := s4.toks) fun b ob q => Heap.get?_push_of_some _ q
  obtain ⟨its, r, ht, hz⟩ := I5.list hx
  have hlen := r.length
  show wpAny (model X.prog X.w) X.A (subscriptTail e (.Slice l none (some (.Constant (.int 2) j p1)) p3) (.ref a) (.ref s4.heap.objs.size)) (EP X pins σ Q) X.xe { s4 with heap := s4.heap.push { cls := .type "slice", data := .fields #[vl, vu, vs] } }
  refine tail_any (ops := [.ref a, .ref s4.heap.objs.size]) ht.isList.typeIs (PySem.slot_list_getitem.lookup) ?_ (by with_unfolding_all rfl)
  refine wpAny_getItem_list_slice ht.isList (Heap.IsSliceOf.new _ vl vu vs) pl pu ps (by decide) ?_ (by rw [List.size_toArray]; omega)
  have ez : slicePick its.toArray lo none (some 2) = ((sliceRange (sliceBounds lo none (some 2) xs.length).1 (sliceBounds lo none (some 2) xs.length).2.1 (sliceBounds lo none (some 2) xs.length).2.2).filterMap (its[·]?)).toArray := by
    unfold slicePick
    rw [List.size_toArray, ← hlen]
    simp
  rw [ez]
  have rp := vals_pick r (sliceRange (sliceBounds lo none (some 2) xs.length).1 (sliceBounds lo none (some 2) xs.length).2.1 (sliceBounds lo none (some 2) xs.length).2.2)
  refine ⟨.ref _, _, I5.laid (t' := s4.toks) (o := .lst (stpV lo xs)) (fun b ob q => Heap.get?_push_of_some _ q) (Nat.le_refl _) ?_, rfl, q2 _ (I5.hok.fresh (Nat.le_refl _))⟩
  refine ⟨?_, _, 0, rp, Heap.get?_push_size _ rfl⟩
  refine Nat.le_trans ?_ hz
  refine Nat.le_trans (List.length_filterMap_le _ _) ?_
  refine sliceRange_length_le _ _ _ _ (fun _ => ?_) (fun h => absurd (show (2 : Int) > 0 by decide) h)
  unfold sliceBounds
  cases lo with
  | none => simp
  | some i =>
    simp only [Option.getD_some, show (2 : Int) > 0 by decide, if_true]
    exact ⟨by split <;> omega, Int.le_refl _⟩
end
end FT

/-! the law's own call, with tables of code objects -/
namespace FT
open PySem PySem.Spec PyProof.Rows L2 LamX
/-- law_call with tables: cs, the code objects and their tables -/
theorem law_callTG {P : Program} {w : World} {K : PySem.W.Frag} {mg mb : Str → Option Value} {CX : CXT} {k : Nat} {fa a : Addr} {cs : List (Addr × Addr)} {fd : FuncData} {x : Str} {sp : Sp} {s₁ : Shared} {vs : List Value} {ns : List Int}
    (KX : K.In s₁.heap) (hns : s₁.heap.Ns mainGlobals mg) (hb : s₁.heap.Ns builtinsNs mb) (hbb : ∀ x : Str, x ≠ "__name__" → mb x = bootBuiltins x) (hlim : s₁.heap.NoLimit) (hg : s₁.gens = #[])
    (hT : ∀ p ∈ cs, s₁.heap.get? p.2 = some { cls := .none, data := .fields #[] }) (nT : ∀ p ∈ cs, K.lookup p.2 = none) (C : ∀ p ∈ cs, PySem.W.CodeHd s₁.heap p.1 p.2)
    (hbm : ∃ (bm : Addr) (ob : Obj), mg "__builtins__" = some (.ref bm) ∧ bm ≠ builtinsNs ∧ s₁.heap.get? bm = some ob ∧ ob.cls = .type "module" ∧ ob.dict = some builtinsNs ∧ ob.data = .plain)
    (ha : s₁.heap.get? a = some { cls := .type "list", data := .seq vs.toArray }) (hi : IntsAre vs ns) (hl : ns.length ≤ sizeLine) (hr : RG k callerA)
    (F : ∀ base : Heap, K.In base → base.Ns mainGlobals mg → (∀ p ∈ cs, TabB base mg p.1 p.2) → FnG P w K mg base CX k fa fd [x] sp) (hbind : ∀ (s : Shared) (u : Value), BindsTo s fd ⟨[u], []⟩ [(x, u)])
    (hsp : ∀ H : Hp, (∀ p ∈ cs, H p.2 = some (.tbl #[])) → SqL K H a (ns.map V.int) → sp [.ref a] H (fun v _ => v = .bl true) fun _ _ _ => False)
    (hCX : ∀ H e s', CX [] H s₁ (fun _ _ _ => False) e s' → False) :
    codeAny (model P w) callerA (.call (.ref fa) ⟨[.ref a], []⟩) (fun r s' => r = .ok (.ret (.bool true)) ∧ OldK s₁.heap s'.heap ∧ s'.os = s₁.os ∧ AllBare s'.gens) s₁ := by
  have rv := vals_ints hi
  have lenV := hi.length
  have isT : ∀ b : Addr, b ∈ cs.map (·.2) → s₁.heap.get? b = some { cls := .none, data := .fields #[] } := fun b hb => by
    obtain ⟨p, hp, e⟩ := List.mem_map.mp hb
    rw [← e]
    exact hT p hp
  have aT : a ∉ cs.map (·.2) := fun z => by
    have q := isT a z
    rw [ha] at q
    have z' : Data.seq vs.toArray _ = Data.fields #[] := congrArg Obj.data (Option.some.inj q)
    cases z'
  have memT : ∀ p ∈ cs, p.2 ∈ cs.map (·.2) := fun p hp => List.mem_map.mpr ⟨p, hp, rfl⟩
  -- from an abstract heap in which nothing but the script and the tables may be tracked
  have core : ∀ H : Hp, (∀ p ∈ cs, H p.2 = some (.tbl #[])) → (∀ b, H b = none ∨ b ∈ cs.map (·.2) ∨ ∃ o xs, H b = some (.frz o (.lst xs))) → SqL K H a (ns.map V.int) → HOk P w H s₁.heap → (∀ b, H b ≠ none → b = a ∨ b ∈ cs.map (·.2)) → (H a ≠ none → K.lookup a = none) →
      codeAny (model P w) callerA (.call (.ref fa) ⟨[.ref a], []⟩) (fun r s' => r = .ok (.ret (.bool true)) ∧ OldK s₁.heap s'.heap ∧ s'.os = s₁.os ∧ AllBare s'.gens) s₁ := by
    intro H hH hO hS hok hA hK
    have base_of : ∀ {b : Addr} {o : Obj}, s₁.heap.get? b = some o → H b = none → (hidT s₁.heap H).get? b = some o := fun e n => hidT_get e n
    have noD : ∀ {b : Addr} {o : Obj}, s₁.heap.get? b = some o → (∀ vs n, o.data ≠ .seq vs n) → o.data ≠ .fields #[] → H b = none := fun {b o} e h1 h2 => by
      cases q : H b with
      | none => rfl
      | some u =>
        rcases hA b (by rw [q]; simp) with e' | e'
        · rw [e', ha] at e
          cases e
          exact (h1 _ _ rfl).elim
        · rw [isT b e'] at e
          cases e
          exact (h2 rfl).elim
    have noA : ∀ {b : Addr} {o : Obj} {es : Array DictEntry} {ep : Nat}, s₁.heap.get? b = some o → o.data = .dict es ep → H b = none := fun {b o es ep} e d => by
      refine noD e (fun vs n z => ?_) fun z => ?_
      · rw [d] at z
        cases z
      · rw [d] at z
        cases z
    have nsK : ∀ {b : Addr} {m : Str → Option Value}, s₁.heap.Ns b m → (hidT s₁.heap H).Ns b m := fun {b m} ⟨o, es, ep, e, d, r⟩ => ⟨o, es, ep, base_of e (noA e d), d, r⟩
    have hKb : K.In (hidT s₁.heap H) := fun b o e => base_of (KX b o e) (by
      cases q : H b with
      | none => rfl
      | some u =>
        rcases hA b (by rw [q]; simp) with e' | e'
        · rw [e'] at e q
          rw [hK (by rw [q]; simp)] at e
          cases e
        · obtain ⟨p, hp, ep⟩ := List.mem_map.mp e'
          rw [← ep, nT p hp] at e
          cases e)
    have hM : L2.Mod K mg (hidT s₁.heap H) := ⟨hKb, nsK hns, ⟨mb, nsK hb, hbb⟩, let ⟨mc, h1, h2⟩ := hlim; ⟨mc, nsK h1, h2⟩⟩
    have TB : ∀ p ∈ cs, TabB (hidT s₁.heap H) mg p.1 p.2 := fun p hp => by
      have hTp := hT p hp
      refine ⟨?_, ?_, fun z => ?_⟩
      · obtain ⟨o, us, file, tf, flags, tg, inF, text, tt, e1, r1, r2, r3, r4, r5, r6, r7, r8, hne⟩ := C p hp
        refine ⟨o, us, file, tf, flags, tg, inF, text, tt, base_of e1 (noD e1 (fun vs n z => ?_) fun z => ?_), r1, r2, r3, r4, r5, r6, r7, r8, hne⟩
        · rw [r2] at z
          cases z
        · rw [r2] at z
          cases z
          simp at r3
      · obtain ⟨bm, ob, b1, b2, b3, b4, b5, b6⟩ := hbm
        have nG : bm ≠ mainGlobals := fun q => by
          obtain ⟨o, es, ep, e, hd, _⟩ := hns
          rw [q, e] at b3
          cases b3
          rw [hd] at b6
          cases b6
        have nP : bm ≠ p.2 := fun q => by
          rw [q, hTp] at b3
          cases b3
          cases b6
        refine ⟨bm, ob, b1, b2, nG, nP, base_of b3 (noD b3 (fun vs n z => ?_) fun z => ?_), b4, b5, b6⟩
        · rw [b6] at z
          cases z
        · rw [b6] at z
          cases z
      · obtain ⟨o, es, ep, e, hd, _⟩ := hns
        rw [z, hTp] at e
        cases e
        cases hd
    have e0 : Env0 P w K mg (hidT s₁.heap H) callerA [] s₁ H := ⟨rfl, hM, fun b o e => of_hidT e, Nat.le_of_eq (hidT_size _ _), trivial, fun b hb => absurd (show b ∈ ([] : List Addr) from hb) (by simp), hok, .of_eq hg⟩
    refine codeAny_mono ((F _ hKb (nsK hns) TB).goes hr e0 (us := [.ref a]) (vs := [.ref a]) (hbind s₁ (.ref a)) (.cons rfl .nil) (hsp H hH hS)) fun r s' h => ?_
    cases r with
    | error e => exact (hCX H e s' h).elim
    | ok fl =>
      cases fl with
      | next => exact False.elim h
      | brk => exact False.elim h
      | cont => exact False.elim h
      | ret u =>
        obtain ⟨v, H', os, bare, un, hok', r', q⟩ := h
        have q' : v = .bl true := q
        subst q'
        obtain rfl : u = Value.bool true := r'
        have key : ∀ b o, b ∉ cs.map (·.2) → s₁.heap.get? b = some o → s'.heap.get? b = some o := fun b o nb e => by
          cases q : H b with
          | none => exact un.keep b o e q (by intro z; exact absurd (show b ∈ ([] : List Addr) from z) (by simp)) (by simp)
          | some u =>
            rcases hO b with z | z | ⟨ob, xs, z⟩
            · rw [q] at z; cases z
            · exact absurd z nb
            · have z2 := un.frzs b ob _ z
              obtain ⟨e1, _⟩ := hok b _ z
              obtain ⟨e2, _⟩ := hok' b _ z2
              rw [e] at e1; cases e1
              exact e2
        have grown : ∀ p ∈ cs, ∃ more : Array Value, s'.heap.get? p.2 = some { cls := .none, data := .fields more } := fun p hp => by
          obtain ⟨more, z⟩ := un.tbls p.2 #[] (hH p hp)
          exact ⟨_, hok' p.2 _ z⟩
        refine ⟨rfl, ⟨fun b o e => ?_, fun b o e => ?_⟩, os, bare⟩
        · by_cases hb : b ∈ cs.map (·.2)
          · obtain ⟨p, hp, ep⟩ := List.mem_map.mp hb
            obtain ⟨more, hm⟩ := grown p hp
            rw [← ep] at e ⊢
            rw [hT p hp] at e
            cases e
            exact .inr (.inl ⟨((C p hp).tab (hT p hp)).isCodeTable, rfl, #[], more, rfl, by rw [Array.empty_append]; exact hm⟩)
          · exact .inl (key b o hb e)
        · by_cases hb : b ∈ cs.map (·.2)
          · obtain ⟨p, hp, ep⟩ := List.mem_map.mp hb
            obtain ⟨more, hm⟩ := grown p hp
            rw [← ep]
            exact ⟨_, hm⟩
          · exact ⟨o, key b o hb e⟩
  cases hk : K.lookup a with
  | some o =>
    have e := KX a o hk
    rw [ha] at e
    cases e
    refine core (fun b => if b ∈ cs.map (·.2) then some (.tbl #[]) else none) (fun p hp => if_pos (memT p hp)) (fun b => ?_) (.inr ⟨_, vs.toArray, _, hk, rfl, rfl, rfl, by rw [List.size_toArray, lenV]; exact hl, by simpa using rv⟩) (fun b u z => ?_) (fun b z => ?_) fun z => absurd (show (if a ∈ cs.map (·.2) then some (HO.tbl #[]) else none) = none from if_neg aT) z
    · by_cases hb : b ∈ cs.map (·.2)
      · exact .inr (.inl hb)
      · exact .inl (if_neg hb)
    · by_cases hb : b ∈ cs.map (·.2)
      · have z' := (if_pos hb).symm.trans z
        cases z'
        exact isT b hb
      · have z' := (if_neg hb).symm.trans z
        cases z'
    · by_cases hb : b ∈ cs.map (·.2)
      · exact .inr hb
      · exact absurd (if_neg hb) z
  | none =>
    refine core (fun b => if b = a then some (.frz { cls := .type "list", data := .seq vs.toArray } (.lst (ns.map V.int))) else if b ∈ cs.map (·.2) then some (.tbl #[]) else none) (fun p hp => (if_neg (show ¬ p.2 = a from fun z => aT (by rw [← z]; exact memT p hp))).trans (if_pos (memT p hp))) (fun b => ?_)
      (.inl (.inr ⟨{ cls := .type "list", data := .seq vs.toArray }, if_pos rfl⟩)) (fun b u z => ?_) (fun b z => ?_) fun _ => hk
    · by_cases hb : b = a
      · exact .inr (.inr ⟨_, _, if_pos hb⟩)
      · by_cases hb2 : b ∈ cs.map (·.2)
        · exact .inr (.inl hb2)
        · exact .inl ((if_neg hb).trans (if_neg hb2))
    · by_cases hb : b = a
      · have z' := (if_pos hb).symm.trans z
        cases z'
        rw [hb]
        exact ⟨ha, by rw [List.length_map]; exact hl, vs, _, rv, ha⟩
      · have z1 := (if_neg hb).symm.trans z
        by_cases hb2 : b ∈ cs.map (·.2)
        · have z' := (if_pos hb2).symm.trans z1
          cases z'
          exact isT b hb2
        · have z' := (if_neg hb2).symm.trans z1
          cases z'
    · by_cases hb : b = a
      · exact .inl hb
      · by_cases hb2 : b ∈ cs.map (·.2)
        · exact .inr hb2
        · exact absurd ((if_neg hb).trans (if_neg hb2)) z
/-- what is known of the law's promise at the head's heap h -/
def LawAtG (l : PySem.W.OpenLaw) (w : World) (K : PySem.W.Frag) (CX : CXT) (k n : Nat) (x : Str) (mg : Str → Option Value) (fa : Addr) (h : Heap) : Prop :=
  ∃ (fd : FuncData) (cs : List (Addr × Addr)) (sp : Sp), (∀ p ∈ cs, h.get? p.2 = some { cls := .none, data := .fields #[] }) ∧ (∀ p ∈ cs, K.lookup p.2 = none) ∧ (∀ p ∈ cs, PySem.W.CodeHd h p.1 p.2) ∧ (∀ (s : Shared) (u : Value), BindsTo s fd ⟨[u], []⟩ [(x, u)]) ∧
    (∀ (H : Hp) (a : Addr) (ns : List Int), ns.length ≤ n → (∀ p ∈ cs, H p.2 = some (.tbl #[])) → SqL K H a (ns.map V.int) → sp [.ref a] H (fun v _ => v = .bl true) fun _ _ _ => False) ∧
    ∀ base : Heap, K.In base → base.Ns mainGlobals mg → (∀ p ∈ cs, TabB base mg p.1 p.2) → FnG l.prog w K mg base CX k fa fd [x] sp
/-- the table of the def x, as the head tells it -/
def TabOf (q : Program) (K : PySem.W.Frag) (h : Heap) : Prop := ∀ (x : Str) (e : DefRec) (c P : Addr), (recsOf q).find? (fun e => e.name == x) = some e → PySem.W.tabIn K x = some (c, P) → PySem.W.CodeHd h c P ∧ h.get? P = some { cls := .none, data := .fields #[] }
theorem walk_ofTG {l : PySem.W.OpenLaw} {n k : Nat} {q : Program} {loose : List Str} {XP : (Str → Option Value) → Heap → Prop} {YP : World → Heap → Prop} {d : DefRec} {K : Params → PySem.W.Frag} {CX : World → CXT} {x : Str}
    (hn : l.most = some n) (hn2 : n ≤ sizeLine) (hdf : d.params.defaults = []) (hr : RG k callerA) (hY : ∀ (w : World) (h : Heap), YP w h → (K w.params).In h)
    (F : ∀ (w : World) (mg : Str → Option Value) (fa : Addr) (h : Heap), (K w.params).In h → h.Ns mainGlobals mg → mg d.name = some (.ref fa) → TabOf q (K w.params) h → LawAtG l w (K w.params) (CX w) k n x mg fa h)
    (hCX : ∀ (w : World) (H : Hp) (s : Shared) (e : Value) (s' : Shared), CX w [] H s (fun _ _ _ => False) e s' → False) :
    PySem.W.WalkO q loose XP YP l.row.toRowW d [] (fun f vs => PySem.call f vs) := by
  refine Att.attach_callB hn hdf fun w s₀ s₁ mg mb fa o pm cd doc a vs ns G Y ho hd hcd hmg hobj hints hlen hbits hg => ?_
  have KX := hY w _ Y
  obtain ⟨fd, cs, sp, hT, nT, C, hb, hsp, hF⟩ := F w mg fa _ KX G.T.g hmg (fun x e c P h1 h2 => PySem.W.tab_of G.T KX h1 h2)
  exact law_callTG KX G.T.g G.T.b G.T.builtins G.T.nolimit hg hT nT C G.T.bmain hobj hints (Nat.le_trans hlen hn2) hr hF hb (fun H hH hS => hsp H a ns hlen hH hS) fun H e s' => hCX w H s₁ e s'
theorem upd_kp {H : Hp} {a dx : Addr} {o u : HO} (hd : H dx = none) (hda : dx ≠ a) : Kp a H (upd (upd H dx o) a u) := by
  intro b v n h
  rw [upd_ne n, upd_ne (ne_of_none h hd)]
  exact h
theorem walk_gen {J : It} {n : Nat} {G : Hp → Prop} {Y : Nat → Hp → V → Hp → Prop} (w : Walk J n G Y) {Body : (Hp → Prop) → V → Hp → Prop} {H0 : Hp} {Qd : Hp → Prop} (Pv : Nat → Hp → Prop) (h0 : Pv 0 H0) (hG : ∀ i H, i ≤ n → Pv i H → G H)
    (hs : ∀ i x H H', i < n → Pv i H → Y i H x H' → Body (Pv (i + 1)) x H') (hd : ∀ H, Pv n H → Qd H) :
    ∃ W : Nat → Nat → Hp → Prop, (∃ m, W 0 m H0) ∧ ∀ i m H, W i m H → (J.stop i H ∧ Qd H) ∨ (J.go i H ∧ ∃ Nx : Hp → Prop, (∀ H', Nx H' → ∃ m', m' < m ∧ W (i + 1) m' H') ∧ ∀ x H', J.yld i H x H' → Body Nx x H') := by
  refine ⟨fun i m H => m = n - i ∧ i ≤ n ∧ Pv i H, ⟨n, by simp, Nat.zero_le _, h0⟩, ?_⟩
  rintro i m H ⟨rfl, hi, p⟩
  have q := hG i H hi p
  by_cases hlt : i < n
  · exact .inr ⟨w.goes i H hlt q, Pv (i + 1), fun H' p' => ⟨n - (i + 1), by omega, rfl, hlt, p'⟩, fun x H' y => hs i x H H' hlt p (w.yields i H x H' hlt q y)⟩
  · have e : i = n := by omega
    subst e
    exact .inl ⟨w.stops H q, hd H p⟩
end FT

/-! list(zip(xs, ys)) -/
namespace FT
open PySem PySem.Spec PyProof.Rows L2
abbrev IsZipB (h : Heap) (z TI TO T : Addr) (f : Bool) : Prop :=
  h.get? z = some { cls := .type "zip", dict := none, data := .fields #[rawInt T, .bool f, .bool false, .ref TI, .ref TO], slots := #[] }
section
variable {prog : Program} {w : World} {A : Around} {E : Value → Shared → Prop} {s : Shared}
theorem free_busy {z TI TO T : Addr} {f : Bool} {oT : Obj} {Q : Bool → Shared → Prop} (hz : IsZipB s.heap z TI TO T f) (hT : s.heap.get? T = some oT)
    (hQ : ∀ h₁, IsZipB h₁ z TI TO T true → Heap.ExtBut z s.heap h₁ → h₁.objs.size = s.heap.objs.size → Q false { s with heap := h₁ }) : wpAny (model prog w) A (Builtin.SmallTypes.ownedTupleIsFree (.ref z)) Q E s := by
  unfold Builtin.SmallTypes.ownedTupleIsFree
  refine wpAny_bind (wpAny_field hz rfl (x := rawInt T) rfl ?_)
  show wpAny _ _ (loadIfAlive ((T : Int).toNat) >>= _) _ _ _
  rw [Int.toNat_natCast]
  refine wpAny_bind (PySem.W.kdx_alive hT ?_)
  simp only [Option.isNone_some, Bool.false_eq_true, if_false]
  refine wpAny_bind (wpAny_field hz rfl (x := .bool f) rfl ?_)
  cases f with
  | true =>
    rw [if_neg (by decide)]
    exact wpAny_pure (hQ _ hz (fun b o _ e => e) rfl)
  | false =>
    rw [if_pos (by decide)]
    refine wpAny_bind (wpAny_setField_rec hz (by simp) fun h₁ hz₁ hs₁ => ?_)
    exact wpAny_pure (hQ h₁ hz₁ hs₁.extBut hs₁.1)
theorem zipB_next_item {z TI TO i1 i2 l1 l2 T : Addr} {f : Bool} {oT : Obj} {k1 k2 : Nat} {xs ys : Array Value} {x y : Value} {Q : Value → Shared → Prop} (D : ZipApart z TI TO i1 i2 l1 l2)
    (hz : IsZipB s.heap z TI TO T f) (hT : s.heap.get? T = some oT) (hTI : IsPair s.heap TI (.ref i1) (.ref i2))
    (h1 : s.heap.IsListIter i1 l1 k1) (h2 : s.heap.IsListIter i2 l2 k2) (hl1 : s.heap.IsList l1 xs) (hl2 : s.heap.IsList l2 ys) (hx : xs[k1]? = some x) (hy : ys[k2]? = some y)
    (hQ : ∀ h', IsZipB h' z TI TO T true → h'.IsListIter i1 l1 (k1 + 1) → h'.IsListIter i2 l2 (k2 + 1) → IsPair h' s.heap.objs.size x y → h'.objs.size = s.heap.objs.size + 1 →
      (∀ c o, c ≠ z → c ≠ i1 → c ≠ i2 → s.heap.get? c = some o → h'.get? c = some o) → Q (.ref s.heap.objs.size) { s with heap := h' }) :
    wpAny (model prog w) A (Builtin.«zip.__next__» ⟨[.ref z], []⟩) (fun fin s' => ∃ v, fin = .done (.ret v) ∧ Q v s') E s := by
  show wpAny _ _ (field (.ref z) 2 >>= _) _ _ _
  refine wpAny_bind (wpAny_field hz rfl (x := .bool false) rfl ?_)
  show wpAny _ _ (field (.ref z) 3 >>= _) _ _ _
  refine wpAny_bind (wpAny_field hz rfl (x := .ref TI) rfl ?_)
  refine wpAny_bind (wpAny_seqItems hTI rfl ?_)
  show wpAny _ _ (Builtin.SmallTypes.ownedTupleIsFree (.ref z) >>= _) _ _ _
  refine wpAny_bind (free_busy hz hT fun h₁ hz₁ k₁ sz₁ => ?_)
  simp only [Bool.false_eq_true, if_false]
  rw [← Array.forIn_toList]
  simp only [List.forIn_cons, List.forIn_nil]
  have hl1' := hl1.extBut k₁ D.l1z
  have hl2' := hl2.extBut k₁ D.l2z
  have h1' := h1.extBut k₁ D.i1z
  have h2' := h2.extBut k₁ D.i2z
  refine wpAny_bind (wpAny_bind (wpAny_bind (wpAny_holding ?_)))
  show wpAny _ _ (Builtin.SmallTypes.nextOf (.ref i1) >>= _) _ _ _
  refine wpAny_bind (wpAny_nextOf_list_item h1' hl1' hx fun h₂ h1₂ hs₂ => wpAny_pure (wpAny_pure ?_))
  refine wpAny_bind (wpAny_bind (wpAny_holding ?_))
  show wpAny _ _ (Builtin.SmallTypes.nextOf (.ref i2) >>= _) _ _ _
  refine wpAny_bind (wpAny_nextOf_list_item (h2'.extBut hs₂.extBut D.i12.symm) (hl2'.extBut hs₂.extBut D.l2i1) hy fun h₃ h2₃ hs₃ => wpAny_pure (wpAny_pure (wpAny_pure ?_)))
  have sz : h₃.objs.size = s.heap.objs.size := by rw [hs₃.1, hs₂.1, sz₁]
  refine wpAny_bind (wpAny_newTuple ?_ (by show 2 ≤ sizeLine; decide))
  have up : ∀ c o, c ≠ z → c ≠ i1 → c ≠ i2 → s.heap.get? c = some o → h₃.get? c = some o := fun c o c1 c2 c3 e => hs₃.extBut _ _ c3 (hs₂.extBut _ _ c2 (k₁ _ _ c1 e))
  have hz₃ : IsZipB h₃ z TI TO T true := hs₃.extBut _ _ D.i2z.symm (hs₂.extBut _ _ D.i1z.symm hz₁)
  have h1₃ := h1₂.extBut hs₃.extBut D.i12
  refine wpAny_pure ⟨_, rfl, ?_⟩
  show Q (.ref h₃.objs.size) _
  have hp : IsPair (h₃.push { cls := .type "tuple", data := .seq #[x, y] }) h₃.objs.size x y := Heap.get?_push_size _ rfl
  rw [sz] at hp ⊢
  exact hQ _ (Heap.get?_push_of_some _ hz₃) (h1₃.at fun o e => Heap.get?_push_of_some _ e) (h2₃.at fun o e => Heap.get?_push_of_some _ e) hp (by rw [Heap.size_push, sz]) fun c o c1 c2 c3 e => Heap.get?_push_of_some _ (up c o c1 c2 c3 e)
theorem zipB_next_end {z TI TO i1 i2 l1 l2 T : Addr} {f : Bool} {oT : Obj} {k1 : Nat} {xs : Array Value} {Q : Fin → Shared → Prop} (hh : A.handled = none) (D : ZipApart z TI TO i1 i2 l1 l2)
    (hz : IsZipB s.heap z TI TO T f) (hT : s.heap.get? T = some oT) (hTI : IsPair s.heap TI (.ref i1) (.ref i2))
    (h1 : s.heap.IsListIter i1 l1 k1) (hl1 : s.heap.IsList l1 xs) (hx : xs[k1]? = none)
    (hE : ∀ h' e, (∀ c o, c ≠ z → c ≠ i1 → s.heap.get? c = some o → h'.get? c = some o) → (∃ o, h'.get? e = some o ∧ o.cls = .type "StopIteration") → E (.ref e) { s with heap := h' }) :
    wpAny (model prog w) A (Builtin.«zip.__next__» ⟨[.ref z], []⟩) Q E s := by
  show wpAny _ _ (field (.ref z) 2 >>= _) _ _ _
  refine wpAny_bind (wpAny_field hz rfl (x := .bool false) rfl ?_)
  show wpAny _ _ (field (.ref z) 3 >>= _) _ _ _
  refine wpAny_bind (wpAny_field hz rfl (x := .ref TI) rfl ?_)
  refine wpAny_bind (wpAny_seqItems hTI rfl ?_)
  show wpAny _ _ (Builtin.SmallTypes.ownedTupleIsFree (.ref z) >>= _) _ _ _
  refine wpAny_bind (free_busy hz hT fun h₁ hz₁ k₁ sz₁ => ?_)
  simp only [Bool.false_eq_true, if_false]
  rw [← Array.forIn_toList]
  simp only [List.forIn_cons, List.forIn_nil]
  refine wpAny_bind (wpAny_bind (wpAny_bind (wpAny_holding ?_)))
  show wpAny _ _ (Builtin.SmallTypes.nextOf (.ref i1) >>= _) _ _ _
  exact wpAny_bind (wpAny_nextOf_list_end hh (h1.extBut k₁ D.i1z) (hl1.extBut k₁ D.l1z) hx fun h₂ e hs₂ he => hE h₂ e (fun c o c1 c2 x => hs₂ _ _ c2 (k₁ _ _ c1 x)) he)
/-- a zip that has handed out i items -/
def ZSt (h : Heap) (z TI TO i1 i2 l1 l2 : Addr) (xs ys : Array Value) (i : Nat) : Prop :=
  (IsZip h z TI TO .none ∨ ∃ T f oT, IsZipB h z TI TO T f ∧ h.get? T = some oT ∧ T ≠ z ∧ T ≠ i1 ∧ T ≠ i2) ∧ IsPair h TI (.ref i1) (.ref i2) ∧ (∃ a b, IsPair h TO a b) ∧ h.IsListIter i1 l1 i ∧ h.IsListIter i2 l2 i ∧ h.IsList l1 xs ∧ h.IsList l2 ys
theorem zst_item {z TI TO i1 i2 l1 l2 : Addr} {i : Nat} {xs ys : Array Value} {x y : Value} {Q : Option Value → Shared → Prop} (D : ZipApart z TI TO i1 i2 l1 l2) (h : ZSt s.heap z TI TO i1 i2 l1 l2 xs ys i) (hx : xs[i]? = some x) (hy : ys[i]? = some y)
    (hQ : ∀ h', ZSt h' z TI TO i1 i2 l1 l2 xs ys (i + 1) → IsPair h' s.heap.objs.size x y → s.heap.objs.size < h'.objs.size → (∀ c o, c ≠ z → c ≠ TO → c ≠ i1 → c ≠ i2 → s.heap.get? c = some o → h'.get? c = some o) → Q (some (.ref s.heap.objs.size)) { s with heap := h' }) :
    wpAny (model prog w) A (pyNext (.ref z)) Q E s := by
  obtain ⟨hz, hTI, ⟨a, b, hTO⟩, h1, h2, hl1, hl2⟩ := h
  have lt : ∀ {c o}, s.heap.get? c = some o → s.heap.objs.size ≠ c := fun e => Nat.ne_of_gt (Heap.lt_size e)
  have li1 : s.heap.objs.size ≠ i1 := by obtain ⟨_, e, _⟩ := h1; exact lt e
  have li2 : s.heap.objs.size ≠ i2 := by obtain ⟨_, e, _⟩ := h2; exact lt e
  rcases hz with hz | ⟨T, f, oT, hz, hT, t1, t2, t3⟩
  · refine wpAny_pyNext_zip_item D hz hTI hTO h1 h2 hl1 hl2 hx hy fun h' a1 a2 a3 a4 a5 a6 hk => ?_
    refine hQ h' ⟨.inr ⟨_, false, _, a1, a5, lt hz, li1, li2⟩, hk _ _ D.TIz D.TITO D.TIi1 D.TIi2 hTI, ⟨_, _, a2⟩, a3, a4, hl1.at fun o e => hk _ o D.l1z D.l1TO D.l1i1 D.l1i2 e, hl2.at fun o e => hk _ o D.l2z D.l2TO D.l2i1 D.l2i2 e⟩ a5 (by omega) hk
  · have hTy : s.TypeIs (.ref z) "zip" := ⟨_, hz, rfl⟩
    unfold pyNext
    refine wpAny_bind (wpAny_attempt (wpAny_callSpecial?_slot (name := Str.ofString "__next__") hTy F.slot_zip_next
      (wpAny_call_entry F.slot_zip_next hTy F.entry_zip_next
        (zipB_next_item D hz hT hTI h1 h2 hl1 hl2 hx hy fun h' a1 a3 a4 a5 a6 hk => wpAny_pure ?_) (F.args_zip_next_1 _))))
    exact hQ h' ⟨.inr ⟨T, true, oT, a1, hk _ _ t1 t2 t3 hT, t1, t2, t3⟩, hk _ _ D.TIz D.TIi1 D.TIi2 hTI, ⟨_, _, hk _ _ D.TOz D.TOi1 D.TOi2 hTO⟩, a3, a4, hl1.at fun o e => hk _ o D.l1z D.l1i1 D.l1i2 e, hl2.at fun o e => hk _ o D.l2z D.l2i1 D.l2i2 e⟩ a5 (by omega) fun c o c1 _ c3 c4 e => hk c o c1 c3 c4 e
theorem zst_end {z TI TO i1 i2 l1 l2 : Addr} {i : Nat} {xs ys : Array Value} {Q : Option Value → Shared → Prop} (hh : A.handled = none) (D : ZipApart z TI TO i1 i2 l1 l2) (h : ZSt s.heap z TI TO i1 i2 l1 l2 xs ys i) (hx : xs[i]? = none)
    (hQ : ∀ h', (∀ c o, c ≠ z → c ≠ TO → c ≠ i1 → c ≠ i2 → s.heap.get? c = some o → h'.get? c = some o) → Q none { s with heap := h' }) :
    wpAny (model prog w) A (pyNext (.ref z)) Q E s := by
  obtain ⟨hz, hTI, ⟨a, b, hTO⟩, h1, h2, hl1, hl2⟩ := h
  rcases hz with hz | ⟨T, f, oT, hz, hT, t1, t2, t3⟩
  · exact wpAny_pyNext_zip_end hh D hz hTI hTO h1 h2 hl1 hl2 (.inl hx) hQ
  · have hTy : s.TypeIs (.ref z) "zip" := ⟨_, hz, rfl⟩
    unfold pyNext
    refine wpAny_bind (wpAny_attempt (wpAny_callSpecial?_slot (name := Str.ofString "__next__") hTy F.slot_zip_next
      (wpAny_call_entry F.slot_zip_next hTy F.entry_zip_next (zipB_next_end hh D hz hT hTI h1 hl1 hx fun h' e hk he => ?_) (F.args_zip_next_1 _))))
    obtain ⟨o, ho, hc⟩ := he
    refine wpAny_bind (wpAny_isInstance (T := "StopIteration") (b := true) ⟨o, ho, hc⟩ isSubtype_stop ?_)
    exact wpAny_pure (hQ _ fun c o c1 _ c3 _ e => hk c o c1 c3 e)
/-- the pairs handed out, at as, above S -/
structure ZG (h : Heap) (S : Addr) (xs ys : Array Value) (as : List Addr) : Prop where
  above : ∀ t ∈ as, S < t ∧ t < h.objs.size
  rise : as.Pairwise (· < ·)
  pairs : ∀ (j : Nat) (t : Addr), as[j]? = some t → ∃ x y, xs[j]? = some x ∧ ys[j]? = some y ∧ IsPair h t x y
theorem zip_loop {z TI TO i1 i2 l1 l2 S : Addr} {xs ys : Array Value} {n : Nat} {R : Result → Shared → Prop} (hh : A.in1.handled = none) (D : ZipApart z TI TO i1 i2 l1 l2) (hx : xs.size = n) (hy : ys.size = n) (hn : n ≤ sizeLine)
    (s1 : S ≠ z) (s2 : S ≠ TI) (s3 : S ≠ TO) (s4 : S ≠ i1) (s5 : S ≠ i2) (s6 : S ≠ l1) (s7 : S ≠ l2) (zS : z < S) (TOS : TO < S) (i1S : i1 < S) (i2S : i2 < S) :
    ∀ (k i : Nat) (s : Shared) (acc : Array Value) (c : Nat) (as : List Addr), n - i = k → i ≤ n → ZSt s.heap z TI TO i1 i2 l1 l2 xs ys i → s.heap.get? S = some { cls := .type "list", dict := none, data := .seq acc c, slots := #[] } → ZG s.heap S xs ys as → as.length = i → acc.toList = as.map Value.ref →
    (∀ h' acc' c' as', (∀ b o, b ≠ S → b ≠ z → b ≠ TO → b ≠ i1 → b ≠ i2 → s.heap.get? b = some o → h'.get? b = some o) → h'.get? S = some { cls := .type "list", dict := none, data := .seq acc' c', slots := #[] } → ZG h' S xs ys as' → as'.length = n → acc'.toList = as'.map Value.ref → R (.ok (.ret .none)) { s with heap := h' }) →
    codeAny (model prog w) A (.builtin "list.extend.loop" ⟨[.ref S, .ref z, .none], []⟩) R s := by
  intro k
  induction k with
  | zero =>
    intro i s acc c as hk hi hst hS hG hl ha hR
    have hin : i = n := by omega
    subst hin
    refine codeAny_builtin F.entry_extend_loop ?_
    rw [Around.under_plainId F.plain_extend_loop _]
    show wpAny _ A.in1 (pyNext (.ref z) >>= _) _ _ s
    refine wpAny_bind (zst_end hh D hst (Array.getElem?_eq_none (by omega)) fun h' hm => ?_)
    refine wpAny_pure (hR h' acc c as (fun b o _ b1 b2 b3 b4 e => hm b o b1 b2 b3 b4 e) (hm _ _ s1 s3 s4 s5 hS) ⟨fun t ht => ⟨(hG.above t ht).1, ?_⟩, hG.rise, fun j t hj => ?_⟩ hl ha)
    · have tm := hG.above t ht
      obtain ⟨j, hj⟩ := List.mem_iff_getElem?.mp ht
      obtain ⟨x, y, e1, e2, e3⟩ := hG.pairs j t hj
      exact Heap.lt_size (hm _ _ (Nat.ne_of_gt (Nat.lt_trans zS tm.1)) (Nat.ne_of_gt (Nat.lt_trans TOS tm.1)) (Nat.ne_of_gt (Nat.lt_trans i1S tm.1)) (Nat.ne_of_gt (Nat.lt_trans i2S tm.1)) e3)
    · obtain ⟨x, y, e1, e2, e3⟩ := hG.pairs j t hj
      have tm := hG.above t (List.mem_of_getElem? hj)
      exact ⟨x, y, e1, e2, hm _ _ (Nat.ne_of_gt (Nat.lt_trans zS tm.1)) (Nat.ne_of_gt (Nat.lt_trans TOS tm.1)) (Nat.ne_of_gt (Nat.lt_trans i1S tm.1)) (Nat.ne_of_gt (Nat.lt_trans i2S tm.1)) e3⟩
  | succ k ih =>
    intro i s acc c as hk hi hst hS hG hl ha hR
    have hlt : i < n := by omega
    have ex : xs[i]? = some xs[i] := Array.getElem?_eq_getElem (by omega)
    have ey : ys[i]? = some ys[i] := Array.getElem?_eq_getElem (by omega)
    refine codeAny_builtin F.entry_extend_loop ?_
    rw [Around.under_plainId F.plain_extend_loop _]
    show wpAny _ A.in1 (pyNext (.ref z) >>= _) _ _ s
    refine wpAny_bind (zst_item D hst ex ey fun h' hst' hp hsz hm => ?_)
    have hS' := hm S _ s1 s3 s4 s5 hS
    have asz : acc.size = i := by
      have e := congrArg List.length ha
      rw [List.length_map, Array.length_toList] at e
      omega
    have Ssz := Heap.lt_size hS
    show wpAny _ A.in1 (updateSeq S (·.push (.ref s.heap.objs.size)) >>= _) _ _ _
    refine wpAny_bind ?_
    have oth : ∀ b o, b ≠ S → h'.get? b = some o → (h'.update S (Obj.mapSeq (·.push (Value.ref s.heap.objs.size)))).get? b = some o := fun b o hb e => (Heap.get?_update_other _ _ (Ne.symm hb)).trans e
    have usz : (h'.update S (Obj.mapSeq (·.push (Value.ref s.heap.objs.size)))).objs.size = h'.objs.size := by
      first
      | exact Heap.size_update ..
      | simp [Heap.update]
    refine wpAny_updateSeq hS' rfl (wpAny_pure ⟨plainId_quiet F.plain_extend_loop _, ih (i + 1) _ (acc.push (.ref s.heap.objs.size)) _ (as ++ [s.heap.objs.size]) (by omega) hlt ?_ (Heap.get?_update_self _ hS' rfl) ⟨?_, ?_, ?_⟩ (by rw [List.length_append, hl]; rfl) (by simp [ha]) fun h'' acc'' c'' as'' hm'' hS'' hG'' hl'' ha'' => ?_⟩)
      (by rw [asz]; omega) (by show (acc.push _).size ≤ sizeLine + 1; rw [Array.size_push, asz]; omega)
    · obtain ⟨hz, hTI, ⟨a, b, hTO⟩, h1, h2, hl1, hl2⟩ := hst'
      refine ⟨?_, oth _ _ s2.symm hTI, ⟨a, b, oth _ _ s3.symm hTO⟩, h1.at fun o e => oth _ o s4.symm e, h2.at fun o e => oth _ o s5.symm e, hl1.at fun o e => oth _ o s6.symm e, hl2.at fun o e => oth _ o s7.symm e⟩
      rcases hz with hz | ⟨T, f, oT, hz, hT, t1, t2, t3⟩
      · exact .inl (oth _ _ s1.symm hz)
      · by_cases hTS : T = S
        · subst hTS
          exact .inr ⟨T, f, _, oth _ _ s1.symm hz, Heap.get?_update_self _ hS' rfl, t1, t2, t3⟩
        · exact .inr ⟨T, f, oT, oth _ _ s1.symm hz, oth _ _ hTS hT, t1, t2, t3⟩
    · intro t ht
      rw [usz]
      rcases List.mem_append.mp ht with ht | ht
      · have := hG.above t ht
        exact ⟨this.1, Nat.lt_trans this.2 hsz⟩
      · rw [List.mem_singleton.mp ht]
        exact ⟨Ssz, hsz⟩
    · refine List.pairwise_append.mpr ⟨hG.rise, List.pairwise_singleton _ _, fun a ha b hb => ?_⟩
      rw [List.mem_singleton.mp hb]
      exact (hG.above a ha).2
    · intro j t hj
      by_cases hji : j < i
      · rw [List.getElem?_append_left (by omega)] at hj
        obtain ⟨x, y, e1, e2, e3⟩ := hG.pairs j t hj
        have tm := hG.above t (List.mem_of_getElem? hj)
        exact ⟨x, y, e1, e2, oth _ _ (Nat.ne_of_gt tm.1) (hm _ _ (Nat.ne_of_gt (Nat.lt_trans zS tm.1)) (Nat.ne_of_gt (Nat.lt_trans TOS tm.1)) (Nat.ne_of_gt (Nat.lt_trans i1S tm.1)) (Nat.ne_of_gt (Nat.lt_trans i2S tm.1)) e3)⟩
      · have hj0 := (List.getElem?_eq_some_iff.mp hj).1
        rw [List.length_append, hl] at hj0
        have hj1 : j = i := by
          have : [s.heap.objs.size].length = 1 := rfl
          omega
        subst hj1
        rw [List.getElem?_append_right (by omega), hl, Nat.sub_self] at hj
        obtain rfl : s.heap.objs.size = t := Option.some.inj hj
        exact ⟨_, _, ex, ey, oth _ _ (Nat.ne_of_gt Ssz) hp⟩
    · exact hR h'' acc'' c'' as'' (fun b o b0 b1 b2 b3 b4 e => hm'' b o b0 b1 b2 b3 b4 (oth b o b0 (hm b o b1 b2 b3 b4 e))) hS'' hG'' hl'' ha''
theorem zip_no_len : typeLookup (.type "zip") "__len__" = pure none := by rw [typeLookup_type, builtinLookup_eq_fast]; kernel_rfl
theorem zip_no_hint : typeLookup (.type "zip") "__length_hint__" = pure none := by rw [typeLookup_type, builtinLookup_eq_fast]; kernel_rfl
theorem ZSt.at {h h' : Heap} {z TI TO i1 i2 l1 l2 S : Addr} {xs ys : Array Value} (hz : ZSt h z TI TO i1 i2 l1 l2 xs ys 0) (h0 : IsZip h z TI TO .none) (s1 : S ≠ z) (s2 : S ≠ TI) (s3 : S ≠ TO) (s4 : S ≠ i1) (s5 : S ≠ i2) (s6 : S ≠ l1) (s7 : S ≠ l2)
    (oth : ∀ b o, b ≠ S → h.get? b = some o → h'.get? b = some o) : ZSt h' z TI TO i1 i2 l1 l2 xs ys 0 ∧ IsZip h' z TI TO .none := by
  obtain ⟨_, hTI, ⟨a, b, hTO⟩, h1, h2, hl1, hl2⟩ := hz
  have hz' := oth _ _ s1.symm h0
  exact ⟨⟨.inl hz', oth _ _ s2.symm hTI, ⟨a, b, oth _ _ s3.symm hTO⟩, h1.at fun o e => oth _ o s4.symm e, h2.at fun o e => oth _ o s5.symm e, hl1.at fun o e => oth _ o s6.symm e, hl2.at fun o e => oth _ o s7.symm e⟩, hz'⟩
theorem extend_zip {z TI TO i1 i2 l1 l2 S : Addr} {xs ys : Array Value} {n c₀ : Nat} {R : Result → Shared → Prop} {s : Shared} (hh : A.in1.handled = none) (D : ZipApart z TI TO i1 i2 l1 l2) (hx : xs.size = n) (hy : ys.size = n) (hn : n ≤ sizeLine)
    (s1 : S ≠ z) (s2 : S ≠ TI) (s3 : S ≠ TO) (s4 : S ≠ i1) (s5 : S ≠ i2) (s6 : S ≠ l1) (s7 : S ≠ l2) (zS : z < S) (TOS : TO < S) (i1S : i1 < S) (i2S : i2 < S)
    (hst : ZSt s.heap z TI TO i1 i2 l1 l2 xs ys 0) (h0 : IsZip s.heap z TI TO .none) (hS : s.heap.get? S = some { cls := .type "list", dict := none, data := .seq #[] c₀, slots := #[] })
    (hR : ∀ h' acc' c' as', (∀ b o, b ≠ S → b ≠ z → b ≠ TO → b ≠ i1 → b ≠ i2 → s.heap.get? b = some o → h'.get? b = some o) → h'.get? S = some { cls := .type "list", dict := none, data := .seq acc' c', slots := #[] } → ZG h' S xs ys as' → as'.length = n → acc'.toList = as'.map Value.ref → R (.ok (.ret .none)) { s with heap := h' }) :
    wpAny (model prog w) A.in1 (Builtin.List.listExtendWith (.ref S) (.ref z) .none)
      (fun fin s' => match fin with | .done f => R (.ok f) s' | .again c' => c'.quiet = true ∧ codeAny (model prog w) A c' R s') (fun e s' => R (.error e) s') s := by
  have hT : s.TypeIs (.ref z) "zip" := ⟨_, h0, rfl⟩
  unfold Builtin.List.listExtendWith
  refine wpAny_bind (wpAny_typeOf hT ?_)
  have h1 : Builtin.List.listSameRef (.ref S) (.ref z) = false := by simp [Builtin.List.listSameRef, s1]
  have h2 : (Value.type "zip" == Value.type "list") = false := by decide
  have h3 : (Value.type "zip" == Value.type "tuple") = false := by decide
  simp only [h1, h2, h3, Bool.or_false, Bool.false_eq_true, if_false]
  refine wpAny_bind (wpAny_pyIter_zip h0 ?_)
  refine wpAny_bind (wpAny_holding ?_)
  unfold Builtin.List.listLengthHint
  refine wpAny_bind (wpAny_specialOf hT zip_no_len ?_)
  show wpAny _ A.in1 (specialOf (Value.ref z) (Str.ofString "__length_hint__") >>= _) _ _ _
  refine wpAny_bind (wpAny_specialOf hT zip_no_hint ?_)
  refine wpAny_pure ?_
  show wpAny _ A.in1 (rule "list.extend.makes-room" >>= fun _ => Builtin.List.listTouch (.ref S) >>= fun _ =>
    again (.builtin "list.extend.loop" ⟨[.ref S, .ref z, .none], []⟩)) _ _ _
  refine wpAny_bind (wpAny_rule ?_)
  refine wpAny_bind ?_
  show wpAny _ A.in1 (updateSeq S (·.push .none) >>= fun _ => updateSeq S (·.pop)) _ _ _
  refine wpAny_bind (wpAny_updateSeq hS rfl ?_)
  have hS₂ := Heap.get?_update_self (Obj.mapSeq (·.push Value.none)) hS rfl
  refine wpAny_updateSeq (hz := by seq_fits) hS₂ rfl ?_
  have hS₃ := Heap.get?_update_self (Obj.mapSeq (·.pop)) hS₂ rfl
  have oth : ∀ b o, b ≠ S → s.heap.get? b = some o → ((s.heap.update S (Obj.mapSeq (·.push Value.none))).update S (Obj.mapSeq (·.pop))).get? b = some o :=
    fun b o hb e => (Heap.get?_update_other _ _ (Ne.symm hb)).trans ((Heap.get?_update_other _ _ (Ne.symm hb)).trans e)
  obtain ⟨hst', h0'⟩ := hst.at h0 s1 s2 s3 s4 s5 s6 s7 oth
  refine wpAny_pure ⟨plainId_quiet F.plain_extend_loop _, zip_loop hh D hx hy hn s1 s2 s3 s4 s5 s6 s7 zS TOS i1S i2S n 0 _ _ _ [] rfl (Nat.zero_le _) hst' hS₃ ⟨fun t ht => (nomatch ht), .nil, fun j t hj => by simp at hj⟩ rfl rfl fun h' acc' c' as' hm hS' hG hl ha => ?_⟩
  exact hR h' acc' c' as' (fun b o b0 b1 b2 b3 b4 e => hm b o b0 b1 b2 b3 b4 (oth b o b0 e)) hS' hG hl ha
theorem call_list_zip {z TI TO i1 i2 l1 l2 : Addr} {xs ys : Array Value} {n : Nat} {Q : Value → Shared → Prop} {s : Shared} (hh : A.handled = none) (D : ZipApart z TI TO i1 i2 l1 l2) (hx : xs.size = n) (hy : ys.size = n) (hn : n ≤ sizeLine)
    (hst : ZSt s.heap z TI TO i1 i2 l1 l2 xs ys 0) (h0 : IsZip s.heap z TI TO .none)
    (hQ : ∀ h' acc' c' as', (∀ b o, b ≠ z → b ≠ TO → b ≠ i1 → b ≠ i2 → s.heap.get? b = some o → h'.get? b = some o) → h'.get? s.heap.objs.size = some { cls := .type "list", dict := none, data := .seq acc' c', slots := #[] } → ZG h' s.heap.objs.size xs ys as' → as'.length = n → acc'.toList = as'.map Value.ref → Q (.ref s.heap.objs.size) { s with heap := h' }) :
    wpAny (model prog w) A (call (.type "list") [.ref z]) Q E s := by
  have lt : ∀ {c o}, s.heap.get? c = some o → c < s.heap.objs.size := fun e => Heap.lt_size e
  have hst0 := hst
  obtain ⟨_, hTI, ⟨a, b, hTO⟩, h1, h2, hl1, hl2⟩ := hst0
  have z1 := lt h0
  have z2 := lt hTI
  have z3 := lt hTO
  have z4 : i1 < s.heap.objs.size := by obtain ⟨_, e, _⟩ := h1; exact lt e
  have z5 : i2 < s.heap.objs.size := by obtain ⟨_, e, _⟩ := h2; exact lt e
  have z6 : l1 < s.heap.objs.size := by obtain ⟨_, e, _⟩ := hl1; exact lt e
  have z7 : l2 < s.heap.objs.size := by obtain ⟨_, e, _⟩ := hl2; exact lt e
  refine callType_codes (Q₁ := fun obj s₁ => obj = .ref s.heap.objs.size ∧ s₁ = { s with heap := s.heap.push { cls := .type "list", data := .seq #[] } }) F.called_list (F.typeCall_list_1 _) F.entry_list_init
    (code_list_new _ ⟨rfl, rfl⟩) fun obj s₁ h₁ => ?_
  obtain ⟨rfl, rfl⟩ := h₁
  have hS : (s.heap.push { cls := .type "list", data := .seq #[] }).get? s.heap.objs.size = some { cls := .type "list", data := .seq #[] } := Heap.get?_push_size _ rfl
  refine ⟨⟨_, hS, rfl⟩, F.args_list_init_2 _ _, ?_⟩
  show wpAny _ A.in1.in1 (do let old ← Builtin.List.listItems (.ref s.heap.objs.size); Builtin.List.listUpdate (.ref s.heap.objs.size) (fun _ => #[]); letGo old.toList.reverse; Builtin.List.listExtendWith (.ref s.heap.objs.size) (.ref z) .none) _ _ _
  refine wpAny_bind ?_
  unfold Builtin.List.listItems
  refine wpAny_bind (wpAny_seqItems hS rfl (wpAny_pure ?_))
  show wpAny _ A.in1.in1 (updateSeq s.heap.objs.size (fun _ => #[]) >>= fun _ => letGo (#[] : Array Value).toList.reverse >>= fun _ => Builtin.List.listExtendWith (.ref s.heap.objs.size) (.ref z) .none) _ _ _
  refine wpAny_bind (wpAny_updateSeq hS rfl ?_)
  have hS₂ := Heap.get?_update_self (Obj.mapSeq (fun _ => (#[] : Array Value))) hS rfl
  have oth : ∀ b o, b ≠ s.heap.objs.size → s.heap.get? b = some o → ((s.heap.push { cls := .type "list", data := .seq #[] }).update s.heap.objs.size (Obj.mapSeq (fun _ => (#[] : Array Value)))).get? b = some o :=
    fun b o hb e => (Heap.get?_update_other _ _ (Ne.symm hb)).trans (Heap.get?_push_of_some _ e)
  refine wpAny_bind (wpAny_letGo ?_)
  obtain ⟨hst', h0'⟩ := hst.at h0 (Nat.ne_of_gt z1) (Nat.ne_of_gt z2) (Nat.ne_of_gt z3) (Nat.ne_of_gt z4) (Nat.ne_of_gt z5) (Nat.ne_of_gt z6) (Nat.ne_of_gt z7) oth
  refine extend_zip (A := A.in1) (R := wants (fun r s₂ => r = .none ∧ Q (.ref s.heap.objs.size) s₂) E) hh D hx hy hn (Nat.ne_of_gt z1) (Nat.ne_of_gt z2) (Nat.ne_of_gt z3) (Nat.ne_of_gt z4) (Nat.ne_of_gt z5) (Nat.ne_of_gt z6) (Nat.ne_of_gt z7) z1 z3 z4 z5 hst' h0' hS₂ fun h' acc' c' as' hm hS' hG hl ha => ?_
  exact ⟨rfl, hQ h' acc' c' as' (fun b o b1 b2 b3 b4 e => hm b o (Nat.ne_of_lt (Heap.lt_size e)) b1 b2 b3 b4 (oth b o (Nat.ne_of_lt (Heap.lt_size e)) e)) hS' hG hl ha⟩
end
/-! the rule -/
def putZ : Hp → List Addr → List (V × V) → Hp
  | H, a :: as, p :: ps => putZ (upd H a (.tup [p.1, p.2])) as ps
  | H, _, _ => H
theorem putZ_off {b : Addr} : ∀ (as : List Addr) (ps : List (V × V)) (H : Hp), b ∉ as → putZ H as ps b = H b
  | [], _, _, _ => rfl
  | _ :: _, [], _, _ => rfl
  | a :: as, p :: ps, H, h => by
    show putZ (upd H a (.tup [p.1, p.2])) as ps b = H b
    rw [putZ_off as ps _ (fun z => h (List.mem_cons_of_mem _ z)), upd_ne (fun z => h (by rw [z]; exact List.mem_cons_self))]
theorem putZ_at : ∀ (as : List Addr) (ps : List (V × V)) (H : Hp), as.length = ps.length → as.Nodup → Paired (fun (t : Addr) (p : V × V) => putZ H as ps t = some (.tup [p.1, p.2])) as ps
  | [], [], _, _, _ => .nil
  | [], _ :: _, _, h, _ => by cases h
  | _ :: _, [], _, h, _ => by cases h
  | a :: as, p :: ps, H, h, hn => by
    have hn' := List.nodup_cons.mp hn
    have ih := putZ_at as ps (upd H a (.tup [p.1, p.2])) (Nat.succ.inj h) hn'.2
    refine .cons ?_ ih
    show putZ (upd H a (.tup [p.1, p.2])) as ps a = some (.tup [p.1, p.2])
    rw [putZ_off as ps _ hn'.1, upd_same]
theorem valsAt : ∀ {xs : List V} {its : List Value}, Vals xs its → ∀ {i : Nat} {u : Value}, its[i]? = some u → ∃ x, xs[i]? = some x ∧ RelV x u
  | _, _, .nil, i, u, h => by cases h
  | _, _, .cons r t, 0, u, h => by
    obtain rfl := Option.some.inj h
    exact ⟨_, rfl, r⟩
  | _, _, .cons r t, i + 1, u, h => valsAt t h
def tLZip (K : PySem.W.Frag) (ta : TA) : TE := fun σ H Q => ta σ H fun vs H1 => ∃ a b xs ys, vs = [.ref a, .ref b] ∧ SqL K H1 a xs ∧ SqL K H1 b ys ∧ xs.length = ys.length ∧
  ∀ (H' : Hp) (p : Addr) (ts : List Addr), Same H1 H' → H' p = some (.lst (ts.map V.ref)) → Paired (fun (t : Addr) (q : V × V) => H' t = some (.tup [q.1, q.2])) ts (xs.zip ys) → Q (.ref p) H'
section
variable {X : Cx}
theorem zip_laid {pins : List (Addr × Obj)} {σ : L2.St} {H : Hp} {s : Shared} {h' : Heap} {tk : Nat} {S c : Addr} {xs ys : List V} {us ws : List Value} {acc : Array Value} {as : List Addr} (I : Inv X pins σ H s) (rx : Vals xs us) (ry : Vals ys ws) (hl : xs.length = ys.length) (hz : xs.length ≤ sizeLine)
    (hk : ∀ b o, s.heap.get? b = some o → h'.get? b = some o) (hS0 : s.heap.objs.size ≤ S) (hS : h'.get? S = some { cls := .type "list", dict := none, data := .seq acc c, slots := #[] }) (hla : as.length = xs.length) (hG : ZG h' S us.toArray ws.toArray as) (hacc : acc.toList = as.map Value.ref) :
    ∃ H' : Hp, Same H H' ∧ H' S = some (.lst (as.map V.ref)) ∧ Paired (fun (t : Addr) (q : V × V) => H' t = some (.tup [q.1, q.2])) as (xs.zip ys) ∧ Inv X pins σ H' { s with heap := h', toks := tk } := by
  have hSn : S ∉ as := fun z => Nat.lt_irrefl _ (hG.above _ z).1
  have nd : as.Nodup := List.Pairwise.imp (fun {a b} (h : a < b) => Nat.ne_of_lt h) hG.rise
  have new : ∀ t ∈ as, H t = none := fun t ht => I.hok.fresh (Nat.le_trans hS0 (Nat.le_of_lt (hG.above t ht).1))
  have newS : H S = none := I.hok.fresh hS0
  have zl : (xs.zip ys).length = xs.length := by rw [List.length_zip, ← hl, Nat.min_self]
  have atP := putZ_at as (xs.zip ys) (upd H S (.lst (as.map V.ref))) (by omega) nd
  have off : ∀ b, b ∉ as → b ≠ S → putZ (upd H S (.lst (as.map V.ref))) as (xs.zip ys) b = H b := fun b h1 h2 => by rw [putZ_off as _ _ h1, upd_ne h2]
  have low : ∀ b o, s.heap.get? b = some o → b ∉ as ∧ b ≠ S := fun b o e => ⟨fun z => absurd (Heap.lt_size e) (Nat.not_lt.mpr (Nat.le_trans hS0 (Nat.le_of_lt (hG.above b z).1))), Nat.ne_of_lt (Nat.lt_of_lt_of_le (Heap.lt_size e) hS0)⟩
  have kp : ∀ b u, H b = some u → (putZ (upd H S (.lst (as.map V.ref))) as (xs.zip ys)) b = some u := fun b u e => by
    rw [off b (fun z => by rw [new b z] at e; cases e) (fun z => by rw [z, newS] at e; cases e)]
    exact e
  have eS : putZ (upd H S (.lst (as.map V.ref))) as (xs.zip ys) S = some (.lst (as.map V.ref)) := by rw [putZ_off as _ _ hSn, upd_same]
  refine ⟨putZ (upd H S (.lst (as.map V.ref))) as (xs.zip ys), kp, eS, atP, ?_⟩
  refine I.call' (ch := []) rfl ⟨fun b o q _ _ _ => hk b o q, fun b o q _ _ _ => ⟨o.slots, hk b o q⟩, fun b o q n _ => ?_, fun b o q _ => ⟨o, hk b o q⟩, fun b xs q => kp b _ q, fun b o u q => kp b _ q, fun b ps q => ⟨#[], by rw [kp b _ q]; simp⟩⟩ (fun b u q => ?_) I.bare fun b z => by simp at z
  · obtain ⟨z1, z2⟩ := low b o q
    rw [off b z1 z2]
    exact n
  · by_cases hb : b ∈ as
    · obtain ⟨j, pk, e1, e2, e3⟩ := LiI.paired_ix atP hb
      rw [e3] at q
      cases q
      obtain ⟨x, y, f1, f2, f3⟩ := hG.pairs j b e1
      obtain ⟨vx, g1, g2⟩ := valsAt rx (show us[j]? = some x by simpa using f1)
      obtain ⟨vy, g3, g4⟩ := valsAt ry (show ws[j]? = some y by simpa using f2)
      have ez : (xs.zip ys)[j]? = some (vx, vy) := by
        rw [List.getElem?_zip_eq_some]
        exact ⟨g1, g3⟩
      obtain rfl : (vx, vy) = pk := Option.some.inj (ez.symm.trans e2)
      exact ⟨by show 2 ≤ sizeLine; decide, [x, y], .cons g2 (.cons g4 .nil), ⟨_, f3, rfl, _, rfl⟩⟩
    · by_cases hb2 : b = S
      · rw [hb2] at q ⊢
        rw [eS] at q
        cases q
        refine ⟨by rw [List.length_map]; omega, acc.toList, c, by rw [hacc]; exact LiI.vals_refs as, ?_⟩
        rw [Array.toArray_toList]
        exact hS
      · rw [off b hb hb2] at q
        exact (I.hok b u q).stay (fun d v _ y => hk d v y) (fun d y => kp d _ y) fun d xs y => kp d _ y
/-- list(zip(x, y)), two lists of one length -/
theorem pe_lzip {e e2 : Expr} {ta : TA} {p p2 pos pos2 : Pos} (hc : X.calm = true) (hg : Gl X "list") (hm : X.mg "list" = none) (hg2 : Gl X "zip") (hm2 : X.mg "zip" = none) (ha : PA X [e, e2] ta)
    (na : starEach [.Call (.Name "zip" p2) [e, e2] [] pos2] X.env = (false, eval (.Call (.Name "zip" p2) [e, e2] [] pos2) X.env) :: starEach [] X.env := by rfl)
    (hs : starEach [e, e2] X.env = (false, eval e X.env) :: starEach [e2] X.env := by rfl) (hpl : (backTo pos2 (starEach [e2] X.env)).any (·.1) = false := by rfl) :
    PE X (.Call (.Name "list" p) [.Call (.Name "zip" p2) [e, e2] [] pos2] [] pos) (tLZip X.K ta) := by
  refine ⟨fun pins s σ H Q I h => ?_⟩
  refine Call_ (ld_blt I hg hm boot_list (PyProof.Rows.callWith_type1 (args_cons ?_ na) na))
  refine Call_ (ld_blt I hg2 hm2 PyProof.Rows.boot_zip (PyProof.Rows.callWith_type1 (thn (ha.run pos2 pins s σ H _ I h) fun us s1 ⟨vs, H1, I1, r1, q1⟩ => ?_) hs hpl))
  obtain ⟨a, b, xs, ys, ex, hqx, hqy, hl, q⟩ := q1
  subst ex
  cases r1 with
  | cons r rr =>
    cases rr with
    | cons r' rr =>
      cases rr
      cases r
      cases r'
      obtain ⟨its, rv, p1, z1⟩ := I1.list hqx
      obtain ⟨its2, rv2, p2, z2⟩ := I1.list hqy
      have la : a < s1.heap.objs.size := p1.lt
      have lb : b < s1.heap.objs.size := p2.lt
      refine call_zip_2 p1.isList p2.isList fun h' hz hTI hTO h1 h2 hsz hk => args_nil ?_
      have hst : ZSt h' (s1.heap.objs.size + 4) (s1.heap.objs.size + 2) (s1.heap.objs.size + 3) s1.heap.objs.size (s1.heap.objs.size + 1) a b its.toArray its2.toArray 0 := ⟨.inl hz, hTI, ⟨_, _, hTO⟩, h1, h2, p1.isList.at fun o e => hk _ o e, p2.isList.at fun o e => hk _ o e⟩
      have e1 := rv.length
      have e2 := rv2.length
      refine call_list_zip (s := { s1 with heap := h' }) (n := xs.length) (I1.ok.hd hc) (PySem.W.ktu_apart s1.heap.objs.size a b la lb) (by simp; omega) (by simp; omega) z1 hst hz fun h'' acc c as hm hS hG hla hacc => ?_
      have ks : ∀ b o, s1.heap.get? b = some o → h''.get? b = some o := fun c o e => by
        have hlt := Heap.lt_size e
        exact hm c o (Nat.ne_of_lt (Nat.lt_of_lt_of_le hlt (Nat.le_add_right _ _))) (Nat.ne_of_lt (Nat.lt_of_lt_of_le hlt (Nat.le_add_right _ _))) (Nat.ne_of_lt hlt) (Nat.ne_of_lt (Nat.lt_of_lt_of_le hlt (Nat.le_add_right _ _))) (hk c o e)
      obtain ⟨H', k1, k2, k3, J⟩ := zip_laid (tk := s1.toks) I1 rv rv2 hl z1 ks (by show s1.heap.objs.size ≤ h'.objs.size; omega) hS hla hG hacc
      exact ⟨.ref _, H', J, rfl, q H' _ as k1 k2 k3⟩
end
end FT

/-! lots of pairs as data; type(x) of own objects -/
namespace FT
open PySem PySem.Spec PyProof.Rows L2
/-- a pair, as a tuple -/
def PrT (H : Hp) (x : V) (p : Nat × Nat) : Prop := ∃ t, x = .ref t ∧ H t = some (.tup [.int (p.1 : Int), .int (p.2 : Int)])
theorem PrT.keep {H H' : Hp} {x : V} {p : Nat × Nat} (h : PrT H x p) (s : Same H H') : PrT H' x p := by
  obtain ⟨t, e, q⟩ := h
  exact ⟨t, e, s _ _ q⟩
theorem PrT.i {H : Hp} {x : V} {p : Nat × Nat} (h : PrT H x p) : PrI H x p := by
  obtain ⟨t, e, q⟩ := h
  exact ⟨t, e, .inr q⟩
def dpr (p : Nat × Nat) : PyData := .tuple [.int (p.1 : Int), .int (p.2 : Int)]
def dprs (ps : MC.Pr) : List PyData := ps.map dpr
theorem dp_prs {K : PySem.W.Frag} {H : Hp} : ∀ {xs : List V} {ps : MC.Pr}, Paired (PrT H) xs ps → DpAll K H xs (dprs ps)
  | _, _, .nil => .nil
  | _, _, .cons ⟨t, e, h⟩ r => by
    subst e
    exact .cons (.tup (SqT.of h) (.cons (.int _) (.cons (.int _) .nil))) (dp_prs r)
theorem eqv_pr (p q : Nat × Nat) : PyData.eqv (dpr p) (dpr q) = decide (p = q) := by
  unfold dpr
  simp only [PyData.eqv, PyData.eqvAll]
  obtain ⟨a, b⟩ := p
  obtain ⟨c, d⟩ := q
  by_cases h1 : a = c <;> by_cases h2 : b = d <;> simp [h1, h2] <;> omega
theorem eqvAll_prs : ∀ ps qs : MC.Pr, PyData.eqvAll (dprs ps) (dprs qs) = decide (ps = qs)
  | [], [] => by simp [dprs, PyData.eqvAll]
  | [], q :: qs => by simp [dprs, PyData.eqvAll]
  | p :: ps, [] => by simp [dprs, PyData.eqvAll]
  | p :: ps, q :: qs => by
    have ih := eqvAll_prs ps qs
    unfold dprs at ih ⊢
    simp only [List.map_cons, PyData.eqvAll, ih, eqv_pr]
    by_cases h1 : p = q <;> by_cases h2 : ps = qs <;> simp [h1, h2]
theorem lay_prs : ∀ ps : MC.Pr, PyData.canLayAll0 (dprs ps) = true
  | [] => by simp [dprs, PyData.canLayAll0]
  | p :: ps => by
    have ih := lay_prs ps
    unfold dprs at ih ⊢
    simp only [List.map_cons, PyData.canLayAll0, ih, dpr, PyData.canLay0, Bool.and_self]
theorem depth_prs : ∀ ps : MC.Pr, PyData.depthAll (dprs ps) ≤ 1
  | [] => by simp [dprs, PyData.depthAll]
  | p :: ps => by
    have ih := depth_prs ps
    unfold dprs at ih ⊢
    simp only [List.map_cons, PyData.depthAll, dpr, PyData.depth]
    omega
theorem shaped_tps (ps : MC.Pr) : SeqAt.shaped (.tuple (dprs ps)) = true := by
  have := depth_prs ps
  unfold SeqAt.shaped
  simp only [PyData.canLay0, PyData.depth, lay_prs, Bool.true_and]
  exact decide_eq_true (by omega)
theorem shaped_lps (ps : MC.Pr) : SeqAt.shaped (.list (dprs ps)) = true := by
  have := depth_prs ps
  unfold SeqAt.shaped
  simp only [PyData.canLay0, PyData.depth, lay_prs, Bool.true_and]
  exact decide_eq_true (by omega)
theorem eqv_tps (ps qs : MC.Pr) : PyData.eqv (.tuple (dprs ps)) (.tuple (dprs qs)) = decide (ps = qs) := by
  simp only [PyData.eqv, eqvAll_prs]
theorem eqv_lps (ps qs : MC.Pr) : PyData.eqv (.list (dprs ps)) (.list (dprs qs)) = decide (ps = qs) := by
  simp only [PyData.eqv, eqvAll_prs]
section
variable {X : Cx}
/-- type(x), x an own object -/
def rTyO : List V → Hp → VK → Prop := fun xs H Q => ∃ a C dx fs, xs = [V.ref a] ∧ H a = some (.ins C dx fs) ∧ Q (.ref C) H
theorem call_typeO : CallR X (.type "type") rTyO := by
  intro pins s σ H xs us Q I r h
  obtain ⟨a, C, dx, fs, rfl, ha, q⟩ := h
  obtain ⟨u, rfl, ru⟩ := r.one
  cases (show u = Value.ref a from ru)
  obtain ⟨mA, J, _⟩ := ins_get I.hok ha
  obtain ⟨od, J, _⟩ := J.look
  exact PySem.W.kto_own J ⟨.ref C, H, I, rfl, q⟩
/-- x is x -/
theorem op_isSelf : OpR X (compareOp .Is) (fun x y H Q => ∃ a, x = .ref a ∧ y = .ref a ∧ Q (.bl true) H) := by
  intro pins s σ H x y v u Q I rx ry h
  obtain ⟨a, rfl, rfl, q⟩ := h
  cases (show v = Value.ref a from rx)
  cases (show u = Value.ref a from ry)
  exact wpAny_is_ref_self ⟨.bl true, H, I, rfl, q⟩
end
/-! texts of tuples -/
theorem joinL_leS {S : List Nat} {m : Nat} : ∀ ps : List (List Nat), (∀ p ∈ ps, p.length ≤ m) → (TL.joinL S ps).length ≤ ps.length * (m + S.length)
  | [], _ => Nat.zero_le _
  | [p], h => by
    have := h p List.mem_cons_self
    show p.length ≤ 1 * _
    omega
  | p :: q :: r, h => by
    have h1 := h p List.mem_cons_self
    have h2 := joinL_leS (S := S) (m := m) (q :: r) fun z hz => h z (List.mem_cons_of_mem _ hz)
    show (p ++ (S ++ TL.joinL S (q :: r))).length ≤ ((q :: r).length + 1) * _
    rw [List.length_append, List.length_append, Nat.succ_mul]
    omega
theorem tupleText_le {m : Nat} {ts : List Str} (h : ∀ t ∈ ts, t.length ≤ m) : (tupleText ts).length ≤ ts.length * (m + 2) + 3 := by
  unfold tupleText
  rw [strLen_append, strLen_append, TL.len_tl (Str.join ", " ts), TL.tl_join]
  have h1 := joinL_leS (S := TL.tl ", ") (m := m) (ts.map TL.tl) fun p hp => by
    obtain ⟨x, hx, rfl⟩ := List.mem_map.mp hp
    rw [← TL.len_tl]
    exact h x hx
  rw [List.length_map] at h1
  have e1 : (TL.tl ", ").length = 2 := rfl
  rw [e1] at h1
  have e2 : (("(" : Str)).length = 1 := rfl
  have e3 : Str.length (Str.ofString (if ts.length == 1 then ",)" else ")" : String)) ≤ 2 := by split <;> decide
  omega
theorem int13 {n : Nat} (h : n ≤ 13) : (Str.ofString (toString (n : Int))).length ≤ 2 := by
  have := List.all_eq_true.mp (show (List.range 14).all (fun n => decide ((Str.ofString (toString (n : Int))).length ≤ 2)) = true by decide +kernel) n (List.mem_range.mpr (by omega))
  exact of_decide_eq_true this
theorem log13' {n : Nat} (h : n ≤ 13) : ((n : Int)).natAbs.log2 < 1920 := by
  have := List.all_eq_true.mp (show (List.range 14).all (fun n => decide (((n : Int)).natAbs.log2 < 1920)) = true by decide +kernel) n (List.mem_range.mpr (by omega))
  exact of_decide_eq_true this
theorem show_pr {p : Nat × Nat} (h1 : p.1 ≤ 13) (h2 : p.2 ≤ 13) : (dpr p).shown.length ≤ 11 := by
  unfold dpr
  simp only [PyData.shown, PyData.shownAll]
  refine Nat.le_trans (tupleText_le (m := 2) fun t ht => ?_) (by show 2 * 4 + 3 ≤ 11; decide)
  rcases List.mem_cons.mp ht with rfl | ht
  · exact int13 h1
  · rw [List.mem_singleton.mp ht]
    exact int13 h2
theorem showable_prs : ∀ {ps : MC.Pr}, (∀ p ∈ ps, p.1 ≤ 13 ∧ p.2 ≤ 13) → PyData.showableAll (dprs ps) = true
  | [], _ => by simp [dprs, PyData.showableAll]
  | p :: ps, h => by
    obtain ⟨h1, h2⟩ := h p List.mem_cons_self
    have ih := showable_prs fun q hq => h q (List.mem_cons_of_mem _ hq)
    unfold dprs at ih ⊢
    simp only [List.map_cons, PyData.showableAll, ih, dpr, PyData.showable, Bool.and_true, Bool.and_eq_true, decide_eq_true_eq]
    exact ⟨log13' h1, log13' h2⟩
/-- the repr of a tuple of pairs, as a word -/
@[irreducible] def showP (ps : MC.Pr) : Str := (PyData.tuple (dprs ps)).shown
theorem rep_prs {K : PySem.W.Frag} {H : Hp} {q : Addr} {xs : List V} {ps : MC.Pr} {Q : VK} (h : H q = some (.tup xs)) (pp : Paired (PrT H) xs ps) (hb : ∀ p ∈ ps, p.1 ≤ 13 ∧ p.2 ≤ 13) (hl : ps.length ≤ 12) (k : Q (.str (showP ps)) H) : rRepr K [.ref q] H Q ∨ rReprD [.ref q] H Q := by
  unfold showP at k
  refine .inl ⟨_, .tuple (dprs ps), rfl, .tup (SqT.of h) (dp_prs pp), by simp only [PyData.showable, showable_prs hb], ?_, ?_, k⟩
  · have := depth_prs ps
    simp only [PyData.depth]
    omega
  · simp only [PyData.shown, shownAll_map]
    refine Nat.le_trans (tupleText_le (m := 11) fun t ht => ?_) ?_
    · obtain ⟨d, hd, rfl⟩ := List.mem_map.mp ht
      obtain ⟨p, hp, rfl⟩ := List.mem_map.mp hd
      exact show_pr (hb p hp).1 (hb p hp).2
    · unfold dprs
      rw [List.length_map, List.length_map]
      have : ps.length * (11 + 2) ≤ 12 * 13 := Nat.mul_le_mul_right _ hl
      have z : (200 : Nat) ≤ sizeLine := by decide
      omega
theorem showable_ints : ∀ {ns : List Nat}, (∀ n ∈ ns, n ≤ 13) → PyData.showableAll ((ns.map fun (n : Nat) => (n : Int)).map PyData.int) = true
  | [], _ => by simp [PyData.showableAll]
  | n :: ns, h => by
    have ih := showable_ints fun m hm => h m (List.mem_cons_of_mem _ hm)
    simp only [List.map_cons, PyData.showableAll, ih, PyData.showable, Bool.and_true, decide_eq_true_eq]
    exact log13' (h n List.mem_cons_self)
/-- the repr of a tuple of numbers -/
@[irreducible] def showN (ns : List Nat) : Str := (PyData.tuple ((ns.map fun (n : Nat) => (n : Int)).map PyData.int)).shown
theorem rep_nums {K : PySem.W.Frag} {H : Hp} {q : Addr} {ns : List Nat} {Q : VK} (h : H q = some (.tup (nv ns))) (hb : ∀ n ∈ ns, n ≤ 13) (hl : ns.length ≤ 100) (k : Q (.str (showN ns)) H) : rRepr K [.ref q] H Q ∨ rReprD [.ref q] H Q := by
  unfold showN at k
  refine .inl ⟨_, .tuple ((ns.map fun (n : Nat) => (n : Int)).map PyData.int), rfl, .tup (SqT.of h) (by rw [nv_ints]; exact dp_ints _), by simp only [PyData.showable, showable_ints hb], ?_, ?_, k⟩
  · simp only [PyData.depth, depthAll_ints]
    omega
  · simp only [PyData.shown, shownAll_map]
    refine Nat.le_trans (tupleText_le (m := 2) fun t ht => ?_) ?_
    · obtain ⟨d, hd, rfl⟩ := List.mem_map.mp ht
      obtain ⟨i, hi, rfl⟩ := List.mem_map.mp hd
      obtain ⟨n, hn, rfl⟩ := List.mem_map.mp hi
      simp only [PyData.shown]
      exact int13 (hb n hn)
    · rw [List.length_map, List.length_map, List.length_map]
      have : ns.length * (2 + 2) ≤ 100 * 4 := Nat.mul_le_mul_right _ hl
      have z : (500 : Nat) ≤ sizeLine := by decide
      omega
/-- list(x), x a list or a tuple -/
def rListOf (K : PySem.W.Frag) : List V → Hp → VK → Prop := fun xs H Q => ∃ p ys, xs = [V.ref p] ∧ (SqL K H p ys ∨ SqT K H p ys) ∧ ∀ l, H l = none → Q (.ref l) (upd H l (.lst ys))
end FT

/-! an own error caught by a name: isinstance and its fields -/
namespace FT
open PySem PySem.Spec PyProof.Rows L2
open LamX hiding takes0
/-- what isinstance asks of the class of a caught error -/
structure ExcF (K : PySem.W.Frag) (D : Addr) : Prop where
  cl : (PySem.W.clsIn K D).isSome = true
  ga : PySem.W.findIn K (.ref D) "__getattribute__" = some (some (.builtin "BaseException.__getattribute__"))
  gg : PySem.W.findIn K (.ref D) "__getattr__" = some none
  sb : PySem.W.subIn K (.ref D) (.type "BaseException") = some true
  ca : PySem.W.findIn K (.ref D) "__class__" = some (some (.builtin "object.__class__"))
  cn : PySem.W.specialIn K (.builtin "object.__class__") "__get__" = some (some (.builtin "getset_descriptor.__get__"))
  ct : PySem.W.takesIn K (.builtin "object.__class__") = some true
  cm : PySem.W.mroIn K D (.type "object") = some true
theorem inst_exc {X : Cx} {a D dd : Addr} {oe : Obj} {fs : List (Str × V)} {pins : List (Addr × Obj)} {σ : L2.St} {H : Hp} {s : Shared} (I : Inv X pins σ H s) (hget : s.heap.get? a = some oe) (hz : Zc (.ref D) (some dd) oe) (hf : ∃ vs, oe.data = .fields vs) (hd : H dd = some (.xd fs)) :
    ∃ od, PySem.W.InstAt s.heap a oe D (some od) := by
  obtain ⟨vs, hv⟩ := hf
  have hx : ObjOk X.prog X.w H s.heap dd (.xd fs) := I.hok dd _ hd
  obtain ⟨mA, hns, hr⟩ := hx
  obtain ⟨od, ho, hl⟩ := lookIn_ns hns
  refine ⟨od, hget, hz.1, ?_, ?_⟩
  · unfold PySem.W.notCls
    rw [hv] <;> rfl
  · rw [hz.2]
    exact ho
/-- isinstance(e, C), e the error that the suite holds -/
def rIsED (K : PySem.W.Frag) (D a : Addr) (cls : Value) (d : Option Addr) : List V → Hp → VK → Prop := fun xs H Q => ∃ (c : Addr) (b : Bool) (dd : Addr) (fs : List (Str × V)), xs = [.ref a, .ref c] ∧ cls = .ref D ∧ d = some dd ∧ H dd = some (.xd fs) ∧ PySem.W.kitOne K (.ref D) (.ref c) = some b ∧ Q (.bl b) H
theorem call_isED {X : Cx} {a D : Addr} {oe : Obj} {cls : Value} {d : Option Addr} {pn : List (Addr × Obj)} (C : ExcF X.K D) (hz : Zc cls d oe) (hf : ∃ vs, oe.data = .fields vs) : CallR (X.suite a ((a, oe) :: pn)) (.builtin "isinstance") (rIsED X.K D a cls d) := by
  intro pins s σ H xs us Q I r h
  obtain ⟨c, b, dd, fs, rfl, rfl, rfl, hd, e, q⟩ := h
  cases r with
  | cons rx rr =>
    cases rr with
    | cons rt rr =>
      cases rr
      cases rx
      cases rt
      obtain ⟨hget, _⟩ := I.pin (a, oe) (List.mem_append.mpr (.inl List.mem_cons_self))
      obtain ⟨od, J⟩ := inst_exc I hget hz hf hd
      exact PySem.W.kia_one (PySem.W.kitx_exc C.cl C.ga C.gg C.sb C.ca C.cn C.ct C.cm) I.kIn J e (fun z => nomatch z) fun tk => ⟨.bl b, H, I.kept (t' := tk) fun _ _ z => z, rfl, q⟩
theorem XT.excF {K : PySem.W.Frag} {mg : Str → Option Value} {x : Str} {C fI : Addr} {up : List Addr} {ns fs : List Str} (T : XT K mg x C fI up ns fs) : ExcF K C := by
  have e := T.oex
  refine ⟨?_, T.ga, T.gg, e.exC, T.ca, T.cn, T.ct, ?_⟩
  · obtain ⟨_, _, _, _, _, _, _, _, _, _, _, _, _, h⟩ := T.cls
    unfold PySem.W.clsIn
    rw [h]
    rfl
  · rw [T.mro, List.contains_cons]
    congr 1
    rw [ve_has, show PySem.HandSPX.veTail.contains (.type "object") = true by decide +kernel, Bool.or_true]
theorem XT.xfC {K : PySem.W.Frag} {mg : Str → Option Value} {x : Str} {C fI : Addr} {up : List Addr} {ns fs : List Str} (T : XT K mg x C fI up ns fs) : XfC K C := by
  have e := T.oex
  refine ⟨T.ga, T.gg, e.exC, ?_⟩
  obtain ⟨_, _, _, _, _, _, _, _, _, _, _, _, _, h⟩ := T.cls
  unfold PySem.W.hasDictIn PySem.W.clsIn
  rw [h]
  rfl
/-- told: heard = None; try: a() / except N as e: heard = e.f if isinstance(e, C) else ..; return heard -/
def TPart (C : Addr) (f : Str) : (XK → Hp → VK → Prop) → Hp → VK → Prop := fun tl H Q =>
  tl (fun cls d H' => cls = .ref C ∧ ∃ dd v fs, d = some dd ∧ H' dd = some (.xd fs) ∧ fs.lookup f = some v ∧ Q v H') H (fun _ H' => ∃ v, some (some V.non) = some (some v) ∧ Q v H')
end FT

/-! a caught error that is kept behind its suite -/
namespace FT
open PySem PySem.Spec PyProof.Rows L2
/-- an error that was raised, at a, of the class cls, its dict at d -/
def exK (a : Addr) (cls : Value) (d : Option Addr) : HO := .ext fun h => ∃ (oe : Obj) (vs : Array Value), h.get? a = some oe ∧ Zc cls d oe ∧ oe.data = .fields vs
theorem exK_ok {P : Program} {w : World} {H : Hp} {h : Heap} {a : Addr} {cls : Value} {d : Option Addr} {oe : Obj} {vs : Array Value} (e : h.get? a = some oe) (z : Zc cls d oe) (hd : oe.data = .fields vs) : ObjOk P w H h a (exK a cls d) :=
  ⟨⟨oe, vs, e, z, hd⟩, ⟨oe, e⟩, fun _ _ ⟨o, v, q, r⟩ k => ⟨o, v, k o q, r⟩⟩
theorem exK_at {P : Program} {w : World} {H : Hp} {h : Heap} {a : Addr} {cls : Value} {d : Option Addr} (x : HOk P w H h) (e : H a = some (exK a cls d)) : ∃ (oe : Obj) (vs : Array Value), h.get? a = some oe ∧ Zc cls d oe ∧ oe.data = .fields vs := (x a _ e).1
section
variable {X : Cx} {pins : List (Addr × Obj)} {σ : L2.St} {H : Hp} {s : Shared}
/-- what stands in the heap and is ours alone is told of from now on -/
theorem adopt {a : Addr} {o : HO} {vs : Array Value} {oe : Obj} (I : Inv X pins σ H s) (na : H a = none) (n0 : a ∉ X.ex → X.s_0.heap.get? a = none) (nL : a ≠ X.env.locals) (np : ∀ p ∈ X.pn ++ pins, p.1 ≠ a) (he : s.heap.get? a = some oe) (hd : oe.data = .fields vs)
    (new : ObjOk X.prog X.w (upd H a o) s.heap a o) : Inv X pins σ (upd H a o) s where
  ok := I.ok
  os := I.os
  bare := I.bare
  base :=
    { keep := I.base.keep
      slot := I.base.slot
      there := I.base.there
      free := fun b u q n hx => by
        rw [upd_ne (fun z => by rw [z] at q hx; rw [n0 hx] at q; cases q)]
        exact I.base.free b u q n hx
      tups := fun b xs q => by
        have z := I.base.tups b xs q
        rw [upd_ne (ne_of_none z na)]
        exact z
      frzs := fun b u v q => by
        have z := I.base.frzs b u v q
        rw [upd_ne (ne_of_none z na)]
        exact z
      tbls := fun b ps q => by
        obtain ⟨more, z⟩ := I.base.tbls b ps q
        exact ⟨more, by rw [upd_ne (ne_of_none z na)]; exact z⟩ }
  loc := I.loc
  cell := I.cell
  free := by
    rw [upd_ne (Ne.symm nL)]
    exact I.free
  freeC := fun x c e => by
    have nc : c ≠ a := fun z => by
      obtain ⟨v, oc, ec, dc⟩ := I.cell x c e
      rw [z, he] at ec
      cases ec
      rw [hd] at dc
      cases dc
    rw [upd_ne nc]
    exact I.freeC x c e
  pin := fun p hp => by
    obtain ⟨h1, h2, h3⟩ := I.pin p hp
    refine ⟨h1, ?_, h3⟩
    rw [upd_ne (np p hp)]
    exact h2
  hok := I.hok.laidN (fun _ _ q => q) na new
  len := I.len
theorem into_suite (I : Inv X pins σ H s) (a : Addr) : Inv (X.suite a (X.pn ++ pins)) [] σ H s where
  ok := I.ok.suite _ _
  os := I.os
  bare := I.bare
  base := I.base
  loc := I.loc
  cell := I.cell
  free := I.free
  freeC := I.freeC
  pin := fun p hp => I.pin p (by simpa using hp)
  hok := I.hok
  len := I.len
theorem out_of_suite {pn' : List (Addr × Obj)} {a : Addr} (I : Inv (X.suite a (X.pn ++ pins)) pn' σ H s) (ok : X.Ok) : Inv X pins σ H s where
  ok := ok
  os := I.os
  bare := I.bare
  base := I.base
  loc := I.loc
  cell := I.cell
  free := I.free
  freeC := I.freeC
  pin := fun p hp => I.pin p (List.mem_append_left _ hp)
  hok := I.hok
  len := I.len
end
/-- what 'except x as n' wishes where the error stays: it is told of behind the suite, too -/
def wKeep (K : PySem.W.Frag) (c : Value) (i : Nat) (ts : Addr → Value → Option Addr → TS) (Wout : WX) (D : Ends) : WX := fun cls d σ H => ∃ b, PySem.W.exmOne K cls c = some b ∧
  (b = true → ∀ a, H a = none → ts a cls d { nx := fun τ G => D.nx (τ.set i none) G, rt := D.rt, bk := fun τ G => D.bk (τ.set i none) G, ct := fun τ G => D.ct (τ.set i none) G } (σ.set i (some (.ref a))) (upd H a (exK a cls d))) ∧
  (b = false → Wout cls d σ H)
section
variable {X : Cx} {x n : Str} {c : Value} {i : Nat} {body rest : List Stmt} {st : Stmt} {np pos hpos : Pos} {tb : WX → TS} {ts : Addr → Value → Option Addr → TS} {Wout : WX}
theorem ps_try_keep (stk : X.stack = X.env :: X.outer) (frm : X.env.frame = some X.env.locals) (nd : X.N.Nodup) (at_ : X.N[i]? = some n) (knd : X.env.kindOf n = some .local) (nms : Names X x c) (tk : Takes X Wout)
    (hbody : ∀ (W : WX) (pn : List (Addr × Obj)) (xe : Value → Shared → Prop), Takes (X.tr pn xe) W → PassesOwn (model X.prog X.w) X.A X.env xe → PSs (X.tr pn xe) body (tb W))
    (hsuite : ∀ (a : Addr) (cls : Value) (d : Option Addr) (pn : List (Addr × Obj)), PSs (X.suite a pn) (st :: rest) (ts a cls d)) :
    PS X (.Try body [.ExceptHandler (some (.Name x np)) (some n) (st :: rest) hpos] [] [] pos) (fun D σ H => tb (wKeep X.K c i ts Wout D) D σ H) := by
  constructor
  intro pins s σ H D I hw
  have hX := I.ok
  have fra : X.A.frames = some (X.env :: X.outer) := by
    rw [hX.frames, stk]
  refine wpAny_Try_except (wpAny_mono ((hbody (wKeep X.K c i ts Wout D) (X.pn ++ pins) (fun e s₁ => wpAny (model X.prog X.w) X.A (noteFrame e X.env) (fun _ s₂ => wpAny (model X.prog X.w) X.A (setFlight e none) (fun _ s₃ =>
    wpAny (model X.prog X.w) X.A (handleBy e X.env [.ExceptHandler (some (.Name x np)) (some n) (st :: rest) hpos]) (SP X pins D) X.xe s₃) X.xe s₂) X.xe s₁) (fun u s' air => ?_) PassesOwn.looking).run [] s σ H D (I.toTry _) hw) (fun fl s1 hq => ?_) fun _ _ z => z)
  · obtain ⟨a, B, sI, ps', τ, G, cls, d, eu, I1, ground, up, sky, free, os, bare, b, hb, yes, no⟩ := air
    subst eu
    have I2 : Inv X pins τ G sI := I1.ofTry hX
    rw [stk] at sky
    show wpAny (model X.prog X.w) X.A (noteFrame (.ref a) X.env) _ _ _
    refine Sky.land Zc.steady fra frm sky fun h3 fly3 up3 => ?_
    have I3 : Inv X pins τ G { s' with heap := h3 } := I2.landed ground fly3.1 (up.trans up3) os bare
    obtain ⟨oe, fv, hoe, hz, hdt⟩ := fly3.there
    have notin : a ∉ frs (X.env :: X.outer) := fun hm => by
      obtain ⟨_, o', e', nf⟩ := fly3.2.2.1.mem hm
      rw [hoe] at e'
      cases e'
      exact nf _ hdt
    have offL : a ≠ X.env.locals := fun z => notin (List.mem_filterMap.mpr ⟨X.env, List.mem_cons_self, by rw [frm, z]⟩)
    have newI : sI.heap.get? a = none := by
      cases q : sI.heap.get? a with
      | none => rfl
      | some o =>
        have z := ground a o q (by rw [stk]; exact notin)
        rw [fly3.2.1] at z
        cases z
    have new0 : a ∉ X.ex → X.s_0.heap.get? a = none := fun hx => by
      cases q : X.s_0.heap.get? a with
      | none => rfl
      | some o =>
        obtain ⟨o', z⟩ := I2.base.there a o q hx
        rw [newI] at z
        cases z
    have offP : ∀ p ∈ X.pn ++ pins, p.1 ≠ a := fun p hp z => by
      have q := (I2.pin p hp).1
      rw [z, newI] at q
      cases q
    refine wpAny_handleBy_cons (codeAny_handlers_test ?_) (by intro q; cases q)
    have tyE : PySem.W.Looks (model X.prog X.w) h3 (typeOf (.ref a)) cls := fun A Q E s k q => wpAny_typeOf_ref (k _ _ hoe) (by rw [hz.1]; exact q)
    have isE := PySem.W.exm_one (M := model X.prog X.w) (I3.kIn) tyE hb
    have S3 := into_suite I3 a
    have name : ∀ {Q E : Value → Shared → Prop}, Q c { s' with heap := h3 } → wpAny (model X.prog X.w) (X.A.mark (some (.ref a))) (eval (.Name x np) X.env) Q E { s' with heap := h3 } := fun {Q E} q => by
      obtain ⟨hg, hdbg, hm | ⟨hm, hv, hnn⟩⟩ := nms
      · exact ld_glob (X := X.suite a (X.pn ++ pins)) S3 hg hm q hdbg
      · exact ld_blt (X := X.suite a (X.pn ++ pins)) S3 hg hm hv q hnn hdbg
    refine name (isE.here ?_)
    cases b with
    | false =>
      show wpAny _ X.A (handleBy (.ref a) X.env []) _ _ _
      refine wpAny_handleBy_nil ?_
      obtain ⟨_, _, _, oe', vs', T, oT, t', g1, g2, g3, g4, _⟩ := id fly3
      unfold PySem.passOn
      refine wpAny_bind (wpAny_field g1 g3 g4 ?_)
      rw [if_neg (show ¬ ((Value.ref T == Value.none) = true) from by simp)]
      have out : wpAny (model X.prog X.w) X.A (setFlight (.ref a) X.env.frame) (fun _ s4 => wpAny (model X.prog X.w) X.A (throw (.ref a) : Sem Flow) (SP X pins D) X.xe s4) X.xe { s' with heap := h3 } := by
        rw [frm]
        refine HandSPX.setFlight_upZ fly3 fun h4 held up4 => wpAny_throw (tk _ _ ⟨a, B, sI, pins, τ, G, cls, d, rfl, I2, ground, (up.trans up3).trans up4, ?_, free, os, bare, no rfl⟩)
        rw [stk]
        exact .inr (.inr held)
      first
        | exact wpAny_bind (wpAny_pure (wpAny_bind out))
        | exact wpAny_bind out
    | true =>
      refine codeAny_handlers_suite_as (HandSPX.lands_againZ fly3 fun h4 fly4 up4 => ?_)
      have I4 : Inv X pins τ G { s' with heap := h4 } := I2.landed ground fly4.1 ((up.trans up3).trans up4) os bare
      obtain ⟨oe4, vs4, g1, g2, g3⟩ := fly4.there
      have J4 : Inv X pins τ (upd G a (exK a cls d)) { s' with heap := h4 } := adopt I4 free new0 offL offP g1 g3 (exK_ok g1 g2 g3)
      refine store_ok (X := X.suite a (X.pn ++ pins)) (v := .ref a) (into_suite J4 a) nd at_ (.inl knd) rfl (fun s5 S5 => ?_) (.inr knd)
      refine wpAny_mono ((hsuite a cls d (X.pn ++ pins)).run [] s5 _ _ _ S5 (yes rfl a free)) (fun fl s6 hq => ?_) fun _ _ z => z.elim
      have last : ∀ {σ6 : L2.St} {H6 : Hp} {Q : Shared → Prop}, Inv (X.suite a (X.pn ++ pins)) [] σ6 H6 s6 → (∀ s7, Inv X pins (σ6.set i none) H6 s7 → Q s7) → wpAny (model X.prog X.w) X.A (do bindName X.env n .none; unbindBehindTheSuite X.env n hpos) (fun _ s7 => Q s7) X.xe s6 :=
        fun {σ6 H6 Q} S6 q => gone_ok (out_of_suite S6 hX) nd at_ knd q
      match fl, hq with
      | .next, ⟨σ6, H6, S6, q⟩ => exact last S6 fun s7 J => ⟨_, _, J, q⟩
      | .brk, ⟨σ6, H6, S6, q⟩ => exact last S6 fun s7 J => ⟨_, _, J, q⟩
      | .cont, ⟨σ6, H6, S6, q⟩ => exact last S6 fun s7 J => ⟨_, _, J, q⟩
      | .ret u, ⟨v6, σ6, H6, S6, r, q⟩ => exact last S6 fun s7 J => ⟨_, _, _, J, r, q⟩
  · match fl, hq with
    | .next, ⟨σ', H', J, q⟩ => exact wpAny_execs_nil ⟨σ', H', J.ofTry hX, q⟩
    | .brk, ⟨σ', H', J, q⟩ => exact ⟨σ', H', J.ofTry hX, q⟩
    | .cont, ⟨σ', H', J, q⟩ => exact ⟨σ', H', J.ofTry hX, q⟩
    | .ret u, ⟨v, σ', H', J, r, q⟩ => exact ⟨v, σ', H', J.ofTry hX, r, q⟩
end
end FT
namespace FT
open PySem PySem.Spec PyProof.Rows L2
/-- a caught error that is kept stands at a, its fields gs -/
def ExC (H : Hp) (a C : Addr) (gs : List (Str × V)) : Prop := ∃ dd, H a = some (exK a (.ref C) (some dd)) ∧ H dd = some (.xd gs)
theorem ExC.keep {H H' : Hp} {a C : Addr} {gs : List (Str × V)} (e : ExC H a C gs) (s : Same H H') : ExC H' a C gs := by
  obtain ⟨dd, h1, h2⟩ := e
  exact ⟨dd, s _ _ h1, s _ _ h2⟩
theorem exc_inst {X : Cx} {pins : List (Addr × Obj)} {σ : L2.St} {H : Hp} {s : Shared} {a C : Addr} {gs : List (Str × V)} (I : Inv X pins σ H s) (e : ExC H a C gs) :
    ∃ ox od, PySem.W.InstAt s.heap a ox C (some od) ∧ ∀ n v, gs.lookup n = some v → ∃ u, RelV v u ∧ PySem.W.lookIn n od = some (some u) := by
  obtain ⟨dd, h1, h2⟩ := e
  obtain ⟨oe, vs, ho, hz, hd⟩ := exK_at I.hok h1
  obtain ⟨mA, hns, rel⟩ := (show ObjOk X.prog X.w H s.heap dd (.xd gs) from I.hok dd _ h2)
  obtain ⟨od, hod, hl⟩ := lookIn_ns hns
  refine ⟨oe, od, ⟨ho, hz.1, ?_, ?_⟩, fun n v l => ?_⟩
  · unfold PySem.W.notCls
    rw [hd] <;> rfl
  · rw [hz.2]
    exact hod
  · obtain ⟨u, hu, ru⟩ := RelO.some_of (v := v) (o := mA n) (by rw [← l]; exact rel n)
    exact ⟨u, ru, by rw [hl, hu]⟩
/-- e.f of such an error -/
@[irreducible] def rXc (K : PySem.W.Frag) (f : Str) (x : V) (H1 : Hp) (Q : VK) : Prop := ∃ (a C : Addr) (gs : List (Str × V)) (v : V), x = .ref a ∧ XfC K C ∧ PySem.W.findIn K (.ref C) f = some none ∧ ExC H1 a C gs ∧ gs.lookup f = some v ∧ Q v H1
def tXc (K : PySem.W.Frag) (f : Str) (te : TE) : TE := fun σ H Q => te σ H fun x H1 => rXc K f x H1 Q
theorem pe_xc {X : Cx} {e : Expr} {te : TE} {pos : Pos} {n : Str} (he : PE X e te) (hb : attributeBase e n X.env (eval e X.env) = eval e X.env := by rfl) : PE X (.Attribute e n pos) (tXc X.K n te) := by
  constructor
  intro pins s σ H Q I h
  refine attr_of hb (thn (he.run pins s σ H _ I h) fun u s1 hh => ?_)
  obtain ⟨x, H1, I1, rx, hh⟩ := hh
  unfold rXc at hh
  obtain ⟨a, C, gs, v, ex, T, hno, ev, l, q⟩ := hh
  subst ex
  cases (show u = Value.ref a from rx)
  obtain ⟨ox, od, J, hl⟩ := exc_inst I1 ev
  obtain ⟨u, ru, hu⟩ := hl n v l
  exact HandSPX.exc_get I1.kIn J T.ga T.gg T.exC (PySem.W.findObj_own T.hdC hno rfl hu) (handed_of ru) ⟨v, H1, I1.tok _, ru, q⟩
section
variable {X : Cx}
/-- isinstance(error, c), isinstance(error, (c, ..)) -/
@[irreducible] def rIsiC (K : PySem.W.Frag) (mg : Str → Option Value) : List V → Hp → VK → Prop := fun xs H Q => ∃ (a C fI : Addr) (gs : List (Str × V)) (x : Str) (up : List Addr) (ns fs : List Str) (c : V) (u : Value) (b : Bool), xs = [.ref a, c] ∧ ExC H a C gs ∧ XT K mg x C fI up ns fs ∧ ClsV c u ∧ PySem.W.kitOne K (.ref C) u = some b ∧ Q (.bl b) H
@[irreducible] def rIsiTC (K : PySem.W.Frag) (mg : Str → Option Value) : List V → Hp → VK → Prop := fun xs H Q => ∃ (a C fI : Addr) (gs : List (Str × V)) (x : Str) (up : List Addr) (ns fs : List Str) (tp : Addr) (cs : List V) (us : List Value) (b : Bool), xs = [.ref a, .ref tp] ∧ ExC H a C gs ∧ XT K mg x C fI up ns fs ∧ H tp = some (.tup cs) ∧ Paired ClsV cs us ∧ PySem.W.kitAny K (.ref C) us = some b ∧ Q (.bl b) H
theorem call_isiC : CallR X (.builtin "isinstance") (rIsiC X.K X.mg) := by
  intro pins s σ H xs us Q I r h
  unfold rIsiC at h
  obtain ⟨a, C, fI, gs, x, up, ns, fs, c, u, b, ex, ev, T, k, e, q⟩ := h
  subst ex
  obtain ⟨u1, u2, rfl, r1, r2⟩ := vals2 r
  cases k.eq r2
  cases (show u1 = Value.ref a from r1)
  obtain ⟨ox, od, J, _⟩ := exc_inst I ev
  exact PySem.W.kia_one (T.kitx (ox := ox) (od := od)) I.kIn J e (fun z => nomatch z) fun tk => ⟨.bl b, H, I.tok tk, rfl, q⟩
theorem call_isiTC : CallR X (.builtin "isinstance") (rIsiTC X.K X.mg) := by
  intro pins s σ H xs us Q I r h
  unfold rIsiTC at h
  obtain ⟨a, C, fI, gs, x, up, ns, fs, tp, cs, ws, b, ex, ev, T, hT, k, e, q⟩ := h
  subst ex
  obtain ⟨u1, u2, rfl, r1, r2⟩ := vals2 r
  cases (show u1 = Value.ref a from r1)
  cases (show u2 = Value.ref tp from r2)
  obtain ⟨ox, od, J, _⟩ := exc_inst I ev
  obtain ⟨_, its, rv, o, g1, g2, n, g3⟩ := (show ObjOk X.prog X.w H s.heap tp (.tup cs) from I.hok tp _ hT)
  cases ClsV.all k rv
  obtain ⟨oc, od', dt, sl⟩ := o
  simp only at g2 g3
  subst g2 g3
  exact PySem.W.kia_tup (T.kitx (ox := ox) (od := _)) I.kIn J g1 e (fun z => nomatch z) fun tk => ⟨.bl b, H, I.tok tk, rfl, q⟩
/-- isinstance of a value or of such an error -/
theorem call_isi1 : CallR X (.builtin "isinstance") (fun xs H Q => rIsi X.K xs H Q ∨ rIsiC X.K X.mg xs H Q) := CallR.or call_isi call_isiC
theorem call_isiN : CallR X (.builtin "isinstance") (fun xs H Q => rIsiT X.K xs H Q ∨ rIsiTC X.K X.mg xs H Q) := CallR.or call_isiT call_isiTC
end
end FT

/-! enumerate(tuple) -/
namespace FT
open PySem PySem.Spec PyProof.Rows L2
theorem meets_enum1 {v : Value} {ob : Obj} {G : Heap → Prop} (B : Begins v ob G) : Meets (Builtin.«enumerate.__new__» ⟨[.type "enumerate", v], []⟩) (fun _ R s => G s.heap ∧
      R (.ok (.ret (.ref (s.heap.push ob).objs.size))) { s with heap := (s.heap.push ob).push { cls := .type "enumerate", data := .fields #[.none, .bool false, .ref s.heap.objs.size, rawInt 0, .none, .none] } }) :=
  .of_wp fun prog w A R s hh => by
    obtain ⟨hp, g, d, tk, os⟩ := s
    obtain ⟨h1, hh⟩ := hh
    have hsub := sub_enumerate
    have it : ∀ {A' : Around} {E Q : Value → Shared → Prop}, Q (.ref hp.objs.size) ⟨hp.push ob, g, d, tk, os⟩ → wpAny (model prog w) A' (pyIter v) Q E ⟨hp, g, d, tk, os⟩ := fun q => B.iter prog w _ _ ⟨hp, g, d, tk, os⟩ _ h1 q
    wp_walk using it
    refine wpAny_stack_any fun st => wpAny_pure ?_
    split
    · rename_i c _ _ _ _ _
      cases (c == Value.type "enumerate") <;> (wp_walk using it; exact ⟨_, rfl, hh⟩)
    · wp_walk using it
      exact ⟨_, rfl, hh⟩
theorem call_enum1 {prog : Program} {w : World} {A : Around} {E Q : Value → Shared → Prop} {s : Shared} {v : Value} {ob : Obj} {G : Heap → Prop} (B : Begins v ob G) (h1 : G s.heap)
    (k : ∀ h', IsEnum h' (s.heap.objs.size + 1) s.heap.objs.size 0 .none → h'.get? s.heap.objs.size = some ob → h'.objs.size = s.heap.objs.size + 2 → (∀ b o, s.heap.get? b = some o → h'.get? b = some o) → Q (.ref (s.heap.objs.size + 1)) { s with heap := h' }) :
    wpAny (model prog w) A (call (.type "enumerate") [v]) Q E s := by
  refine callType_new F.called_enumerate (by decide) (F.typeCall_enumerate_1 _) (F.newCall_enumerate_1 _) (fun obj => F.args_object_init_2 obj _) F.entry_enumerate_new (meets_enum1 B) ⟨h1, ?_⟩
  have sz1 : (s.heap.push ob).objs.size = s.heap.objs.size + 1 := Heap.size_push ..
  show _ ∧ _
  rw [sz1]
  have en : IsEnum ((s.heap.push ob).push { cls := .type "enumerate", data := .fields #[.none, .bool false, .ref s.heap.objs.size, rawInt 0, .none, .none] }) (s.heap.objs.size + 1) s.heap.objs.size 0 .none := by
    have q := Heap.get?_push_size (s.heap.push ob) (o := { cls := .type "enumerate", data := .fields #[.none, .bool false, .ref s.heap.objs.size, rawInt 0, .none, .none] }) rfl
    rw [sz1] at q
    exact q
  exact ⟨⟨_, en, rfl⟩, k _ en (Heap.get?_push_of_some _ (Heap.get?_push_size _ B.free)) (by rw [Heap.size_push, sz1]) fun b o x => Heap.get?_push_of_some _ (Heap.get?_push_of_some _ x)⟩
theorem next_stop {prog : Program} {w : World} {A : Around} {E : Value → Shared → Prop} {s : Shared} {e it t : Addr} {i : Nat} {c : Int} {items : Array Value} {old : Value} {Q : Option Value → Shared → Prop} (hh : A.handled = none)
    (he : IsEnum s.heap e it c old) (hi : s.heap.IsTupleIter it t i) (ht : s.heap.IsTuple t items) (hx : items[i]? = none) (k : ∀ h', Heap.ExtBut it s.heap h' → Q none { s with heap := h' }) : wpAny (model prog w) A (pyNext (.ref e)) Q E s := by
  have ty : s.TypeIs (.ref e) "enumerate" := ⟨_, he, rfl⟩
  unfold pyNext
  refine wpAny_bind (wpAny_attempt (wpAny_callSpecial?_slot (name := Str.ofString "__next__") ty F.slot_enumerate_next (wpAny_call_entry F.slot_enumerate_next ty F.entry_enumerate_next ?_ (F.args_enumerate_next_1 _))))
  show wpAny _ _ (field (.ref e) 2 >>= fun _ => _) _ _ _
  refine wpAny_bind (wpAny_field he rfl (x := .ref it) rfl (wpAny_bind (wpAny_nextOf_tuple_end hh hi ht hx fun h' x ex st => ?_)))
  obtain ⟨os, ho, hcl⟩ := st
  exact wpAny_bind (wpAny_isInstance (T := "StopIteration") (b := true) ⟨os, ho, hcl⟩ isSubtype_stop (wpAny_pure (k _ ex)))
/-- the tuple at a, each item in a new pair -/
def IteT (K : PySem.W.Frag) (a : Addr) : It :=
  ⟨fun i H => ∃ (xs : List V) (x : V), SqT K H a xs ∧ xs[i]? = some x, fun i H v H' => ∃ t x, v = .ref t ∧ H t = none ∧ H' = upd H t (.tup [.int (i : Nat), x]) ∧ ∀ xs, SqT K H a xs → xs[i]? = some x, fun i H => ∃ xs : List V, SqT K H a xs ∧ xs.length ≤ i⟩
theorem turn_enumT {P : Program} {w : World} {K : PySem.W.Frag} {elts : List Expr} {kk : Nat} {tpos : Pos} (a e it : Addr) :
    Turn P w K (.Tuple elts kk tpos) (IteT K a) [e, it] e (fun i h => (∃ old, IsEnum h e it ((i : Nat) : Int) old) ∧ h.IsTupleIter it a i ∧ e ≠ it ∧ a ≠ it ∧ e ≠ a) where
  mem := by simp
  obj := fun i h st b hb => by
    obtain ⟨⟨old, he⟩, ⟨o, ho, hc, hd⟩, _⟩ := st
    have e' : b = e ∨ b = it := by simpa using hb
    rcases e' with rfl | rfl
    · exact ⟨_, he, fun v q => nomatch q⟩
    · exact ⟨o, ho, fun v q => by rw [hd] at q; cases q⟩
  keep := fun i h h' st k => let ⟨⟨old, he⟩, hi, hne⟩ := st; ⟨⟨old, k e (by simp) _ he⟩, hi.at fun o q => k it (by simp) o q, hne⟩
  item := by
    intro X hP hw hK hc i pins s σ H E I hf st hg
    subst hP hw hK
    obtain ⟨⟨old, he⟩, hit, n1, n2, n3⟩ := st
    obtain ⟨xs, x, hq, hx⟩ := hg
    obtain ⟨its, rv, p, hz⟩ := I.tuple hq
    obtain ⟨u, hu, ru⟩ := rv.get hx
    have hel : e < s.heap.objs.size := Heap.lt_size he
    have hil : it < s.heap.objs.size := by
      obtain ⟨_, q, _⟩ := hit
      exact Heap.lt_size q
    have tp : s.heap.IsTuple a its.toArray := p
    have hlt : i < its.toArray.size := by
      obtain ⟨q, _⟩ := List.getElem?_eq_some_iff.mp hu
      simpa using q
    have D := Draws.tuple (prog := X.prog) (w := X.w) (A := X.A.in1) (I.ok.hd hc) it a n2 its.toArray
    refine wpAny_pyNext_enum_itemC D he ⟨hit, tp⟩ hlt n1 (by simp [n1, n3]) fun y h' tk hy ho st' hT hsz hk => ?_
    have ey : y = u := by
      have q : its.toArray[i]? = some y := hy
      rw [show its.toArray[i]? = some u by simpa using hu] at q
      exact (Option.some.inj q).symm
    subst ey
    refine ⟨_, rfl, wpAny_letOwnedTupleGo_enum (s := { s with heap := h', toks := tk + 1 }) ho fun h'' he' sb => ?_⟩
    have hT2 : h''.get? s.heap.objs.size = some { cls := .type "tuple", data := .seq #[.int i tk, y] } := (sb.2 _ (Nat.ne_of_gt hel)).trans hT
    have new : ObjOk X.prog X.w (upd H s.heap.objs.size (.tup [.int (i : Nat), x])) h'' s.heap.objs.size (.tup [.int (i : Nat), x]) :=
      ⟨by show 2 ≤ sizeLine; decide, [.int i tk, y], .cons ⟨_, rfl⟩ (.cons ru .nil), ⟨_, hT2, rfl, _, rfl⟩⟩
    have I1 : Inv X pins σ (upd H s.heap.objs.size (.tup [.int (i : Nat), x])) { s with heap := h'', toks := tk + 1 } :=
      I.turnedNew (ch := [e, it]) (fun b ob hb q => (sb.2 b (fun z => hb (by simp [z]))).trans (hk b ob (fun z => hb (by simp [z])) (fun z => hb (by simp [z])) q)) hf (Nat.le_refl _) new
    refine ⟨.ref s.heap.objs.size, _, I1, rfl, ⟨_, x, rfl, I.hok.fresh (Nat.le_refl _), rfl, fun ys hy => by rw [I.tuple_inj hy hq]; exact hx⟩, ⟨⟨y, ?_⟩, st'.1.at fun o q => (sb.2 it n1.symm).trans q, n1, n2, n3⟩, fun b hb => ?_⟩
    · have e1 : ((i + 1 : Nat) : Int) = (i : Int) + 1 := by omega
      rw [e1]
      exact he'
    · have hb' : b < s.heap.objs.size := by
        have e' : b = e ∨ b = it := by simpa using hb
        rcases e' with z | z
        · rw [z]
          exact hel
        · rw [z]
          exact hil
      rw [upd_ne (Nat.ne_of_lt hb')]
      exact (hf b hb).1
  done := by
    intro X hP hw hK hc i pins s σ H E I hf st hg
    subst hP hw hK
    obtain ⟨⟨old, he⟩, hit, n1, n2, n3⟩ := st
    obtain ⟨xs, hq, hx⟩ := hg
    obtain ⟨its, rv, p, hz⟩ := I.tuple hq
    obtain ⟨f0, f1, f2, f3, f4, f5⟩ := hf it (by simp)
    have lz := rv.length
    have tp : s.heap.IsTuple a its.toArray := p
    refine next_stop (I.ok.hd hc) he hit tp (by simp; omega) fun h' eb => ⟨rfl, I.turned (t' := s.toks) (fun b o hb q => eb b o hb q) f0 f1 f3 f4 f5⟩
  self := fun A i s Q E st h => let ⟨⟨_, he⟩, _⟩ := st; wpAny_pyIter_enum he h
def iEnumT (K : PySem.W.Frag) (ta : TA) : TI := fun σ H R => ta σ H fun vs H1 => ∃ a xs, vs = [.ref a] ∧ SqT K H1 a xs ∧ R (IteT K a) H1
theorem pi_enumT {X : Cx} {e : Expr} {ta : TA} {p pos tpos : Pos} {elts : List Expr} {kk : Nat} (hg : Gl X "enumerate") (hm : X.mg "enumerate" = none) (ha : PA X [e] ta) (hs : starEach [e] X.env = [(false, eval e X.env)] := by rfl) :
    PI X (.Tuple elts kk tpos) (.Call (.Name "enumerate" p) [e] [] pos) (iEnumT X.K ta) := by
  constructor
  intro pins s σ H R I h
  refine Call_ (ld_blt I hg hm boot_enumerate (PyProof.Rows.callWith_type1 (thn (ha.run pos pins s σ H _ I h) fun us s1 ⟨vs, H1, I1, r1, q1⟩ => ?_) hs rfl))
  obtain ⟨a, xs, ex, hq, q⟩ := q1
  subst ex
  cases r1 with
  | cons r rr =>
    cases rr
    cases r
    obtain ⟨its, rv, p', hz⟩ := I1.tuple hq
    have tp : s1.heap.IsTuple a its.toArray := p'
    have la : a < s1.heap.objs.size := by
      obtain ⟨_, z, _⟩ := tp
      exact Heap.lt_size z
    refine call_enum1 (begins_tuple a its.toArray) tp fun h' he hit hsz hk => wpAny_pyIter_enum he ?_
    have I2 : Inv X pins σ H1 { s1 with heap := h' } := I1.kept (t' := s1.toks) hk
    refine ⟨s1.heap.objs.size + 1, [s1.heap.objs.size + 1, s1.heap.objs.size], _, _, H1, rfl, I2, turn_enumT a (s1.heap.objs.size + 1) s1.heap.objs.size, ⟨⟨.none, he⟩, ⟨_, hit, rfl, rfl⟩, Nat.succ_ne_self _, Nat.ne_of_lt la, Nat.ne_of_gt (Nat.lt_succ_of_lt la)⟩, fun b hb => ?_, q⟩
    have hle : s1.heap.objs.size ≤ b := by
      have e' : b = s1.heap.objs.size + 1 ∨ b = s1.heap.objs.size := by simpa using hb
      rcases e' with z | z
      · rw [z]
        exact Nat.le_add_right _ _
      · rw [z]
        exact Nat.le_refl _
    exact I1.fpOk hle (I1.hok.fresh hle)
theorem walk_enumT {K : PySem.W.Frag} {a : Addr} {xs : List V} : Walk (IteT K a) xs.length (fun H => SqT K H a xs) (YPair (fun i => some (.int (i : Nat))) (fun i => xs[i]?)) where
  goes := fun i _ hi q => ⟨xs, xs[i], q, List.getElem?_eq_getElem hi⟩
  stops := fun _ q => ⟨xs, q, Nat.le_refl _⟩
  yields := fun i H v H' _ q y => by
    obtain ⟨t, x, e, hn, eh, hx⟩ := y
    exact ⟨t, .int (i : Nat), x, e, hn, eh, rfl, hx xs q⟩
end FT

/-! own errors caught, and others raised in their stead -/
namespace FT
open PySem PySem.Spec PyProof.Rows L2
section
variable {X : Cx} {CX : CXT} {k : Nat} {fI f C : Addr} {fd : FuncData} {ps ks : List Str} {sp : Sp} {x : Str} {p pos : Pos} {e : Expr} {es : List Expr} {t tk : TA} {kws : List Keyword} {g : List Value → List Value → List Value} {gV : List V → List V → List V} {E : XK} {ES : L2.St → XK}
/-- raise C(e, ..) where a suite may raise on -/
theorem pmkN_G (T : OexC X.K C) (iC : PySem.W.findIn X.K (.ref C) "__init__" = some (some (.ref fI))) (tI : PySem.W.typeIn X.K (.ref fI) = some (.type "function"))
    (F : FnG X.prog X.w X.K X.mg X.base CX k fI fd ps sp) (hr : RG (k + 1) X.A) (hg : Gl X x) (hm : X.mg x = some (.ref C)) (hb : Binds X.K fd ps []) (hx : Passes CX X (fun _ _ _ => False)) (ha : PA X (e :: es) t)
    (hdb : (x == ("__debug__" : Str)) = false := by decide) (he : starEach (e :: es) X.env = (false, eval e X.env) :: starEach es X.env := by rfl) (hpl : (backTo pos (starEach es X.env)).any (·.1) = false := by rfl) :
    L2N.PMk X (.Call (.Name x p) (e :: es) [] pos) (tMkO C sp [] t) := by
  intro pins s σ H Q I h
  obtain ⟨nm, q, N, bs, bm, sn, sub, ab, col, dd, k0, k1, k2, k3, k5, hC, hbm⟩ := T.cls
  refine wpAny_Call_Name_kw (ld_glob I hg hm ?_ hdb)
  refine PySem.W.callWith_K (h₀ := X.base) I.ok.mod.kin T.kC (thn (ha.run pos pins s σ H _ I h) ?_) he hpl
  rintro us s1 ⟨vs, H1, I1, r1, hz, q1⟩
  refine ⟨I1.kIn, ?_⟩
  show wpAny _ _ (call (.ref C) us) _ _ _
  obtain ⟨hp, gg, dr, tk, os⟩ := s1
  have hsz : hp.objs.size ≤ hp.objs.size + 1 := Nat.le_succ _
  have hn : H1 (hp.objs.size + 1) = none := I1.hok.fresh hsz
  have hq := q1 (hp.objs.size + 1) hn
  have kk : ∀ b o, hp.get? b = some o → ((hp.push (PySem.W.kdv_tup us)).push (PySem.HandSPX.excO C hp.objs.size)).get? b = some o := fun b o e => Heap.get?_push_of_some _ (Heap.get?_push_of_some _ e)
  have hget : ((hp.push (PySem.W.kdv_tup us)).push (PySem.HandSPX.excO C hp.objs.size)).get? (hp.objs.size + 1) = some (PySem.HandSPX.excO C hp.objs.size) := by heap_get
  have I2 : Inv X pins σ (upd H1 (hp.objs.size + 1) (exo (hp.objs.size + 1) C none)) ⟨(hp.push (PySem.W.kdv_tup us)).push (PySem.HandSPX.excO C hp.objs.size), gg, dr, tk, os⟩ :=
    I1.laid (t' := tk) (a := hp.objs.size + 1) (o := exo (hp.objs.size + 1) C none) (h' := (hp.push (PySem.W.kdv_tup us)).push (PySem.HandSPX.excO C hp.objs.size)) kk hsz (exo_ok hget)
  have r2 : Vals (V.ref (hp.objs.size + 1) :: (vs ++ [])) (Value.ref (hp.objs.size + 1) :: (us ++ [])) := .cons rfl (r1.append .nil)
  have hl : (Value.ref (hp.objs.size + 1) :: us ++ []).length = ps.length := by
    have e := r2.length
    rw [F.arity _ _ _ _ hq] at e
    exact e.symm
  have hus : us.length ≤ sizeLine := by
    rw [← Paired.length r1, sizeLine_eq]
    omega
  refine wpAny_call (PySem.HandSPX.kw_call_own (kw := []) PySem.F.excBase_ValueError (fun Y => PySem.HandSPX.refsVE_contains Y bm hbm) (I1.kIn _ _ hC) (PySem.W.looks_findIn I1.kIn iC) (fun self => PySem.W.bind_fn I1.kIn self tI) hus
    (codeAny_mono (F.goes (hr.make C us []) (I2.env0.make C us []) (hb _ (Value.ref (hp.objs.size + 1) :: us) I2.kIn hl) r2 hq) fun r s' hq' => ?_))
  cases r with
  | error er => exact hx pins σ _ _ er s' I2 hq'
  | ok fl =>
    cases fl with
    | ret u =>
      obtain ⟨v, H2, os2, bare2, un2, hok2, rv, ev, d, fs, ea, ed, hd1, q2⟩ := hq'
      subst ev
      obtain ⟨h2, g2, d2, t2, os'⟩ := s'
      obtain ⟨t0, G, J, kG, ge, hoe, na⟩ := mk_end0 (d2 := d2) (t2 := t2) I1 hsz kk un2 hok2 os2 bare2 ea ed hd1
      refine ⟨rv, ⟨hp.objs.size + 1, _, _, ⟨G, g2, d2, t2, os'⟩, _, .ref C, some d, rfl, J, kG, ge, hoe, ⟨rfl, rfl, fun vs hv => ?_⟩, rfl, rfl, na, rfl, bare2, raises_own T.exC T.tyC, q2⟩⟩
      cases hv
      rfl
    | next => exact False.elim hq'
    | brk => exact False.elim hq'
    | cont => exact False.elim hq'
/-- C(..), C an own class; the wish may speak of the slots -/
def tMkGS (C : Addr) (sp : Sp) (ES : L2.St → XK) (ta : TA) : TE := fun σ H Q => ta σ H fun vs H1 => rMkG C sp (ES σ) (fun x => x :: vs) H1 Q
theorem run_mkgS {pins : List (Addr × Obj)} {σ : L2.St} {H : Hp} {s : Shared} {Q : VK} {us : List Value} {kw : List (Str × Value)} {all : Value → List Value} {allV : V → List V} (M : Mk X.K C f) (F : FnG X.prog X.w X.K X.mg X.base CX k f fd ps sp) (hr : RG (k + 1) X.A)
    (hx : PassesAt CX X σ E) (I : Inv X pins σ H s)
    (hb : ∀ (a : Addr) (s' : Shared), X.K.In s'.heap → (all (.ref a)).length = ps.length → BindsTo s' fd ⟨.ref a :: us, kw⟩ (ps.zip (all (.ref a)))) (r : ∀ a : Addr, Vals (allV (.ref a)) (all (.ref a)))
    (h : rMkG C sp E allV H Q) : wpAny (model X.prog X.w) X.A (call (.ref C) us kw) (EP X pins σ Q) X.xe s := by
  unfold rMkG at h
  have hq := h (s.heap.objs.size + 1) s.heap.objs.size (I.hok.fresh (Nat.le_succ _)) (I.hok.fresh (Nat.le_refl _)) (Nat.ne_of_lt (Nat.lt_succ_self _))
  have I2 := Inv.made (C := C) I
  have hl : (all (.ref (s.heap.objs.size + 1))).length = ps.length := (r _).length.symm.trans (F.arity _ _ _ _ hq)
  refine wpAny_call (make_map (f := f) I.kIn M.makes M.init (beq_iff_eq.mp M.fn) (codeAny_mono (F.goes (hr.make C us kw) (I2.env0.make C us kw) (hb _ _ I2.kIn hl) (r _) hq) fun r s' hq' => ?_))
  cases r with
  | error e => exact hx pins _ _ e s' I2 hq'
  | ok fl =>
    cases fl with
    | ret u =>
      obtain ⟨v, H', I3, rv, ev, q3⟩ := I2.after hq'
      subst ev
      exact ⟨rv, ⟨V.ref (s.heap.objs.size + 1), H', I3, rfl, q3⟩⟩
    | next => exact False.elim hq'
    | brk => exact False.elim hq'
    | cont => exact False.elim hq'
theorem pe_mkGS (M : Mk X.K C f) (F : FnG X.prog X.w X.K X.mg X.base CX k f fd ps sp) (hr : RG (k + 1) X.A) (hg : Gl X x) (hm : X.mg x = some (.ref C)) (hb : Binds X.K fd ps []) (hx : ∀ σ, PassesAt CX X σ (ES σ))
    (ha : PA X (e :: es) t) (hdb : (x == ("__debug__" : Str)) = false := by decide) (he : starEach (e :: es) X.env = (false, eval e X.env) :: starEach es X.env := by rfl) (hpl : (backTo pos (starEach es X.env)).any (·.1) = false := by rfl) :
    PE X (.Call (.Name x p) (e :: es) [] pos) (tMkGS C sp ES t) := by
  constructor
  intro pins s σ H Q I h
  refine wpAny_Call_Name_kw (ld_glob I hg hm ?_ hdb)
  refine PySem.W.callWith_K (h₀ := X.base) I.ok.mod.kin M.kp (thn (ha.run pos pins s σ H _ I h) ?_) he hpl
  rintro us s1 ⟨vs, H1, I1, r, q⟩
  refine ⟨I1.kIn, run_mkgS (all := fun a => a :: us) (allV := fun a => a :: vs) M F hr (hx σ) I1 (fun a s' ki hl => ?_) (fun a => .cons rfl r) q⟩
  have z := hb s' (.ref a :: us) ki (by simpa using hl)
  rw [List.append_nil] at z
  exact z
end
/-- a def's promise while an exception is handled -/
theorem okH {P : Program} {w : World} {K : PySem.W.Frag} {mg : Str → Option Value} {base : Heap} {CX : CXT} {x qual : Str} {st : Stmt} {f : Addr} {fd : FuncData} {N ps : List Str} {k : Nat} {sp : Sp} (F : Fun K x qual st f fd) (S : FnScope N ps (defScope st))
    (arity : ∀ vs H Q E, sp vs H Q E → vs.length = ps.length)
    (hbody : ∀ (cdv : Value) (A : Around) (outer : List Env) (s : Shared) (H : Hp) (vs : List V) (Q : VK) (E : XK) (p : Addr × Obj), sp vs H Q E →
        ∃ t, PSs (L2H.cxH CX P w K mg base N qual (defScope st) f cdv A outer s H E p) (defBody st) t ∧ t { nx := fun _ H' => Q .non H', rt := Q } (start N vs) H) :
    L2H.FnH P w K mg base CX (k + 1) f fd ps sp := by
  obtain ⟨oc, od, kV, doc, pm, an, cdv, ct, osl, rfl, lk, hcd⟩ := F.ex
  exact L2H.fn_ofH lk hcd S arity fun A outer s H vs Q E p _ _ h => hbody cdv A outer s H vs Q E p h
theorem RG.hot {k : Nat} {A : Around} (r : RG k A) (h : Option Value) : L2H.RoomH k (A.mark h) := L2H.roomH_mark r.room h
end FT

/-! a list comprehension whose step may let an own error out -/
namespace FT
open PySem PySem.Spec PyProof.Rows L2
/-- a frame is all that noting asks of an environment -/
theorem note_frame {one two : Env} (h : one.frame = two.frame) (v : Value) : noteFrame v one = noteFrame v two := by
  unfold noteFrame PySem.frameOf
  rw [h]
/-- how a comprehension's block may end, told with its frame -/
def EndC (M : Model) (A : Around) (E : Value → Shared → Prop) (use : Option (Value → Sem Unit)) (Q : Value → Shared → Prop) (new : Value) (C : Addr) (fr : Option Addr) : Result → Shared → Prop
  | .ok v, t => compPost M A E use Q new C (.ok v) t
  | .error x, t => ∃ m, t.heap.Ns C m ∧ ∀ g, Heap.SameBut C t.heap g → ∀ c : Env, c.locals = C → c.frame = fr → wpAny M A (passOn "comprehension.variables-let-go" x c : Sem Value) (fun _ _ => False) E { t with heap := g }
theorem comp_ends {M : Model} {A : Around} {E : Value → Shared → Prop} {s : Shared} {env : Env} {e : Expr} {sc : Scope} {pos : Pos} {new first : Sem Value} {g : Comprehension} {gs : List Comprehension} {cl : List (Str × Addr)} {use : Option (Value → Sem Unit)} {Q : Value → Shared → Prop}
    (h1 : clausesOf e = g :: gs) (h2 : ∀ x, foldedSetIterable g.iter env x = pure x) (h3 : closureFor sc env = pure cl) (h4 : sc.kind = .function) (h5 : ∀ x ∈ sc.names, x.2 = .local → sc.names.lookup x.1 = some .local)
    (run : wpAny M A first (fun x s1 => wpAny M A (pyIter x) (fun it s2 => wpAny M A new (fun acc s3 => wpAny M A (newFunctionEnv sc env.globals cl [] env.qual none .none (some env)) (fun c s4 =>
        codeAny M A (.compStart e 0 it acc { c with scope := relabel sc env }) (EndC M A E use Q acc c.locals c.frame) s4) E s3) E s2) E s1) E s) :
    wpAny M A (comprehension e sc env pos new false first use) Q E s := by
  unfold comprehension
  rw [h3, h1]
  have id2 : ∀ {α : Type} {t : Sem α} {Q Q' : α → Shared → Prop} {s : Shared}, wpAny M A t Q E s → (∀ a s, Q a s → Q' a s) → wpAny M A t Q' E s := fun h k => wpAny_mono h k fun _ _ z => z
  refine wpAny_bind (id2 run fun x s1 r1 => ?_)
  refine wpAny_bind (wpAny_standAt (wpAny_bind (wpAny_of_eq (h2 x) ?_)))
  refine wpAny_bind (wpAny_holding (id2 r1 fun it s2 r2 => ?_))
  refine wpAny_standIf (wpAny_bind (id2 r2 fun acc s3 r3 => ?_))
  refine wpAny_bind (wpAny_pure (wpAny_bind (id2 r3 fun c s4 r4 => ?_)))
  dsimp only
  have own1 : ∀ x ∈ (sc.names.filter fun x => (x.2 == .local || x.2 == .cell) && x.1 != (".0" : Str)).reverse, x.2 = .local → Env.kindOf { c with scope := relabel sc env } x.1 = some .local :=
    fun x hx => fun hl => lookup_relabel_local (h5 x ((List.mem_filter.mp (List.mem_reverse.mp hx)).1) hl)
  refine wpAny_holding (wpAny_bind (wpAny_attempt (wpAny_holding (wpAny_run (codeAny_mono r4 fun r t ht => ?_)))))
  cases r with
  | error x =>
    obtain ⟨m, hm, back⟩ := ht
    cases use <;> refine wpAny_bind (wpAny_holding (wpAny_comp_letGo (cenv := { c with scope := relabel sc env }) h4 _ t m own1 hm ?_)) <;>
      exact fun g _ _ sb => id2 (back g sb { c with scope := relabel sc env } rfl rfl) fun _ _ f => f.elim
  | ok f =>
    cases use with
    | none =>
      obtain ⟨m, hm, go⟩ := ht
      exact wpAny_bind (wpAny_holding (wpAny_comp_letGo (cenv := { c with scope := relabel sc env }) h4 _ t m own1 hm fun g _ _ sb => wpAny_pure (go g sb)))
    | some u =>
      refine wpAny_bind (wpAny_rule (wpAny_bind (wpAny_holding (id2 ht fun _ t' ht' => ?_))))
      obtain ⟨m, hm, go⟩ := ht'
      refine wpAny_bind (wpAny_comp_letGo (cenv := { c with scope := relabel sc env }) h4 _ t' m (fun x hx hl => ?_) hm fun g _ _ sb => wpAny_pure (go g sb))
      rcases List.mem_append.mp hx with q | q
      · exact own1 x (List.mem_of_mem_drop q) hl
      · exact own1 x (List.mem_of_mem_take q) hl
/-- an exception in the sky is noted by the frame that stands on top -/
theorem sky_noted {M : Model} {A : Around} {E : Value → Shared → Prop} {env : Env} {outer : List Env} {L a : Addr} {Z : Obj → Prop} {B : Heap} {s : Shared} {Q : Unit → Shared → Prop} (st : HandSPX.Steady Z) (top : A.frames = some (env :: outer)) (fr : env.frame = some L)
    (sky : HandSPX.FlyingZ B (env :: outer) a Z s.heap) (k : ∀ g, HandSPX.HeldZ B (env :: outer) a Z L g → s.heap.UpToSlots g → Q () { s with heap := g }) : wpAny M A (noteFrame (.ref a) env) Q E s :=
  HandSPX.looks_onZ st top fr sky k
theorem frames_to {B B' h h' : Heap} : ∀ {l : List Env}, h.FunFrames B l → (∀ L ∈ frs l, h'.get? L = h.get? L ∧ (B.get? L = none → B'.get? L = none)) → h'.FunFrames B' l
  | [], _, _ => trivial
  | env :: l, ⟨k, ⟨L, o, e1, e2, e3, e4⟩, r⟩, hk => by
    have q := hk L (List.mem_filterMap.mpr ⟨env, List.mem_cons_self, e1⟩)
    refine ⟨k, ⟨L, o, e1, q.2 e2, q.1.trans e3, e4⟩, frames_to r fun L' m => ?_⟩
    obtain ⟨e', m1, m2⟩ := List.mem_filterMap.mp m
    exact hk L' (List.mem_filterMap.mpr ⟨e', List.mem_cons_of_mem _ m1, m2⟩)
/-- what is held stays so with the block's names gone from ground and state -/
theorem held_less {B h g : Heap} {l : List Env} {a C L : Addr} {Z : Obj → Prop} (hh : HandSPX.HeldZ B l a Z L h) (sb : Heap.SameBut C h g) (nf : C ∉ frs l) (nr : ∀ o, h.get? C = some o → ∀ vs, o.data ≠ .fields vs) : HandSPX.HeldZ (PySem.W.hideAll B [C]) l a Z L g := by
  obtain ⟨st, na, ff, oe, vs, T, oT, ts, e1, e2, e3, e4, e5, e6, e7, e8, e9⟩ := hh
  have off : ∀ b o, h.get? b = some o → (∃ vs, o.data = .fields vs) → g.get? b = some o := fun b o e f => by
    refine (sb.2 b fun z => ?_).trans e
    subst z
    obtain ⟨vs, f⟩ := f
    exact nr o e vs f
  have hid : ∀ b, B.get? b = none → (PySem.W.hideAll B [C]).get? b = none := fun b e => by
    cases q : (PySem.W.hideAll B [C]).get? b with
    | none => rfl
    | some o =>
      rw [PySem.W.of_hideAll _ q] at e
      cases e
  refine ⟨fun b o e => ?_, hid a na, frames_to ff fun L' m => ⟨sb.2 L' fun z => nf (z ▸ m), hid L'⟩, oe, vs, T, oT, ts, off a oe e1 ⟨vs, e3⟩, e2, e3, e4, hid T e5, e6, off T oT e7 ⟨ts, e8⟩, e8, e9⟩
  have nb : b ≠ C := fun z => by
    have q := PySem.W.hideAll_none [C] (h := B) (b := b) (by rw [z]; exact List.mem_cons_self)
    rw [e] at q
    cases q
  exact (sb.2 b nb).trans (st b o (PySem.W.of_hideAll _ e))
/-- the context of a block whose step may let an error out -/
abbrev blkX (X : Cx) (s : Shared) (H : Hp) (sc : Scope) (c : Env) (fp : List Addr) (xe : Value → Shared → Prop) : Cx := (X.blk s H sc c fp).wish xe
theorem block_pass {X : Cx} {pins : List (Addr × Obj)} {σ : L2.St} {H3 : Hp} {s3 : Shared} {sc : Scope} {ce : Env} {fp : List Addr} {E : XK} {use : Option (Value → Sem Unit)} {Qf : Value → Shared → Prop} {new : Value} (I3 : Inv X pins σ H3 s3) (hs : X.stack = X.env :: X.outer) (hf : X.env.frame = some X.env.locals)
    (cL : ce.locals = s3.heap.objs.size) (cF : ce.frame = X.env.frame) (hfp : ∀ b ∈ fp, FpOk X pins H3 b) (tk : Takes X fun cls d _ H => E cls d H) :
    Passes (L2.CX X.prog X.w) (blkX X s3 H3 sc ce fp (notedBy (model X.prog X.w) X.A ce fun e t => EndC (model X.prog X.w) X.A X.xe use Qf new s3.heap.objs.size X.env.frame (.error e) t)) E := by
  intro pins' σ' H s e s' I c
  obtain ⟨a, B, G, cls, d, rfl, fl, hok, ub, na, os, ag, hE⟩ := c
  generalize hC : s3.heap.objs.size = C at cL
  have nC : H C = none := by
    have q : H ce.locals = none := I.free
    rw [cL] at q
    exact q
  obtain ⟨m, hn, _⟩ := I.loc
  have hn : s.heap.Ns ce.locals m := hn
  rw [cL] at hn
  have nfr : C ∉ frs X.stack := fun hm => by
    obtain ⟨_, o, q, _⟩ := I3.stack.mem hm
    exact absurd (Heap.lt_size q) (by rw [hC]; exact Nat.lt_irrefl _)
  have fpC : ∀ {G' : Hp}, G' C = none → FpOk X pins G' C := fun q => I3.fpOk (Nat.le_of_eq hC) q
  have I7 : Inv X pins σ H s := by
    refine I3.call' (ch := fp) I.os I.base I.hok I.bare fun b hb => ?_
    obtain ⟨_, q1, q2, q3, q4, q5⟩ := hfp b hb
    exact ⟨q3, q1, q4, q5⟩
  have top : X.A.frames = some (X.env :: X.outer) := by
    rw [I3.ok.frames, hs]
  have fl2 : HandSPX.FlyingZ B (X.env :: X.outer) a (Zc cls d) s'.heap := hs ▸ fl
  show wpAny (model X.prog X.w) X.A (noteFrame (.ref a) ce) _ _ s'
  rw [note_frame cF]
  refine sky_noted Zc.steady top hf fl2 fun g hh up => ?_
  obtain ⟨o, es, ep, ho, hd, r⟩ := hn
  have bC : B.get? C = some o := ub.keep C o ho nC nfr
  have gC : g.get? C = some o := hh.1 C o bC
  refine ⟨m, ⟨o, es, ep, gC, hd, r⟩, fun g2 sb c' c1 c2 => ?_⟩
  have hh2 := held_less hh sb (hs ▸ nfr) fun o' q vs z => by
    rw [gC] at q
    cases q
    rw [hd] at z
    cases z
  obtain ⟨oe, vs, T, _, _, x1, _, x3, x4, _⟩ := id hh2.2.2.2
  unfold PySem.passOn
  refine wpAny_bind (wpAny_field x1 x3 x4 ?_)
  rw [if_neg (show ¬ ((Value.ref T == Value.none) = true) by simp)]
  rw [c2, hf]
  refine wpAny_bind (HandSPX.setFlight_onZ hh2 fun g3 hh3 up3 => wpAny_throw ?_)
  have up1 : ∀ b o, b ≠ C → s'.heap.get? b = some o → (∀ vs, o.data ≠ .fields vs) → ∃ sl, g3.get? b = some { o with slots := sl } := fun b o nb q nf => by
    obtain ⟨sl1, q1⟩ := up b o q nf
    obtain ⟨sl2, q2⟩ := up3 b _ ((sb.2 b nb).trans q1) nf
    exact ⟨sl2, q2⟩
  have ground : ∀ b o, b ≠ C → B.get? b = some o → g3.get? b = some o := fun b o nb q =>
    hh3.1 b o (PySem.W.hideAll_get [C] q fun z => nb (List.mem_singleton.mp z))
  obtain ⟨R, r1, r2⟩ := L2.restrict g3 fun b => !decide (b = C) && ((B.get? b).isSome || decide (b ∈ frs X.stack))
  have rB : ∀ b o, b ≠ C → B.get? b = some o → R.get? b = some o := fun b o nb q => by
    rw [r1 b (by simp [nb, q])]
    exact ground b o nb q
  have rF : ∀ b, b ∈ frs X.stack → R.get? b = g3.get? b := fun b hb => r1 b (by
    have nb : b ≠ C := fun z => nfr (z ▸ hb)
    simp [nb, hb])
  have rg : ∀ b o, R.get? b = some o → g3.get? b = some o ∧ b ≠ C ∧ ((B.get? b).isSome = true ∨ b ∈ frs X.stack) := fun b o q => by
    cases p : (!decide (b = C) && ((B.get? b).isSome || decide (b ∈ frs X.stack))) with
    | false =>
      rw [r2 b p] at q
      cases q
    | true =>
      rw [r1 b p] at q
      rw [Bool.and_eq_true] at p
      exact ⟨q, by simpa using p.1, by simpa using p.2⟩
  have GC : G C = none := ub.free C o ho nC
  have J : Inv X pins σ G { s' with heap := R } := by
    refine I7.call' (ch := [C]) os ⟨fun b u q n nf nc => ?_, fun b u q n hb nc => ?_, fun b u q n _ => ub.free b u q n, fun b u q nc => ?_, ub.tups, ub.frzs, ub.tbls⟩ (fun b u q => ?_) ag fun b hb => ?_
    · exact rB b u (fun z => nc (by rw [z]; exact List.mem_cons_self)) (ub.keep b u q n nf)
    · have nb : b ≠ C := fun z => nfr (z ▸ hb)
      obtain ⟨_, u', q', nfl⟩ := I7.stack.mem hb
      rw [q] at q'
      cases q'
      obtain ⟨sl, q1⟩ := ub.slot b u q hb
      obtain ⟨sl2, q2⟩ := up1 b _ nb q1 nfl
      exact ⟨sl2, by rw [rF b hb]; exact q2⟩
    · have nb : b ≠ C := fun z => nc (by rw [z]; exact List.mem_cons_self)
      by_cases hb : b ∈ frs X.stack
      · obtain ⟨_, u', q', nfl⟩ := I7.stack.mem hb
        rw [q] at q'
        cases q'
        obtain ⟨sl, q1⟩ := ub.slot b u q hb
        obtain ⟨sl2, q2⟩ := up1 b _ nb q1 nfl
        exact ⟨_, by rw [rF b hb]; exact q2⟩
      · obtain ⟨u', q1⟩ := ub.there b u q hb
        exact ⟨u', rB b u' nb q1⟩
    · refine (hok b u q).stay (fun b' v hc w => rB b' v (fun z => ?_) w) (fun _ z => z) fun _ _ z => z
      subst z
      rcases hc with hc | hc
      · rw [← hc, GC] at q
        cases q
      · rw [GC] at hc
        cases hc
    · rw [List.mem_singleton.mp hb]
      obtain ⟨_, q1, _, q3, q4, q5⟩ := fpC GC
      exact ⟨q3, q1, q4, q5⟩
  refine tk _ _ ⟨a, PySem.W.hideAll B [C], _, pins, σ, G, cls, d, rfl, J, fun b u q nf => ?_, Heap.UpToSlots.of_keeps fun b u q => (rg b u q).1, .inr (.inr (hs ▸ hh3)), na, rfl, ag, hE⟩
  obtain ⟨q1, nb, q2⟩ := rg b u q
  rcases q2 with q2 | q2
  · obtain ⟨v, q2⟩ := Option.isSome_iff_exists.mp q2
    have q3 := ground b v nb q2
    rw [q1] at q3
    cases q3
    exact PySem.W.hideAll_get [C] q2 fun z => nb (List.mem_singleton.mp z)
  · exact absurd q2 nf
section
variable {X : Cx} {elt tg iter : Expr} {ifs : List Expr} {sc : Scope} {own : List (Str × Nat)} {pos pos' : Pos} {wi : TI} {g : TG} {tt : TT} {te : TE} {E : XK}
theorem lc_raise {pins : List (Addr × Obj)} {s : Shared} {σ : L2.St} {H : Hp} {Q : VK} {use : Option (Value → Sem Unit)} {Qf : Value → Shared → Prop}
    (calm : X.calm = true) (nd : X.N.Nodup) (I : Inv X pins σ H s) (hi : PI X tg iter wi) (blk : BlkOk X.N X.env.scope sc own) (hs : X.stack = X.env :: X.outer) (hf : X.env.frame = some X.env.locals) (tk : Takes X fun cls d _ H => E cls d H)
    (hg : ∀ s H C cl fp, PG (X.blk s H sc (compEnvC sc cl C X.env) fp) tg g) (ht : ∀ s H C cl fp, PTs (X.blk s H sc (compEnvC sc cl C X.env) fp) ifs tt)
    (he : ∀ s H C cl fp xe, Passes (L2.CX X.prog X.w) (blkX X s H sc (compEnvC sc cl C X.env) fp xe) E → PE (blkX X s H sc (compEnvC sc cl C X.env) fp xe) elt te)
    (hfold : ∀ x, foldedSetIterable iter X.env x = pure x) (h : tLc wi g tt te (own.map (·.2)) σ H Q)
    (ends : ∀ D C t m G, Inv X pins σ G t → Q (.ref D) G → t.heap.Ns C m → FpOk X pins G C → compPost (model X.prog X.w) X.A X.xe use Qf (.ref D) C (.ok .next) t) :
    wpAny (model X.prog X.w) X.A (comprehension (.ListComp elt [⟨tg, iter, ifs, 0⟩] sc pos) sc X.env pos' (newList []) false (eval iter X.env) use) Qf X.xe s := by
  have caps : ∀ y ∈ sc.names, y.2 = .free → ∃ c, X.env.cells.lookup y.1 = some c := fun y hy e => (blk.free y hy e).elim (fun q => I.ok.has _ (.inl q)) fun q => I.ok.has _ (.inr q)
  refine comp_ends (use := use) rfl hfold (closure_ok caps) blk.kind (fun y hy e => by rw [blk.uniq y hy, e]) ?_
  refine thn (hi.run pins s σ H _ I h) fun xv s1 hx => thn hx fun itv s2 ⟨it, fp, tn, J, G, e, I2, T, st2, f2, q⟩ => ?_
  subst e
  refine wpAny_newObj_type (newEnv_comp ?_) (by show 0 ≤ sizeLine; decide)
  obtain ⟨D, hD⟩ : ∃ D, D = s2.heap.objs.size := ⟨_, rfl⟩
  rw [← hD]
  obtain ⟨W, ⟨m0, w0⟩, turn⟩ := q D (I2.hok.fresh (Nat.le_of_eq hD.symm))
  obtain ⟨s3, hs3⟩ : ∃ s3 : Shared, s3 = { s2 with heap := s2.heap.push { cls := .type "list", data := .seq ([] : List Value).toArray } } := ⟨_, rfl⟩
  rw [← hs3]
  have lay : ∀ b u, s2.heap.get? b = some u → s3.heap.get? b = some u := fun b u q => by
    rw [hs3]
    exact Heap.get?_push_of_some _ q
  obtain ⟨H3, hH3⟩ : ∃ H3, H3 = upd G D (.lst []) := ⟨_, rfl⟩
  have I3 : Inv X pins σ H3 s3 := by
    rw [hs3, hH3]
    exact I2.laid (t' := s2.toks) (fun b u q => Heap.get?_push_of_some _ q) (Nat.le_of_eq hD.symm) ⟨Nat.zero_le _, [], 0, .nil, by rw [hD]; exact Heap.get?_push_size _ rfl⟩
  rw [← hH3] at w0
  have f3 : ∀ b ∈ fp, FpOk X pins H3 b ∧ b < s3.heap.objs.size := fun b hb => by
    obtain ⟨u, q, _⟩ := T.obj _ _ st2 b hb
    obtain ⟨q1, q2⟩ := f2 b hb
    refine ⟨⟨?_, q2⟩, Heap.lt_size (lay b u q)⟩
    rw [hH3, upd_ne (fun z => ?_)]
    · exact q1
    · have := Heap.lt_size q
      rw [z, hD] at this
      exact Nat.lt_irrefl _ this
  have I4 := block_start I3 blk nd f3
  have way := fun xe => he s3 H3 s3.heap.objs.size (cellsFrom (s3.heap.objs.size + 1) sc.names (cloFrom X.env.cells sc.names [])) fp xe
  have pg := hg s3 H3 s3.heap.objs.size (cellsFrom (s3.heap.objs.size + 1) sc.names (cloFrom X.env.cells sc.names [])) fp
  have pt := ht s3 H3 s3.heap.objs.size (cellsFrom (s3.heap.objs.size + 1) sc.names (cloFrom X.env.cells sc.names [])) fp
  show codeAny _ _ (.compStart _ 0 (.ref it) (.ref D) (compEnvC sc (cellsFrom (s3.heap.objs.size + 1) sc.names (cloFrom X.env.cells sc.names [])) s3.heap.objs.size X.env)) (EndC _ X.A X.xe use Qf (.ref D) s3.heap.objs.size X.env.frame) _
  obtain ⟨ce, hce⟩ : ∃ ce, ce = compEnvC sc (cellsFrom (s3.heap.objs.size + 1) sc.names (cloFrom X.env.cells sc.names [])) s3.heap.objs.size X.env := ⟨_, rfl⟩
  have cL : ce.locals = s3.heap.objs.size := by rw [hce]; rfl
  have cF : ce.frame = X.env.frame := by rw [hce]; rfl
  rw [← hce] at I4 pg pt way ⊢
  obtain ⟨s4, hs4⟩ : ∃ s4 : Shared, s4 = { s3 with heap := pushCells (s3.heap.push { cls := .type "dict", data := .dict #[] }) sc.names } := ⟨_, rfl⟩
  rw [← hs4] at I4 ⊢
  have st4 : tn 0 s4.heap := T.keep _ _ _ st2 fun b _ u q => by
    rw [hs4]
    exact pushCells_keeps _ _ _ _ (Heap.get?_push_of_some _ (lay b u q))
  have pe := way _ (block_pass (use := use) (Qf := Qf) (new := .ref D) I3 hs hf cL cF (fun b hb => (f3 b hb).1) tk)
  have still : ∀ {τ : L2.St} {F : Hp} {t : Shared}, Inv (X.blk s3 H3 sc ce fp) [] τ F t → (∀ b ∈ fp, F b = none) → ∀ b ∈ fp, FpOk (X.blk s3 H3 sc ce fp) [] F b := fun {τ F t} K hn b hb =>
    ⟨hn b hb, (K.ok.exf b hb).1, K.ok.exfs b hb, .inl hb, fun y c q => (K.ok.exf b hb).2 y c q, fun p hp => by cases hp⟩
  have loop : codeAny (model X.prog X.w) X.A (.compLoop (.ListComp elt [⟨tg, iter, ifs, 0⟩] sc pos) 0 (.ref it) (.ref D) ce) (EndC (model X.prog X.w) X.A X.xe use Qf (.ref D) s3.heap.objs.size X.env.frame) s4 := by
    refine compLoop_any (fun n t => ∃ i F, Inv (X.blk s3 H3 sc ce fp) [] (wipe σ (own.map (·.2))) F t ∧ tn i t.heap ∧ (∀ b ∈ fp, F b = none) ∧ W i n F) ?_ m0 ⟨0, H3, I4, st4, fun b hb => (f3 b hb).1.1, w0⟩
    rintro n s5 ⟨i, H5, I5, st5, n5, w5⟩
    rcases turn i n H5 w5 with ⟨stop, qq⟩ | ⟨go, Nx, hNx, step⟩
    · refine thnF (T.done (X.blk s3 H3 sc ce fp) rfl rfl rfl calm i [] s5 _ H5 (fun _ _ => False) I5 (still I5 n5) st5 stop) fun r s6 ⟨hr, I6⟩ => ?_
      subst hr
      have I7 : Inv X pins σ H5 s6 := by
        refine I3.call' (ch := fp) I6.os I6.base I6.hok I6.bare fun b hb => ?_
        obtain ⟨_, q1, _, q3, q4, q5⟩ := (f3 b hb).1
        exact ⟨q3, q1, q4, q5⟩
      have gone : H5 ce.locals = none := I6.free
      obtain ⟨m, hm, _⟩ := I6.loc
      have hm : s6.heap.Ns ce.locals m := hm
      rw [cL] at hm gone
      exact ends D s3.heap.objs.size s6 m H5 I7 qq hm (I3.fpOk (Nat.le_refl _) gone)
    · refine thnF (T.item (X.blk s3 H3 sc ce fp) rfl rfl rfl calm i [] s5 _ H5 (fun _ _ => False) I5 (still I5 n5) st5 go) fun r s6 ⟨u, hr, h6⟩ => ?_
      subst hr
      refine thnF h6 fun _ s7 ⟨x, H7, I7, r7, y7, st7, n7⟩ => ?_
      have I8 := I7.pinned (still I7 n7) (T.obj _ _ st7)
      refine thnF (pg.run _ s7 _ H7 x u _ I8 r7 (step x H7 y7)) fun _ s8 ⟨τ, H8, I9, hτ, q8⟩ => ?_
      refine thnF (pt.run _ s8 τ H8 _ I9 q8) fun b s9 ⟨H9, I10, q9⟩ => ?_
      have next : ∀ {t : Shared} {F : Hp}, Inv (X.blk s3 H3 sc ce fp) ([] ++ pinsAt fp s7.heap) τ F t → Nx F → ∃ m, m < n ∧ ∃ i F, Inv (X.blk s3 H3 sc ce fp) [] (wipe σ (own.map (·.2))) F t ∧ tn i t.heap ∧ (∀ b ∈ fp, F b = none) ∧ W i m F := fun {t F} K nx => by
        obtain ⟨m, hm, w6⟩ := hNx F nx
        have held : ∀ b ∈ fp, ∀ v, s7.heap.get? b = some v → t.heap.get? b = some v ∧ F b = none := fun b hb v q => by
          have z := K.pin (b, v) (List.mem_append_right _ (List.mem_append_right _ (mem_pinsAt hb q)))
          exact ⟨z.1, z.2.1⟩
        refine ⟨m, hm, i + 1, F, (K.unpinned (pins := [])).weak (by rw [← hτ, wipe_length]) (fun j v q => ?_), T.keep _ _ _ st7 fun b hb v q => (held b hb v q).1, fun b hb => ?_, w6⟩
        · rw [← hτ] at q
          exact (wipe_some q).1
        · obtain ⟨v, q, _⟩ := T.obj _ _ st7 b hb
          exact (held b hb v q).2
      cases b with
      | false => exact next I10 q9
      | true =>
        rw [if_pos rfl] at q9 ⊢
        refine wpAny_mono (pe.run _ s9 τ H9 _ (I10.wish _) q9) (fun z s10 ⟨yv, H10, I11, r10, acc, e10, z10, nx⟩ => ?_) fun _ _ z => z
        exact app_ok (X := X.blk s3 H3 sc ce fp) I11.unwish e10 z10 r10 fun s11 I12 => next I12 nx
  exact codeAny_compStart_list loop (T.self X.A 0 _ _ _ st4 loop)
/-- name = [..], the step may let an own error out -/
theorem ps_setLcR {i : Nat} {y : Str} {py spos : Pos} (calm : X.calm = true) (nd : X.N.Nodup) (at_ : X.N[i]? = some y) (loc : X.env.scope.names.lookup y = some .local)
    (hsw : swapsWith (.ListComp elt [⟨tg, iter, ifs, 0⟩] sc pos) (some (.Name y py)) spos.line X.env = pure true) (hi : PI X tg iter wi) (blk : BlkOk X.N X.env.scope sc own) (hs : X.stack = X.env :: X.outer) (hf : X.env.frame = some X.env.locals) (tk : Takes X fun cls d _ H => E cls d H)
    (hg : ∀ s H C cl fp, PG (X.blk s H sc (compEnvC sc cl C X.env) fp) tg g) (ht : ∀ s H C cl fp, PTs (X.blk s H sc (compEnvC sc cl C X.env) fp) ifs tt)
    (he : ∀ s H C cl fp xe, Passes (L2.CX X.prog X.w) (blkX X s H sc (compEnvC sc cl C X.env) fp xe) E → PE (blkX X s H sc (compEnvC sc cl C X.env) fp xe) elt te)
    (hfold : ∀ x, foldedSetIterable iter X.env x = pure x := by intro _; rfl) :
    PS X (.Assign [.Name y py] (.ListComp elt [⟨tg, iter, ifs, 0⟩] sc pos) spos) (tAsg (tLc wi g tt te (own.map (·.2))) (gName i)) := by
  constructor
  intro pins s σ H D I h
  have h : tLc wi g tt te (own.map (·.2)) σ H fun x G => gName i x σ G D.nx := h
  rw [exec_Assign_Name_used _ _ _ _ hsw]
  refine wpAny_bind (wpAny_standAt (wpAny_bind (wpAny_bind ?_)))
  refine thn (lc_raise (use := some (assign (.Name y py) X.env)) (Qf := fun _ t => SP X pins D .next t) calm nd I hi blk hs hf tk hg ht he hfold h fun L C t m G J q hm f => ?_) fun _ t z => wpAny_pure (wpAny_pure z)
  obtain ⟨f0, f1, f2, f3, f4, f5⟩ := f
  refine wpAny_assign_Name (store_ok2 (v := V.ref L) J nd at_ (.inl loc) rfl (fun t2 J2 hsb => ?_) (.inr loc))
  obtain ⟨a, sb, ha⟩ := hsb
  have ne : C ≠ a := by
    rcases ha with z | z
    · exact z ▸ f1
    · exact fun e => f4 y a z e.symm
  exact ⟨m, hm.sameBut sb ne, fun g3 sb3 => ⟨_, G, J2.turned (t' := t2.toks) (fun b u nb e => (sb3.2 b nb).trans e) f0 f1 f3 f4 f5, q⟩⟩
end
end FT

namespace K09
open PySem PySem.Spec PyProof.Rows L2 FT
open LamX hiding takes0
def top (i : Nat) : Stmt := PySem.Challenge.pw_flowtells_k09_webs_and_turns_refused.main.body.getD i (.Pass ⟨0, 0, 0, 0⟩)
def methN (i j : Nat) : Stmt := match top i with | .ClassDef _ _ _ b .. => b.getD j (.Pass ⟨0, 0, 0, 0⟩) | s => s
def meth (i : Nat) : Stmt := match top i with | .ClassDef _ _ _ b .. => b.headD (.Pass ⟨0, 0, 0, 0⟩) | s => s
abbrev s_is_integer : Stmt := top 1
abbrev s_is_within : Stmt := top 2
abbrev s_are_integers : Stmt := top 3
abbrev s_first_twice : Stmt := top 4
abbrev s_own_names : Stmt := top 16
abbrev s_joined : Stmt := top 17
abbrev s_names_of : Stmt := top 18
abbrev s_names_in : Stmt := top 19
abbrev s_fixed : Stmt := top 21
abbrev s_items_of : Stmt := top 24
abbrev s_number_of : Stmt := top 25
abbrev s_item_at : Stmt := top 26
abbrev s_number_at : Stmt := top 27
abbrev s_read_colon : Stmt := top 28
abbrev s_read_end : Stmt := top 29
abbrev s_are_ties : Stmt := top 34
abbrev s_is_pair : Stmt := top 35
abbrev s_hang_together : Stmt := top 36
abbrev s_need_web : Stmt := top 37
abbrev s_rounds : Stmt := top 38
abbrev s_steps_from : Stmt := top 39
abbrev s_rounds_from : Stmt := top 40
abbrev s_bonds : Stmt := top 41
abbrev s_near_places : Stmt := top 42
abbrev s_is_whole : Stmt := top 43
abbrev s_ties_between : Stmt := top 44
abbrev s_bridges : Stmt := top 45
abbrev s_is_bridge : Stmt := top 46
abbrev s_pieces : Stmt := top 48
abbrev s_piece_names : Stmt := top 49
abbrev s_together : Stmt := top 50
abbrev s_parting_places : Stmt := top 51
abbrev s_is_parting : Stmt := top 52
abbrev s_in_a_row : Stmt := top 53
abbrev s_beside : Stmt := top 54
abbrev s_turned : Stmt := top 56
abbrev s_need_place : Stmt := top 57
abbrev s_need_ties : Stmt := top 58
abbrev s_third_places : Stmt := top 59
abbrev s__law_gate : Stmt := top 61
abbrev s__law_push : Stmt := top 62
abbrev s__law_any : Stmt := top 63
abbrev s__law_heard : Stmt := top 64
abbrev s__law_made_right : Stmt := top 65
abbrev s__law_ends_right : Stmt := top 66
abbrev s__law_functions_right : Stmt := top 67
abbrev s__law_turned_right : Stmt := top 68
abbrev s__law_texts_right : Stmt := top 69
abbrev s_law : Stmt := top 70
abbrev s_init_BadNumber : Stmt := meth 7
abbrev s_init_BadWeb : Stmt := meth 8
abbrev s_init_Misfit : Stmt := meth 9
abbrev s_init_Missing : Stmt := meth 10
abbrev s_init_Twice : Stmt := meth 13
abbrev s_init_BadText : Stmt := meth 14
abbrev s_Web___init__ : Stmt := methN 33 0
abbrev s_Web___eq__ : Stmt := methN 33 1
abbrev s_Web___str__ : Stmt := methN 33 2
abbrev s_Web_read : Stmt := methN 33 3
structure Ad where
  p_read : Addr
  k__law_made_right : Addr
  t__law_made_right : Addr
  k__law_ends_right : Addr
  t__law_ends_right : Addr
  k__law_functions_right : Addr
  t__law_functions_right : Addr
  k__law_turned_right : Addr
  t__law_turned_right : Addr
  k__law_texts_right : Addr
  t__law_texts_right : Addr
  c_Web : Addr
  a_is_integer : Addr
  d_is_integer : FuncData
  a_is_within : Addr
  d_is_within : FuncData
  a_are_integers : Addr
  d_are_integers : FuncData
  a_first_twice : Addr
  d_first_twice : FuncData
  a_own_names : Addr
  d_own_names : FuncData
  a_joined : Addr
  d_joined : FuncData
  a_names_of : Addr
  d_names_of : FuncData
  a_names_in : Addr
  d_names_in : FuncData
  a_fixed : Addr
  d_fixed : FuncData
  a_items_of : Addr
  d_items_of : FuncData
  a_number_of : Addr
  d_number_of : FuncData
  a_item_at : Addr
  d_item_at : FuncData
  a_number_at : Addr
  d_number_at : FuncData
  a_read_colon : Addr
  d_read_colon : FuncData
  a_read_end : Addr
  d_read_end : FuncData
  a_are_ties : Addr
  d_are_ties : FuncData
  a_is_pair : Addr
  d_is_pair : FuncData
  a_hang_together : Addr
  d_hang_together : FuncData
  a_need_web : Addr
  d_need_web : FuncData
  a_rounds : Addr
  d_rounds : FuncData
  a_steps_from : Addr
  d_steps_from : FuncData
  a_rounds_from : Addr
  d_rounds_from : FuncData
  a_bonds : Addr
  d_bonds : FuncData
  a_near_places : Addr
  d_near_places : FuncData
  a_is_whole : Addr
  d_is_whole : FuncData
  a_ties_between : Addr
  d_ties_between : FuncData
  a_bridges : Addr
  d_bridges : FuncData
  a_is_bridge : Addr
  d_is_bridge : FuncData
  a_pieces : Addr
  d_pieces : FuncData
  a_piece_names : Addr
  d_piece_names : FuncData
  a_together : Addr
  d_together : FuncData
  a_parting_places : Addr
  d_parting_places : FuncData
  a_is_parting : Addr
  d_is_parting : FuncData
  a_in_a_row : Addr
  d_in_a_row : FuncData
  a_beside : Addr
  d_beside : FuncData
  a_turned : Addr
  d_turned : FuncData
  a_need_place : Addr
  d_need_place : FuncData
  a_need_ties : Addr
  d_need_ties : FuncData
  a_third_places : Addr
  d_third_places : FuncData
  a__law_gate : Addr
  d__law_gate : FuncData
  a__law_push : Addr
  d__law_push : FuncData
  a__law_any : Addr
  d__law_any : FuncData
  a__law_heard : Addr
  d__law_heard : FuncData
  a__law_made_right : Addr
  d__law_made_right : FuncData
  a__law_ends_right : Addr
  d__law_ends_right : FuncData
  a__law_functions_right : Addr
  d__law_functions_right : FuncData
  a__law_turned_right : Addr
  d__law_turned_right : FuncData
  a__law_texts_right : Addr
  d__law_texts_right : FuncData
  a_law : Addr
  d_law : FuncData
  a_Web___init__ : Addr
  d_Web___init__ : FuncData
  a_Web___eq__ : Addr
  d_Web___eq__ : FuncData
  a_Web___str__ : Addr
  d_Web___str__ : FuncData
  a_Web_read : Addr
  d_Web_read : FuncData
  c_NetError : Addr
  c_BadNumber : Addr
  c_BadWeb : Addr
  c_Misfit : Addr
  c_Missing : Addr
  c_NoPlace : Addr
  c_NoTie : Addr
  c_Twice : Addr
  c_BadText : Addr
  i_BadNumber : Addr
  d_init_BadNumber : FuncData
  i_BadWeb : Addr
  d_init_BadWeb : FuncData
  i_Misfit : Addr
  d_init_Misfit : FuncData
  i_Missing : Addr
  d_init_Missing : FuncData
  i_NoPlace : Addr
  d_init_NoPlace : FuncData
  i_NoTie : Addr
  d_init_NoTie : FuncData
  i_Twice : Addr
  d_init_Twice : FuncData
  i_BadText : Addr
  d_init_BadText : FuncData
  cc_NoPlace : Addr
  cda_NoPlace : Addr
  cc_NoTie : Addr
  cda_NoTie : Addr
  t_MOST_DIGITS : Tok
  t_MOST_PLACES : Tok
  t_MOST_TIES : Tok
abbrev N_is_integer : List Str := ["value"]
abbrev P_is_integer : List Str := ["value"]
theorem sc_is_integer : FnScope N_is_integer P_is_integer (defScope s_is_integer) := ⟨rfl, rfl, rfl, by decide +kernel, rfl, by decide +kernel, by decide +kernel⟩
abbrev N_is_within : List Str := ["value", "least", "most"]
abbrev P_is_within : List Str := ["value", "least", "most"]
theorem sc_is_within : FnScope N_is_within P_is_within (defScope s_is_within) := ⟨rfl, rfl, rfl, by decide +kernel, rfl, by decide +kernel, by decide +kernel⟩
abbrev N_are_integers : List Str := ["value", "item"]
abbrev P_are_integers : List Str := ["value"]
theorem sc_are_integers : FnScope N_are_integers P_are_integers (defScope s_are_integers) := ⟨rfl, rfl, rfl, by decide +kernel, rfl, by decide +kernel, by decide +kernel⟩
abbrev N_first_twice : List Str := ["values", "seen", "value"]
abbrev P_first_twice : List Str := ["values"]
theorem sc_first_twice : FnScope N_first_twice P_first_twice (defScope s_first_twice) := ⟨rfl, rfl, rfl, by decide +kernel, rfl, by decide +kernel, by decide +kernel⟩
abbrev N_own_names : List Str := ["many"]
abbrev P_own_names : List Str := ["many"]
theorem sc_own_names : FnScope N_own_names P_own_names (defScope s_own_names) := ⟨rfl, rfl, rfl, by decide +kernel, rfl, by decide +kernel, by decide +kernel⟩
abbrev N_joined : List Str := ["names", "one", "other", "low", "high", "name"]
abbrev P_joined : List Str := ["names", "one", "other"]
theorem sc_joined : FnScope N_joined P_joined (defScope s_joined) := ⟨rfl, rfl, rfl, by decide +kernel, rfl, by decide +kernel, by decide +kernel⟩
abbrev N_names_of : List Str := ["many", "pairs", "names", "one", "other"]
abbrev P_names_of : List Str := ["many", "pairs"]
theorem sc_names_of : FnScope N_names_of P_names_of (defScope s_names_of) := ⟨rfl, rfl, rfl, by decide +kernel, rfl, by decide +kernel, by decide +kernel⟩
abbrev N_names_in : List Str := ["many", "groups", "group", "thing"]
abbrev P_names_in : List Str := ["many", "groups"]
theorem sc_names_in : FnScope N_names_in P_names_in (defScope s_names_in) := ⟨rfl, rfl, rfl, by decide +kernel, rfl, by decide +kernel, by decide +kernel⟩
abbrev N_fixed : List Str := ["value", "item"]
abbrev P_fixed : List Str := ["value"]
theorem sc_fixed : FnScope N_fixed P_fixed (defScope s_fixed) := ⟨rfl, rfl, rfl, by decide +kernel, rfl, by decide +kernel, by decide +kernel⟩
abbrev N_items_of : List Str := ["text"]
abbrev P_items_of : List Str := ["text"]
theorem sc_items_of : FnScope N_items_of P_items_of (defScope s_items_of) := ⟨rfl, rfl, rfl, by decide +kernel, rfl, by decide +kernel, by decide +kernel⟩
abbrev N_number_of : List Str := ["item", "digits"]
abbrev P_number_of : List Str := ["item"]
theorem sc_number_of : FnScope N_number_of P_number_of (defScope s_number_of) := ⟨rfl, rfl, rfl, by decide +kernel, rfl, by decide +kernel, by decide +kernel⟩
abbrev N_item_at : List Str := ["items", "index"]
abbrev P_item_at : List Str := ["items", "index"]
theorem sc_item_at : FnScope N_item_at P_item_at (defScope s_item_at) := ⟨rfl, rfl, rfl, by decide +kernel, rfl, by decide +kernel, by decide +kernel⟩
abbrev N_number_at : List Str := ["items", "index", "least", "most", "number"]
abbrev P_number_at : List Str := ["items", "index", "least", "most"]
theorem sc_number_at : FnScope N_number_at P_number_at (defScope s_number_at) := ⟨rfl, rfl, rfl, by decide +kernel, rfl, by decide +kernel, by decide +kernel⟩
abbrev N_read_colon : List Str := ["items", "index"]
abbrev P_read_colon : List Str := ["items", "index"]
theorem sc_read_colon : FnScope N_read_colon P_read_colon (defScope s_read_colon) := ⟨rfl, rfl, rfl, by decide +kernel, rfl, by decide +kernel, by decide +kernel⟩
abbrev N_read_end : List Str := ["items", "index"]
abbrev P_read_end : List Str := ["items", "index"]
theorem sc_read_end : FnScope N_read_end P_read_end (defScope s_read_end) := ⟨rfl, rfl, rfl, by decide +kernel, rfl, by decide +kernel, by decide +kernel⟩
abbrev N_are_ties : List Str := ["places", "value", "pair"]
abbrev P_are_ties : List Str := ["places", "value"]
theorem sc_are_ties : FnScope N_are_ties P_are_ties (defScope s_are_ties) := ⟨rfl, rfl, rfl, by decide +kernel, rfl, by decide +kernel, by decide +kernel⟩
abbrev N_is_pair : List Str := ["places", "value", "end"]
abbrev P_is_pair : List Str := ["places", "value"]
theorem sc_is_pair : FnScope N_is_pair P_is_pair (defScope s_is_pair) := ⟨rfl, rfl, rfl, by decide +kernel, rfl, by decide +kernel, by decide +kernel⟩
abbrev N_hang_together : List Str := ["places", "ties"]
abbrev P_hang_together : List Str := ["places", "ties"]
theorem sc_hang_together : FnScope N_hang_together P_hang_together (defScope s_hang_together) := ⟨rfl, rfl, rfl, by decide +kernel, rfl, by decide +kernel, by decide +kernel⟩
abbrev N_need_web : List Str := ["value", "part"]
abbrev P_need_web : List Str := ["value", "part"]
theorem sc_need_web : FnScope N_need_web P_need_web (defScope s_need_web) := ⟨rfl, rfl, rfl, by decide +kernel, rfl, by decide +kernel, by decide +kernel⟩
abbrev N_rounds : List Str := ["web", "steps", "found", "tie"]
abbrev P_rounds : List Str := ["web"]
theorem sc_rounds : FnScope N_rounds P_rounds (defScope s_rounds) := ⟨rfl, rfl, rfl, by decide +kernel, rfl, by decide +kernel, by decide +kernel⟩
abbrev N_steps_from : List Str := ["web", "steps", "tie", "one", "other", "_"]
abbrev P_steps_from : List Str := ["web"]
theorem sc_steps_from : FnScope N_steps_from P_steps_from (defScope s_steps_from) := ⟨rfl, rfl, rfl, by decide +kernel, rfl, by decide +kernel, by decide +kernel⟩
abbrev N_rounds_from : List Str := ["web", "steps", "tie", "goal", "start", "found", "ways", "place", "been", "gone", "step", "end"]
abbrev P_rounds_from : List Str := ["web", "steps", "tie"]
theorem sc_rounds_from : FnScope N_rounds_from P_rounds_from (defScope s_rounds_from) := ⟨rfl, rfl, rfl, by decide +kernel, rfl, by decide +kernel, by decide +kernel⟩
abbrev N_bonds : List Str := ["web", "near", "every", "sides", "side"]
abbrev P_bonds : List Str := ["web"]
theorem sc_bonds : FnScope N_bonds P_bonds (defScope s_bonds) := ⟨rfl, rfl, rfl, by decide +kernel, rfl, by decide +kernel, by decide +kernel⟩
abbrev N_near_places : List Str := ["web", "near", "one", "other"]
abbrev P_near_places : List Str := ["web"]
theorem sc_near_places : FnScope N_near_places P_near_places (defScope s_near_places) := ⟨rfl, rfl, rfl, by decide +kernel, rfl, by decide +kernel, by decide +kernel⟩
abbrev N_is_whole : List Str := ["side", "near", "grown", "fresh", "place"]
abbrev P_is_whole : List Str := ["side", "near"]
theorem sc_is_whole : FnScope N_is_whole P_is_whole (defScope s_is_whole) := ⟨rfl, rfl, rfl, by decide +kernel, rfl, by decide +kernel, by decide +kernel⟩
abbrev N_ties_between : List Str := ["web", "side", "tie", "one", "other"]
abbrev P_ties_between : List Str := ["web", "side"]
theorem sc_ties_between : FnScope N_ties_between P_ties_between (defScope s_ties_between) := ⟨rfl, rfl, rfl, by decide +kernel, rfl, by decide +kernel, by decide +kernel⟩
abbrev N_bridges : List Str := ["web", "tie"]
abbrev P_bridges : List Str := ["web"]
theorem sc_bridges : FnScope N_bridges P_bridges (defScope s_bridges) := ⟨rfl, rfl, rfl, by decide +kernel, rfl, by decide +kernel, by decide +kernel⟩
abbrev N_is_bridge : List Str := ["web", "tie", "one", "other", "names"]
abbrev P_is_bridge : List Str := ["web", "tie"]
theorem sc_is_bridge : FnScope N_is_bridge P_is_bridge (defScope s_is_bridge) := ⟨rfl, rfl, rfl, by decide +kernel, rfl, by decide +kernel, by decide +kernel⟩
abbrev N_pieces : List Str := ["web"]
abbrev P_pieces : List Str := ["web"]
theorem sc_pieces : FnScope N_pieces P_pieces (defScope s_pieces) := ⟨rfl, rfl, rfl, by decide +kernel, rfl, by decide +kernel, by decide +kernel⟩
abbrev N_piece_names : List Str := ["web"]
abbrev P_piece_names : List Str := ["web"]
theorem sc_piece_names : FnScope N_piece_names P_piece_names (defScope s_piece_names) := ⟨rfl, rfl, rfl, by decide +kernel, rfl, by decide +kernel, by decide +kernel⟩
abbrev N_together : List Str := ["marks", "groups", "tie", "mark", "group"]
abbrev P_together : List Str := ["marks"]
theorem sc_together : FnScope N_together P_together (defScope s_together) := ⟨rfl, rfl, rfl, by decide +kernel, rfl, by decide +kernel, by decide +kernel⟩
abbrev N_parting_places : List Str := ["web", "names", "place"]
abbrev P_parting_places : List Str := ["web"]
theorem sc_parting_places : FnScope N_parting_places P_parting_places (defScope s_parting_places) := ⟨rfl, rfl, rfl, by decide +kernel, rfl, by decide +kernel, by decide +kernel⟩
abbrev N_is_parting : List Str := ["web", "names", "place", "tie", "pair"]
abbrev P_is_parting : List Str := ["web", "names", "place"]
theorem sc_is_parting : FnScope N_is_parting P_is_parting (defScope s_is_parting) := ⟨rfl, rfl, rfl, by decide +kernel, rfl, by decide +kernel, by decide +kernel⟩
abbrev N_in_a_row : List Str := ["web", "circles", "left_out", "ties", "tie", "circle"]
abbrev P_in_a_row : List Str := ["web"]
theorem sc_in_a_row : FnScope N_in_a_row P_in_a_row (defScope s_in_a_row) := ⟨rfl, rfl, rfl, by decide +kernel, rfl, by decide +kernel, by decide +kernel⟩
abbrev N_beside : List Str := ["web", "pairs", "tie", "pair"]
abbrev P_beside : List Str := ["web"]
theorem sc_beside : FnScope N_beside P_beside (defScope s_beside) := ⟨rfl, rfl, rfl, by decide +kernel, rfl, by decide +kernel, by decide +kernel⟩
abbrev N_turned : List Str := ["web", "one", "other", "ties", "goes", "pairs", "tie", "first", "second"]
abbrev P_turned : List Str := ["web", "one", "other", "ties"]
theorem sc_turned : FnScope N_turned P_turned (defScope s_turned) := ⟨rfl, rfl, rfl, by decide +kernel, rfl, by decide +kernel, by decide +kernel⟩
abbrev N_need_place : List Str := ["web", "value"]
abbrev P_need_place : List Str := ["web", "value"]
theorem sc_need_place : FnScope N_need_place P_need_place (defScope s_need_place) := ⟨rfl, rfl, rfl, by decide +kernel, rfl, by decide +kernel, by decide +kernel⟩
abbrev N_need_ties : List Str := ["web", "ties", "tie", "again"]
abbrev P_need_ties : List Str := ["web", "ties"]
theorem sc_need_ties : FnScope N_need_ties P_need_ties (defScope s_need_ties) := ⟨rfl, rfl, rfl, by decide +kernel, rfl, by decide +kernel, by decide +kernel⟩
abbrev N_third_places : List Str := ["web", "one", "other", "ties", "inner", "outer", "tie", "end", "pair"]
abbrev P_third_places : List Str := ["web", "one", "other", "ties"]
theorem sc_third_places : FnScope N_third_places P_third_places (defScope s_third_places) := ⟨rfl, rfl, rfl, by decide +kernel, rfl, by decide +kernel, by decide +kernel⟩
abbrev N__law_gate : List Str := ["script", "cell"]
abbrev P__law_gate : List Str := ["script"]
theorem sc__law_gate : FnScope N__law_gate P__law_gate (defScope s__law_gate) := ⟨rfl, rfl, rfl, by decide +kernel, rfl, by decide +kernel, by decide +kernel⟩
abbrev N__law_push : List Str := ["gate", "many", "left", "turn", "cell", "mixed"]
abbrev P__law_push : List Str := ["gate", "many"]
theorem sc__law_push : FnScope N__law_push P__law_push (defScope s__law_push) := ⟨rfl, rfl, rfl, by decide +kernel, rfl, by decide +kernel, by decide +kernel⟩
abbrev N__law_any : List Str := ["gate", "some"]
abbrev P__law_any : List Str := ["gate", "some"]
theorem sc__law_any : FnScope N__law_any P__law_any (defScope s__law_any) := ⟨rfl, rfl, rfl, by decide +kernel, rfl, by decide +kernel, by decide +kernel⟩
abbrev N__law_heard : List Str := ["ask", "caught", "error"]
abbrev P__law_heard : List Str := ["ask"]
theorem sc__law_heard : FnScope N__law_heard P__law_heard (defScope s__law_heard) := ⟨rfl, rfl, rfl, by decide +kernel, rfl, by decide +kernel, by decide +kernel⟩
abbrev N__law_made_right : List Str := ["gate", "odd", "bad", "apart", "heard"]
abbrev P__law_made_right : List Str := ["gate"]
theorem sc__law_made_right : FnScope N__law_made_right P__law_made_right (defScope s__law_made_right) := ⟨rfl, rfl, rfl, by decide +kernel, rfl, by decide +kernel, by decide +kernel⟩
abbrev N__law_ends_right : List Str := ["gate", "many", "good", "place", "turn", "at", "bent", "heard", "ends"]
abbrev P__law_ends_right : List Str := ["gate"]
theorem sc__law_ends_right : FnScope N__law_ends_right P__law_ends_right (defScope s__law_ends_right) := ⟨rfl, rfl, rfl, by decide +kernel, rfl, by decide +kernel, by decide +kernel⟩
abbrev N__law_functions_right : List Str := ["gate", "odd", "heard"]
abbrev P__law_functions_right : List Str := ["gate"]
theorem sc__law_functions_right : FnScope N__law_functions_right P__law_functions_right (defScope s__law_functions_right) := ⟨rfl, rfl, rfl, by decide +kernel, rfl, by decide +kernel, by decide +kernel⟩
abbrev N__law_turned_right : List Str := ["gate", "web", "none", "odd", "place", "lot", "far", "tie", "other", "heard", "due"]
abbrev P__law_turned_right : List Str := ["gate"]
theorem sc__law_turned_right : FnScope N__law_turned_right P__law_turned_right (defScope s__law_turned_right) := ⟨rfl, rfl, rfl, by decide +kernel, rfl, by decide +kernel, by decide +kernel⟩
abbrev N__law_texts_right : List Str := ["gate", "ring", "many", "place", "items", "heard", "due", "long"]
abbrev P__law_texts_right : List Str := ["gate"]
theorem sc__law_texts_right : FnScope N__law_texts_right P__law_texts_right (defScope s__law_texts_right) := ⟨rfl, rfl, rfl, by decide +kernel, rfl, by decide +kernel, by decide +kernel⟩
abbrev N_law : List Str := ["script", "gate", "turn"]
abbrev P_law : List Str := ["script"]
theorem sc_law : FnScope N_law P_law (defScope s_law) := ⟨rfl, rfl, rfl, by decide +kernel, rfl, by decide +kernel, by decide +kernel⟩
abbrev N_Web___init__ : List Str := ["self", "places", "ties"]
abbrev P_Web___init__ : List Str := ["self", "places", "ties"]
theorem sc_Web___init__ : FnScope N_Web___init__ P_Web___init__ (defScope s_Web___init__) := ⟨rfl, rfl, rfl, by decide +kernel, rfl, by decide +kernel, by decide +kernel⟩
abbrev N_Web___eq__ : List Str := ["self", "other"]
abbrev P_Web___eq__ : List Str := ["self", "other"]
theorem sc_Web___eq__ : FnScope N_Web___eq__ P_Web___eq__ (defScope s_Web___eq__) := ⟨rfl, rfl, rfl, by decide +kernel, rfl, by decide +kernel, by decide +kernel⟩
abbrev N_Web___str__ : List Str := ["self", "pair", "end"]
abbrev P_Web___str__ : List Str := ["self"]
theorem sc_Web___str__ : FnScope N_Web___str__ P_Web___str__ (defScope s_Web___str__) := ⟨rfl, rfl, rfl, by decide +kernel, rfl, by decide +kernel, by decide +kernel⟩
abbrev N_Web_read : List Str := ["text", "items", "places", "behind", "ends", "index"]
abbrev P_Web_read : List Str := ["text"]
theorem sc_Web_read : FnScope N_Web_read P_Web_read (defScope s_Web_read) := ⟨rfl, rfl, rfl, by decide +kernel, rfl, by decide +kernel, by decide +kernel⟩
abbrev N_init_BadNumber : List Str := ["self", "part"]
abbrev P_init_BadNumber : List Str := ["self", "part"]
theorem sc_init_BadNumber : FnScope N_init_BadNumber P_init_BadNumber (defScope s_init_BadNumber) := ⟨rfl, rfl, rfl, by decide +kernel, rfl, by decide +kernel, by decide +kernel⟩
abbrev N_init_BadWeb : List Str := ["self", "part"]
abbrev P_init_BadWeb : List Str := ["self", "part"]
theorem sc_init_BadWeb : FnScope N_init_BadWeb P_init_BadWeb (defScope s_init_BadWeb) := ⟨rfl, rfl, rfl, by decide +kernel, rfl, by decide +kernel, by decide +kernel⟩
abbrev N_init_Misfit : List Str := ["self", "part"]
abbrev P_init_Misfit : List Str := ["self", "part"]
theorem sc_init_Misfit : FnScope N_init_Misfit P_init_Misfit (defScope s_init_Misfit) := ⟨rfl, rfl, rfl, by decide +kernel, rfl, by decide +kernel, by decide +kernel⟩
abbrev N_init_Missing : List Str := ["self", "value"]
abbrev P_init_Missing : List Str := ["self", "value"]
theorem sc_init_Missing : FnScope N_init_Missing P_init_Missing (defScope s_init_Missing) := ⟨rfl, rfl, rfl, by decide +kernel, rfl, by decide +kernel, by decide +kernel⟩
abbrev P_init_NoPlace : List Str := ["self", "value"]
abbrev P_init_NoTie : List Str := ["self", "value"]
abbrev N_init_Twice : List Str := ["self", "value"]
abbrev P_init_Twice : List Str := ["self", "value"]
theorem sc_init_Twice : FnScope N_init_Twice P_init_Twice (defScope s_init_Twice) := ⟨rfl, rfl, rfl, by decide +kernel, rfl, by decide +kernel, by decide +kernel⟩
abbrev N_init_BadText : List Str := ["self", "line", "item"]
abbrev P_init_BadText : List Str := ["self", "line", "item"]
theorem sc_init_BadText : FnScope N_init_BadText P_init_BadText (defScope s_init_BadText) := ⟨rfl, rfl, rfl, by decide +kernel, rfl, by decide +kernel, by decide +kernel⟩
structure Txt (P : Program) (K : PySem.W.Frag) (mg : Str → Option Value) (A : Ad) : Prop where
  g_is_integer : mg "is_integer" = some (.ref A.a_is_integer)
  F_is_integer : Fun K "is_integer" "is_integer" s_is_integer A.a_is_integer A.d_is_integer
  b_is_integer : Binds K A.d_is_integer P_is_integer []
  g_is_within : mg "is_within" = some (.ref A.a_is_within)
  F_is_within : Fun K "is_within" "is_within" s_is_within A.a_is_within A.d_is_within
  b_is_within : Binds K A.d_is_within P_is_within []
  g_are_integers : mg "are_integers" = some (.ref A.a_are_integers)
  F_are_integers : Fun K "are_integers" "are_integers" s_are_integers A.a_are_integers A.d_are_integers
  b_are_integers : Binds K A.d_are_integers P_are_integers []
  g_first_twice : mg "first_twice" = some (.ref A.a_first_twice)
  F_first_twice : Fun K "first_twice" "first_twice" s_first_twice A.a_first_twice A.d_first_twice
  b_first_twice : Binds K A.d_first_twice P_first_twice []
  g_own_names : mg "own_names" = some (.ref A.a_own_names)
  F_own_names : Fun K "own_names" "own_names" s_own_names A.a_own_names A.d_own_names
  b_own_names : Binds K A.d_own_names P_own_names []
  g_joined : mg "joined" = some (.ref A.a_joined)
  F_joined : Fun K "joined" "joined" s_joined A.a_joined A.d_joined
  b_joined : Binds K A.d_joined P_joined []
  g_names_of : mg "names_of" = some (.ref A.a_names_of)
  F_names_of : Fun K "names_of" "names_of" s_names_of A.a_names_of A.d_names_of
  b_names_of : Binds K A.d_names_of P_names_of []
  g_names_in : mg "names_in" = some (.ref A.a_names_in)
  F_names_in : Fun K "names_in" "names_in" s_names_in A.a_names_in A.d_names_in
  b_names_in : Binds K A.d_names_in P_names_in []
  g_fixed : mg "fixed" = some (.ref A.a_fixed)
  F_fixed : Fun K "fixed" "fixed" s_fixed A.a_fixed A.d_fixed
  b_fixed : Binds K A.d_fixed P_fixed []
  g_items_of : mg "items_of" = some (.ref A.a_items_of)
  F_items_of : Fun K "items_of" "items_of" s_items_of A.a_items_of A.d_items_of
  b_items_of : Binds K A.d_items_of P_items_of []
  g_number_of : mg "number_of" = some (.ref A.a_number_of)
  F_number_of : Fun K "number_of" "number_of" s_number_of A.a_number_of A.d_number_of
  b_number_of : Binds K A.d_number_of P_number_of []
  g_item_at : mg "item_at" = some (.ref A.a_item_at)
  F_item_at : Fun K "item_at" "item_at" s_item_at A.a_item_at A.d_item_at
  b_item_at : Binds K A.d_item_at P_item_at []
  g_number_at : mg "number_at" = some (.ref A.a_number_at)
  F_number_at : Fun K "number_at" "number_at" s_number_at A.a_number_at A.d_number_at
  b_number_at : Binds K A.d_number_at P_number_at []
  g_read_colon : mg "read_colon" = some (.ref A.a_read_colon)
  F_read_colon : Fun K "read_colon" "read_colon" s_read_colon A.a_read_colon A.d_read_colon
  b_read_colon : Binds K A.d_read_colon P_read_colon []
  g_read_end : mg "read_end" = some (.ref A.a_read_end)
  F_read_end : Fun K "read_end" "read_end" s_read_end A.a_read_end A.d_read_end
  b_read_end : Binds K A.d_read_end P_read_end []
  g_are_ties : mg "are_ties" = some (.ref A.a_are_ties)
  F_are_ties : Fun K "are_ties" "are_ties" s_are_ties A.a_are_ties A.d_are_ties
  b_are_ties : Binds K A.d_are_ties P_are_ties []
  g_is_pair : mg "is_pair" = some (.ref A.a_is_pair)
  F_is_pair : Fun K "is_pair" "is_pair" s_is_pair A.a_is_pair A.d_is_pair
  b_is_pair : Binds K A.d_is_pair P_is_pair []
  g_hang_together : mg "hang_together" = some (.ref A.a_hang_together)
  F_hang_together : Fun K "hang_together" "hang_together" s_hang_together A.a_hang_together A.d_hang_together
  b_hang_together : Binds K A.d_hang_together P_hang_together []
  g_need_web : mg "need_web" = some (.ref A.a_need_web)
  F_need_web : Fun K "need_web" "need_web" s_need_web A.a_need_web A.d_need_web
  b_need_web : Binds K A.d_need_web P_need_web []
  g_rounds : mg "rounds" = some (.ref A.a_rounds)
  F_rounds : Fun K "rounds" "rounds" s_rounds A.a_rounds A.d_rounds
  b_rounds : Binds K A.d_rounds P_rounds []
  g_steps_from : mg "steps_from" = some (.ref A.a_steps_from)
  F_steps_from : Fun K "steps_from" "steps_from" s_steps_from A.a_steps_from A.d_steps_from
  b_steps_from : Binds K A.d_steps_from P_steps_from []
  g_rounds_from : mg "rounds_from" = some (.ref A.a_rounds_from)
  F_rounds_from : Fun K "rounds_from" "rounds_from" s_rounds_from A.a_rounds_from A.d_rounds_from
  b_rounds_from : Binds K A.d_rounds_from P_rounds_from []
  g_bonds : mg "bonds" = some (.ref A.a_bonds)
  F_bonds : Fun K "bonds" "bonds" s_bonds A.a_bonds A.d_bonds
  b_bonds : Binds K A.d_bonds P_bonds []
  g_near_places : mg "near_places" = some (.ref A.a_near_places)
  F_near_places : Fun K "near_places" "near_places" s_near_places A.a_near_places A.d_near_places
  b_near_places : Binds K A.d_near_places P_near_places []
  g_is_whole : mg "is_whole" = some (.ref A.a_is_whole)
  F_is_whole : Fun K "is_whole" "is_whole" s_is_whole A.a_is_whole A.d_is_whole
  b_is_whole : Binds K A.d_is_whole P_is_whole []
  g_ties_between : mg "ties_between" = some (.ref A.a_ties_between)
  F_ties_between : Fun K "ties_between" "ties_between" s_ties_between A.a_ties_between A.d_ties_between
  b_ties_between : Binds K A.d_ties_between P_ties_between []
  g_bridges : mg "bridges" = some (.ref A.a_bridges)
  F_bridges : Fun K "bridges" "bridges" s_bridges A.a_bridges A.d_bridges
  b_bridges : Binds K A.d_bridges P_bridges []
  g_is_bridge : mg "is_bridge" = some (.ref A.a_is_bridge)
  F_is_bridge : Fun K "is_bridge" "is_bridge" s_is_bridge A.a_is_bridge A.d_is_bridge
  b_is_bridge : Binds K A.d_is_bridge P_is_bridge []
  g_pieces : mg "pieces" = some (.ref A.a_pieces)
  F_pieces : Fun K "pieces" "pieces" s_pieces A.a_pieces A.d_pieces
  b_pieces : Binds K A.d_pieces P_pieces []
  g_piece_names : mg "piece_names" = some (.ref A.a_piece_names)
  F_piece_names : Fun K "piece_names" "piece_names" s_piece_names A.a_piece_names A.d_piece_names
  b_piece_names : Binds K A.d_piece_names P_piece_names []
  g_together : mg "together" = some (.ref A.a_together)
  F_together : Fun K "together" "together" s_together A.a_together A.d_together
  b_together : Binds K A.d_together P_together []
  g_parting_places : mg "parting_places" = some (.ref A.a_parting_places)
  F_parting_places : Fun K "parting_places" "parting_places" s_parting_places A.a_parting_places A.d_parting_places
  b_parting_places : Binds K A.d_parting_places P_parting_places []
  g_is_parting : mg "is_parting" = some (.ref A.a_is_parting)
  F_is_parting : Fun K "is_parting" "is_parting" s_is_parting A.a_is_parting A.d_is_parting
  b_is_parting : Binds K A.d_is_parting P_is_parting []
  g_in_a_row : mg "in_a_row" = some (.ref A.a_in_a_row)
  F_in_a_row : Fun K "in_a_row" "in_a_row" s_in_a_row A.a_in_a_row A.d_in_a_row
  b_in_a_row : Binds K A.d_in_a_row P_in_a_row []
  g_beside : mg "beside" = some (.ref A.a_beside)
  F_beside : Fun K "beside" "beside" s_beside A.a_beside A.d_beside
  b_beside : Binds K A.d_beside P_beside []
  g_turned : mg "turned" = some (.ref A.a_turned)
  F_turned : Fun K "turned" "turned" s_turned A.a_turned A.d_turned
  b_turned : Binds K A.d_turned P_turned []
  g_need_place : mg "need_place" = some (.ref A.a_need_place)
  F_need_place : Fun K "need_place" "need_place" s_need_place A.a_need_place A.d_need_place
  b_need_place : Binds K A.d_need_place P_need_place []
  g_need_ties : mg "need_ties" = some (.ref A.a_need_ties)
  F_need_ties : Fun K "need_ties" "need_ties" s_need_ties A.a_need_ties A.d_need_ties
  b_need_ties : Binds K A.d_need_ties P_need_ties []
  g_third_places : mg "third_places" = some (.ref A.a_third_places)
  F_third_places : Fun K "third_places" "third_places" s_third_places A.a_third_places A.d_third_places
  b_third_places : Binds K A.d_third_places P_third_places []
  g__law_gate : mg "_law_gate" = some (.ref A.a__law_gate)
  F__law_gate : Fun K "_law_gate" "_law_gate" s__law_gate A.a__law_gate A.d__law_gate
  b__law_gate : Binds K A.d__law_gate P__law_gate []
  g__law_push : mg "_law_push" = some (.ref A.a__law_push)
  F__law_push : Fun K "_law_push" "_law_push" s__law_push A.a__law_push A.d__law_push
  b__law_push : Binds K A.d__law_push P__law_push []
  g__law_any : mg "_law_any" = some (.ref A.a__law_any)
  F__law_any : Fun K "_law_any" "_law_any" s__law_any A.a__law_any A.d__law_any
  b__law_any : Binds K A.d__law_any P__law_any []
  g__law_heard : mg "_law_heard" = some (.ref A.a__law_heard)
  F__law_heard : Fun K "_law_heard" "_law_heard" s__law_heard A.a__law_heard A.d__law_heard
  b__law_heard : Binds K A.d__law_heard P__law_heard []
  g__law_made_right : mg "_law_made_right" = some (.ref A.a__law_made_right)
  F__law_made_right : FunC K "_law_made_right" "_law_made_right" s__law_made_right A.a__law_made_right A.d__law_made_right A.k__law_made_right
  b__law_made_right : Binds K A.d__law_made_right P__law_made_right []
  g__law_ends_right : mg "_law_ends_right" = some (.ref A.a__law_ends_right)
  F__law_ends_right : FunC K "_law_ends_right" "_law_ends_right" s__law_ends_right A.a__law_ends_right A.d__law_ends_right A.k__law_ends_right
  b__law_ends_right : Binds K A.d__law_ends_right P__law_ends_right []
  g__law_functions_right : mg "_law_functions_right" = some (.ref A.a__law_functions_right)
  F__law_functions_right : FunC K "_law_functions_right" "_law_functions_right" s__law_functions_right A.a__law_functions_right A.d__law_functions_right A.k__law_functions_right
  b__law_functions_right : Binds K A.d__law_functions_right P__law_functions_right []
  g__law_turned_right : mg "_law_turned_right" = some (.ref A.a__law_turned_right)
  F__law_turned_right : FunC K "_law_turned_right" "_law_turned_right" s__law_turned_right A.a__law_turned_right A.d__law_turned_right A.k__law_turned_right
  b__law_turned_right : Binds K A.d__law_turned_right P__law_turned_right []
  g__law_texts_right : mg "_law_texts_right" = some (.ref A.a__law_texts_right)
  F__law_texts_right : FunC K "_law_texts_right" "_law_texts_right" s__law_texts_right A.a__law_texts_right A.d__law_texts_right A.k__law_texts_right
  b__law_texts_right : Binds K A.d__law_texts_right P__law_texts_right []
  g_law : mg "law" = some (.ref A.a_law)
  F_law : Fun K "law" "law" s_law A.a_law A.d_law
  b_law : Binds K A.d_law P_law []
  g_Web : mg "Web" = some (.ref A.c_Web)
  M_Web : Mk K A.c_Web A.a_Web___init__
  K_Web : Cls K A.c_Web
  I_Web : IsO K A.c_Web
  N_Web_places : NoAttr K A.c_Web "places"
  N_Web_ties : NoAttr K A.c_Web "ties"
  F_Web___init__ : Fun K "__init__" "Web.__init__" s_Web___init__ A.a_Web___init__ A.d_Web___init__
  b_Web___init__ : Binds K A.d_Web___init__ P_Web___init__ []
  F_Web___eq__ : Fun K "__eq__" "Web.__eq__" s_Web___eq__ A.a_Web___eq__ A.d_Web___eq__
  b_Web___eq__ : Binds K A.d_Web___eq__ P_Web___eq__ []
  F_Web___str__ : Fun K "__str__" "Web.__str__" s_Web___str__ A.a_Web___str__ A.d_Web___str__
  b_Web___str__ : Binds K A.d_Web___str__ P_Web___str__ []
  F_Web_read : Fun K "read" "Web.read" s_Web_read A.a_Web_read A.d_Web_read
  b_Web_read : Binds K A.d_Web_read P_Web_read []
  C_NetError : Cn K mg A.c_NetError "NetError"
  X_BadNumber : XT K mg "BadNumber" A.c_BadNumber A.i_BadNumber [A.c_NetError] ["NetError"] ["part"]
  F_init_BadNumber : Fun K "__init__" "BadNumber.__init__" s_init_BadNumber A.i_BadNumber A.d_init_BadNumber
  b_init_BadNumber : Binds K A.d_init_BadNumber P_init_BadNumber []
  X_BadWeb : XT K mg "BadWeb" A.c_BadWeb A.i_BadWeb [A.c_NetError] ["NetError"] ["part"]
  F_init_BadWeb : Fun K "__init__" "BadWeb.__init__" s_init_BadWeb A.i_BadWeb A.d_init_BadWeb
  b_init_BadWeb : Binds K A.d_init_BadWeb P_init_BadWeb []
  X_Misfit : XT K mg "Misfit" A.c_Misfit A.i_Misfit [A.c_NetError] ["NetError"] ["part"]
  F_init_Misfit : Fun K "__init__" "Misfit.__init__" s_init_Misfit A.i_Misfit A.d_init_Misfit
  b_init_Misfit : Binds K A.d_init_Misfit P_init_Misfit []
  X_Missing : XT K mg "Missing" A.c_Missing A.i_Missing [A.c_NetError] ["NetError"] ["value"]
  F_init_Missing : Fun K "__init__" "Missing.__init__" s_init_Missing A.i_Missing A.d_init_Missing
  b_init_Missing : Binds K A.d_init_Missing P_init_Missing []
  X_NoPlace : XT K mg "NoPlace" A.c_NoPlace A.i_NoPlace [A.c_Missing, A.c_NetError] ["Missing", "NetError"] ["value"]
  S_NoPlace : SFun P K ⟨⟨40, 17, 40, 21⟩, ⟨40, 23, 40, 28⟩, ⟨41, 8, 41, 13⟩, ⟨41, 8, 41, 15⟩, ⟨41, 8, 41, 24⟩, ⟨41, 25, 41, 30⟩, ⟨41, 8, 41, 31⟩, ⟨41, 8, 41, 31⟩⟩ "NoPlace.__init__" A.i_NoPlace A.c_NoPlace A.cc_NoPlace A.cda_NoPlace A.d_init_NoPlace
  U_NoPlace : SupC K A.c_NoPlace A.c_NoPlace A.i_Missing
  b_init_NoPlace : Binds K A.d_init_NoPlace P_init_NoPlace []
  X_NoTie : XT K mg "NoTie" A.c_NoTie A.i_NoTie [A.c_Missing, A.c_NetError] ["Missing", "NetError"] ["value"]
  S_NoTie : SFun P K ⟨⟨44, 17, 44, 21⟩, ⟨44, 23, 44, 28⟩, ⟨45, 8, 45, 13⟩, ⟨45, 8, 45, 15⟩, ⟨45, 8, 45, 24⟩, ⟨45, 25, 45, 30⟩, ⟨45, 8, 45, 31⟩, ⟨45, 8, 45, 31⟩⟩ "NoTie.__init__" A.i_NoTie A.c_NoTie A.cc_NoTie A.cda_NoTie A.d_init_NoTie
  U_NoTie : SupC K A.c_NoTie A.c_NoTie A.i_Missing
  b_init_NoTie : Binds K A.d_init_NoTie P_init_NoTie []
  X_Twice : XT K mg "Twice" A.c_Twice A.i_Twice [A.c_NetError] ["NetError"] ["value"]
  F_init_Twice : Fun K "__init__" "Twice.__init__" s_init_Twice A.i_Twice A.d_init_Twice
  b_init_Twice : Binds K A.d_init_Twice P_init_Twice []
  X_BadText : XT K mg "BadText" A.c_BadText A.i_BadText [A.c_NetError] ["NetError"] ["line", "item"]
  F_init_BadText : Fun K "__init__" "BadText.__init__" s_init_BadText A.i_BadText A.d_init_BadText
  b_init_BadText : Binds K A.d_init_BadText P_init_BadText []
  m_MOST_DIGITS : mg "MOST_DIGITS" = some (.int 60 A.t_MOST_DIGITS)
  m_MOST_PLACES : mg "MOST_PLACES" = some (.int 13 A.t_MOST_PLACES)
  m_MOST_TIES : mg "MOST_TIES" = some (.int 12 A.t_MOST_TIES)
  n_super : mg "super" = none
  n_abs : mg "abs" = none
  n_all : mg "all" = none
  n_any : mg "any" = none
  n_bool : mg "bool" = none
  n_enumerate : mg "enumerate" = none
  n_int : mg "int" = none
  n_isinstance : mg "isinstance" = none
  n_len : mg "len" = none
  n_list : mg "list" = none
  n_max : mg "max" = none
  n_min : mg "min" = none
  n_range : mg "range" = none
  n_repr : mg "repr" = none
  n_set : mg "set" = none
  n_str : mg "str" = none
  n_tuple : mg "tuple" = none
  n_type : mg "type" = none
  n_zip : mg "zip" = none
  S_read : SMet K A.c_Web "read" A.p_read A.a_Web_read
  O_eq : OEq K A.c_Web A.a_Web___eq__
  O_l : PySem.W.notFirst K A.c_Web (.type "list") = true
  O_t : PySem.W.notFirst K A.c_Web (.type "tuple") = true
  O_s : PySem.W.findIn K (.ref A.c_Web) "__str__" = some (some (.ref A.a_Web___str__))
  O_f : PySem.W.isFn K (.ref A.a_Web___str__) = true
  Z_NoneType : PySem.W.kitOne K (.type "NoneType") (.ref A.c_Web) = some false
  Z_bool : PySem.W.kitOne K (.type "bool") (.ref A.c_Web) = some false
  Z_int : PySem.W.kitOne K (.type "int") (.ref A.c_Web) = some false
  Z_str : PySem.W.kitOne K (.type "str") (.ref A.c_Web) = some false
  Z_list : PySem.W.kitOne K (.type "list") (.ref A.c_Web) = some false
  Z_tuple : PySem.W.kitOne K (.type "tuple") (.ref A.c_Web) = some false
  Z_dict : PySem.W.kitOne K (.type "dict") (.ref A.c_Web) = some false
  E_1 : PySem.W.subIn K (.ref A.c_NetError) (.type "BaseException") = some true
  E_2 : PySem.W.hasDictIn K A.c_NetError = true
  E_3 : PySem.W.typeIn K (.ref A.c_NetError) = some (.type "type")
  X_sBadNumber : PySem.W.subIn K (.ref A.c_BadNumber) (.ref A.c_NetError) = some true
  X_sBadWeb : PySem.W.subIn K (.ref A.c_BadWeb) (.ref A.c_NetError) = some true
  X_sMisfit : PySem.W.subIn K (.ref A.c_Misfit) (.ref A.c_NetError) = some true
  X_sMissing : PySem.W.subIn K (.ref A.c_Missing) (.ref A.c_NetError) = some true
  X_sNoPlace : PySem.W.subIn K (.ref A.c_NoPlace) (.ref A.c_NetError) = some true
  X_sNoTie : PySem.W.subIn K (.ref A.c_NoTie) (.ref A.c_NetError) = some true
  X_sTwice : PySem.W.subIn K (.ref A.c_Twice) (.ref A.c_NetError) = some true
  X_sBadText : PySem.W.subIn K (.ref A.c_BadText) (.ref A.c_NetError) = some true
  Y_NetError_n : PySem.W.kitOne K (.type "NoneType") (.ref A.c_NetError) = some false
  Y_BadNumber_n : PySem.W.kitOne K (.type "NoneType") (.ref A.c_BadNumber) = some false
  Y_BadWeb_n : PySem.W.kitOne K (.type "NoneType") (.ref A.c_BadWeb) = some false
  Y_Misfit_n : PySem.W.kitOne K (.type "NoneType") (.ref A.c_Misfit) = some false
  Y_Missing_n : PySem.W.kitOne K (.type "NoneType") (.ref A.c_Missing) = some false
  Y_NoPlace_n : PySem.W.kitOne K (.type "NoneType") (.ref A.c_NoPlace) = some false
  Y_NoTie_n : PySem.W.kitOne K (.type "NoneType") (.ref A.c_NoTie) = some false
  Y_Twice_n : PySem.W.kitOne K (.type "NoneType") (.ref A.c_Twice) = some false
  Y_BadText_n : PySem.W.kitOne K (.type "NoneType") (.ref A.c_BadText) = some false
section
variable {P : Program} {w : World} {K : PySem.W.Frag} {mg : Str → Option Value} {base : Heap} {A : Ad}
/-! ### checks -/
def sp_isint : Sp := fun vs H Q _ => ∃ v, vs = [v] ∧ OkV H v ∧ Q (.bl (isI v)) H
theorem G_is_integer (T : Txt P K mg A) : FnG P w K mg base CX0 1 A.a_is_integer A.d_is_integer P_is_integer sp_isint := by
  refine okG T.F_is_integer sc_is_integer (fun vs H Q E h => ?_) (fun cdv A0 outer s H vs Q E hr h => ?_)
  · obtain ⟨v, rfl, _⟩ := h
    rfl
  obtain ⟨v, rfl, ok, k⟩ := h
  obtain ⟨T1, ty, k1, k2, _⟩ := kindV (K := K) ok
  refine ⟨_, (pss_one (ps_ret (pe_and (pe_callB call_isi (by rfl) T.n_isinstance (by decide +kernel) (pa_cons (pv 0) (pa_cons (pe_bltn (v := .ty "int") (u := .type "int") (by rfl) T.n_int (by decide +kernel) rfl) pa_nil))) (pe_one (pe_not (pe_callB call_isi (by rfl) T.n_isinstance (by decide +kernel) (pa_cons (pv 0) (pa_cons (pe_bltn (v := .ty "bool") (u := .type "bool") (by rfl) T.n_bool (by decide +kernel) rfl) pa_nil)))))))), ?_⟩
  refine ⟨_, rfl, _, _, _, _, _, rfl, .ty "int", ty, kit_ty k1, _, rfl, ite2 (fun e => ?_) (fun e => ?_)⟩
  · refine ⟨_, rfl, _, _, _, _, _, rfl, .ty "bool", ty, kit_ty k2, _, rfl, ?_⟩
    have z : (!isB v) = isI v := by cases v <;> first | rfl | (simp [isI, isB] at e)
    rw [← z] at k
    exact k
  · have z : isI v = false := by cases v <;> first | rfl | (simp [isI, isB] at e)
    rw [z] at k
    exact k
def Bd : V → Prop
  | .non => True
  | .int _ => True
  | _ => False
def inLo (v lo : V) : Bool := match lo, v with
  | .int a, .int i => decide (a ≤ i)
  | _, _ => true
def inHi (v hi : V) : Bool := match hi, v with
  | .int b, .int i => decide (i ≤ b)
  | _, _ => true
def sp_within : Sp := fun vs H Q _ => ∃ v lo hi, vs = [v, lo, hi] ∧ OkV H v ∧ Bd lo ∧ Bd hi ∧ Q (.bl (isI v && (inLo v lo && inHi v hi))) H
theorem G_is_within (T : Txt P K mg A) : FnG P w K mg base CX0 2 A.a_is_within A.d_is_within P_is_within sp_within := by
  refine okG T.F_is_within sc_is_within (fun vs H Q E h => ?_) (fun cdv A0 outer s H vs Q E hr h => ?_)
  · obtain ⟨v, lo, hi, rfl, _⟩ := h
    rfl
  obtain ⟨v, lo, hi, rfl, ok, bl, bh, k⟩ := h
  refine ⟨_, (pss_cons (ps_if (pt_not (pt_val (pe_callG (G_is_integer T) (hr.mono (by decide)) rfl T.g_is_integer T.F_is_integer.kp T.b_is_integer .nil pass0 (pa_cons (pv 0) pa_nil)))) (pss_one (ps_ret pe_bl)) pss_nil)
      (pss_cons (ps_if (PW.pt (pw_and (pt_cmpR op_notN (pv 1) pe_non (nomark _)) (pw_and1 (pt_cmpR op_lt (pv 0) (pv 1) (nomark _))))) (pss_one (ps_ret pe_bl)) pss_nil)
      (pss_one (ps_ret (pe_or (pe_cmpR op_isN (pv 2) pe_non (nomark _)) (pe_one (pe_cmpR op_le (pv 0) (pv 2) (nomark _)))))))), ?_⟩
  refine ⟨_, rfl, _, rfl, ok, _, rfl, ite2 (fun e => ?_) (fun e => ?_)⟩
  · have z : isI v = false := by
      cases h : isI v with
      | false => rfl
      | true =>
        rw [h] at e
        cases e
    rw [z] at k
    exact k
  · cases v with
    | int i =>
      have last : inLo (.int i) lo = true → tRet (tOrV (tOp (fun x y H Q => y = V.non ∧ Q (.bl (decide (x = V.non))) H) (tVar 2) (tC .non)) (tOp (rI0 fun i j => .bl (decide (i ≤ j))) (tVar 0) (tVar 2)))
          { nx := fun _ H' => Q .non H', rt := Q } (start N_is_within [V.int i, lo, hi]) H := by
        intro hz
        rw [hz] at k
        cases hi with
        | non =>
          refine ⟨_, rfl, rfl, _, rfl, iteT ?_⟩
          exact k
        | int b =>
          refine ⟨_, rfl, rfl, _, rfl, iteF ?_⟩
          refine ⟨_, rfl, _, rfl, _, _, rfl, rfl, ?_⟩
          exact k
        | _ => exact bh.elim
      cases lo with
      | non => exact ⟨_, rfl, rfl, _, rfl, iteF (iteF (last rfl))⟩
      | int a =>
        refine ⟨_, rfl, rfl, _, rfl, iteT ⟨_, rfl, _, rfl, _, _, rfl, rfl, _, rfl, ite2 (fun e => ?_) (fun e => ?_)⟩⟩
        · have z : inLo (.int i) (.int a) = false := decide_eq_false (by have := of_decide_eq_true e; omega)
          rw [z] at k
          exact k
        · exact last (decide_eq_true (by
            have : ¬ i < a := fun q => e (decide_eq_true q)
            omega))
      | _ => exact bl.elim
    | _ => exact absurd rfl e
/-- what are_integers says of a value -/
def areI (H : Hp) : V → Bool
  | .ref a => match H a with
    | some (.lst xs) => xs.all isI
    | some (.tup xs) => xs.all isI
    | _ => false
  | _ => false
def sp_areint : Sp := fun vs H Q _ => ∃ v, vs = [v] ∧ OkV H v ∧ (∀ a xs, v = .ref a → (H a = some (.lst xs) ∨ H a = some (.tup xs)) → xs.length ≤ 1000 ∧ ∀ x ∈ xs, OkV H x) ∧ ∀ H', Same H H' → Q (.bl (areI H v)) H'
theorem all_take {xs : List V} {i : Nat} {x : V} (h : xs[i]? = some x) : (xs.take i).map isI ++ [isI x] = (xs.take (i + 1)).map isI := by
  rw [List.take_succ, h]
  simp
theorem G_are_integers (T : Txt P K mg A) : FnG P w K mg base CX0 2 A.a_are_integers A.d_are_integers P_are_integers sp_areint := by
  refine okG T.F_are_integers sc_are_integers (fun vs H Q E h => ?_) (fun cdv A0 outer s H vs Q E hr h => ?_)
  · obtain ⟨v, rfl, _⟩ := h
    rfl
  obtain ⟨v, rfl, ok, it, k⟩ := h
  refine ⟨_, (pss_one (ps_ret (pe_and (pe_callB call_isiT (by rfl) T.n_isinstance (by decide +kernel) (pa_cons (pv 0) (pa_cons (pe_tup (pa_cons (pe_bltn (v := .ty "list") (u := .type "list") (by rfl) T.n_list (by decide +kernel) rfl) (pa_cons (pe_bltn (v := .ty "tuple") (u := .type "tuple") (by rfl) T.n_tuple (by decide +kernel) rfl) pa_nil))) pa_nil))) (pe_one (pe_callB (cr_all rfl) (by rfl) T.n_all (by decide +kernel) (pa_cons (pe_lc (own := [("item", 1)]) (g := gName 1) (tt := tYes) rfl sc_are_integers.nd (pi_seqV (pv 0)) (blkOk_by (N := N_are_integers) (sc := defScope s_are_integers) (by decide +kernel)) (fun _ _ _ _ _ => (pg_name (i := 1) sc_are_integers.nd rfl (Or.inl rfl))) (fun _ _ _ _ _ => pts_nil) (fun _ _ _ _ _ => (pe_callG (G_is_integer T) (hr.mono (by decide)) rfl T.g_is_integer T.F_is_integer.kp T.b_is_integer .nil pass0 (pa_cons (pv 1) pa_nil)))) pa_nil)))))), ?_⟩
  refine ⟨_, rfl, (by show 2 ≤ sizeLine; decide), fun p np => ?_⟩
  have ok2 : OkV (upd H p (.tup [.ty "list", .ty "tuple"])) v := ok.mono fun a o _ h => at_new h np
  obtain ⟨T1, ty, _, _, k3⟩ := kindV (K := K) ok2
  refine ⟨_, _, _, _, _, _, rfl, upd_same, .cons (.ty "list") (.cons (.ty "tuple") .nil), ty, k3, _, rfl, ite2 (fun e => ?_) (fun e => ?_)⟩
  · -- a list or a tuple
    obtain ⟨a, xs, rfl, hx, hz⟩ : ∃ a xs, v = .ref a ∧ (H a = some (.lst xs) ∨ H a = some (.tup xs)) ∧ areI H v = xs.all isI := by
      cases v with
      | ref a =>
        rcases ok with ⟨xs, h⟩ | ⟨xs, h⟩ | ⟨kvs, h⟩
        · exact ⟨a, xs, rfl, .inl h, by simp only [areI, h]⟩
        · exact ⟨a, xs, rfl, .inr h, by simp only [areI, h]⟩
        · have z : isLT (upd H p (.tup [.ty "list", .ty "tuple"])) (.ref a) = false := by simp only [isLT, at_new h np]
          rw [z] at e
          cases e
      | _ => cases e
    have sq : SqA K H a xs := by
      rcases hx with h | h
      · exact .inl (SqL.of h)
      · exact .inr (SqT.of h)
    obtain ⟨hlen, hok⟩ := it a xs rfl hx
    have hsome : ∃ o, H a = some o := by
      rcases hx with h | h <;> exact ⟨_, h⟩
    have s1 : Same H (upd H p (.tup [.ty "list", .ty "tuple"])) := Same.new (fun _ _ h => h) np
    have sq1 : SqA K (upd H p (.tup [.ty "list", .ty "tuple"])) a xs := by
      rcases hx with h | h
      · exact .inl (SqL.of (s1 _ _ h))
      · exact .inr (SqT.of (s1 _ _ h))
    refine ⟨_, rfl, a, rfl, seq_by sq1 fun J G W gG D hD => ?_⟩
    have s2 : Same H (upd (upd H p (.tup [.ty "list", .ty "tuple"])) D (.lst [])) := Same.new s1 hD
    have nD : H D = none := s1.free hD
    refine lc_it W (fun i H' => Same H H' ∧ H' D = some (.lst (((xs.take i).map isI).map V.bl))) ⟨s2, upd_same⟩ (fun i H' _ q => gG H' fun o h => ?_) ?_ ?_
    · obtain ⟨o', ho'⟩ := hsome
      have e1 := (s1 _ _ ho').symm.trans h
      rw [← e1]
      exact q.1 _ _ ho'
    · rintro i x H' _ hi ⟨s3, hD3⟩ ⟨rfl, hx'⟩
      refine ⟨rfl, tYes_of (iteT ⟨_, rfl, x, rfl, (hok x (List.mem_of_getElem? hx')).mono fun a o _ h => s3 _ _ h, _, hD3, by rw [List.length_map, List.length_map]; exact Nat.lt_of_le_of_lt (List.length_take_le _ _) (small1000 (by omega)), ?_, ?_⟩)⟩
      · intro b o h
        rw [upd_ne (ne_of_none h nD)]
        exact s3 _ _ h
      · rw [upd_same, ← all_take hx']
        simp
    · rintro H' ⟨s3, hD3⟩
      refine ⟨D, xs.map isI, rfl, ?_, ?_⟩
      · rw [List.take_of_length_le (Nat.le_refl _)] at hD3
        exact SqL.of hD3
      · have z : (xs.map isI).all id = xs.all isI := by simp [List.all_map]
        rw [z, ← hz]
        exact k _ s3
  · have z : areI H v = false := by
      cases v with
      | ref a =>
        rcases ok with ⟨xs, h⟩ | ⟨xs, h⟩ | ⟨kvs, h⟩
        · exact absurd (by simp only [isLT, at_new h np]) e
        · exact absurd (by simp only [isLT, at_new h np]) e
        · simp only [areI, h]
      | _ => rfl
    rw [z] at k
    exact k _ (Same.new (fun _ _ h => h) np)
/-! ### joins -/
def sp_own : Sp := fun vs H Q _ => ∃ n : Nat, vs = [.int (n : Int)] ∧ n ≤ 1000 ∧ ∀ q H', Same H H' → H' q = some (.lst (nv (List.range n))) → Q (.ref q) H'
theorem G_own_names (T : Txt P K mg A) : FnG P w K mg base CX0 1 A.a_own_names A.d_own_names P_own_names sp_own := by
  refine okG T.F_own_names sc_own_names (fun vs H Q E h => ?_) (fun cdv A0 outer s H vs Q E hr h => ?_)
  · obtain ⟨n, rfl, _⟩ := h
    rfl
  obtain ⟨n, rfl, hn, k⟩ := h
  refine ⟨_, (pss_one (ps_ret (pe_listRg rfl (by rfl) T.n_list (prg_1 (by rfl) T.n_range (pv 0))))), ?_⟩
  refine ⟨_, rfl, _, rfl, RgOk.of_le (Int.le_refl _) (by omega) (by decide) (by omega), fun q hq => ?_⟩
  rw [nv_range]
  exact k q _ (Same.new (fun _ _ h => h) hq) upd_same
def sp_joined (K : PySem.W.Frag) : Sp := fun vs H Q _ => ∃ (a : Addr) (ns : List Nat) (i j : Nat), vs = [.ref a, .int (i : Int), .int (j : Int)] ∧ H a = some (.lst (nv ns)) ∧ i < ns.length ∧ j < ns.length ∧ ns.length ≤ 900 ∧
  ∀ q H', Same H H' → H' q = some (.lst (nv (MC.jn ns i j))) → Q (.ref q) H'
theorem G_joined (T : Txt P K mg A) : FnG P w K mg base CX0 1 A.a_joined A.d_joined P_joined (sp_joined K) := by
  refine okG T.F_joined sc_joined (fun vs H Q E h => ?_) (fun cdv A0 outer s H vs Q E hr h => ?_)
  · obtain ⟨a, ns, i, j, rfl, _⟩ := h
    rfl
  obtain ⟨a, ns, i, j, rfl, ha, hi, hj, hl, k⟩ := h
  refine ⟨_, (pss_cons (ps_asg (pe_tup (pa_cons (pe_callB (call_min2 rfl) (by rfl) T.n_min (by decide +kernel) (pa_cons (pe_ix (r := rIxL K) ix_list (pv 0) (pv 1) (fun _ _ => rfl)) (pa_cons (pe_ix (r := rIxL K) ix_list (pv 0) (pv 2) (fun _ _ => rfl)) pa_nil))) (pa_cons (pe_callB (call_max2 rfl) (by rfl) T.n_max (by decide +kernel) (pa_cons (pe_ix (r := rIxL K) ix_list (pv 0) (pv 1) (fun _ _ => rfl)) (pa_cons (pe_ix (r := rIxL K) ix_list (pv 0) (pv 2) (fun _ _ => rfl)) pa_nil))) pa_nil))) (pg_tup rfl (pgs_cons (pg_name (i := 3) sc_joined.nd rfl (Or.inr rfl)) (pgs_cons (pg_name (i := 4) sc_joined.nd rfl (Or.inr rfl)) pgs_nil))))
      (pss_one (ps_ret (pe_lc (own := [("name", 5)]) (g := gName 5) (tt := tYes) rfl sc_joined.nd (pi_list (pv 0)) (blkOk_by (N := N_joined) (sc := defScope s_joined) (by decide +kernel)) (fun _ _ _ _ _ => (pg_name (i := 5) sc_joined.nd rfl (Or.inl rfl))) (fun _ _ _ _ _ => pts_nil) (fun _ _ _ _ _ => (pe_ifExp (pt_cmpR op_eq (pv 5) (pv 4) (nomark _)) (pv 3) (pv 5))))))), ?_⟩
  have ga : ∀ x : Nat, x < ns.length → atI (nv ns) (x : Int) = some (.int ((ns.getD x 0 : Nat) : Int)) := fun x hx => nv_at hx
  refine ⟨_, rfl, _, rfl, _, _, _, _, rfl, rfl, SqL.of ha, ga i hi, _, rfl, _, rfl, _, _, _, _, rfl, rfl, SqL.of ha, ga j hj, _, _, rfl, ?_⟩
  refine ⟨_, rfl, _, rfl, _, _, _, _, rfl, rfl, SqL.of ha, ga i hi, _, rfl, _, rfl, _, _, _, _, rfl, rfl, SqL.of ha, ga j hj, _, _, rfl, ?_⟩
  have elo : V.int (if ((ns.getD j 0 : Nat) : Int) < ((ns.getD i 0 : Nat) : Int) then ((ns.getD j 0 : Nat) : Int) else ((ns.getD i 0 : Nat) : Int)) = V.int ((min (ns.getD i 0) (ns.getD j 0) : Nat) : Int) := by
    congr 1
    split <;> omega
  have ehi : V.int (if ((ns.getD j 0 : Nat) : Int) > ((ns.getD i 0 : Nat) : Int) then ((ns.getD j 0 : Nat) : Int) else ((ns.getD i 0 : Nat) : Int)) = V.int ((max (ns.getD i 0) (ns.getD j 0) : Nat) : Int) := by
    congr 1
    split <;> omega
  rw [elo, ehi]
  refine ⟨by show 2 ≤ sizeLine; decide, fun p hp => ⟨p, _, rfl, SqT.of upd_same, rfl, _, _, rfl, _, _, rfl, rfl, ?_⟩⟩
  have s1 : Same H (upd H p (.tup [.int ((min (ns.getD i 0) (ns.getD j 0) : Nat) : Int), .int ((max (ns.getD i 0) (ns.getD j 0) : Nat) : Int)])) := Same.new (fun _ _ h => h) hp
  refine ⟨_, rfl, a, rfl, ⟨_, SqL.of (s1 _ _ ha)⟩, fun D hD => ?_⟩
  refine lc_list (K := K) (a := a) (xs := nv ns) (fun m H' => Same H H' ∧ H' D = some (.lst (nv ((ns.take m).map fun x => if x = max (ns.getD i 0) (ns.getD j 0) then min (ns.getD i 0) (ns.getD j 0) else x))))
    ⟨Same.new s1 hD, upd_same⟩ (fun m H' _ h => SqL.of (h.1 _ _ ha)) ?_ ?_
  · rintro m x H' hx ⟨s2, hD2⟩
    obtain ⟨z, hz, rfl⟩ : ∃ z : Nat, ns[m]? = some z ∧ x = V.int (z : Int) := by
      rw [List.getElem?_map] at hx
      cases e : ns[m]? with
      | none => rw [e] at hx; cases hx
      | some z => rw [e] at hx; exact ⟨z, rfl, (Option.some.inj hx).symm⟩
    have hm : m < ns.length := (List.getElem?_eq_some_iff.mp hz).1
    have fin : ∀ y : Nat, y = (if z = max (ns.getD i 0) (ns.getD j 0) then min (ns.getD i 0) (ns.getD j 0) else z) → ∃ acc, H' D = some (.lst acc) ∧ acc.length < sizeLine ∧ (Same H (upd H' D (.lst (acc ++ [V.int (y : Int)]))) ∧ (upd H' D (.lst (acc ++ [V.int (y : Int)]))) D = some (.lst (nv ((ns.take (m + 1)).map fun x => if x = max (ns.getD i 0) (ns.getD j 0) then min (ns.getD i 0) (ns.getD j 0) else x)))) := by
      rintro y rfl
      refine ⟨_, hD2, ?_, ?_, ?_⟩
      · rw [List.length_map, List.length_map, List.length_take]
        exact small1000 (by omega)
      · intro b o h
        rw [upd_ne (ne_of_none (s1 _ _ h) hD)]
        exact s2 _ _ h
      · rw [upd_same, List.take_succ, hz]
        simp
    refine ⟨rfl, tYes_of (iteT ⟨_, rfl, _, rfl, rfl, _, rfl, ite2 (fun e => ⟨_, rfl, ?_⟩) (fun e => ⟨_, rfl, ?_⟩)⟩)⟩
    · have e' : z = max (ns.getD i 0) (ns.getD j 0) := by
        have q := V.int.inj (of_decide_eq_true e)
        exact Int.ofNat.inj q
      exact fin _ (by rw [if_pos e'])
    · have e' : ¬ z = max (ns.getD i 0) (ns.getD j 0) := fun q => e (decide_eq_true (by rw [q]))
      exact fin _ (by rw [if_neg e'])
  · rintro H' ⟨s2, hD2⟩
    have e : (nv ns).length = ns.length := List.length_map _
    rw [e, List.take_of_length_le (Nat.le_refl _)] at hD2
    exact k _ _ s2 hD2
def sp_names (K : PySem.W.Frag) : Sp := fun vs H Q _ => ∃ (n : Nat) (a : Addr) (ps : MC.Pr), vs = [.int (n : Int), .ref a] ∧ n ≤ 900 ∧ PrsA H a ps ∧ MC.Below n ps ∧
  ∀ q H', Same H H' → H' q = some (.lst (nv (MC.names n ps))) → Q (.ref q) H'
theorem G_names_of (T : Txt P K mg A) : FnG P w K mg base CX0 2 A.a_names_of A.d_names_of P_names_of (sp_names K) := by
  refine okG T.F_names_of sc_names_of (fun vs H Q E h => ?_) (fun cdv A0 outer s H vs Q E hr h => ?_)
  · obtain ⟨n, a, ps, rfl, _⟩ := h
    rfl
  obtain ⟨n, a, ps, rfl, hn, ⟨xs, hx, hp⟩, hb, k⟩ := h
  obtain ⟨oa, ha⟩ := hx.has
  refine ⟨_, (pss_cons (ps_set (i := 2) sc_names_of.nd rfl (Or.inl rfl) (pe_callG (G_own_names T) (hr.mono (by decide)) rfl T.g_own_names T.F_own_names.kp T.b_own_names .nil pass0 (pa_cons (pv 0) pa_nil)))
      (pss_cons (ps_for PassesOwn.never rfl (pi_seqV (pv 1)) (pg_sq rfl (pgs_cons (pg_name (i := 3) sc_names_of.nd rfl (Or.inl rfl)) (pgs_cons (pg_name (i := 4) sc_names_of.nd rfl (Or.inl rfl)) pgs_nil))) (pss_one (ps_set (i := 2) sc_names_of.nd rfl (Or.inl rfl) (pe_callG (G_joined T) (hr.mono (by decide)) rfl T.g_joined T.F_joined.kp T.b_joined .nil pass0 (pa_cons (pv 2) (pa_cons (pv 3) (pa_cons (pv 4) pa_nil)))))))
      (pss_one (ps_ret (pv 2))))), ?_⟩
  refine ⟨_, rfl, n, rfl, by omega, fun q1 H1 s1 h1 => ?_⟩
  refine ⟨_, rfl, a, rfl, seq_by (hx.same s1).sq fun J G W gG => ?_⟩
  refine for_it W (fun i σ H' => Same H H' ∧ ∃ (q : Addr) (u1 u2 : Option V), σ = [some (.int (n : Int)), some (.ref a), some (.ref q), u1, u2] ∧ H' q = some (.lst (nv ((ps.take i).foldl (fun ns p => MC.jn ns p.1 p.2) (List.range n)))))
    ⟨s1, q1, none, none, rfl, h1⟩ (fun i σ H' _ h => gG H' fun o e => ?_) ?_ ?_
  · have e1 := (s1 _ _ ha).symm.trans e
    rw [← e1]
    exact h.1 _ _ ha
  · rintro i x σ H' _ hi ⟨s2, q, u1, u2, rfl, hq⟩ ⟨rfl, hx'⟩
    obtain ⟨p, hpi, pr⟩ := paired_get hp hx'
    obtain ⟨t, rfl, ht⟩ := pr.same s2
    obtain ⟨b1, b2⟩ := hb p (List.mem_of_getElem? hpi)
    have bt : MC.Below n (ps.take i) := fun p m => hb p (List.mem_of_mem_take m)
    have nm := MC.names_nm bt
    have hl : ((ps.take i).foldl (fun ns p => MC.jn ns p.1 p.2) (List.range n)).length = n := nm.len
    refine ⟨t, _, rfl, ht.sq, rfl, _, _, rfl, _, _, rfl, rfl, ?_⟩
    refine ⟨_, rfl, _, rfl, _, rfl, q, _, p.1, p.2, rfl, hq, by rw [hl]; exact b1, by rw [hl]; exact b2, by rw [hl]; exact hn, fun q3 H3 s3 h3 => ?_⟩
    refine ⟨s2.trans s3, q3, _, _, rfl, ?_⟩
    rw [List.take_succ, hpi]
    simp only [Option.toList_some, List.foldl_append, List.foldl_cons, List.foldl_nil]
    exact h3
  · rintro σ H' ⟨s2, q, u1, u2, rfl, hq⟩
    have hl : ps.length = xs.length := (Paired.length hp).symm
    rw [List.take_of_length_le (by omega)] at hq
    exact ⟨_, rfl, k _ _ s2 hq⟩
/-! ### what is heard -/
theorem pss_never {X : Cx} {b : List Stmt} : PSs X b (fun _ _ _ => False) := ⟨fun _ _ _ _ _ _ h => h.elim⟩
/-- the repr of v, come what may -/
def Rep (K : PySem.W.Frag) (H : Hp) (v : V) (z : Str) : Prop := ∀ (H' : Hp) (Q : VK), Same H H' → Q (.str z) H' → rRepr K [v] H' Q ∨ rReprD [v] H' Q
/-- what is told of a caught error -/
inductive Told (A : Ad) (K : PySem.W.Frag) (H : Hp) : Value → List (Str × V) → List V → Prop
  | web {gs : List (Str × V)} {v : V} (l : gs.lookup ("part" : Str) = some v) : Told A K H (.ref A.c_BadWeb) gs [.str "web", v]
  | number {gs : List (Str × V)} {v : V} (l : gs.lookup ("part" : Str) = some v) : Told A K H (.ref A.c_BadNumber) gs [.str "number", v]
  | misfit {gs : List (Str × V)} {v : V} (l : gs.lookup ("part" : Str) = some v) : Told A K H (.ref A.c_Misfit) gs [.str "misfit", v]
  | place {gs : List (Str × V)} {v : V} {z : Str} (l : gs.lookup ("value" : Str) = some v) (r : Rep K H v z) : Told A K H (.ref A.c_NoPlace) gs [.str "place", .str z]
  | tie {gs : List (Str × V)} {v : V} {z : Str} (l : gs.lookup ("value" : Str) = some v) (r : Rep K H v z) : Told A K H (.ref A.c_NoTie) gs [.str "tie", .str z]
  | twice {gs : List (Str × V)} {v : V} {z : Str} (l : gs.lookup ("value" : Str) = some v) (r : Rep K H v z) : Told A K H (.ref A.c_Twice) gs [.str "twice", .str z]
  | text {gs : List (Str × V)} {u v : V} (l : gs.lookup ("line" : Str) = some u) (l2 : gs.lookup ("item" : Str) = some v) : Told A K H (.ref A.c_BadText) gs [.str "text", u, v]
/-- where an error goes that is heard -/
def HE (A : Ad) (K : PySem.W.Frag) (Q : VK) : XK := fun cls d H' => ∃ dd gs ws, d = some dd ∧ H' dd = some (.xd gs) ∧ Told A K H' cls gs ws ∧ ∀ t H'', Same H' H'' → H'' t = some (.tup ws) → Q (.ref t) H''
def THeard (A : Ad) (K : PySem.W.Frag) : (XK → Hp → VK → Prop) → Hp → VK → Prop := fun tl H Q => ∀ R : VK, (∀ v H', (∀ H'', Same H' H'' → Q .non H'') → R v H') → tl (HE A K Q) H R
/-- such an error, kept -/
def Kept (K : PySem.W.Frag) (mg : Str → Option Value) (H : Hp) (a : Addr) (x : Str) (ns fs : List Str) (gs : List (Str × V)) : Prop := ∃ (C fI : Addr) (up : List Addr), XT K mg x C fI up ns fs ∧ ExC H a C gs
section
variable {x y y2 y3 : Str} {ns fs : List Str} {gs : List (Str × V)} {H : Hp} {a D D2 D3 p : Addr} {Q : VK}
theorem Kept.one (e : Kept K mg H a x ns fs gs) (c : Cn K mg D y) (b : Bool) (hb : (x :: ns).contains y = b) (k : Q (.bl b) H) : rIsi K [.ref a, .ref D] H Q ∨ rIsiC K mg [.ref a, .ref D] H Q := by
  obtain ⟨C, fI, up, T, ev⟩ := e
  refine .inr ?_
  unfold rIsiC
  exact ⟨a, C, fI, gs, x, up, ns, fs, .ref D, .ref D, b, rfl, ev, T, .own D, by rw [T.kit c, hb], k⟩
theorem Kept.two (e : Kept K mg H a x ns fs gs) (c : Cn K mg D y) (c2 : Cn K mg D2 y2) (hp : H p = some (.tup [.ref D, .ref D2])) (b : Bool) (hb : ((x :: ns).contains y || (x :: ns).contains y2) = b) (k : Q (.bl b) H) : rIsiT K [.ref a, .ref p] H Q ∨ rIsiTC K mg [.ref a, .ref p] H Q := by
  obtain ⟨C, fI, up, T, ev⟩ := e
  refine .inr ?_
  unfold rIsiTC
  refine ⟨a, C, fI, gs, x, up, ns, fs, p, _, [.ref D, .ref D2], b, rfl, ev, T, hp, .cons (.own D) (.cons (.own D2) .nil), ?_, k⟩
  rw [← hb]
  refine kitAny_cons (T.kit c) (fun e => ?_) (fun e => by rw [e]; rfl)
  rw [e, Bool.false_or]
  exact kitAny_cons (T.kit c2) (fun e => by rw [e]; exact kitAny_nil) (fun e => e)
theorem Kept.three (e : Kept K mg H a x ns fs gs) (c : Cn K mg D y) (c2 : Cn K mg D2 y2) (c3 : Cn K mg D3 y3) (hp : H p = some (.tup [.ref D, .ref D2, .ref D3])) (b : Bool) (hb : ((x :: ns).contains y || ((x :: ns).contains y2 || (x :: ns).contains y3)) = b) (k : Q (.bl b) H) : rIsiT K [.ref a, .ref p] H Q ∨ rIsiTC K mg [.ref a, .ref p] H Q := by
  obtain ⟨C, fI, up, T, ev⟩ := e
  refine .inr ?_
  unfold rIsiTC
  refine ⟨a, C, fI, gs, x, up, ns, fs, p, _, [.ref D, .ref D2, .ref D3], b, rfl, ev, T, hp, .cons (.own D) (.cons (.own D2) (.cons (.own D3) .nil)), ?_, k⟩
  rw [← hb]
  refine kitAny_cons (T.kit c) (fun e => ?_) (fun e => by rw [e]; rfl)
  rw [e, Bool.false_or]
  refine kitAny_cons (T.kit c2) (fun e => ?_) (fun e => by rw [e]; rfl)
  rw [e, Bool.false_or]
  exact kitAny_cons (T.kit c3) (fun e => by rw [e]; exact kitAny_nil) (fun e => e)
theorem Kept.get (e : Kept K mg H a x ns fs gs) {f : Str} {v : V} (hf : f ∈ fs) (l : gs.lookup f = some v) (k : Q v H) : rXc K f (.ref a) H Q := by
  obtain ⟨C, fI, up, T, ev⟩ := e
  unfold rXc
  exact ⟨a, C, gs, v, rfl, T.xf, T.no f hf, ev, l, k⟩
theorem Kept.keep {H' : Hp} (e : Kept K mg H a x ns fs gs) (s : Same H H') : Kept K mg H' a x ns fs gs := by
  obtain ⟨C, fI, up, T, ev⟩ := e
  exact ⟨C, fI, up, T, ev.keep s⟩
end
theorem heard_gives {X : Cx} {k : Nat} {g : Addr} {q : Str} (T : Txt P X.K X.mg A) : GivesG X N__law_heard (k + 1) "_law_heard" (defScope s__law_heard) g (defBody s__law_heard) "ask" q (THeard A X.K) := by
  intro cdg f c' s H Q tl hr act hc h
  refine ⟨_, pss_cons (ps_set (i := 1) sc__law_heard.nd rfl (Or.inl rfl) pe_non) (pss_cons (ps_try_keep (X := (cxOf CX0 X.prog X.w X.K X.mg X.base N__law_heard "_law_heard" (defScope s__law_heard) g cdg X.A X.stack s H E0).nox) (i := 2) (c := .ref A.c_NetError) (Wout := fun _ _ _ _ => False)
     (tb := fun W D σ H => ∃ Ech : XK, (∀ cls d H', Ech cls d H' → W cls d σ H') ∧ σ[0]? = some (some (.ref f)) ∧ H c' = some (CodeO c' q) ∧ tl Ech H (fun _ H' => D.nx σ H'))
     (ts := fun a cls d => tAsg (tVar 2) (gName 1))
     rfl rfl sc__law_heard.nd rfl rfl ⟨rfl, by decide, .inl T.C_NetError.g⟩ L2.takes0 (fun W pn xe tk _ => ?_)
     (fun a cls d pn => pss_one (ps_set (i := 1) sc__law_heard.nd rfl (Or.inl rfl) (pv 2)))) ((pss_cons (ps_if (pt_val (pe_callB call_isiN (by rfl) T.n_isinstance (by decide +kernel) (pa_cons (pv 1) (pa_cons (pe_tup (pa_cons (pe_glob (v := .ref A.c_BadWeb) rfl T.X_BadWeb.gC rfl) (pa_cons (pe_glob (v := .ref A.c_BadNumber) rfl T.X_BadNumber.gC rfl) (pa_cons (pe_glob (v := .ref A.c_Misfit) rfl T.X_Misfit.gC rfl) pa_nil)))) pa_nil)))) (pss_one (ps_ret (pe_tup (pa_cons (pe_ix (r := rIxL X.K) ix_list (pe_lst (pa_cons pe_str (pa_cons pe_str (pa_cons pe_str pa_nil)))) (pe_bm PySem.F.plainAttrs_list PySem.F.slot_list_index PySem.F.type_list_index mt_index (pe_lst (pa_cons (pe_callB call_isi1 (by rfl) T.n_isinstance (by decide +kernel) (pa_cons (pv 1) (pa_cons (pe_glob (v := .ref A.c_BadWeb) rfl T.X_BadWeb.gC rfl) pa_nil))) (pa_cons (pe_callB call_isi1 (by rfl) T.n_isinstance (by decide +kernel) (pa_cons (pv 1) (pa_cons (pe_glob (v := .ref A.c_BadNumber) rfl T.X_BadNumber.gC rfl) pa_nil))) (pa_cons (pe_callB call_isi1 (by rfl) T.n_isinstance (by decide +kernel) (pa_cons (pv 1) (pa_cons (pe_glob (v := .ref A.c_Misfit) rfl T.X_Misfit.gC rfl) pa_nil))) pa_nil)))) (pa_cons pe_bl pa_nil)) (fun _ _ => rfl)) (pa_cons (pe_xc (pv 1)) pa_nil))))) pss_nil)
      (pss_cons (ps_if (pt_val (pe_callB call_isiN (by rfl) T.n_isinstance (by decide +kernel) (pa_cons (pv 1) (pa_cons (pe_tup (pa_cons (pe_glob (v := .ref A.c_NoPlace) rfl T.X_NoPlace.gC rfl) (pa_cons (pe_glob (v := .ref A.c_NoTie) rfl T.X_NoTie.gC rfl) pa_nil))) pa_nil)))) (pss_one (ps_ret (pe_tup (pa_cons (pe_ifExp (pt_val (pe_callB call_isi1 (by rfl) T.n_isinstance (by decide +kernel) (pa_cons (pv 1) (pa_cons (pe_glob (v := .ref A.c_NoPlace) rfl T.X_NoPlace.gC rfl) pa_nil)))) pe_str pe_str) (pa_cons (pe_callB (call_repr2 hr.gd hr.room.units) (by rfl) T.n_repr (by decide +kernel) (pa_cons (pe_xc (pv 1)) pa_nil)) pa_nil))))) pss_nil)
      (pss_cons (ps_if (pt_val (pe_callB call_isi1 (by rfl) T.n_isinstance (by decide +kernel) (pa_cons (pv 1) (pa_cons (pe_glob (v := .ref A.c_Twice) rfl T.X_Twice.gC rfl) pa_nil)))) (pss_one (ps_ret (pe_tup (pa_cons pe_str (pa_cons (pe_callB (call_repr2 hr.gd hr.room.units) (by rfl) T.n_repr (by decide +kernel) (pa_cons (pe_xc (pv 1)) pa_nil)) pa_nil))))) pss_nil)
      (pss_cons (ps_if (pt_val (pe_callB call_isi1 (by rfl) T.n_isinstance (by decide +kernel) (pa_cons (pv 1) (pa_cons (pe_glob (v := .ref A.c_BadText) rfl T.X_BadText.gC rfl) pa_nil)))) (pss_one (ps_ret (pe_tup (pa_cons pe_str (pa_cons (pe_xc (pv 1)) (pa_cons (pe_xc (pv 1)) pa_nil)))))) pss_nil)
      (pss_one (ps_ret (pe_ifExp (pt_cmpR op_isN (pv 1) pe_non (nomark _)) pe_non (pe_tup (pa_cons pe_str (pa_cons pe_non pa_nil)))))))))))), ?_⟩
  · refine ⟨fun pins s' σ H' D I h' => ?_⟩
    obtain ⟨Ech, hW, h1, h2, h3⟩ := h'
    exact (pss_one (ps_expr (act W pn xe Ech _ _ tk))).run pins s' σ H' D I ⟨hW, h1, h2, h3⟩
  · unfold THeard at h
    refine ⟨HE A X.K Q, fun cls d H' hE => ?_, rfl, hc, ?_⟩
    · obtain ⟨dd, gs, ws, rfl, hdd, td, kk⟩ := hE
      cases td with
      | web l =>
        refine ⟨true, PySem.W.exm_ref T.E_1 T.E_2 T.E_3 T.X_sBadWeb, fun _ a ha => ?_, fun z => by cases z⟩
        have s0 : Same H' (upd H' a (exK a (.ref A.c_BadWeb) (some dd))) := Same.new (fun _ _ h => h) ha
        have kp : Kept X.K X.mg (upd H' a (exK a (.ref A.c_BadWeb) (some dd))) a "BadWeb" ["NetError"] ["part"] gs := ⟨_, _, _, T.X_BadWeb, dd, upd_same, s0 _ _ hdd⟩
        generalize upd H' a (exK a (.ref A.c_BadWeb) (some dd)) = H1 at s0 kp
        refine ⟨_, rfl, ?_⟩
        refine ⟨_, rfl, by show 3 ≤ sizeLine; decide, fun p1 h1 => (kp.keep (Same.new (fun _ _ h => h) h1)).three T.X_BadWeb.cnm T.X_BadNumber.cnm T.X_Misfit.cnm upd_same true (by decide) ?_⟩
        have s1 := s0.trans (Same.new (o := .tup [.ref A.c_BadWeb, .ref A.c_BadNumber, .ref A.c_Misfit]) (fun _ _ h => h) h1)
        replace kp := kp.keep (Same.new (o := .tup [.ref A.c_BadWeb, .ref A.c_BadNumber, .ref A.c_Misfit]) (fun _ _ h => h) h1)
        generalize upd H1 p1 (.tup [.ref A.c_BadWeb, .ref A.c_BadNumber, .ref A.c_Misfit]) = H2 at s1 kp
        refine ⟨_, rfl, iteT ?_⟩
        refine ⟨by show 3 ≤ sizeLine; decide, fun q1 h2 => ?_⟩
        have kp2 := kp.keep (Same.new (o := .lst [.str "web", .str "number", .str "misfit"]) (fun _ _ h => h) h2)
        refine ⟨_, rfl, kp2.one T.X_BadWeb.cnm true (by decide) ⟨_, rfl, kp2.one T.X_BadNumber.cnm false (by decide) ⟨_, rfl, kp2.one T.X_Misfit.cnm false (by decide) ⟨by show 3 ≤ sizeLine; decide, fun q2 h3 => ?_⟩⟩⟩⟩
        have kp3 := kp2.keep (Same.new (o := .lst [.bl true, .bl false, .bl false]) (fun _ _ h => h) h3)
        have s3 := s1.trans ((Same.new (o := .lst [.str "web", .str "number", .str "misfit"]) (fun _ _ h => h) h2).trans (Same.new (o := .lst [.bl true, .bl false, .bl false]) (fun _ _ h => h) h3))
        refine ⟨.inl ⟨rfl, _, SqL.of upd_same⟩, q2, _, _, 0, _, rfl, rfl, SqL.of upd_same, rfl, rfl, rfl, rfl, (fun m z' hm => by omega), ?_⟩
        refine ⟨q1, _, _, _, rfl, rfl, SqL.of (at_new upd_same h3), rfl, _, rfl, kp3.get List.mem_cons_self l ⟨by show 2 ≤ sizeLine; decide, fun t ht => ?_⟩⟩
        exact kk t _ (s3.trans (Same.new (fun _ _ h => h) ht)) upd_same
      | number l =>
        refine ⟨true, PySem.W.exm_ref T.E_1 T.E_2 T.E_3 T.X_sBadNumber, fun _ a ha => ?_, fun z => by cases z⟩
        have s0 : Same H' (upd H' a (exK a (.ref A.c_BadNumber) (some dd))) := Same.new (fun _ _ h => h) ha
        have kp : Kept X.K X.mg (upd H' a (exK a (.ref A.c_BadNumber) (some dd))) a "BadNumber" ["NetError"] ["part"] gs := ⟨_, _, _, T.X_BadNumber, dd, upd_same, s0 _ _ hdd⟩
        generalize upd H' a (exK a (.ref A.c_BadNumber) (some dd)) = H1 at s0 kp
        refine ⟨_, rfl, ?_⟩
        refine ⟨_, rfl, by show 3 ≤ sizeLine; decide, fun p1 h1 => (kp.keep (Same.new (fun _ _ h => h) h1)).three T.X_BadWeb.cnm T.X_BadNumber.cnm T.X_Misfit.cnm upd_same true (by decide) ?_⟩
        have s1 := s0.trans (Same.new (o := .tup [.ref A.c_BadWeb, .ref A.c_BadNumber, .ref A.c_Misfit]) (fun _ _ h => h) h1)
        replace kp := kp.keep (Same.new (o := .tup [.ref A.c_BadWeb, .ref A.c_BadNumber, .ref A.c_Misfit]) (fun _ _ h => h) h1)
        generalize upd H1 p1 (.tup [.ref A.c_BadWeb, .ref A.c_BadNumber, .ref A.c_Misfit]) = H2 at s1 kp
        refine ⟨_, rfl, iteT ?_⟩
        refine ⟨by show 3 ≤ sizeLine; decide, fun q1 h2 => ?_⟩
        have kp2 := kp.keep (Same.new (o := .lst [.str "web", .str "number", .str "misfit"]) (fun _ _ h => h) h2)
        refine ⟨_, rfl, kp2.one T.X_BadWeb.cnm false (by decide) ⟨_, rfl, kp2.one T.X_BadNumber.cnm true (by decide) ⟨_, rfl, kp2.one T.X_Misfit.cnm false (by decide) ⟨by show 3 ≤ sizeLine; decide, fun q2 h3 => ?_⟩⟩⟩⟩
        have kp3 := kp2.keep (Same.new (o := .lst [.bl false, .bl true, .bl false]) (fun _ _ h => h) h3)
        have s3 := s1.trans ((Same.new (o := .lst [.str "web", .str "number", .str "misfit"]) (fun _ _ h => h) h2).trans (Same.new (o := .lst [.bl false, .bl true, .bl false]) (fun _ _ h => h) h3))
        refine ⟨.inl ⟨rfl, _, SqL.of upd_same⟩, q2, _, _, 1, _, rfl, rfl, SqL.of upd_same, rfl, rfl, rfl, rfl, (fun m z' hm hz => by match m, hm, hz with | 0, _, hz => (cases hz; rfl)), ?_⟩
        refine ⟨q1, _, _, _, rfl, rfl, SqL.of (at_new upd_same h3), rfl, _, rfl, kp3.get List.mem_cons_self l ⟨by show 2 ≤ sizeLine; decide, fun t ht => ?_⟩⟩
        exact kk t _ (s3.trans (Same.new (fun _ _ h => h) ht)) upd_same
      | misfit l =>
        refine ⟨true, PySem.W.exm_ref T.E_1 T.E_2 T.E_3 T.X_sMisfit, fun _ a ha => ?_, fun z => by cases z⟩
        have s0 : Same H' (upd H' a (exK a (.ref A.c_Misfit) (some dd))) := Same.new (fun _ _ h => h) ha
        have kp : Kept X.K X.mg (upd H' a (exK a (.ref A.c_Misfit) (some dd))) a "Misfit" ["NetError"] ["part"] gs := ⟨_, _, _, T.X_Misfit, dd, upd_same, s0 _ _ hdd⟩
        generalize upd H' a (exK a (.ref A.c_Misfit) (some dd)) = H1 at s0 kp
        refine ⟨_, rfl, ?_⟩
        refine ⟨_, rfl, by show 3 ≤ sizeLine; decide, fun p1 h1 => (kp.keep (Same.new (fun _ _ h => h) h1)).three T.X_BadWeb.cnm T.X_BadNumber.cnm T.X_Misfit.cnm upd_same true (by decide) ?_⟩
        have s1 := s0.trans (Same.new (o := .tup [.ref A.c_BadWeb, .ref A.c_BadNumber, .ref A.c_Misfit]) (fun _ _ h => h) h1)
        replace kp := kp.keep (Same.new (o := .tup [.ref A.c_BadWeb, .ref A.c_BadNumber, .ref A.c_Misfit]) (fun _ _ h => h) h1)
        generalize upd H1 p1 (.tup [.ref A.c_BadWeb, .ref A.c_BadNumber, .ref A.c_Misfit]) = H2 at s1 kp
        refine ⟨_, rfl, iteT ?_⟩
        refine ⟨by show 3 ≤ sizeLine; decide, fun q1 h2 => ?_⟩
        have kp2 := kp.keep (Same.new (o := .lst [.str "web", .str "number", .str "misfit"]) (fun _ _ h => h) h2)
        refine ⟨_, rfl, kp2.one T.X_BadWeb.cnm false (by decide) ⟨_, rfl, kp2.one T.X_BadNumber.cnm false (by decide) ⟨_, rfl, kp2.one T.X_Misfit.cnm true (by decide) ⟨by show 3 ≤ sizeLine; decide, fun q2 h3 => ?_⟩⟩⟩⟩
        have kp3 := kp2.keep (Same.new (o := .lst [.bl false, .bl false, .bl true]) (fun _ _ h => h) h3)
        have s3 := s1.trans ((Same.new (o := .lst [.str "web", .str "number", .str "misfit"]) (fun _ _ h => h) h2).trans (Same.new (o := .lst [.bl false, .bl false, .bl true]) (fun _ _ h => h) h3))
        refine ⟨.inl ⟨rfl, _, SqL.of upd_same⟩, q2, _, _, 2, _, rfl, rfl, SqL.of upd_same, rfl, rfl, rfl, rfl, (fun m z' hm hz => by match m, hm, hz with | 0, _, hz => (cases hz; rfl) | 1, _, hz => (cases hz; rfl)), ?_⟩
        refine ⟨q1, _, _, _, rfl, rfl, SqL.of (at_new upd_same h3), rfl, _, rfl, kp3.get List.mem_cons_self l ⟨by show 2 ≤ sizeLine; decide, fun t ht => ?_⟩⟩
        exact kk t _ (s3.trans (Same.new (fun _ _ h => h) ht)) upd_same
      | place l r =>
        refine ⟨true, PySem.W.exm_ref T.E_1 T.E_2 T.E_3 T.X_sNoPlace, fun _ a ha => ?_, fun z => by cases z⟩
        have s0 : Same H' (upd H' a (exK a (.ref A.c_NoPlace) (some dd))) := Same.new (fun _ _ h => h) ha
        have kp : Kept X.K X.mg (upd H' a (exK a (.ref A.c_NoPlace) (some dd))) a "NoPlace" ["Missing", "NetError"] ["value"] gs := ⟨_, _, _, T.X_NoPlace, dd, upd_same, s0 _ _ hdd⟩
        generalize upd H' a (exK a (.ref A.c_NoPlace) (some dd)) = H1 at s0 kp
        refine ⟨_, rfl, ?_⟩
        refine ⟨_, rfl, by show 3 ≤ sizeLine; decide, fun p1 h1 => (kp.keep (Same.new (fun _ _ h => h) h1)).three T.X_BadWeb.cnm T.X_BadNumber.cnm T.X_Misfit.cnm upd_same false (by decide) ?_⟩
        have s1 := s0.trans (Same.new (o := .tup [.ref A.c_BadWeb, .ref A.c_BadNumber, .ref A.c_Misfit]) (fun _ _ h => h) h1)
        replace kp := kp.keep (Same.new (o := .tup [.ref A.c_BadWeb, .ref A.c_BadNumber, .ref A.c_Misfit]) (fun _ _ h => h) h1)
        generalize upd H1 p1 (.tup [.ref A.c_BadWeb, .ref A.c_BadNumber, .ref A.c_Misfit]) = H2 at s1 kp
        refine ⟨_, rfl, iteF ?_⟩
        refine ⟨_, rfl, by show 2 ≤ sizeLine; decide, fun p2 h2 => (kp.keep (Same.new (fun _ _ h => h) h2)).two T.X_NoPlace.cnm T.X_NoTie.cnm upd_same true (by decide) ?_⟩
        have s2 := s1.trans (Same.new (o := .tup [.ref A.c_NoPlace, .ref A.c_NoTie]) (fun _ _ h => h) h2)
        replace kp := kp.keep (Same.new (o := .tup [.ref A.c_NoPlace, .ref A.c_NoTie]) (fun _ _ h => h) h2)
        generalize upd H2 p2 (.tup [.ref A.c_NoPlace, .ref A.c_NoTie]) = H3 at s2 kp
        refine ⟨_, rfl, iteT ?_⟩
        refine ⟨_, rfl, kp.one T.X_NoPlace.cnm true (by decide) ⟨_, rfl, iteT ⟨_, rfl, kp.get List.mem_cons_self l (r _ _ s2 ⟨by show 2 ≤ sizeLine; decide, fun t ht => ?_⟩)⟩⟩⟩
        exact kk t _ (s2.trans (Same.new (fun _ _ h => h) ht)) upd_same
      | tie l r =>
        refine ⟨true, PySem.W.exm_ref T.E_1 T.E_2 T.E_3 T.X_sNoTie, fun _ a ha => ?_, fun z => by cases z⟩
        have s0 : Same H' (upd H' a (exK a (.ref A.c_NoTie) (some dd))) := Same.new (fun _ _ h => h) ha
        have kp : Kept X.K X.mg (upd H' a (exK a (.ref A.c_NoTie) (some dd))) a "NoTie" ["Missing", "NetError"] ["value"] gs := ⟨_, _, _, T.X_NoTie, dd, upd_same, s0 _ _ hdd⟩
        generalize upd H' a (exK a (.ref A.c_NoTie) (some dd)) = H1 at s0 kp
        refine ⟨_, rfl, ?_⟩
        refine ⟨_, rfl, by show 3 ≤ sizeLine; decide, fun p1 h1 => (kp.keep (Same.new (fun _ _ h => h) h1)).three T.X_BadWeb.cnm T.X_BadNumber.cnm T.X_Misfit.cnm upd_same false (by decide) ?_⟩
        have s1 := s0.trans (Same.new (o := .tup [.ref A.c_BadWeb, .ref A.c_BadNumber, .ref A.c_Misfit]) (fun _ _ h => h) h1)
        replace kp := kp.keep (Same.new (o := .tup [.ref A.c_BadWeb, .ref A.c_BadNumber, .ref A.c_Misfit]) (fun _ _ h => h) h1)
        generalize upd H1 p1 (.tup [.ref A.c_BadWeb, .ref A.c_BadNumber, .ref A.c_Misfit]) = H2 at s1 kp
        refine ⟨_, rfl, iteF ?_⟩
        refine ⟨_, rfl, by show 2 ≤ sizeLine; decide, fun p2 h2 => (kp.keep (Same.new (fun _ _ h => h) h2)).two T.X_NoPlace.cnm T.X_NoTie.cnm upd_same true (by decide) ?_⟩
        have s2 := s1.trans (Same.new (o := .tup [.ref A.c_NoPlace, .ref A.c_NoTie]) (fun _ _ h => h) h2)
        replace kp := kp.keep (Same.new (o := .tup [.ref A.c_NoPlace, .ref A.c_NoTie]) (fun _ _ h => h) h2)
        generalize upd H2 p2 (.tup [.ref A.c_NoPlace, .ref A.c_NoTie]) = H3 at s2 kp
        refine ⟨_, rfl, iteT ?_⟩
        refine ⟨_, rfl, kp.one T.X_NoPlace.cnm false (by decide) ⟨_, rfl, iteF ⟨_, rfl, kp.get List.mem_cons_self l (r _ _ s2 ⟨by show 2 ≤ sizeLine; decide, fun t ht => ?_⟩)⟩⟩⟩
        exact kk t _ (s2.trans (Same.new (fun _ _ h => h) ht)) upd_same
      | twice l r =>
        refine ⟨true, PySem.W.exm_ref T.E_1 T.E_2 T.E_3 T.X_sTwice, fun _ a ha => ?_, fun z => by cases z⟩
        have s0 : Same H' (upd H' a (exK a (.ref A.c_Twice) (some dd))) := Same.new (fun _ _ h => h) ha
        have kp : Kept X.K X.mg (upd H' a (exK a (.ref A.c_Twice) (some dd))) a "Twice" ["NetError"] ["value"] gs := ⟨_, _, _, T.X_Twice, dd, upd_same, s0 _ _ hdd⟩
        generalize upd H' a (exK a (.ref A.c_Twice) (some dd)) = H1 at s0 kp
        refine ⟨_, rfl, ?_⟩
        refine ⟨_, rfl, by show 3 ≤ sizeLine; decide, fun p1 h1 => (kp.keep (Same.new (fun _ _ h => h) h1)).three T.X_BadWeb.cnm T.X_BadNumber.cnm T.X_Misfit.cnm upd_same false (by decide) ?_⟩
        have s1 := s0.trans (Same.new (o := .tup [.ref A.c_BadWeb, .ref A.c_BadNumber, .ref A.c_Misfit]) (fun _ _ h => h) h1)
        replace kp := kp.keep (Same.new (o := .tup [.ref A.c_BadWeb, .ref A.c_BadNumber, .ref A.c_Misfit]) (fun _ _ h => h) h1)
        generalize upd H1 p1 (.tup [.ref A.c_BadWeb, .ref A.c_BadNumber, .ref A.c_Misfit]) = H2 at s1 kp
        refine ⟨_, rfl, iteF ?_⟩
        refine ⟨_, rfl, by show 2 ≤ sizeLine; decide, fun p2 h2 => (kp.keep (Same.new (fun _ _ h => h) h2)).two T.X_NoPlace.cnm T.X_NoTie.cnm upd_same false (by decide) ?_⟩
        have s2 := s1.trans (Same.new (o := .tup [.ref A.c_NoPlace, .ref A.c_NoTie]) (fun _ _ h => h) h2)
        replace kp := kp.keep (Same.new (o := .tup [.ref A.c_NoPlace, .ref A.c_NoTie]) (fun _ _ h => h) h2)
        generalize upd H2 p2 (.tup [.ref A.c_NoPlace, .ref A.c_NoTie]) = H3 at s2 kp
        refine ⟨_, rfl, iteF ?_⟩
        refine ⟨_, rfl, kp.one T.X_Twice.cnm true (by decide) ⟨_, rfl, iteT ⟨_, rfl, kp.get List.mem_cons_self l (r _ _ s2 ⟨by show 2 ≤ sizeLine; decide, fun t ht => ?_⟩)⟩⟩⟩
        exact kk t _ (s2.trans (Same.new (fun _ _ h => h) ht)) upd_same
      | text l l2 =>
        refine ⟨true, PySem.W.exm_ref T.E_1 T.E_2 T.E_3 T.X_sBadText, fun _ a ha => ?_, fun z => by cases z⟩
        have s0 : Same H' (upd H' a (exK a (.ref A.c_BadText) (some dd))) := Same.new (fun _ _ h => h) ha
        have kp : Kept X.K X.mg (upd H' a (exK a (.ref A.c_BadText) (some dd))) a "BadText" ["NetError"] ["line", "item"] gs := ⟨_, _, _, T.X_BadText, dd, upd_same, s0 _ _ hdd⟩
        generalize upd H' a (exK a (.ref A.c_BadText) (some dd)) = H1 at s0 kp
        refine ⟨_, rfl, ?_⟩
        refine ⟨_, rfl, by show 3 ≤ sizeLine; decide, fun p1 h1 => (kp.keep (Same.new (fun _ _ h => h) h1)).three T.X_BadWeb.cnm T.X_BadNumber.cnm T.X_Misfit.cnm upd_same false (by decide) ?_⟩
        have s1 := s0.trans (Same.new (o := .tup [.ref A.c_BadWeb, .ref A.c_BadNumber, .ref A.c_Misfit]) (fun _ _ h => h) h1)
        replace kp := kp.keep (Same.new (o := .tup [.ref A.c_BadWeb, .ref A.c_BadNumber, .ref A.c_Misfit]) (fun _ _ h => h) h1)
        generalize upd H1 p1 (.tup [.ref A.c_BadWeb, .ref A.c_BadNumber, .ref A.c_Misfit]) = H2 at s1 kp
        refine ⟨_, rfl, iteF ?_⟩
        refine ⟨_, rfl, by show 2 ≤ sizeLine; decide, fun p2 h2 => (kp.keep (Same.new (fun _ _ h => h) h2)).two T.X_NoPlace.cnm T.X_NoTie.cnm upd_same false (by decide) ?_⟩
        have s2 := s1.trans (Same.new (o := .tup [.ref A.c_NoPlace, .ref A.c_NoTie]) (fun _ _ h => h) h2)
        replace kp := kp.keep (Same.new (o := .tup [.ref A.c_NoPlace, .ref A.c_NoTie]) (fun _ _ h => h) h2)
        generalize upd H2 p2 (.tup [.ref A.c_NoPlace, .ref A.c_NoTie]) = H3 at s2 kp
        refine ⟨_, rfl, iteF ?_⟩
        refine ⟨_, rfl, kp.one T.X_Twice.cnm false (by decide) ⟨_, rfl, iteF ?_⟩⟩
        refine ⟨_, rfl, kp.one T.X_BadText.cnm true (by decide) ⟨_, rfl, iteT ⟨_, rfl, kp.get List.mem_cons_self l ⟨_, rfl, kp.get (List.mem_cons_of_mem _ List.mem_cons_self) l2 ⟨by show 3 ≤ sizeLine; decide, fun t ht => ?_⟩⟩⟩⟩⟩
        exact kk t _ (s2.trans (Same.new (fun _ _ h => h) ht)) upd_same
    · refine h _ fun v H' kn => ?_
      have nk : ∀ {H1 : Hp} {D : Addr} {R : VK}, PySem.W.kitOne X.K (.type "NoneType") (.ref D) = some false → R (.bl false) H1 → rIsi X.K [.non, .ref D] H1 R ∨ rIsiC X.K X.mg [.non, .ref D] H1 R := fun hk r => .inl ⟨_, _, _, _, _, rfl, .own _, .base .non, hk, r⟩
      have s1 : ∀ {p1 : Addr}, H' p1 = none → Same H' (upd H' p1 (.tup [.ref A.c_BadWeb, .ref A.c_BadNumber, .ref A.c_Misfit])) := fun h1 => Same.new (fun _ _ h => h) h1
      refine ⟨_, rfl, by show 3 ≤ sizeLine; decide, fun p1 h1 => .inl ⟨_, _, _, _, _, _, rfl, upd_same, .cons (.own _) (.cons (.own _) (.cons (.own _) .nil)), .base .non, kitAny_cons T.Y_BadWeb_n (fun _ => kitAny_cons T.Y_BadNumber_n (fun _ => kitAny_cons T.Y_Misfit_n (fun _ => kitAny_nil) (fun z => by cases z)) (fun z => by cases z)) (fun z => by cases z), ?_⟩⟩
      refine ⟨_, rfl, iteF ?_⟩
      refine ⟨_, rfl, by show 2 ≤ sizeLine; decide, fun p2 h2 => .inl ⟨_, _, _, _, _, _, rfl, upd_same, .cons (.own _) (.cons (.own _) .nil), .base .non, kitAny_cons T.Y_NoPlace_n (fun _ => kitAny_cons T.Y_NoTie_n (fun _ => kitAny_nil) (fun z => by cases z)) (fun z => by cases z), ?_⟩⟩
      refine ⟨_, rfl, iteF ?_⟩
      refine ⟨_, rfl, nk T.Y_Twice_n ⟨_, rfl, iteF ?_⟩⟩
      refine ⟨_, rfl, nk T.Y_BadText_n ⟨_, rfl, iteF ?_⟩⟩
      refine ⟨_, rfl, rfl, _, rfl, iteT ?_⟩
      exact kn _ ((s1 h1).trans (Same.new (fun _ _ h => h) h2))
/-! ### webs: any values -/
def inB (n : Int) (v : V) : Bool := isI v && (inLo v (.int 0) && inHi v (.int (n - 1)))
/-- the items of a list or a tuple -/
def seqOf (H : Hp) : V → Option (List V)
  | .ref a => match H a with
    | some (.lst xs) => some xs
    | some (.tup xs) => some xs
    | _ => none
  | _ => none
theorem seqOf_sqx {H : Hp} {a : Addr} {xs : List V} (h : SqX H a xs) : seqOf H (.ref a) = some xs := by
  rcases h with h | h <;> simp only [seqOf, h]
theorem seqOf_some {H : Hp} {v : V} {xs : List V} (h : seqOf H v = some xs) : ∃ a, v = .ref a ∧ SqX H a xs := by
  cases v with
  | ref a =>
    refine ⟨a, rfl, ?_⟩
    simp only [seqOf] at h
    split at h
    · cases h
      exact .inl (by assumption)
    · cases h
      exact .inr (by assumption)
    · cases h
  | _ => cases h
theorem seqOf_none {H : Hp} {v : V} (ok : OkV H v) (h : seqOf H v = none) : isLT H v = false := by
  cases v with
  | ref a =>
    rcases ok with ⟨xs, e⟩ | ⟨xs, e⟩ | ⟨xs, e⟩
    · simp only [seqOf, e] at h
      cases h
    · simp only [seqOf, e] at h
      cases h
    · simp only [isLT, e]
  | _ => rfl
theorem areI_seq {H : Hp} {v : V} : areI H v = match seqOf H v with | some xs => xs.all isI | none => false := by
  cases v with
  | ref a =>
    simp only [areI, seqOf]
    split <;> simp_all
  | _ => rfl
def pairB (H : Hp) (n : Int) (v : V) : Bool := match seqOf H v with
  | some xs => xs.all isI && (decide (xs.length = 2) && xs.all (inB n))
  | none => false
def tiesB (H : Hp) (n : Int) (v : V) : Bool := match seqOf H v with
  | some xs => decide (xs.length ≤ 12) && xs.all (pairB H n)
  | none => false
/-- flat and short -/
def ItOk (H : Hp) (v : V) : Prop := OkV H v ∧ ∀ xs, seqOf H v = some xs → xs.length ≤ 1000 ∧ ∀ x ∈ xs, OkV H x
def TiOk (H : Hp) (v : V) : Prop := OkV H v ∧ ∀ xs, seqOf H v = some xs → xs.length ≤ 1000 ∧ ∀ x ∈ xs, ItOk H x
theorem seqOf_same {H H' : Hp} {v : V} (ok : OkV H v) (s : Same H H') : seqOf H' v = seqOf H v := by
  cases v with
  | ref a => rcases ok with ⟨xs, e⟩ | ⟨xs, e⟩ | ⟨xs, e⟩ <;> simp only [seqOf, e, s _ _ e]
  | _ => rfl
theorem ItOk.same {H H' : Hp} {v : V} (h : ItOk H v) (s : Same H H') : ItOk H' v :=
  ⟨h.1.mono fun a o _ e => s _ _ e, fun xs e => by
    rw [seqOf_same h.1 s] at e
    exact ⟨(h.2 xs e).1, fun x hx => ((h.2 xs e).2 x hx).mono fun a o _ e => s _ _ e⟩⟩
theorem TiOk.same {H H' : Hp} {v : V} (h : TiOk H v) (s : Same H H') : TiOk H' v :=
  ⟨h.1.mono fun a o _ e => s _ _ e, fun xs e => by
    rw [seqOf_same h.1 s] at e
    exact ⟨(h.2 xs e).1, fun x hx => ((h.2 xs e).2 x hx).same s⟩⟩
theorem pairB_same {H H' : Hp} {n : Int} {v : V} (h : ItOk H v) (s : Same H H') : pairB H' n v = pairB H n v := by
  unfold pairB
  rw [seqOf_same h.1 s]
theorem tiesB_same {H H' : Hp} {n : Int} {v : V} (h : TiOk H v) (s : Same H H') : tiesB H' n v = tiesB H n v := by
  unfold tiesB
  rw [seqOf_same h.1 s]
  split
  · rename_i xs e
    congr 1
    have q := (h.2 xs e).2
    clear e
    induction xs with
    | nil => rfl
    | cons x r ih =>
      rw [List.all_cons, List.all_cons, pairB_same (q x List.mem_cons_self) s, ih fun y hy => q y (List.mem_cons_of_mem _ hy)]
  · rfl
theorem map_take {α β : Type} {f : α → β} {xs : List α} {i : Nat} {x : α} (h : xs[i]? = some x) : (xs.take i).map f ++ [f x] = (xs.take (i + 1)).map f := by
  rw [List.take_succ, h]
  simp
/-- all of the walked -/
def sp_pair : Sp := fun vs H Q _ => ∃ (n : Int) (v : V), vs = [.int n, v] ∧ ItOk H v ∧ ∀ H', Same H H' → Q (.bl (pairB H n v)) H'
theorem G_is_pair (T : Txt P K mg A) : FnG P w K mg base CX0 3 A.a_is_pair A.d_is_pair P_is_pair sp_pair := by
  refine okG T.F_is_pair sc_is_pair (fun vs H Q E h => ?_) (fun cdv A0 outer s H vs Q E hr h => ?_)
  · obtain ⟨n, v, rfl, _⟩ := h
    rfl
  obtain ⟨n, v, rfl, it, k⟩ := h
  refine ⟨_, (pss_cons (ps_if (PW.pt (pw_or (pt_not (pt_val (pe_callG (G_are_integers T) (hr.mono (by decide)) rfl T.g_are_integers T.F_are_integers.kp T.b_are_integers .nil pass0 (pa_cons (pv 1) pa_nil)))) (pw_or1 (pt_cmpR op_ne (pe_callB call_len_seq (by rfl) T.n_len (by decide +kernel) (pa_cons (pv 1) pa_nil)) pe_int (nomark _))))) (pss_one (ps_ret pe_bl)) pss_nil)
      (pss_one (ps_ret (pe_callB (cr_all rfl) (by rfl) T.n_all (by decide +kernel) (pa_cons (pe_lc (own := [("end", 2)]) (g := gName 2) (tt := tYes) rfl sc_is_pair.nd (pi_seqV (pv 1)) (blkOk_by (N := N_is_pair) (sc := defScope s_is_pair) (by decide +kernel)) (fun _ _ _ _ _ => (pg_name (i := 2) sc_is_pair.nd rfl (Or.inl rfl))) (fun _ _ _ _ _ => pts_nil) (fun _ _ _ _ _ => (pe_callG (G_is_within T) (hr.mono (by decide)) rfl T.g_is_within T.F_is_within.kp T.b_is_within .nil pass0 (pa_cons (pv 2) (pa_cons pe_int (pa_cons (pe_op op_sub (pv 0) pe_int) pa_nil)))))) pa_nil))))), ?_⟩
  refine ⟨_, rfl, v, rfl, it.1, ?_, fun H1 s1 => ?_⟩
  · rintro a xs rfl hx
    exact it.2 xs (seqOf_sqx hx)
  rw [areI_seq]
  cases hs : seqOf H v with
  | none =>
    refine ⟨_, rfl, iteT ?_⟩
    have z : pairB H n v = false := by simp only [pairB, hs]
    rw [z] at k
    exact k _ s1
  | some xs =>
    obtain ⟨a, rfl, hq⟩ := seqOf_some hs
    obtain ⟨hlen, hok⟩ := it.2 xs hs
    have hz : pairB H n (.ref a) = (xs.all isI && (decide (xs.length = 2) && xs.all (inB n))) := by simp only [pairB, hs]
    rw [hz] at k
    have hq1 := hq.same s1
    obtain ⟨oa, hoa⟩ := hq1.has
    dsimp only
    cases hi : xs.all isI with
    | false =>
      rw [hi] at k
      exact ⟨_, rfl, iteT (k _ s1)⟩
    | true =>
      rw [hi] at k
      refine ⟨_, rfl, iteF ⟨_, rfl, a, _, rfl, hq1.sq, rfl, _, rfl, ?_⟩⟩
      by_cases h2 : xs.length = 2
      · rw [decide_eq_true h2] at k
        have e2 : decide (V.int ((xs.length : Nat) : Int) = V.int 2) = true := decide_eq_true (by rw [h2]; rfl)
        rw [e2]
        refine iteF ?_
        refine ⟨_, rfl, a, rfl, seq_by hq1.sq fun J G W gG D hD => ?_⟩
        refine lc_it W (fun i H' => Same H1 H' ∧ H' D = some (.lst (((xs.take i).map (inB n)).map V.bl))) ⟨Same.new (fun _ _ h => h) hD, upd_same⟩ (fun i H' _ q => gG H' fun o h => ?_) ?_ ?_
        · rw [← h]
          exact (q.1 _ _ hoa).trans hoa.symm
        · rintro i x H' _ hi ⟨s3, hD3⟩ ⟨rfl, hx'⟩
          have okx := (hok x (List.mem_of_getElem? hx')).mono fun a o _ e => s3 _ _ (s1 _ _ e)
          refine ⟨rfl, tYes_of (iteT ⟨_, rfl, _, rfl, _, _, rfl, rfl, x, .int 0, .int (n - 1), rfl, okx, trivial, trivial, ?_⟩)⟩
          refine ⟨_, hD3, ?_, ?_, ?_⟩
          · rw [List.length_map, List.length_map]
            exact Nat.lt_of_le_of_lt (List.length_take_le _ _) (small1000 (by omega))
          · intro b o h
            rw [upd_ne (ne_of_none h hD)]
            exact s3 _ _ h
          · rw [upd_same, ← map_take (f := inB n) hx']
            simp [inB]
        · rintro H' ⟨s3, hD3⟩
          rw [List.take_of_length_le (Nat.le_refl _)] at hD3
          refine ⟨D, _, rfl, SqL.of hD3, ?_⟩
          have z : (xs.map (inB n)).all id = xs.all (inB n) := by simp [List.all_map]
          rw [z]
          exact k _ (s1.trans s3)
      · rw [decide_eq_false h2] at k
        have e2 : decide (V.int ((xs.length : Nat) : Int) = V.int 2) = false := decide_eq_false fun z => h2 (by have := V.int.inj z; omega)
        rw [e2]
        exact iteT (k _ s1)
def sp_ties : Sp := fun vs H Q _ => ∃ (n : Int) (v : V), vs = [.int n, v] ∧ TiOk H v ∧ ∀ H', Same H H' → Q (.bl (tiesB H n v)) H'
theorem G_are_ties (T : Txt P K mg A) : FnG P w K mg base CX0 4 A.a_are_ties A.d_are_ties P_are_ties sp_ties := by
  refine okG T.F_are_ties sc_are_ties (fun vs H Q E h => ?_) (fun cdv A0 outer s H vs Q E hr h => ?_)
  · obtain ⟨n, v, rfl, _⟩ := h
    rfl
  obtain ⟨n, v, rfl, it, k⟩ := h
  refine ⟨_, (pss_cons (ps_if (PW.pt (pw_or (pt_not (pt_val (pe_callB call_isiT (by rfl) T.n_isinstance (by decide +kernel) (pa_cons (pv 1) (pa_cons (pe_tup (pa_cons (pe_bltn (v := .ty "list") (u := .type "list") (by rfl) T.n_list (by decide +kernel) rfl) (pa_cons (pe_bltn (v := .ty "tuple") (u := .type "tuple") (by rfl) T.n_tuple (by decide +kernel) rfl) pa_nil))) pa_nil))))) (pw_or1 (pt_cmpR op_gt (pe_callB call_len_seq (by rfl) T.n_len (by decide +kernel) (pa_cons (pv 1) pa_nil)) (pe_glob (v := .int 12) rfl T.m_MOST_TIES ⟨_, rfl⟩) (nomark _))))) (pss_one (ps_ret pe_bl)) pss_nil)
      (pss_one (ps_ret (pe_callB (cr_all rfl) (by rfl) T.n_all (by decide +kernel) (pa_cons (pe_lc (own := [("pair", 2)]) (g := gName 2) (tt := tYes) rfl sc_are_ties.nd (pi_seqV (pv 1)) (blkOk_by (N := N_are_ties) (sc := defScope s_are_ties) (by decide +kernel)) (fun _ _ _ _ _ => (pg_name (i := 2) sc_are_ties.nd rfl (Or.inl rfl))) (fun _ _ _ _ _ => pts_nil) (fun _ _ _ _ _ => (pe_callG (G_is_pair T) (hr.mono (by decide)) rfl T.g_is_pair T.F_is_pair.kp T.b_is_pair .nil pass0 (pa_cons (pv 0) (pa_cons (pv 2) pa_nil))))) pa_nil))))), ?_⟩
  refine ⟨_, rfl, by show 2 ≤ sizeLine; decide, fun q1 h1 => ?_⟩
  have s1 : Same H (upd H q1 (.tup [.ty "list", .ty "tuple"])) := Same.new (fun _ _ h => h) h1
  have it1 := it.same s1
  have es := seqOf_same it.1 s1
  have hq1 : (upd H q1 (.tup [.ty "list", .ty "tuple"])) q1 = some (.tup [.ty "list", .ty "tuple"]) := upd_same
  rw [← tiesB_same it s1] at k
  generalize upd H q1 (.tup [.ty "list", .ty "tuple"]) = H1 at s1 it1 es hq1 k
  obtain ⟨T1, ty, _, _, k3⟩ := kindV (K := K) it1.1
  refine ⟨_, _, _, _, _, _, rfl, hq1, .cons (.ty "list") (.cons (.ty "tuple") .nil), ty, k3, _, rfl, ?_⟩
  cases hs : seqOf H1 v with
  | none =>
    rw [seqOf_none it1.1 hs]
    have z : tiesB H1 n v = false := by simp only [tiesB, hs]
    rw [z] at k
    exact iteT (k _ s1)
  | some xs =>
    obtain ⟨a, rfl, hq⟩ := seqOf_some hs
    obtain ⟨hlen, hok⟩ := it1.2 xs hs
    have hz : tiesB H1 n (.ref a) = (decide (xs.length ≤ 12) && xs.all (pairB H1 n)) := by simp only [tiesB, hs]
    rw [hz] at k
    rw [hq.lt]
    refine iteF ⟨_, rfl, a, xs, rfl, hq.sq, _, _, rfl, rfl, _, rfl, ?_⟩
    by_cases h2 : xs.length ≤ 12
    · rw [decide_eq_true h2] at k
      rw [decide_eq_false (by omega)]
      refine iteF ?_
      obtain ⟨oa, hoa⟩ := hq.has
      refine ⟨_, rfl, a, rfl, seq_by hq.sq fun J G W gG D hD => ?_⟩
      refine lc_it W (fun i H' => Same H1 H' ∧ H' D = some (.lst (((xs.take i).map (pairB H1 n)).map V.bl))) ⟨Same.new (fun _ _ h => h) hD, upd_same⟩ (fun i H' _ q => gG H' fun o h => ?_) ?_ ?_
      · rw [← h]
        exact (q.1 _ _ hoa).trans hoa.symm
      · rintro i x H' _ hi ⟨s3, hD3⟩ ⟨rfl, hx'⟩
        have okx := hok x (List.mem_of_getElem? hx')
        refine ⟨rfl, tYes_of (iteT ⟨_, rfl, _, rfl, n, x, rfl, okx.same s3, fun H4 s4 => ⟨_, s4 _ _ hD3, ?_, ?_, ?_⟩⟩)⟩
        · rw [List.length_map, List.length_map]
          exact Nat.lt_of_le_of_lt (List.length_take_le _ _) (small1000 (by omega))
        · intro b o h
          rw [upd_ne (ne_of_none h hD)]
          exact s4 _ _ (s3 _ _ h)
        · rw [upd_same, ← map_take (f := pairB H1 n) hx', pairB_same okx s3]
          simp
      · rintro H' ⟨s3, hD3⟩
        rw [List.take_of_length_le (Nat.le_refl _)] at hD3
        refine ⟨D, _, rfl, SqL.of hD3, ?_⟩
        have z : (xs.map (pairB H1 n)).all id = xs.all (pairB H1 n) := by simp [List.all_map]
        rw [z]
        exact k _ (s1.trans s3)
    · rw [decide_eq_false h2] at k
      rw [decide_eq_true (by omega)]
      exact iteT (k _ s1)
/-! ### errors made -/
/-- an __init__ that keeps one thing, two things -/
def sp1 (K : PySem.W.Frag) (f : Str) : Sp := fun vs H Q _ => ∃ (a C : Addr) (v : V), vs = [.ref a, v] ∧ OexC K C ∧ PySem.W.findIn K (.ref C) f = some none ∧ H a = some (exo a C none) ∧ ∀ H' dd, H dd = none → dd ≠ a → H' a = some (exo a C (some dd)) → H' dd = some (exd dd [(f, v)]) → Kp a H H' → Q .non H'
def sp2 (K : PySem.W.Frag) (f g : Str) : Sp := fun vs H Q _ => ∃ (a C : Addr) (v u : V), vs = [.ref a, v, u] ∧ OexC K C ∧ PySem.W.findIn K (.ref C) f = some none ∧ PySem.W.findIn K (.ref C) g = some none ∧ H a = some (exo a C none) ∧ ∀ H' dd, H dd = none → dd ≠ a → H' a = some (exo a C (some dd)) → H' dd = some (exd dd [(g, u), (f, v)]) → Kp a H H' → Q .non H'
theorem G_init_BadNumber (T : Txt P K mg A) : FnG P w K mg base CX0 1 A.i_BadNumber A.d_init_BadNumber P_init_BadNumber (sp1 K "part") := by
  refine okG T.F_init_BadNumber sc_init_BadNumber (fun vs H Q E h => ?_) (fun cdv A0 outer s H vs Q E hr h => ?_)
  · obtain ⟨a, C, v, rfl, _⟩ := h
    rfl
  obtain ⟨a, C, v, rfl, o, n1, ha, k⟩ := h
  refine ⟨_, (pss_one (ps_ost (pv 0) (pv 1))), ?_⟩
  refine ⟨_, rfl, _, rfl, a, C, rfl, o, n1, .inl ⟨ha, fun dx hd hda => ?_⟩⟩
  exact k _ dx hd hda upd_same (by rw [upd_ne hda]; exact upd_same) (upd_kp hd hda)
theorem G_init_BadWeb (T : Txt P K mg A) : FnG P w K mg base CX0 1 A.i_BadWeb A.d_init_BadWeb P_init_BadWeb (sp1 K "part") := by
  refine okG T.F_init_BadWeb sc_init_BadWeb (fun vs H Q E h => ?_) (fun cdv A0 outer s H vs Q E hr h => ?_)
  · obtain ⟨a, C, v, rfl, _⟩ := h
    rfl
  obtain ⟨a, C, v, rfl, o, n1, ha, k⟩ := h
  refine ⟨_, (pss_one (ps_ost (pv 0) (pv 1))), ?_⟩
  refine ⟨_, rfl, _, rfl, a, C, rfl, o, n1, .inl ⟨ha, fun dx hd hda => ?_⟩⟩
  exact k _ dx hd hda upd_same (by rw [upd_ne hda]; exact upd_same) (upd_kp hd hda)
theorem G_init_Misfit (T : Txt P K mg A) : FnG P w K mg base CX0 1 A.i_Misfit A.d_init_Misfit P_init_Misfit (sp1 K "part") := by
  refine okG T.F_init_Misfit sc_init_Misfit (fun vs H Q E h => ?_) (fun cdv A0 outer s H vs Q E hr h => ?_)
  · obtain ⟨a, C, v, rfl, _⟩ := h
    rfl
  obtain ⟨a, C, v, rfl, o, n1, ha, k⟩ := h
  refine ⟨_, (pss_one (ps_ost (pv 0) (pv 1))), ?_⟩
  refine ⟨_, rfl, _, rfl, a, C, rfl, o, n1, .inl ⟨ha, fun dx hd hda => ?_⟩⟩
  exact k _ dx hd hda upd_same (by rw [upd_ne hda]; exact upd_same) (upd_kp hd hda)
theorem G_init_Missing (T : Txt P K mg A) : FnG P w K mg base CX0 1 A.i_Missing A.d_init_Missing P_init_Missing (sp1 K "value") := by
  refine okG T.F_init_Missing sc_init_Missing (fun vs H Q E h => ?_) (fun cdv A0 outer s H vs Q E hr h => ?_)
  · obtain ⟨a, C, v, rfl, _⟩ := h
    rfl
  obtain ⟨a, C, v, rfl, o, n1, ha, k⟩ := h
  refine ⟨_, (pss_one (ps_ost (pv 0) (pv 1))), ?_⟩
  refine ⟨_, rfl, _, rfl, a, C, rfl, o, n1, .inl ⟨ha, fun dx hd hda => ?_⟩⟩
  exact k _ dx hd hda upd_same (by rw [upd_ne hda]; exact upd_same) (upd_kp hd hda)
theorem G_init_Twice (T : Txt P K mg A) : FnG P w K mg base CX0 1 A.i_Twice A.d_init_Twice P_init_Twice (sp1 K "value") := by
  refine okG T.F_init_Twice sc_init_Twice (fun vs H Q E h => ?_) (fun cdv A0 outer s H vs Q E hr h => ?_)
  · obtain ⟨a, C, v, rfl, _⟩ := h
    rfl
  obtain ⟨a, C, v, rfl, o, n1, ha, k⟩ := h
  refine ⟨_, (pss_one (ps_ost (pv 0) (pv 1))), ?_⟩
  refine ⟨_, rfl, _, rfl, a, C, rfl, o, n1, .inl ⟨ha, fun dx hd hda => ?_⟩⟩
  exact k _ dx hd hda upd_same (by rw [upd_ne hda]; exact upd_same) (upd_kp hd hda)
theorem G_init_NoPlace (T : Txt P K mg A) : FnG P w K mg base CX0 2 A.i_NoPlace A.d_init_NoPlace P_init_NoPlace (spSup K A.c_NoPlace A.i_Missing (sp1 K "value")) := super_init T.S_NoPlace T.X_NoPlace.cnm T.n_super (fun env => rfl) (G_init_Missing T) T.b_init_Missing
theorem G_init_NoTie (T : Txt P K mg A) : FnG P w K mg base CX0 2 A.i_NoTie A.d_init_NoTie P_init_NoTie (spSup K A.c_NoTie A.i_Missing (sp1 K "value")) := super_init T.S_NoTie T.X_NoTie.cnm T.n_super (fun env => rfl) (G_init_Missing T) T.b_init_Missing
theorem G_init_BadText (T : Txt P K mg A) : FnG P w K mg base CX0 1 A.i_BadText A.d_init_BadText P_init_BadText (sp2 K "line" "item") := by
  refine okG T.F_init_BadText sc_init_BadText (fun vs H Q E h => ?_) (fun cdv A0 outer s H vs Q E hr h => ?_)
  · obtain ⟨a, C, v, u, rfl, _⟩ := h
    rfl
  obtain ⟨a, C, v, u, rfl, o, n1, n2, ha, k⟩ := h
  refine ⟨_, (pss_cons (ps_ost (pv 0) (pv 1)) (pss_one (ps_ost (pv 0) (pv 2)))), ?_⟩
  refine ⟨_, rfl, _, rfl, a, C, rfl, o, n1, .inl ⟨ha, fun dx hd hda => ?_⟩⟩
  have e1 : (upd (upd H dx (exd dx [("line", v)])) a (exo a C (some dx))) a = some (exo a C (some dx)) := upd_same
  have e2 : (upd (upd H dx (exd dx [("line", v)])) a (exo a C (some dx))) dx = some (exd dx [("line", v)]) := by rw [upd_ne hda]; exact upd_same
  refine ⟨_, rfl, _, rfl, a, C, rfl, o, n2, .inr ⟨dx, _, e1, e2, by show 1 ≤ 900; decide, ?_⟩⟩
  refine k _ dx hd hda (by rw [upd_ne hda.symm]; exact e1) upd_same ?_
  intro b z n h
  rw [upd_ne (ne_of_none h hd)]
  exact (upd_kp hd hda) b z n h
/-- raise C(..): where it goes -/
theorem raised {H H' : Hp} {a dd C : Addr} {gs : List (Str × V)} {W : XK} {u : HO} (ha : H a = none) (hd : upd H a u dd = none) (hda : dd ≠ a) (h1 : H' a = some (exo a C (some dd))) (h2 : H' dd = some (exd dd gs)) (kp : Kp a (upd H a u) H')
    (k : ∀ d H', H' d = some (.xd gs) → Same H H' → W (.ref C) (some d) H') : ∃ (d : Addr) (fs : List (Str × V)), H' a = some (exo a C (some d)) ∧ H' d = some (exd d fs) ∧ H d = none ∧ W (.ref C) (some d) (upd (del H' a) d (.xd fs)) := by
  rw [upd_ne hda] at hd
  refine ⟨dd, _, h1, h2, hd, k _ _ upd_same ?_⟩
  intro b o hb
  have e1 : b ≠ a := fun z => by rw [z, ha] at hb; cases hb
  rw [upd_ne (ne_of_none hb hd), del_ne e1]
  exact kp b o e1 (by rw [upd_ne e1]; exact hb)
theorem raise1 {H : Hp} {C : Addr} {f : Str} {v : V} {W : XK} (o : OexC K C) (n1 : PySem.W.findIn K (.ref C) f = some none) (k : ∀ d H', H' d = some (.xd [(f, v)]) → Same H H' → W (.ref C) (some d) H') :
    ∀ a, H a = none → sp1 K f (.ref a :: ([v] ++ [])) (upd H a (exo a C none)) (fun y H2 => y = .non ∧ ∃ (d : Addr) (fs : List (Str × V)), H2 a = some (exo a C (some d)) ∧ H2 d = some (exd d fs) ∧ H d = none ∧ W (.ref C) (some d) (upd (del H2 a) d (.xd fs))) (fun _ _ _ => False) :=
  fun a ha => ⟨a, C, v, rfl, o, n1, upd_same, fun H' dd hd hda h1 h2 kp => ⟨rfl, raised ha hd hda h1 h2 kp k⟩⟩
theorem raiseS {H : Hp} {C D f2 : Addr} {f : Str} {v : V} {W : XK} (S : SupC K C D f2) (o : OexC K C) (n1 : PySem.W.findIn K (.ref C) f = some none) (k : ∀ d H', H' d = some (.xd [(f, v)]) → Same H H' → W (.ref C) (some d) H') :
    ∀ a, H a = none → spSup K D f2 (sp1 K f) (.ref a :: ([v] ++ [])) (upd H a (exo a C none)) (fun y H2 => y = .non ∧ ∃ (d : Addr) (fs : List (Str × V)), H2 a = some (exo a C (some d)) ∧ H2 d = some (exd d fs) ∧ H d = none ∧ W (.ref C) (some d) (upd (del H2 a) d (.xd fs))) (fun _ _ _ => False) :=
  fun a ha => ⟨a, C, v, rfl, upd_same, S, a, C, v, rfl, o, n1, upd_same, fun H' dd hd hda h1 h2 kp => ⟨rfl, raised ha hd hda h1 h2 kp k⟩⟩
theorem raise2 {H : Hp} {C : Addr} {f g : Str} {v u : V} {W : XK} (o : OexC K C) (n1 : PySem.W.findIn K (.ref C) f = some none) (n2 : PySem.W.findIn K (.ref C) g = some none) (k : ∀ d H', H' d = some (.xd [(g, u), (f, v)]) → Same H H' → W (.ref C) (some d) H') :
    ∀ a, H a = none → sp2 K f g (.ref a :: ([v, u] ++ [])) (upd H a (exo a C none)) (fun y H2 => y = .non ∧ ∃ (d : Addr) (fs : List (Str × V)), H2 a = some (exo a C (some d)) ∧ H2 d = some (exd d fs) ∧ H d = none ∧ W (.ref C) (some d) (upd (del H2 a) d (.xd fs))) (fun _ _ _ => False) :=
  fun a ha => ⟨a, C, v, u, rfl, o, n1, n2, upd_same, fun H' dd hd hda h1 h2 kp => ⟨rfl, raised ha hd hda h1 h2 kp k⟩⟩
/-! ### what is no web -/
theorem kindW (T : Txt P K mg A) {H : Hp} {v : V} (h : OkV H v) : ∃ t : String, TyX K H v (.type t) ∧ PySem.W.kitOne K (.type t) (.ref A.c_Web) = some false := by
  cases v with
  | non => exact ⟨_, .base .non, T.Z_NoneType⟩
  | bl b => exact ⟨_, .base (.bl b), T.Z_bool⟩
  | int b => exact ⟨_, .base (.int b), T.Z_int⟩
  | str b => exact ⟨_, .base (.str b), T.Z_str⟩
  | ref a =>
    rcases h with ⟨xs, e⟩ | ⟨xs, e⟩ | ⟨xs, e⟩
    · exact ⟨_, .base (.lst e), T.Z_list⟩
    · exact ⟨_, .base (.tup e), T.Z_tuple⟩
    · exact ⟨_, .base (.dK e), T.Z_dict⟩
  | byt _ => exact h.elim
  | flt _ => exact h.elim
  | ty _ => exact h.elim
/-- a web stands at x -/
def WebAt (H : Hp) (x C : Addr) (n : Nat) (ps : MC.Pr) : Prop := ∃ dx q xs, H x = some (.ins C dx [("places", .int (n : Int)), ("ties", .ref q)]) ∧ H q = some (.tup xs) ∧ Paired (PrT H) xs ps
theorem WebAt.keep {H H' : Hp} {x C : Addr} {n : Nat} {ps : MC.Pr} (h : WebAt H x C n ps) (s : Same H H') : WebAt H' x C n ps := by
  obtain ⟨dx, q, xs, h1, h2, h3⟩ := h
  exact ⟨dx, q, xs, s _ _ h1, s _ _ h2, paired_imp (fun _ _ z => z.keep s) h3⟩
/-- an error with one field goes out -/
def Out (E : XK) (H : Hp) (C : Addr) (f : Str) (v : V) : Prop := ∀ d H', H' d = some (.xd [(f, v)]) → Same H H' → E (.ref C) (some d) H'
theorem Out.on {E : XK} {H H1 : Hp} {C : Addr} {f : Str} {v : V} (o : Out E H C f v) (s : Same H H1) : Out E H1 C f v := fun d H' h t => o d H' h (s.trans t)
def sp_need (C BW : Addr) : Sp := fun vs H Q E => ∃ (v : V) (z : Str), vs = [v, .str z] ∧ ((∃ x n ps, v = .ref x ∧ WebAt H x C n ps ∧ Q .non H) ∨ (OkV H v ∧ Out E H BW "part" (.str z)))
theorem G_need_web (T : Txt P K mg A) : FnG P w K mg base (L2.CX P w) 3 A.a_need_web A.d_need_web P_need_web (sp_need A.c_Web A.c_BadWeb) := by
  refine okGX T.F_need_web sc_need_web (fun vs H Q E h => ?_) (fun cdv A0 outer s H vs Q E hr h => ?_)
  · obtain ⟨v, z, rfl, _⟩ := h
    rfl
  obtain ⟨v, z, rfl, h⟩ := h
  refine ⟨_, (pss_one (ps_if (pt_not (pt_val (pe_callB call_isi (by rfl) T.n_isinstance (by decide +kernel) (pa_cons (pv 0) (pa_cons (pe_glob (v := .ref A.c_Web) rfl T.g_Web rfl) pa_nil))))) (pss_one (ps_raise rfl (takes_of rfl rfl rfl rfl) (pmk_G T.X_BadWeb.oex T.X_BadWeb.iC T.X_BadWeb.tI (G_init_BadWeb T) (hr.mono (by decide)) rfl T.X_BadWeb.gC T.b_init_BadWeb pass0 (pa_cons (pv 1) pa_nil)))) pss_nil)), ?_⟩
  rcases h with ⟨x, n, ps, rfl, ⟨dx, q, xs, hx, _⟩, k⟩ | ⟨ok, k⟩
  · refine ⟨_, rfl, _, _, _, _, _, rfl, .own A.c_Web, own_ty hx T.K_Web T.I_Web, kit_self, _, rfl, iteF ?_⟩
    exact k
  · obtain ⟨t, ty, kt⟩ := kindW T ok
    refine ⟨_, rfl, _, _, _, _, _, rfl, .own A.c_Web, ty, kt, _, rfl, iteT ?_⟩
    exact ⟨_, rfl, by show 1 ≤ 1000; decide, raise1 T.X_BadWeb.oex (T.X_BadWeb.no _ List.mem_cons_self) k⟩
def sp_nw (BW : Addr) : Sp := fun vs H _ E => ∃ v : V, vs = [v] ∧ OkV H v ∧ Out E H BW "part" (.str "web")
theorem G_rounds (T : Txt P K mg A) : FnG P w K mg base (L2.CX P w) 4 A.a_rounds A.d_rounds P_rounds (sp_nw A.c_BadWeb) := by
  refine okGX T.F_rounds sc_rounds (fun vs H Q E h => ?_) (fun cdv A0 outer s H vs Q E hr h => ?_)
  · obtain ⟨v, rfl, _⟩ := h
    rfl
  obtain ⟨v, rfl, ok, k⟩ := h
  refine ⟨_, (pss_cons (ps_expr (pe_callG (E := E) (G_need_web T) (hr.mono (by decide)) rfl T.g_need_web T.F_need_web.kp T.b_need_web .nil (passes_call (takes_of rfl rfl rfl rfl) (fun _ _ _ _ h => h)) (pa_cons (pv 0) (pa_cons pe_str pa_nil))))
      pss_never), ?_⟩
  exact ⟨_, rfl, v, _, rfl, .inr ⟨ok, k⟩⟩
theorem G_bonds (T : Txt P K mg A) : FnG P w K mg base (L2.CX P w) 4 A.a_bonds A.d_bonds P_bonds (sp_nw A.c_BadWeb) := by
  refine okGX T.F_bonds sc_bonds (fun vs H Q E h => ?_) (fun cdv A0 outer s H vs Q E hr h => ?_)
  · obtain ⟨v, rfl, _⟩ := h
    rfl
  obtain ⟨v, rfl, ok, k⟩ := h
  refine ⟨_, (pss_cons (ps_expr (pe_callG (E := E) (G_need_web T) (hr.mono (by decide)) rfl T.g_need_web T.F_need_web.kp T.b_need_web .nil (passes_call (takes_of rfl rfl rfl rfl) (fun _ _ _ _ h => h)) (pa_cons (pv 0) (pa_cons pe_str pa_nil))))
      pss_never), ?_⟩
  exact ⟨_, rfl, v, _, rfl, .inr ⟨ok, k⟩⟩
theorem G_bridges (T : Txt P K mg A) : FnG P w K mg base (L2.CX P w) 4 A.a_bridges A.d_bridges P_bridges (sp_nw A.c_BadWeb) := by
  refine okGX T.F_bridges sc_bridges (fun vs H Q E h => ?_) (fun cdv A0 outer s H vs Q E hr h => ?_)
  · obtain ⟨v, rfl, _⟩ := h
    rfl
  obtain ⟨v, rfl, ok, k⟩ := h
  refine ⟨_, (pss_cons (ps_expr (pe_callG (E := E) (G_need_web T) (hr.mono (by decide)) rfl T.g_need_web T.F_need_web.kp T.b_need_web .nil (passes_call (takes_of rfl rfl rfl rfl) (fun _ _ _ _ h => h)) (pa_cons (pv 0) (pa_cons pe_str pa_nil))))
      pss_never), ?_⟩
  exact ⟨_, rfl, v, _, rfl, .inr ⟨ok, k⟩⟩
theorem G_pieces (T : Txt P K mg A) : FnG P w K mg base (L2.CX P w) 4 A.a_pieces A.d_pieces P_pieces (sp_nw A.c_BadWeb) := by
  refine okGX T.F_pieces sc_pieces (fun vs H Q E h => ?_) (fun cdv A0 outer s H vs Q E hr h => ?_)
  · obtain ⟨v, rfl, _⟩ := h
    rfl
  obtain ⟨v, rfl, ok, k⟩ := h
  refine ⟨_, (pss_cons (ps_expr (pe_callG (E := E) (G_need_web T) (hr.mono (by decide)) rfl T.g_need_web T.F_need_web.kp T.b_need_web .nil (passes_call (takes_of rfl rfl rfl rfl) (fun _ _ _ _ h => h)) (pa_cons (pv 0) (pa_cons pe_str pa_nil))))
      pss_never), ?_⟩
  exact ⟨_, rfl, v, _, rfl, .inr ⟨ok, k⟩⟩
theorem G_parting_places (T : Txt P K mg A) : FnG P w K mg base (L2.CX P w) 4 A.a_parting_places A.d_parting_places P_parting_places (sp_nw A.c_BadWeb) := by
  refine okGX T.F_parting_places sc_parting_places (fun vs H Q E h => ?_) (fun cdv A0 outer s H vs Q E hr h => ?_)
  · obtain ⟨v, rfl, _⟩ := h
    rfl
  obtain ⟨v, rfl, ok, k⟩ := h
  refine ⟨_, (pss_cons (ps_expr (pe_callG (E := E) (G_need_web T) (hr.mono (by decide)) rfl T.g_need_web T.F_need_web.kp T.b_need_web .nil (passes_call (takes_of rfl rfl rfl rfl) (fun _ _ _ _ h => h)) (pa_cons (pv 0) (pa_cons pe_str pa_nil))))
      pss_never), ?_⟩
  exact ⟨_, rfl, v, _, rfl, .inr ⟨ok, k⟩⟩
theorem G_in_a_row (T : Txt P K mg A) : FnG P w K mg base (L2.CX P w) 4 A.a_in_a_row A.d_in_a_row P_in_a_row (sp_nw A.c_BadWeb) := by
  refine okGX T.F_in_a_row sc_in_a_row (fun vs H Q E h => ?_) (fun cdv A0 outer s H vs Q E hr h => ?_)
  · obtain ⟨v, rfl, _⟩ := h
    rfl
  obtain ⟨v, rfl, ok, k⟩ := h
  refine ⟨_, (pss_cons (ps_expr (pe_callG (E := E) (G_need_web T) (hr.mono (by decide)) rfl T.g_need_web T.F_need_web.kp T.b_need_web .nil (passes_call (takes_of rfl rfl rfl rfl) (fun _ _ _ _ h => h)) (pa_cons (pv 0) (pa_cons pe_str pa_nil))))
      pss_never), ?_⟩
  exact ⟨_, rfl, v, _, rfl, .inr ⟨ok, k⟩⟩
theorem G_beside (T : Txt P K mg A) : FnG P w K mg base (L2.CX P w) 4 A.a_beside A.d_beside P_beside (sp_nw A.c_BadWeb) := by
  refine okGX T.F_beside sc_beside (fun vs H Q E h => ?_) (fun cdv A0 outer s H vs Q E hr h => ?_)
  · obtain ⟨v, rfl, _⟩ := h
    rfl
  obtain ⟨v, rfl, ok, k⟩ := h
  refine ⟨_, (pss_cons (ps_expr (pe_callG (E := E) (G_need_web T) (hr.mono (by decide)) rfl T.g_need_web T.F_need_web.kp T.b_need_web .nil (passes_call (takes_of rfl rfl rfl rfl) (fun _ _ _ _ h => h)) (pa_cons (pv 0) (pa_cons pe_str pa_nil))))
      pss_never), ?_⟩
  exact ⟨_, rfl, v, _, rfl, .inr ⟨ok, k⟩⟩
/-! ### fixed -/
def sp_fixed (d : Nat) : Sp := fun vs H Q _ => ∃ v t, vs = [v] ∧ Src d H v t ∧ ∀ v' H', Same H H' → Dst d H' v' t → Q v' H'
theorem G_fixed_leaf (T : Txt P K mg A) (d : Nat) (F : FnG P w K mg base CX0 (d + 1) A.a_fixed A.d_fixed P_fixed (sp_fixed d)) : FnG P w K mg base CX0 (d + 2) A.a_fixed A.d_fixed P_fixed (sp_fixed (d + 1)) := by
  refine okG T.F_fixed sc_fixed (fun vs H Q E h => ?_) (fun cdv A0 outer s H vs Q E hr h => ?_)
  · obtain ⟨v, t, rfl, _⟩ := h
    rfl
  obtain ⟨v, t, rfl, h, k⟩ := h
  refine ⟨_, (pss_cons (ps_if (pt_val (pe_callB call_isiT (by rfl) T.n_isinstance (by decide +kernel) (pa_cons (pv 0) (pa_cons (pe_tup (pa_cons (pe_bltn (v := .ty "list") (u := .type "list") (by rfl) T.n_list (by decide +kernel) rfl) (pa_cons (pe_bltn (v := .ty "tuple") (u := .type "tuple") (by rfl) T.n_tuple (by decide +kernel) rfl) pa_nil))) pa_nil)))) (pss_one (ps_ret (pe_callTy (T := "tuple") call_tuple_of (by rfl) T.n_tuple (by decide +kernel) (pa_cons (pe_lc (own := [("item", 1)]) (g := gName 1) (tt := tYes) rfl sc_fixed.nd (pi_seqV (pv 0)) (blkOk_by (N := N_fixed) (sc := defScope s_fixed) (by decide +kernel)) (fun _ _ _ _ _ => (pg_name (i := 1) sc_fixed.nd rfl (Or.inl rfl))) (fun _ _ _ _ _ => pts_nil) (fun _ _ _ _ _ => (pe_callG F hr rfl T.g_fixed T.F_fixed.kp T.b_fixed .nil pass0 (pa_cons (pv 1) pa_nil)))) pa_nil)))) pss_nil)
      (pss_one (ps_ret (pv 0)))), ?_⟩
  refine ⟨_, rfl, by show 2 ≤ sizeLine; decide, fun q1 h1 => ?_⟩
  have s1 : Same H (upd H q1 (.tup [.ty "list", .ty "tuple"])) := Same.new (fun _ _ h => h) h1
  rcases h with ⟨ok, lt, rfl⟩ | ⟨a, xs, ts, rfl, hx, hl, rfl, hp⟩
  · obtain ⟨T1, ty, _, _, k3⟩ := kindV (K := K) (ok.mono fun a o _ h => s1 a o h)
    rw [isLT_same ok s1 lt] at k3
    refine ⟨_, _, _, _, _, _, rfl, upd_same, .cons (.ty "list") (.cons (.ty "tuple") .nil), ty, k3, _, rfl, iteF ?_⟩
    exact ⟨_, rfl, k _ _ s1 (.inl rfl)⟩
  · have hx1 := hx.same s1
    obtain ⟨T1, ty, _, _, k3⟩ := kindV (K := K) hx1.ok
    rw [hx1.lt] at k3
    refine ⟨_, _, _, _, _, _, rfl, upd_same, .cons (.ty "list") (.cons (.ty "tuple") .nil), ty, k3, _, rfl, iteT ?_⟩
    obtain ⟨oa, hoa⟩ := hx1.has
    have hxl : xs.length = ts.length := Paired.length hp
    refine ⟨_, rfl, a, rfl, seq_by hx1.sq fun J G W gG D hD => ?_⟩
    refine lc_it W (fun i H' => Same (upd H q1 (.tup [.ty "list", .ty "tuple"])) H' ∧ ∃ ys, H' D = some (.lst ys) ∧ ys.length = i ∧ Paired (Dst d H') ys (ts.take i)) ⟨Same.new (fun _ _ h => h) hD, [], upd_same, rfl, .nil⟩ (fun i H' _ q => gG H' fun o h => ?_) ?_ ?_
    · rw [← h]
      exact (q.1 _ _ hoa).trans hoa.symm
    · rintro i x H' _ hi ⟨s3, ys, hD3, hly, py⟩ ⟨rfl, hx'⟩
      obtain ⟨t, hti, st⟩ := paired_get hp hx'
      refine ⟨rfl, tYes_of (iteT ⟨_, rfl, x, t, rfl, st.same (s1.trans s3), fun v' H4 s4 dt => ⟨_, s4 _ _ hD3, ?_, ?_, ys ++ [v'], upd_same, ?_, ?_⟩⟩)⟩
      · exact small1000 (by omega)
      · intro b o h
        rw [upd_ne (ne_of_none h hD)]
        exact s4 _ _ (s3 _ _ h)
      · rw [List.length_append, hly]
        rfl
      · rw [List.take_succ, hti]
        have kk : ∀ b zs, H4 b = some (.tup zs) → (upd H4 D (.lst (ys ++ [v']))) b = some (.tup zs) := fun b zs e => by
          have hd4 := s4 _ _ hD3
          rw [upd_ne (fun z => by rw [z, hd4] at e; cases e)]
          exact e
        exact paired_snoc (dt.keep kk) (paired_imp (fun _ _ z => (z.same s4).keep kk) py)
    · rintro H' ⟨s3, ys, hD3, hly, py⟩
      refine ⟨D, ys, rfl, .inl ⟨SqL.of hD3, fun q2 h2 => ?_⟩⟩
      rw [List.take_of_length_le (by omega)] at py
      have s4 : Same H' (upd H' q2 (.tup ys)) := Same.new (fun _ _ h => h) h2
      exact k _ _ (s1.trans (s3.trans s4)) (.inr ⟨q2, ys, ts, rfl, upd_same, rfl, paired_imp (fun _ _ z => z.same s4) py⟩)
theorem G_fixed_0 (T : Txt P K mg A) (F : FnG P w K mg base CX0 0 A.a_fixed A.d_fixed P_fixed (fun _ _ _ _ => False)) : FnG P w K mg base CX0 1 A.a_fixed A.d_fixed P_fixed (sp_fixed 0) := by
  refine okG T.F_fixed sc_fixed (fun vs H Q E h => ?_) (fun cdv A0 outer s H vs Q E hr h => ?_)
  · obtain ⟨v, t, rfl, _⟩ := h
    rfl
  obtain ⟨v, t, rfl, ⟨ok, lt, rfl⟩, k⟩ := h
  refine ⟨_, (pss_cons (ps_if (pt_val (pe_callB call_isiT (by rfl) T.n_isinstance (by decide +kernel) (pa_cons (pv 0) (pa_cons (pe_tup (pa_cons (pe_bltn (v := .ty "list") (u := .type "list") (by rfl) T.n_list (by decide +kernel) rfl) (pa_cons (pe_bltn (v := .ty "tuple") (u := .type "tuple") (by rfl) T.n_tuple (by decide +kernel) rfl) pa_nil))) pa_nil)))) (pss_one (ps_ret (pe_callTy (T := "tuple") call_tuple_of (by rfl) T.n_tuple (by decide +kernel) (pa_cons (pe_lc (own := [("item", 1)]) (g := gName 1) (tt := tYes) rfl sc_fixed.nd (pi_seqV (pv 0)) (blkOk_by (N := N_fixed) (sc := defScope s_fixed) (by decide +kernel)) (fun _ _ _ _ _ => (pg_name (i := 1) sc_fixed.nd rfl (Or.inl rfl))) (fun _ _ _ _ _ => pts_nil) (fun _ _ _ _ _ => (pe_callG F hr rfl T.g_fixed T.F_fixed.kp T.b_fixed .nil pass0 (pa_cons (pv 1) pa_nil)))) pa_nil)))) pss_nil)
      (pss_one (ps_ret (pv 0)))), ?_⟩
  refine ⟨_, rfl, by show 2 ≤ sizeLine; decide, fun q1 h1 => ?_⟩
  have s1 : Same H (upd H q1 (.tup [.ty "list", .ty "tuple"])) := Same.new (fun _ _ h => h) h1
  obtain ⟨T1, ty, _, _, k3⟩ := kindV (K := K) (ok.mono fun a o _ h => s1 a o h)
  rw [isLT_same ok s1 lt] at k3
  refine ⟨_, _, _, _, _, _, rfl, upd_same, .cons (.ty "list") (.cons (.ty "tuple") .nil), ty, k3, _, rfl, iteF ?_⟩
  exact ⟨_, rfl, k _ _ s1 rfl⟩
theorem G_fixed (T : Txt P K mg A) : ∀ d : Nat, FnG P w K mg base CX0 (d + 1) A.a_fixed A.d_fixed P_fixed (sp_fixed d)
  | 0 => G_fixed_0 T ⟨fun _ _ _ _ h => h.elim, fun _ _ _ _ h => h.elim⟩
  | d + 1 => G_fixed_leaf T d (G_fixed T d)
def sp_lj (K : PySem.W.Frag) : Sp := fun vs H Q _ => ∃ (n : Nat) (a : Addr) (ps : MC.Pr), vs = [.int (n : Int), .ref a] ∧ 1 ≤ n ∧ n ≤ 900 ∧ PrsA H a ps ∧ MC.Below n ps ∧ ∀ H', Same H H' → Q (.bl (hang n ps)) H'
theorem G_hang_together (T : Txt P K mg A) : FnG P w K mg base CX0 3 A.a_hang_together A.d_hang_together P_hang_together (sp_lj K) := by
  refine okG T.F_hang_together sc_hang_together (fun vs H Q E h => ?_) (fun cdv A0 outer s H vs Q E hr h => ?_)
  · obtain ⟨n, a, ps, rfl, _⟩ := h
    rfl
  obtain ⟨n, a, ps, rfl, h1, hn, hp, hb, k⟩ := h
  refine ⟨_, (pss_one (ps_ret (pe_not (pe_callB (cr_anyI rfl) (by rfl) T.n_any (by decide +kernel) (pa_cons (pe_callG (G_names_of T) (hr.mono (by decide)) rfl T.g_names_of T.F_names_of.kp T.b_names_of .nil pass0 (pa_cons (pv 0) (pa_cons (pv 1) pa_nil))) pa_nil))))), ?_⟩
  refine ⟨_, rfl, _, rfl, n, a, ps, rfl, hn, hp, hb, fun q H' s1 hq => ⟨q, _, rfl, by rw [← nv_ints]; exact SqL.of hq, ?_⟩⟩
  rw [any_names]
  refine ⟨_, rfl, ?_⟩
  rw [Bool.not_not]
  exact k _ s1
/-! ### Web.__init__, of any values -/
theorem pairB_pri {H : Hp} {x : V} {p : Nat × Nat} {m : Nat} (h : PrI H x p) (b : p.1 < m ∧ p.2 < m) : ItOk H x ∧ pairB H (m : Int) x = true := by
  obtain ⟨c, rfl, hc⟩ := h
  have e := seqOf_sqx hc
  refine ⟨⟨hc.ok, fun xs h => ?_⟩, ?_⟩
  · rw [e] at h
    cases h
    refine ⟨by show 2 ≤ 1000; decide, fun y hy => ?_⟩
    rcases List.mem_cons.mp hy with rfl | hy
    · trivial
    · rw [List.mem_singleton.mp hy]
      trivial
  · have one : ∀ q : Nat, q < m → inB (m : Int) (.int (q : Int)) = true := fun q hq => by
      have a1 : inLo (V.int (q : Int)) (.int 0) = true := show decide ((0 : Int) ≤ (q : Int)) = true from decide_eq_true (by omega)
      have a2 : inHi (V.int (q : Int)) (.int ((m : Int) - 1)) = true := show decide ((q : Int) ≤ (m : Int) - 1) = true from decide_eq_true (by omega)
      unfold inB
      rw [a1, a2]
      rfl
    simp only [pairB, e, List.all_cons, List.all_nil, Bool.and_true, one _ b.1, one _ b.2, isI]
    rfl
theorem tiesB_prs {H : Hp} {a : Addr} {ps : MC.Pr} {m : Nat} (h : PrsA H a ps) (hl : ps.length ≤ 12) (hb : MC.Below m ps) : TiOk H (.ref a) ∧ tiesB H (m : Int) (.ref a) = true := by
  obtain ⟨xs, hx, hp⟩ := h
  have e := seqOf_sqx hx
  have lx : xs.length = ps.length := Paired.length hp
  have al : ∀ x ∈ xs, ItOk H x ∧ pairB H (m : Int) x = true := fun x hx => by
    obtain ⟨i, hi⟩ := List.mem_iff_getElem?.mp hx
    obtain ⟨p, hpi, pr⟩ := paired_get hp hi
    exact pairB_pri pr (hb p (List.mem_of_getElem? hpi))
  refine ⟨⟨hx.ok, fun ys h => ?_⟩, ?_⟩
  · rw [e] at h
    cases h
    exact ⟨by omega, fun x hx => (al x hx).1⟩
  · simp only [tiesB, e, Bool.and_eq_true, decide_eq_true_eq, List.all_eq_true]
    exact ⟨by omega, fun x hx => (al x hx).2⟩
/-- the tree of a lot of pairs -/
def trPs (ps : MC.Pr) : Tr := .node (ps.map fun p => .node [.leaf (.int (p.1 : Int)), .leaf (.int (p.2 : Int))])
theorem src_leaf {d : Nat} {H : Hp} {v : V} (ok : OkV H v) (lt : isLT H v = false) : Src d H v (.leaf v) := by
  cases d with
  | zero => exact ⟨ok, lt, rfl⟩
  | succ d => exact .inl ⟨ok, lt, rfl⟩
theorem src_prs {H : Hp} {a : Addr} {ps : MC.Pr} (h : PrsA H a ps) (hl : ps.length ≤ 1000) : Src 2 H (.ref a) (trPs ps) := by
  obtain ⟨xs, hx, hp⟩ := h
  refine .inr ⟨a, xs, _, rfl, hx, by rw [Paired.length hp]; exact hl, rfl, ?_⟩
  clear hx hl
  induction hp with
  | nil => exact .nil
  | @cons x p xs ps h t ih =>
    obtain ⟨c, rfl, hc⟩ := h
    exact .cons (.inr ⟨c, _, _, rfl, hc, by show 2 ≤ 1000; decide, rfl, .cons (src_leaf trivial rfl) (.cons (src_leaf trivial rfl) .nil)⟩) ih
theorem prsA_mono {H H' : Hp} {a : Addr} {ps : MC.Pr} (h : PrsA H a ps) (s : ∀ b xs, SqX H b xs → SqX H' b xs) : PrsA H' a ps := by
  obtain ⟨xs, q, r⟩ := h
  refine ⟨xs, s _ _ q, paired_imp (fun _ _ z => ?_) r⟩
  obtain ⟨t, e, g⟩ := z
  exact ⟨t, e, s _ _ g⟩
def placesB (v : V) : Bool := isI v && (inLo v (.int 1) && inHi v (.int 13))
theorem placesB_int {m : Nat} (h1 : 1 ≤ m) (h2 : m ≤ 13) : placesB (.int (m : Int)) = true := by
  have a1 : inLo (V.int (m : Int)) (.int 1) = true := show decide ((1 : Int) ≤ (m : Int)) = true from decide_eq_true (by omega)
  have a2 : inHi (V.int (m : Int)) (.int 13) = true := show decide ((m : Int) ≤ 13) = true from decide_eq_true (by omega)
  unfold placesB
  rw [a1, a2]
  rfl
def sp_webi (K : PySem.W.Frag) (C BW : Addr) : Sp := fun vs H Q E => ∃ (x dx : Addr) (pl tv : V), vs = [.ref x, pl, tv] ∧ H x = some (.ins C dx []) ∧
  ((OkV H pl ∧ placesB pl = false ∧ Out E H BW "part" (.str "places")) ∨
   ∃ m : Nat, pl = .int (m : Int) ∧ 1 ≤ m ∧ m ≤ 13 ∧
    ((TiOk H tv ∧ tiesB H (m : Int) tv = false ∧ Out E H BW "part" (.str "ties")) ∨
     ∃ (a : Addr) (ps : MC.Pr), tv = .ref a ∧ PrsA H a ps ∧ ps.length ≤ 12 ∧ MC.Below m ps ∧
      (hang m ps = true → ∀ H' y, H' x = some (.ins C dx [("places", .int (m : Int)), ("ties", y)]) → Dst 2 H' y (trPs ps) → Kp x H H' → Q .non H') ∧
      (hang m ps = false → Out E H BW "part" (.str "apart"))))
theorem G_Web___init__ (T : Txt P K mg A) : FnG P w K mg base (L2.CX P w) 5 A.a_Web___init__ A.d_Web___init__ P_Web___init__ (sp_webi K A.c_Web A.c_BadWeb) := by
  refine okGX T.F_Web___init__ sc_Web___init__ (fun vs H Q E h => ?_) (fun cdv A0 outer s H vs Q E hr h => ?_)
  · obtain ⟨x, dx, pl, tv, rfl, _⟩ := h
    rfl
  obtain ⟨x, dx, pl, tv, rfl, hx, h⟩ := h
  refine ⟨_, (pss_cons (ps_if (pt_not (pt_val (pe_callG (G_is_within T) (hr.mono (by decide)) rfl T.g_is_within T.F_is_within.kp T.b_is_within .nil pass0 (pa_cons (pv 1) (pa_cons pe_int (pa_cons (pe_glob (v := .int 13) rfl T.m_MOST_PLACES ⟨_, rfl⟩) pa_nil)))))) (pss_one (ps_raise rfl (takes_of rfl rfl rfl rfl) (pmk_G T.X_BadWeb.oex T.X_BadWeb.iC T.X_BadWeb.tI (G_init_BadWeb T) (hr.mono (by decide)) rfl T.X_BadWeb.gC T.b_init_BadWeb pass0 (pa_cons pe_str pa_nil)))) pss_nil)
      (pss_cons (ps_if (pt_not (pt_val (pe_callG (G_are_ties T) (hr.mono (by decide)) rfl T.g_are_ties T.F_are_ties.kp T.b_are_ties .nil pass0 (pa_cons (pv 1) (pa_cons (pv 2) pa_nil))))) (pss_one (ps_raise rfl (takes_of rfl rfl rfl rfl) (pmk_G T.X_BadWeb.oex T.X_BadWeb.iC T.X_BadWeb.tI (G_init_BadWeb T) (hr.mono (by decide)) rfl T.X_BadWeb.gC T.b_init_BadWeb pass0 (pa_cons pe_str pa_nil)))) pss_nil)
      (pss_cons (ps_if (pt_not (pt_val (pe_callG (G_hang_together T) (hr.mono (by decide)) rfl T.g_hang_together T.F_hang_together.kp T.b_hang_together .nil pass0 (pa_cons (pv 1) (pa_cons (pv 2) pa_nil))))) (pss_one (ps_raise rfl (takes_of rfl rfl rfl rfl) (pmk_G T.X_BadWeb.oex T.X_BadWeb.iC T.X_BadWeb.tI (G_init_BadWeb T) (hr.mono (by decide)) rfl T.X_BadWeb.gC T.b_init_BadWeb pass0 (pa_cons pe_str pa_nil)))) pss_nil)
      (pss_cons (ps_fld (pv 0) (pv 1) rfl)
      (pss_one (ps_fld (pv 0) (pe_callG (G_fixed T 2) (hr.mono (by decide)) rfl T.g_fixed T.F_fixed.kp T.b_fixed .nil pass0 (pa_cons (pv 2) pa_nil)) rfl)))))), ?_⟩
  rcases h with ⟨ok, pf, out⟩ | ⟨m, rfl, h1, hn, h⟩
  · refine ⟨_, rfl, pl, .int 1, .int 13, rfl, ok, trivial, trivial, ?_⟩
    rw [show (isI pl && (inLo pl (.int 1) && inHi pl (.int 13))) = false from pf]
    exact ⟨_, rfl, iteT ⟨by show 1 ≤ 1000; decide, raise1 T.X_BadWeb.oex (T.X_BadWeb.no _ List.mem_cons_self) out⟩⟩
  · refine ⟨_, rfl, _, .int 1, .int 13, rfl, trivial, trivial, trivial, ?_⟩
    rw [show (isI (V.int (m : Int)) && (inLo (V.int (m : Int)) (.int 1) && inHi (V.int (m : Int)) (.int 13))) = true from placesB_int h1 hn]
    refine ⟨_, rfl, iteF ?_⟩
    rcases h with ⟨ti, tf, out⟩ | ⟨a, ps, rfl, hp, hl, hb, k1, k2⟩
    · refine ⟨_, rfl, _, rfl, _, tv, rfl, ti, fun H1 s1 => ?_⟩
      rw [tf]
      exact ⟨_, rfl, iteT ⟨by show 1 ≤ 1000; decide, raise1 T.X_BadWeb.oex (T.X_BadWeb.no _ List.mem_cons_self) (out.on s1)⟩⟩
    · obtain ⟨ti, tt⟩ := tiesB_prs hp hl hb
      refine ⟨_, rfl, _, rfl, _, _, rfl, ti, fun H1 s1 => ?_⟩
      rw [tt]
      refine ⟨_, rfl, iteF ?_⟩
      refine ⟨_, rfl, _, rfl, m, a, ps, rfl, h1, by omega, hp.same s1, hb, fun H2 s2 => ⟨_, rfl, ?_⟩⟩
      cases hh : hang m ps with
      | false =>
        exact iteT ⟨by show 1 ≤ 1000; decide, raise1 T.X_BadWeb.oex (T.X_BadWeb.no _ List.mem_cons_self) ((k2 hh).on (s1.trans s2))⟩
      | true =>
        refine iteF ?_
        have S2 := s1.trans s2
        have hx2 := S2 _ _ hx
        have pp : putF "places" (V.int (m : Int)) [] = ([("places", V.int (m : Int))] : List (Str × V)) := rfl
        refine ⟨_, rfl, _, rfl, x, A.c_Web, dx, [], rfl, hx2, T.K_Web, T.N_Web_places, by decide, ?_⟩
        rw [pp]
        have hp3 : PrsA (upd H2 x (.ins A.c_Web dx [("places", .int (m : Int))])) a ps := prsA_mono (hp.same S2) fun b xs h => by
          have e : b ≠ x := fun z => by
            subst z
            rcases h with h | h <;> cases hx2.symm.trans h
          rcases h with h | h
          · exact .inl (by rw [upd_ne e]; exact h)
          · exact .inr (by rw [upd_ne e]; exact h)
        refine ⟨_, rfl, .ref a, trPs ps, rfl, src_prs hp3 (by omega), fun y H4 s4 dt => ?_⟩
        have hx4 : H4 x = some (.ins A.c_Web dx [("places", .int (m : Int))]) := s4 _ _ upd_same
        have pt : putF "ties" y ([("places", V.int (m : Int))] : List (Str × V)) = ([("places", V.int (m : Int)), ("ties", y)] : List (Str × V)) := rfl
        refine ⟨_, rfl, x, A.c_Web, dx, _, rfl, hx4, T.K_Web, T.N_Web_ties, by show 1 < 1000; decide, ?_⟩
        rw [pt]
        refine k1 hh _ y upd_same (dt.keep fun b xs h => ?_) ?_
        · have e : b ≠ x := fun z => by
            subst z
            cases hx4.symm.trans h
          rw [upd_ne e]
          exact h
        · intro b o e h
          rw [upd_ne e]
          exact s4 _ _ (by rw [upd_ne e]; exact S2 _ _ h)
/-! ### webs made, or not -/
section
variable {H : Hp} {Q : VK} {E : XK} {all : V → List V} {pl tl : V} {m : Nat} {a : Addr} {ps : MC.Pr}
theorem mk_same {x dx C : Addr} (hx : H x = none) (hdx : H dx = none) : Same H (upd (upd H dx (.own x)) x (.ins C dx [])) := fun b o e => by
  rw [upd_ne (ne_of_none e hx), upd_ne (ne_of_none e hdx)]
  exact e
theorem mk_places (ha : ∀ x, all (.ref x) = [.ref x, pl, tl]) (ok : OkV H pl) (pf : placesB pl = false) (k : Out E H A.c_BadWeb "part" (.str "places")) : rMkG A.c_Web (sp_webi K A.c_Web A.c_BadWeb) E all H Q := by
  unfold rMkG
  intro x dx hx hd hne
  rw [ha]
  exact ⟨x, dx, pl, tl, rfl, upd_same, .inl ⟨ok.mono fun b o _ e => mk_same hx hd b o e, pf, k.on (mk_same hx hd)⟩⟩
theorem mk_ties (ha : ∀ x, all (.ref x) = [.ref x, .int (m : Int), tl]) (h1 : 1 ≤ m) (h2 : m ≤ 13) (ti : TiOk H tl) (tf : tiesB H (m : Int) tl = false) (k : Out E H A.c_BadWeb "part" (.str "ties")) : rMkG A.c_Web (sp_webi K A.c_Web A.c_BadWeb) E all H Q := by
  unfold rMkG
  intro x dx hx hd hne
  rw [ha]
  exact ⟨x, dx, _, tl, rfl, upd_same, .inr ⟨m, rfl, h1, h2, .inl ⟨ti.same (mk_same hx hd), by rw [tiesB_same ti (mk_same hx hd)]; exact tf, k.on (mk_same hx hd)⟩⟩⟩
theorem mk_apart (ha : ∀ x, all (.ref x) = [.ref x, .int (m : Int), .ref a]) (h1 : 1 ≤ m) (h2 : m ≤ 13) (hl : ps.length ≤ 12) (hp : PrsA H a ps) (hb : MC.Below m ps) (hh : hang m ps = false) (k : Out E H A.c_BadWeb "part" (.str "apart")) : rMkG A.c_Web (sp_webi K A.c_Web A.c_BadWeb) E all H Q := by
  unfold rMkG
  intro x dx hx hd hne
  rw [ha]
  exact ⟨x, dx, _, _, rfl, upd_same, .inr ⟨m, rfl, h1, h2, .inr ⟨a, ps, rfl, hp.same (mk_same hx hd), hl, hb, (fun e => by rw [hh] at e; cases e), fun _ => k.on (mk_same hx hd)⟩⟩⟩
theorem dst_prs {H : Hp} {y : V} {ps : MC.Pr} (h : Dst 2 H y (trPs ps)) : ∃ q xs, y = .ref q ∧ H q = some (.tup xs) ∧ Paired (PrT H) xs ps := by
  rcases h with h | ⟨q, xs, ts, rfl, hq, et, hp⟩
  · cases h
  · obtain rfl := (Tr.node.inj et)
    refine ⟨q, xs, rfl, hq, ?_⟩
    clear hq et
    revert xs
    induction ps with
    | nil =>
      intro xs hp
      cases hp
      exact .nil
    | cons p ps ih =>
      intro xs hp
      cases hp with
      | cons h t =>
        refine .cons ?_ (ih _ t)
        rcases h with h | ⟨c, ys, us, rfl, hc, eu, hu⟩
        · cases h
        · obtain rfl := Tr.node.inj eu
          cases hu with
          | cons a1 r1 =>
            cases r1 with
            | cons a2 r2 =>
              cases r2
              cases a1
              cases a2
              exact ⟨c, rfl, hc⟩
theorem mk_web (ha : ∀ x, all (.ref x) = [.ref x, .int (m : Int), .ref a]) (h1 : 1 ≤ m) (h2 : m ≤ 13) (hl : ps.length ≤ 12) (hp : PrsA H a ps) (hb : MC.Below m ps) (hh : hang m ps = true) (k : ∀ y H', Same H H' → WebAt H' y A.c_Web m ps → Q (.ref y) H') : rMkG A.c_Web (sp_webi K A.c_Web A.c_BadWeb) E all H Q := by
  unfold rMkG
  intro x dx hx hd hne
  rw [ha]
  refine ⟨x, dx, _, _, rfl, upd_same, .inr ⟨m, rfl, h1, h2, .inr ⟨a, ps, rfl, hp.same (mk_same hx hd), hl, hb, fun _ H' y e1 dt kp => ⟨rfl, ?_⟩, (fun e => by rw [hh] at e; cases e)⟩⟩⟩
  obtain ⟨q, xs, rfl, hq, pp⟩ := dst_prs dt
  exact k x H' (fun b o e => kp b o (ne_of_none e hx) (mk_same hx hd b o e)) ⟨dx, q, xs, e1, hq, pp⟩
end
/-- the tables of the lambdas -/
def lqn (f : Str) : Str := (f ++ ".<locals>.") ++ "<lambda>"
def tabs (A : Ad) : List (Addr × Str) := [(A.t__law_made_right, lqn "_law_made_right"), (A.t__law_ends_right, lqn "_law_ends_right"), (A.t__law_functions_right, lqn "_law_functions_right"), (A.t__law_turned_right, lqn "_law_turned_right"), (A.t__law_texts_right, lqn "_law_texts_right")]
theorem nodup_u : ∀ {L : List (Addr × Str)}, (L.map (·.1)).Nodup → ∀ {P : Addr} {q : Str}, (P, q) ∈ L → ∀ p ∈ L, p.1 = P → p.2 = q
  | [], _, _, _, h, _, _, _ => by cases h
  | (P0, q0) :: L, nd, P, q, h, p, hp, e => by
    rw [List.map_cons, List.nodup_cons] at nd
    rcases List.mem_cons.mp h with h | h
    · cases h
      rcases List.mem_cons.mp hp with rfl | hp
      · rfl
      · exact absurd (List.mem_map.mpr ⟨p, hp, e⟩) nd.1
    · rcases List.mem_cons.mp hp with rfl | hp
      · exact absurd (List.mem_map.mpr ⟨_, h, e.symm⟩) nd.1
      · exact nodup_u nd.2 h p hp e
abbrev NE (A : Ad) : Prop := ((tabs A).map (·.1)).Nodup
theorem tabs_u0 (ne : NE A) : ∀ p ∈ tabs A, p.1 = A.t__law_made_right → p.2 = lqn "_law_made_right" := nodup_u ne (List.mem_cons_self : (A.t__law_made_right, lqn "_law_made_right") ∈ tabs A)
theorem tabs_u1 (ne : NE A) : ∀ p ∈ tabs A, p.1 = A.t__law_ends_right → p.2 = lqn "_law_ends_right" := nodup_u ne (List.mem_cons_of_mem _ List.mem_cons_self : (A.t__law_ends_right, lqn "_law_ends_right") ∈ tabs A)
theorem tabs_u2 (ne : NE A) : ∀ p ∈ tabs A, p.1 = A.t__law_functions_right → p.2 = lqn "_law_functions_right" := nodup_u ne (List.mem_cons_of_mem _ (List.mem_cons_of_mem _ List.mem_cons_self) : (A.t__law_functions_right, lqn "_law_functions_right") ∈ tabs A)
theorem tabs_u3 (ne : NE A) : ∀ p ∈ tabs A, p.1 = A.t__law_turned_right → p.2 = lqn "_law_turned_right" := nodup_u ne (List.mem_cons_of_mem _ (List.mem_cons_of_mem _ (List.mem_cons_of_mem _ List.mem_cons_self)) : (A.t__law_turned_right, lqn "_law_turned_right") ∈ tabs A)
theorem tabs_u4 (ne : NE A) : ∀ p ∈ tabs A, p.1 = A.t__law_texts_right → p.2 = lqn "_law_texts_right" := nodup_u ne (List.mem_cons_of_mem _ (List.mem_cons_of_mem _ (List.mem_cons_of_mem _ (List.mem_cons_of_mem _ List.mem_cons_self))) : (A.t__law_texts_right, lqn "_law_texts_right") ∈ tabs A)
/-- all but the tables and what stands at p stay -/
def KT (p : Addr) (H H' : Hp) : Prop := ∀ b o, b ≠ p → H b = some o → (∀ ps, o ≠ .tbl ps) → H' b = some o
theorem bg_ext {H H1 : Hp} {p c : Addr} {n : Nat} (b : Bg H p c n) (e : ExtN H H1) : Bg H1 p c n := by
  obtain ⟨ne, ms, t, l, h1, h2, h3⟩ := b
  exact ⟨ne, ms, t, l, e _ _ h1 (fun _ z => by cases z), e _ _ h2 (fun _ z => by cases z), h3⟩
/-- all but lists stay -/
def SameN (H H' : Hp) : Prop := ∀ b o, H b = some o → (∀ zs, o ≠ .lst zs) → H' b = some o
theorem tabs_keep {L : List (Addr × Str)} {H H' : Hp} (t : Tabs L H) (s : SameN H H') : Tabs L H' := fun p hp => by
  obtain ⟨ps, h1, h2, h3⟩ := t p hp
  refine ⟨ps, s _ _ h1 (fun _ z => by cases z), h2, fun pos cv hc => ?_⟩
  obtain ⟨c, e1, e2⟩ := h3 pos cv hc
  refine ⟨c, e1, s _ _ e2 (fun zs z => ?_)⟩
  unfold CodeO at z
  cases z
theorem kp_n {H H' : Hp} {p : Addr} {op : List V} (k : Kp p H H') (hp : H p = some (.lst op)) : SameN H H' := fun b o h n => k _ _ (fun z => by rw [z, hp] at h; exact n _ (Option.some.inj h).symm) h
/-- a draw: an int below m; the bag's own list alone is changed -/
def sp_tip : Sp := fun vs H Q _ => ∃ (p c : Addr) (n : Nat) (m : Int), vs = [.ref p, .int m] ∧ Bg H p c n ∧ n ≤ 100000 ∧ 1 ≤ m ∧ m < 1073741824 ∧
  ∀ (x : Int) (H' : Hp), 0 ≤ x → x < m → Kp p H H' → Bg H' p c (n + 1) → Q (.int x) H'
theorem G__law_push (T : Txt P K mg A) : FnG P w K mg base CX0 1 A.a__law_push A.d__law_push P__law_push sp_tip := by
  refine okG T.F__law_push sc__law_push (fun vs H Q E h => ?_) (fun cdv A0 outer s H vs Q E hr h => ?_)
  · obtain ⟨p, c, n, m, rfl, _⟩ := h
    rfl
  obtain ⟨p, c, n, m, rfl, ⟨npc, ms, t, l, hp, hc, hms, t0, tn⟩, hn, m0, m1, k⟩ := h
  have t1 : t ≤ 100000 := by omega
  have hm : m ≠ 0 ∧ m.natAbs < 1073741824 := by omega
  refine ⟨_, (pss_cons (ps_if (pt_cmpR op_gt (pe_ix (r := rIxL K) ix_list (pv 0) pe_int (fun _ _ => rfl)) pe_int (nomark _)) (pss_cons (ps_set (i := 2) sc__law_push.nd rfl (Or.inl rfl) (pe_callTy (T := "int") call_int1 (by rfl) T.n_int (by decide +kernel) (pa_cons (pe_ix (r := rIxL K) ix_list (pv 0) pe_int (fun _ _ => rfl)) pa_nil)))
      (pss_cons (ps_asg (pe_op op_fdivN (pv 2) (pv 1)) (pg_sub (pv 0) pe_int set_list))
      (pss_one (ps_ret (pe_op op_modN (pe_callTy (T := "int") call_int1 (by rfl) T.n_int (by decide +kernel) (pa_cons (pv 2) pa_nil)) (pv 1)))))) pss_nil)
      (pss_cons (ps_set (i := 3) sc__law_push.nd rfl (Or.inl rfl) (pe_ix (r := rIxL K) ix_list (pv 0) pe_int (fun _ _ => rfl)))
      (pss_cons (ps_asg (pe_op op_add (pv 3) pe_int) (pg_sub (pv 0) pe_int set_list))
      (pss_cons (ps_set (i := 4) sc__law_push.nd rfl (Or.inl rfl) (pe_op op_add (pe_op op_mul pe_int (pv 3)) pe_int))
      (pss_cons (ps_if (pt_cmpR (op_neD hr.room.units) (pe_ix (r := rIxL K) ix_list (pv 0) pe_int (fun _ _ => rfl)) (pe_lst pa_nil) (nomark _)) (pss_one (ps_set (i := 4) sc__law_push.nd rfl (Or.inl rfl) (pe_ix (r := rIxL K) ix_list (pe_ix (r := rIxL K) ix_list (pv 0) pe_int (fun _ _ => rfl)) (pe_op op_modN (pe_callTy (T := "int") call_int1 (by rfl) T.n_int (by decide +kernel) (pa_cons (pv 3) pa_nil)) (pe_callB call_len_seq (by rfl) T.n_len (by decide +kernel) (pa_cons (pe_ix (r := rIxL K) ix_list (pv 0) pe_int (fun _ _ => rfl)) pa_nil))) (fun _ _ => rfl)))) pss_nil)
      (pss_cons (ps_if (PW.pt (pw_and (pt_cmpR op_lt (pv 3) (pe_callB call_len_seq (by rfl) T.n_len (by decide +kernel) (pa_cons (pe_ix (r := rIxL K) ix_list (pv 0) pe_int (fun _ _ => rfl)) pa_nil)) (nomark _)) (pw_and1 (pt_cmpR op_ge (pe_callB call_abs (by rfl) T.n_abs (by decide +kernel) (pa_cons (pv 4) pa_nil)) (pe_op op_pow pe_int pe_int) (nomark _))))) (pss_cons (ps_set (i := 2) sc__law_push.nd rfl (Or.inl rfl) (pe_op op_add (pe_op op_mul pe_int (pe_op op_sub (pe_callB call_abs (by rfl) T.n_abs (by decide +kernel) (pa_cons (pe_callTy (T := "int") call_int1 (by rfl) T.n_int (by decide +kernel) (pa_cons (pv 4) pa_nil)) pa_nil)) (pe_op op_pow pe_int pe_int))) (pe_callTy (T := "int") call_int1 (by rfl) T.n_int (by decide +kernel) (pa_cons (pe_cmpR op_lt (pv 4) pe_int (nomark _)) pa_nil))))
      (pss_cons (ps_asg (pe_op op_fdivN (pv 2) (pv 1)) (pg_sub (pv 0) pe_int set_list))
      (pss_one (ps_ret (pe_op op_modN (pe_callTy (T := "int") call_int1 (by rfl) T.n_int (by decide +kernel) (pa_cons (pv 2) pa_nil)) (pv 1)))))) pss_nil)
      (pss_cons (ps_set (i := 5) sc__law_push.nd rfl (Or.inl rfl) (pe_op op_modN (pe_callTy (T := "int") call_int1 (by rfl) T.n_int (by decide +kernel) (pa_cons (pe_op op_pow (pe_op op_add (pe_op op_add (pe_op op_modN (pe_callTy (T := "int") call_int1 (by rfl) T.n_int (by decide +kernel) (pa_cons (pv 4) pa_nil)) pe_int) (pe_op op_mul pe_int (pv 3))) pe_int) pe_int) pa_nil)) pe_int))
      (pss_cons (ps_set (i := 5) sc__law_push.nd rfl (Or.inl rfl) (pe_op op_modN (pe_callTy (T := "int") call_int1 (by rfl) T.n_int (by decide +kernel) (pa_cons (pe_op op_pow (pe_op op_add (pe_op op_add (pe_op op_mul (pv 5) (pe_op op_add (pe_op op_mul pe_int (pv 3)) pe_int)) (pe_op op_mul (pe_op op_mul pe_int (pv 3)) (pv 3))) pe_int) pe_int) pa_nil)) pe_int))
      (pss_one (ps_ret (pe_op op_modN (pe_callTy (T := "int") call_int1 (by rfl) T.n_int (by decide +kernel) (pa_cons (pe_op op_fdivN (pv 5) pe_int) pa_nil)) (pv 1)))))))))))), ?_⟩
  refine ⟨_, rfl, _, _, _, _, rfl, rfl, SqL.of hp, rfl, _, _, rfl, rfl, _, rfl, ite2 (fun _ => ?_) (fun _ => ?_)⟩
  · refine ⟨_, rfl, _, _, _, _, rfl, rfl, SqL.of hp, rfl, Or.inl ⟨_, rfl, ?_⟩⟩
    refine ⟨_, rfl, _, rfl, _, _, rfl, rfl, hm, _, rfl, _, _, _, _, rfl, rfl, hp, rfl, ?_⟩
    refine ⟨_, rfl, Or.inl ⟨_, rfl, _, rfl, _, _, rfl, rfl, hm.1, ?_⟩⟩
    exact k _ _ (mod_fits m0).1 (mod_fits m0).2 (Kp.refl p H).put ⟨npc, ms, t, _, upd_same, (Kp.refl p H).put c _ npc hc, hms, t0, by omega⟩
  · refine ⟨_, rfl, _, _, _, _, rfl, rfl, SqL.of hp, rfl, ?_⟩
    refine ⟨_, rfl, _, _, rfl, rfl, _, rfl, _, _, _, _, rfl, rfl, hp, rfl, ?_⟩
    refine ⟨_, rfl, _, _, rfl, rfl, .inl ⟨by decide, by decide⟩, _, _, rfl, rfl, ?_⟩
    have k1 : Kp p H (upd H p (.lst [.ref c, .int (t + 1), .int l])) := (Kp.refl p H).put
    have hp1 : (upd H p (.lst [.ref c, .int (t + 1), .int l])) p = some (.lst [.ref c, .int (t + 1), .int l]) := upd_same
    have hc1 := k1 c _ npc hc
    try dsimp only
    refine seq_cut (fun σ' H' => ∃ x : Int, σ' = [some (.ref p), some (.int m), none, some (.int t), some (.int x), none] ∧ Kp p H H' ∧ H' p = some (.lst [.ref c, .int (t + 1), .int l]) ∧ H' c = some (.lst (ms.map V.int))) (fun N hN => ?_) ?_
    · refine ⟨_, rfl, _, _, _, _, rfl, rfl, SqL.of hp1, rfl, Nat.zero_le _, fun q hq => ?_⟩
      have hp2 := at_new (u := .lst []) hp1 hq
      have hc2 := at_new (u := .lst []) hc1 hq
      refine ⟨.list (ms.map PyData.int), .list ([].map PyData.int), .lst (SqL.of hc2) (dp_ints ms), .lst (SqL.of upd_same) (dp_ints []), shaped_ints _, shaped_ints [], ?_⟩
      rw [eqv_list]
      refine ⟨_, rfl, ?_⟩
      by_cases e : ms = []
      · rw [decide_eq_true e]
        exact iteF (hN _ _ ⟨_, rfl, k1.new hq, hp2, hc2⟩)
      · rw [decide_eq_false e]
        obtain ⟨x, hx⟩ := at_mod t e
        have hl : ((ms.map V.int).length : Int) ≠ 0 := by
          rw [List.length_map]
          have := List.length_pos_iff.mpr e
          omega
        have hx' : atI (ms.map V.int) (t.fmod ((ms.map V.int).length : Int)) = some (.int x) := by
          rw [List.length_map]
          exact hx
        refine iteT ⟨_, rfl, _, _, _, _, rfl, rfl, SqL.of hp2, rfl, _, rfl, Or.inl ⟨_, rfl, _, rfl, _, _, _, _, rfl, rfl, SqL.of hp2, rfl, _, _, rfl, .inl (SqL.of hc2), _, _, rfl, rfl, hl, _, _, _, _, rfl, rfl, SqL.of hc2, hx', ?_⟩⟩
        exact hN _ _ ⟨x, rfl, k1.new hq, hp2, hc2⟩
    · rintro σ' H2 ⟨x, rfl, k2, hp2, hc2⟩
      try dsimp only
      refine seq_cut (fun σ' H' => σ' = [some (.ref p), some (.int m), none, some (.int t), some (.int x), none] ∧ H' = H2) (fun N hN => ?_) ?_
      · refine ⟨_, rfl, _, rfl, _, _, _, _, rfl, rfl, SqL.of hp2, rfl, _, _, rfl, .inl (SqL.of hc2), _, _, rfl, rfl, _, rfl, ite2 (fun _ => ?_) (fun _ => iteF (hN _ _ ⟨rfl, rfl⟩))⟩
        refine ⟨_, rfl, _, rfl, _, _, rfl, rfl, ⟨by decide, by decide, by decide⟩, _, _, rfl, rfl, _, rfl, ite2 (fun _ => ?_) (fun _ => hN _ _ ⟨rfl, rfl⟩)⟩
        refine ⟨_, rfl, Or.inl ⟨_, rfl, _, rfl, _, _, rfl, rfl, ⟨by decide, by decide, by decide⟩, _, _, rfl, rfl, _, _, rfl, rfl, .inl ⟨by decide, by decide⟩, _, rfl, _, _, rfl, rfl, Or.inr ⟨_, rfl, _, _, rfl, rfl, ?_⟩⟩⟩
        refine ⟨_, rfl, _, rfl, _, _, rfl, rfl, hm, _, rfl, _, _, _, _, rfl, rfl, hp2, rfl, ?_⟩
        refine ⟨_, rfl, Or.inl ⟨_, rfl, _, rfl, _, _, rfl, rfl, hm.1, ?_⟩⟩
        exact k _ _ (mod_fits m0).1 (mod_fits m0).2 k2.put ⟨npc, ms, t + 1, _, upd_same, k2.put c _ npc hc, hms, by omega, by omega⟩
      · rintro _ _ ⟨rfl, rfl⟩
        refine ⟨_, rfl, Or.inl ⟨_, rfl, _, _, rfl, rfl, by dsimp only; decide, _, rfl, _, _, rfl, rfl, .inl ⟨by decide, by decide⟩, _, _, rfl, rfl, _, _, rfl, rfl, _, _, rfl, rfl, ⟨by decide, by decide, ?_⟩, Or.inl ⟨_, rfl, _, _, rfl, rfl, by dsimp only; decide, ?_⟩⟩⟩
        · have := mod_fits (i := x) (m := 2147483629) (by decide)
          omega
        dsimp only
        generalize hy : Int.fmod ((x.fmod 2147483629 + 91099 * t + 8243) ^ (5 : Int).toNat) 2147483563 = y
        have hy2 : 0 ≤ y ∧ y < 2147483563 := hy ▸ mod_fits (by decide)
        clear hy
        have f1 : 0 ≤ y * (2 * t + 5279) := Int.mul_nonneg hy2.1 (by omega)
        have f2 : y * (2 * t + 5279) ≤ 2147483563 * (2 * t + 5279) := Int.mul_le_mul_of_nonneg_right (by omega) (by omega)
        have f3 : 0 ≤ 140111 * t * t := Int.mul_nonneg (by omega) t0
        have f4 : 140111 * t * t ≤ 140111 * 100000 * t := Int.mul_le_mul_of_nonneg_right (by omega) t0
        refine ⟨_, rfl, _, rfl, _, _, rfl, rfl, .inl ⟨by decide, by decide⟩, _, _, rfl, rfl, _, _, rfl, rfl, .inl ⟨by omega, by omega⟩, _, rfl, _, _, rfl, rfl, .inl ⟨by decide, by decide⟩, _, rfl, _, _, rfl, rfl, .inl ⟨by omega, by omega⟩, _, _, rfl, rfl, _, _, rfl, rfl, _, _, rfl, rfl, ⟨by decide, by decide, by omega⟩, Or.inl ⟨_, rfl, _, _, rfl, rfl, by dsimp only; decide, ?_⟩⟩
        refine ⟨_, rfl, _, _, rfl, rfl, ⟨by decide, by decide⟩, Or.inl ⟨_, rfl, _, rfl, _, _, rfl, rfl, hm.1, ?_⟩⟩
        exact k _ _ (mod_fits m0).1 (mod_fits m0).2 k2 ⟨npc, ms, t + 1, _, hp2, hc2, hms, by omega, by omega⟩

/-- the bag is made -/
def sp_bag (K : PySem.W.Frag) : Sp := fun vs H Q _ => ∃ (a : Addr) (ns : List Int), vs = [.ref a] ∧ SqL K H a (ns.map V.int) ∧ ns.length ≤ 63 ∧
  ∀ (p c : Addr) (H' : Hp), Same H H' → H p = none → H c = none → Bg H' p c 0 → Q (.ref p) H'
theorem G__law_gate (T : Txt P K mg A) : FnG P w K mg base CX0 1 A.a__law_gate A.d__law_gate P__law_gate (sp_bag K) := by
  refine okG T.F__law_gate sc__law_gate (fun vs H Q E h => ?_) (fun cdv A0 outer s H vs Q E hr h => ?_)
  · obtain ⟨a, ns, rfl, _⟩ := h
    rfl
  obtain ⟨a, ns, rfl, hS, hl, k⟩ := h
  refine ⟨_, (pss_one (ps_ret (pe_lst (pa_cons (pe_lc (own := [("cell", 1)]) (g := gName 1) (tt := tYes) rfl sc__law_gate.nd (pi_list (pe_slice (r := rSlL K) sl_list (pv 0) po_none (po_some pe_int))) (blkOk_by (N := N__law_gate) (sc := defScope s__law_gate) (by decide +kernel)) (fun _ _ _ _ _ => (pg_name (i := 1) sc__law_gate.nd rfl (Or.inl rfl))) (fun _ _ _ _ _ => pts_nil) (fun _ _ _ _ _ => (pe_callTy (T := "int") call_int1 (by rfl) T.n_int (by decide +kernel) (pa_cons (pv 1) pa_nil)))) (pa_cons pe_int (pa_cons pe_int pa_nil)))))), ?_⟩
  refine ⟨_, rfl, _, rfl, a, _, rfl, hS, fun q hq => ?_⟩
  obtain ⟨ms, em, lm⟩ : ∃ ms : List Int, cutV (ns.map V.int) none (some 64) = ms.map V.int ∧ ms.length ≤ 63 := by
    refine ⟨(ns.drop (HT.sIx ns.length 0 none)).take (HT.sIx ns.length ns.length (some 64) - HT.sIx ns.length 0 none), ?_, ?_⟩
    · unfold cutV
      rw [List.length_map, List.map_take, List.map_drop]
    · rw [List.length_take, List.length_drop]
      omega
  rw [em]
  refine ⟨q, rfl, ⟨_, SqL.of upd_same⟩, fun D hD => ?_⟩
  have s1 : Same H (upd H q (.lst (ms.map V.int))) := Same.new (fun _ _ h => h) hq
  have nD : H D = none := s1.free hD
  have nqD : q ≠ D := ne_of_none upd_same hD
  refine lc_list (K := K) (a := q) (xs := ms.map V.int) (fun i H' => Same H H' ∧ H' q = some (.lst (ms.map V.int)) ∧ H' D = some (.lst ((ms.take i).map V.int)))
    ⟨Same.new s1 hD, by rw [upd_ne nqD, upd_same], upd_same⟩ (fun i H' _ h => SqL.of h.2.1) ?_ ?_
  · rintro i x H' hx ⟨s2, hq2, hD2⟩
    obtain ⟨z, hz, rfl⟩ : ∃ z, ms[i]? = some z ∧ x = V.int z := by
      rw [List.getElem?_map] at hx
      cases e : ms[i]? with
      | none => rw [e] at hx; cases hx
      | some z => rw [e] at hx; exact ⟨z, rfl, (Option.some.inj hx).symm⟩
    have hi : i < ms.length := (List.getElem?_eq_some_iff.mp hz).1
    refine ⟨rfl, tYes_of (iteT ⟨_, rfl, Or.inl ⟨_, rfl, _, hD2, ?_, ?_, ?_, ?_⟩⟩)⟩
    · rw [List.length_map, List.length_take]
      exact small1000 (by omega)
    · intro b o h
      rw [upd_ne (ne_of_none h nD)]
      exact s2 _ _ h
    · rw [upd_ne nqD]
      exact hq2
    · rw [upd_same, List.take_succ, hz]
      simp
  · rintro H' ⟨s2, hq2, hD2⟩
    refine ⟨by show 3 ≤ sizeLine; decide, fun p hp => ?_⟩
    rw [List.take_of_length_le (by rw [List.length_map]; exact Nat.le_refl _)] at hD2
    have npD : D ≠ p := ne_of_none hD2 hp
    refine k p D _ (Same.new s2 hp) (s2.free hp) nD ⟨npD, ms, 0, 0, upd_same, ?_, lm, Int.le_refl _, Int.le_refl _⟩
    rw [upd_ne npD]
    exact hD2
/-- one of some -/
def sp_some : Sp := fun vs H Q _ => ∃ (p c q : Addr) (n : Nat) (xs : List V), vs = [.ref p, .ref q] ∧ Bg H p c n ∧ n ≤ 100000 ∧ H q = some (.lst xs) ∧ q ≠ p ∧ 1 ≤ xs.length ∧ xs.length ≤ 1000 ∧
  ∀ (v : V) (H' : Hp), v ∈ xs → Kp p H H' → Bg H' p c (n + 1) → Q v H'
theorem G__law_any (T : Txt P K mg A) : FnG P w K mg base CX0 2 A.a__law_any A.d__law_any P__law_any sp_some := by
  refine okG T.F__law_any sc__law_any (fun vs H Q E h => ?_) (fun cdv A0 outer s H vs Q E hr h => ?_)
  · obtain ⟨p, c, q, n, xs, rfl, _⟩ := h
    rfl
  obtain ⟨p, c, q, n, xs, rfl, bg, hn, hq, nqp, h1, h2, k⟩ := h
  refine ⟨_, (pss_one (ps_ret (pe_ix (r := rIxL K) ix_list (pv 1) (pe_callG (G__law_push T) (hr.mono (by decide)) rfl T.g__law_push T.F__law_push.kp T.b__law_push .nil pass0 (pa_cons (pv 0) (pa_cons (pe_callB call_len_seq (by rfl) T.n_len (by decide +kernel) (pa_cons (pv 1) pa_nil)) pa_nil))) (fun _ _ => rfl)))), ?_⟩
  refine ⟨_, rfl, _, rfl, _, rfl, _, _, rfl, .inl (SqL.of hq), p, c, n, _, rfl, bg, hn, by omega, by omega, fun x H' x0 x1 kp bg' => ?_⟩
  obtain ⟨j, rfl⟩ : ∃ j : Nat, x = (j : Int) := ⟨x.toNat, by omega⟩
  have hj : j < xs.length := by omega
  refine ⟨_, _, _, _, rfl, rfl, SqL.of (kp q _ nqp hq), atI_nat (List.getElem?_eq_getElem hj), ?_⟩
  exact k _ _ (List.getElem_mem hj) kp bg'

theorem kb_Web___init___ties_places (T : Txt P K mg A) : KBinds K A.d_Web___init__ P_Web___init__ ["ties", "places"] twoX twoX :=
  kbindsF T.F_Web___init__ rel_twoX fun _ _ _ _ _ _ us ws hl => match us, ws, hl with
    | [_], [_, _], _ => rfl
/-! ### what was heard, one after another -/
/-- the heap without what stands at p and without the tables -/
def strip (p : Addr) (H : Hp) : Hp := fun b => if b = p then none else match H b with
  | some (.tbl _) => none
  | o => o
theorem strip_p {p : Addr} {H : Hp} : strip p H p = none := by
  unfold strip
  rw [if_pos rfl]
theorem strip_of {p b : Addr} {H : Hp} {o : HO} (h : strip p H b = some o) : b ≠ p ∧ H b = some o ∧ ∀ ps, o ≠ .tbl ps := by
  unfold strip at h
  by_cases e : b = p
  · rw [if_pos e] at h
    cases h
  · rw [if_neg e] at h
    refine ⟨e, ?_⟩
    split at h
    · cases h
    · rename_i o' hn
      refine ⟨h, fun ps z => ?_⟩
      subst z
      exact hn ps h
theorem strip_at {p b : Addr} {H : Hp} {o : HO} (hb : b ≠ p) (h : H b = some o) (n : ∀ ps, o ≠ .tbl ps) : strip p H b = some o := by
  unfold strip
  rw [if_neg hb]
  split
  · rename_i ps e
    rw [h] at e
    exact absurd (Option.some.inj e) (n ps)
  · exact h
theorem strip_same {p : Addr} {H : Hp} : Same (strip p H) H := fun b o h => (strip_of h).2.1
/-- an item: None, or a tuple of these -/
def HI (H : Hp) (v : V) : Option (List V) → Prop
  | none => v = .non
  | some ws => ∃ t, v = .ref t ∧ H t = some (.tup ws)
structure Hd (A : Ad) (S H : Hp) (p c hd : Addr) (n : Nat) (items : List V) (ds : List (Option (List V))) : Prop where
  same : Same S H
  bg : Bg H p c n
  tb : Tabs (tabs A) H
  hl : H hd = some (.lst items)
  it : Paired (HI H) items ds
  np : S p = none
  nh : S hd = none
  nn : ∀ b o, S b = some o → ∀ ps, o ≠ .tbl ps
  hp : hd ≠ p
  hc : hd ≠ c
  hlen : items.length ≤ 100
theorem hi_keep {H H' : Hp} {v : V} {w : Option (List V)} (h : HI H v w) (s : ∀ b xs, H b = some (.tup xs) → H' b = some (.tup xs)) : HI H' v w := by
  cases w with
  | none => exact h
  | some ws =>
    obtain ⟨t, e, q⟩ := h
    exact ⟨t, e, s _ _ q⟩
theorem strip_nn {p : Addr} {H : Hp} : ∀ b o, strip p H b = some o → ∀ ps, o ≠ .tbl ps := fun b o h => (strip_of h).2.2
section
variable {S H : Hp} {p c hd : Addr} {n m : Nat} {items : List V} {ds : List (Option (List V))} {w : Option (List V)} {σ : L2.St} {D : Ends} {i : Nat} {t : XK → TE}
/-- what a lambda's body wishes -/
def Asks (A : Ad) (K : PySem.W.Frag) (S : Hp) (p c : Addr) (n m : Nat) (w : Option (List V)) (t : XK → TE) (σ : L2.St) : Prop :=
  ∀ (E : XK) (H1 : Hp) (R : VK), Same S H1 → Bg H1 p c n → (∀ ws, w = some ws → ∀ cls d gs H', Kp p H1 H' → Bg H' p c m → H' d = some (.xd gs) → Told A K H' cls gs ws → E cls (some d) H') →
    (w = none → ∀ v H', Kp p H1 H' → Bg H' p c m → R v H') → t E σ H1 R
theorem lam_heard (tb : Tabs (tabs A) H) (ss : Same S H) (nn : ∀ b o, S b = some o → ∀ ps, o ≠ .tbl ps) (bg : Bg H p c n) (as : Asks A K S p c n m w t σ) {Q : VK}
    (k : ∀ v H1 H', ExtN H H1 → (∀ b o, b ≠ p → H1 b = some o → H' b = some o) → Bg H' p c m → Tabs (tabs A) H' → HI H' v w → Q v H') : tLam (tabs A) (THeard A K) t σ H Q := by
  refine ⟨tb, fun H1 e1 tb1 => ?_⟩
  have bg1 := bg_ext bg e1
  have ss1 : Same S H1 := fun b o h => e1 b o (ss b o h) (nn b o h)
  obtain ⟨_, ms1, t1, l1, hp1, hc1, _⟩ := id bg1
  unfold THeard
  intro R hR
  refine as (HE A K Q) H1 R ss1 bg1 (fun ws ew cls d gs H' kp bg' hd' td => ?_) (fun ew v H' kp bg' => ?_)
  · refine ⟨d, gs, ws, rfl, hd', td, fun t' H'' s ht => ?_⟩
    refine k _ H1 H'' e1 (fun b o nb h => s _ _ (kp _ _ nb h)) (bg'.keep s) ((tabs_keep tb1 (kp_n kp hp1)).ext s) ?_
    rw [ew]
    exact ⟨t', rfl, ht⟩
  · refine hR v H' fun H'' s => ?_
    refine k _ H1 H'' e1 (fun b o nb h => s _ _ (kp _ _ nb h)) (bg'.keep s) ((tabs_keep tb1 (kp_n kp hp1)).ext s) ?_
    rw [ew]
    rfl
theorem first_heard (tb : Tabs (tabs A) H) (ss : Same S H) (np : S p = none) (nn : ∀ b o, S b = some o → ∀ ps, o ≠ .tbl ps) (bg : Bg H p c n) (as : Asks A K S p c n m w t σ)
    (k : ∀ hd v H', Hd A S H' p c hd m [v] [w] → D.nx (σ.set i (some (.ref hd))) H') : tAsg (tLst (tCons (tLam (tabs A) (THeard A K) t) tNil)) (gName i) D σ H := by
  refine lam_heard tb ss nn bg as fun v H1 H' e1 kp bg' tb' hi => ⟨by show 1 ≤ sizeLine; decide, fun hd hhd => ?_⟩
  obtain ⟨_, ms1, t1, l1, hp1, hc1, _⟩ := id bg'
  have ss' : Same S H' := fun b o h => kp b o (fun z => by rw [z, np] at h; cases h) (e1 b o (ss b o h) (nn b o h))
  have s1 : Same H' (upd H' hd (.lst [v])) := Same.new (fun _ _ h => h) hhd
  exact k hd v _ ⟨ss'.trans s1, bg'.keep s1, tb'.ext s1, upd_same, .cons (hi_keep hi fun b xs h => s1 _ _ h) .nil, np, ss'.free hhd, nn, (fun z => by rw [z, hp1] at hhd; cases hhd), (fun z => by rw [z, hc1] at hhd; cases hhd), by show 1 ≤ 100; decide⟩
theorem next_heard (h : Hd A S H p c hd n items ds) (hl : items.length + 1 ≤ 100) (hσ : σ[i]? = some (some (.ref hd))) (as : Asks A K S p c n m w t σ) (k : ∀ v H', Hd A S H' p c hd m (items ++ [v]) (ds ++ [w]) → D.nx σ H') :
    tDrop (tBM K "list" rAppend (tVar i) (tCons (tLam (tabs A) (THeard A K) t) tNil)) D σ H := by
  refine ⟨_, hσ, .inl ⟨rfl, _, SqL.of h.hl⟩, lam_heard h.tb h.same h.nn h.bg as fun v H1 H' e1 kp bg' tb' hi => ?_⟩
  have hl' : H' hd = some (.lst items) := kp _ _ h.hp (e1 _ _ h.hl (fun _ z => by cases z))
  refine ⟨hd, items, v, rfl, rfl, hl', small1000 (by omega), ?_⟩
  have ss' : Same S H' := fun b o q => kp b o (fun z => by rw [z, h.np] at q; cases q) (e1 b o (h.same b o q) (h.nn b o q))
  have off : ∀ b o, b ≠ hd → H' b = some o → upd H' hd (.lst (items ++ [v])) b = some o := fun b o nb q => by
    rw [upd_ne nb]
    exact q
  have tup : ∀ b xs, H' b = some (.tup xs) → upd H' hd (.lst (items ++ [v])) b = some (.tup xs) := fun b xs q => off _ _ (fun z => by rw [z, hl'] at q; cases q) q
  have kpn : Kp hd H' (upd H' hd (.lst (items ++ [v]))) := fun b o nb q => off b o nb q
  obtain ⟨op, hop⟩ := h.bg.has.1
  refine k v _ ⟨fun b o q => off _ _ (fun z => by rw [z, h.nh] at q; cases q) (ss' b o q), bg'.oth h.hp.symm h.hc.symm, tabs_keep tb' (kp_n kpn hl'), upd_same, ?_, h.np, h.nh, h.nn, h.hp, h.hc, by rw [List.length_append]; exact hl⟩
  refine paired_snoc (hi_keep hi tup) ?_
  have step : ∀ b xs, H b = some (.tup xs) → upd H' hd (.lst (items ++ [v])) b = some (.tup xs) := fun b xs q => by
    refine tup _ _ (kp _ _ (fun z => ?_) (e1 _ _ q (fun _ z => by cases z)))
    obtain ⟨_, ms0, t0, l0, hp0, _⟩ := id h.bg
    rw [z, hp0] at q
    cases q
  exact paired_imp (fun x d z => hi_keep z step) h.it
end
/-! ### values that are passed, as trees -/
def leafB (n : Int) : Tr → Bool
  | .leaf v => inB n v
  | .node _ => false
def pairT (n : Int) : Tr → Bool
  | .node ts => decide (ts.length = 2) && ts.all (leafB n)
  | .leaf _ => false
def tiesT (n : Int) : Tr → Bool
  | .node ts => decide (ts.length ≤ 12) && ts.all (pairT n)
  | .leaf _ => false
theorem isLT_seq {H : Hp} {v : V} (h : isLT H v = false) : seqOf H v = none := by
  cases v with
  | ref a =>
    simp only [isLT] at h
    simp only [seqOf]
    split <;> simp_all
  | _ => rfl
theorem inB_isI {n : Int} {v : V} (h : inB n v = true) : isI v = true := by
  unfold inB at h
  rw [Bool.and_eq_true] at h
  exact h.1
theorem src0_all {H : Hp} {n : Int} : ∀ {xs : List V} {ts : List Tr}, Paired (Src 0 H) xs ts → (∀ x ∈ xs, OkV H x) ∧ (xs.all isI && xs.all (inB n)) = ts.all (leafB n) ∧ xs.length = ts.length
  | _, _, .nil => ⟨(fun x hx => by cases hx), rfl, rfl⟩
  | x :: xs, t :: ts, .cons h0 r => by
    obtain ⟨ok, _, e⟩ := h0
    obtain ⟨h1, h2, h3⟩ := src0_all (n := n) r
    subst e
    refine ⟨fun y hy => ?_, ?_, by rw [List.length_cons, List.length_cons, h3]⟩
    · rcases List.mem_cons.mp hy with rfl | hy
      · exact ok
      · exact h1 y hy
    · rw [List.all_cons, List.all_cons, List.all_cons, ← h2]
      simp only [leafB]
      cases hx : inB n x with
      | false => simp
      | true => simp [inB_isI hx]
theorem src_it {H : Hp} {n : Int} {v : V} {t : Tr} (h : Src 1 H v t) : ItOk H v ∧ pairB H n v = pairT n t := by
  rcases h with ⟨ok, lt, rfl⟩ | ⟨a, xs, ts, rfl, hx, hl, rfl, p⟩
  · have e := isLT_seq lt
    exact ⟨⟨ok, fun xs h => by rw [e] at h; cases h⟩, by simp only [pairB, e, pairT]⟩
  · have e := seqOf_sqx hx
    obtain ⟨h1, h2, h3⟩ := src0_all (n := n) p
    refine ⟨⟨hx.ok, fun ys h => by rw [e] at h; cases h; exact ⟨hl, h1⟩⟩, ?_⟩
    simp only [pairB, e, pairT, ← h2, ← h3]
    cases xs.all isI <;> simp
theorem src1_all {H : Hp} {n : Int} : ∀ {xs : List V} {ts : List Tr}, Paired (Src 1 H) xs ts → (∀ x ∈ xs, ItOk H x) ∧ xs.all (pairB H n) = ts.all (pairT n) ∧ xs.length = ts.length
  | _, _, .nil => ⟨(fun x hx => by cases hx), rfl, rfl⟩
  | _, _, .cons s r => by
    obtain ⟨h1, h2, h3⟩ := src1_all (n := n) r
    obtain ⟨g1, g2⟩ := src_it (n := n) s
    refine ⟨fun y hy => ?_, by rw [List.all_cons, List.all_cons, h2, g2], by rw [List.length_cons, List.length_cons, h3]⟩
    rcases List.mem_cons.mp hy with rfl | hy
    · exact g1
    · exact h1 y hy
theorem src_ti {H : Hp} {n : Int} {v : V} {t : Tr} (h : Src 2 H v t) : TiOk H v ∧ tiesB H n v = tiesT n t := by
  rcases h with ⟨ok, lt, rfl⟩ | ⟨a, xs, ts, rfl, hx, hl, rfl, p⟩
  · have e := isLT_seq lt
    exact ⟨⟨ok, fun xs h => by rw [e] at h; cases h⟩, by simp only [tiesB, e, tiesT]⟩
  · have e := seqOf_sqx hx
    obtain ⟨h1, h2, h3⟩ := src1_all (n := n) p
    exact ⟨⟨hx.ok, fun ys h => by rw [e] at h; cases h; exact ⟨hl, h1⟩⟩, by simp only [tiesB, e, tiesT, ← h2, ← h3]⟩
theorem src_ok {H : Hp} {d : Nat} {v : V} {t : Tr} (h : Src d H v t) : OkV H v := by
  cases d with
  | zero => exact h.1
  | succ d =>
    rcases h with ⟨ok, _⟩ | ⟨a, xs, ts, rfl, hx, _⟩
    · exact ok
    · exact hx.ok
theorem strip_new {p b q : Addr} {H : Hp} {o u : HO} (h : strip p H b = some o) (hq : H q = none) : strip p (upd H q u) b = some o := by
  obtain ⟨h1, h2, h3⟩ := strip_of h
  exact strip_at h1 (at_new h2 hq) h3
theorem strip_upd {p q : Addr} {H : Hp} {o : HO} (hq : q ≠ p) (n : ∀ ps, o ≠ .tbl ps) : strip p (upd H q o) q = some o := strip_at hq upd_same n
theorem strip_kp {p : Addr} {H H' : Hp} (k : Kp p H H') : Same (strip p H) (strip p H') := fun b o h => by
  obtain ⟨h1, h2, h3⟩ := strip_of h
  exact strip_at h1 (k _ _ h1 h2) h3
theorem strip_ss {p : Addr} {H H' : Hp} (k : Same H H') : Same (strip p H) (strip p H') := strip_kp fun b o _ h => k b o h
theorem src_dk {d : Nat} {H : Hp} {a : Addr} {ks : List (Key × V)} (h : H a = some (.dK ks)) : Src d H (.ref a) (.leaf (.ref a)) := src_leaf (.inr (.inr ⟨ks, h⟩)) (by simp only [isLT, h])
theorem src_l {d : Nat} {H : Hp} {a : Addr} {xs : List V} {ts : List Tr} (h : H a = some (.lst xs)) (hl : xs.length ≤ 1000) (p : Paired (Src d H) xs ts) : Src (d + 1) H (.ref a) (.node ts) := .inr ⟨a, xs, ts, rfl, .inl h, hl, rfl, p⟩
theorem src_t {d : Nat} {H : Hp} {a : Addr} {xs : List V} {ts : List Tr} (h : H a = some (.tup xs)) (hl : xs.length ≤ 1000) (p : Paired (Src d H) xs ts) : Src (d + 1) H (.ref a) (.node ts) := .inr ⟨a, xs, ts, rfl, .inr h, hl, rfl, p⟩
local macro_rules | `(tactic| walk_at "src") => `(tactic| first | exact src_leaf trivial rfl | exact src_l (by assumption) (by first | decide | simp) (by walk_at "srcs") | exact src_t (by assumption) (by first | decide | simp) (by walk_at "srcs") | exact src_dk (by assumption))
local macro_rules | `(tactic| walk_at "srcs") => `(tactic| first | exact .nil | exact .cons (by walk_at "src") (by walk_at "srcs"))
/-! ### what makes no web -/
theorem paired_rep {α β : Type} {R : α → β → Prop} {x : α} {y : β} (h : R x y) : ∀ n, Paired R (List.replicate n [x]).flatten (List.replicate n y)
  | 0 => .nil
  | n + 1 => by
    rw [List.replicate_succ, List.flatten_cons, List.replicate_succ]
    exact .cons h (paired_rep h n)
theorem out_web {E : XK} {H1 H : Hp} {p c : Addr} {m : Nat} {v : V} (kp : Kp p H1 H) (bg : Bg H p c m) (he : ∀ ws, some [V.str "web", v] = some ws → ∀ cls d gs H', Kp p H1 H' → Bg H' p c m → H' d = some (.xd gs) → Told A K H' cls gs ws → E cls (some d) H') : Out E H A.c_BadWeb "part" v :=
  fun d H' hd s => he _ rfl _ _ _ H' (kp.trans (Kp.of_same s)) (bg.keep s) hd (.web rfl)
def datV : V → PyData
  | .str s => .str s
  | .int i => .int i
  | _ => .none
def flat1 : V → Bool
  | .str _ => true
  | .int _ => true
  | _ => false
def datI : Option (List V) → PyData
  | none => .none
  | some ws => .tuple (ws.map datV)
def flatI : Option (List V) → Bool
  | none => true
  | some ws => ws.all flat1
theorem dp_flat {H : Hp} : ∀ {ws : List V}, ws.all flat1 = true → DpAll K H ws (ws.map datV)
  | [], _ => .nil
  | w :: ws, h => by
    rw [List.all_cons, Bool.and_eq_true] at h
    refine .cons ?_ (dp_flat h.2)
    cases w with
    | str s => exact .str s
    | int i => exact .int i
    | _ => cases h.1
theorem dp_items {H : Hp} : ∀ {items : List V} {ds : List (Option (List V))}, Paired (HI H) items ds → ds.all flatI = true → DpAll K H items (ds.map datI)
  | _, _, .nil, _ => .nil
  | x :: items, d :: ds, .cons hi r, h => by
    rw [List.all_cons, Bool.and_eq_true] at h
    refine .cons ?_ (dp_items r h.2)
    cases d with
    | none =>
      obtain rfl : x = .non := hi
      exact .non
    | some ws =>
      obtain ⟨t, rfl, ht⟩ := hi
      exact .tup (SqT.of ht) (dp_flat h.1)
theorem Hd.on {S H H' : Hp} {p c hd : Addr} {n : Nat} {items : List V} {ds : List (Option (List V))} (h : Hd A S H p c hd n items ds) (s : Same H H') : H' hd = some (.lst items) ∧ Paired (HI H') items ds :=
  ⟨s _ _ h.hl, paired_imp (fun x d z => hi_keep z fun b xs q => s _ _ q) h.it⟩
theorem eq_heard {H : Hp} {hd b : Addr} {items ys : List V} {ds : List (Option (List V))} {Q : VK} (h : H hd = some (.lst items) ∧ Paired (HI H) items ds) (hb : H b = some (.lst ys)) (py : Paired (HI H) ys ds) (fl : ds.all flatI = true)
    (sh : SeqAt.shaped (.list (ds.map datI)) = true) (ev : PyData.eqv (.list (ds.map datI)) (.list (ds.map datI)) = true) (k : Q (.bl true) H) : rEqD K (.ref hd) (.ref b) H Q := by
  refine ⟨_, _, .lst (SqL.of h.1) (dp_items h.2 fl), .lst (SqL.of hb) (dp_items py fl), sh, sh, ?_⟩
  rw [ev]
  exact k
def sp_part (A : Ad) (j : Nat) : Sp := fun vs H Q _ => ∃ (p c : Addr) (n : Nat), vs = [.ref p] ∧ Bg H p c n ∧ n ≤ 90000 ∧ Tabs (tabs A) H ∧ ∀ H', Bg H' p c (n + j) → Tabs (tabs A) H' → Q (.bl true) H'
theorem G__law_made_right (T : Txt P K mg A) (TB : TabB base mg A.k__law_made_right A.t__law_made_right) (ne : NE A) : FnG P w K mg base CX0 15 A.a__law_made_right A.d__law_made_right P__law_made_right (sp_part A 4) := by
  refine okGC T.F__law_made_right sc__law_made_right (fun vs H Q E h => ?_) (fun A0 outer s H vs Q E hr h => ?_)
  · obtain ⟨p, c, n, rfl, _⟩ := h
    rfl
  obtain ⟨p, c, n, rfl, bg, hn, tb, k⟩ := h
  refine ⟨_, (pss_cons (ps_set (i := 1) sc__law_made_right.nd rfl (Or.inr rfl) (pe_callG (G__law_any T) (hr.mono (by decide)) rfl T.g__law_any T.F__law_any.kp T.b__law_any .nil pass0 (pa_cons (pv 0) (pa_cons (pe_lst (pa_cons pe_int (pa_cons pe_int (pa_cons (pe_un un_neg pe_int) (pa_cons pe_bl (pa_cons pe_non (pa_cons pe_str (pa_cons (pe_lst (pa_cons pe_int pa_nil)) (pa_cons (pe_op op_pow pe_int pe_int) (pa_cons (pe_tup (pa_cons pe_int pa_nil)) (pa_cons pe_bl pa_nil))))))))))) pa_nil))))
      (pss_cons (ps_set (i := 2) sc__law_made_right.nd rfl (Or.inr rfl) (pe_callG (G__law_any T) (hr.mono (by decide)) rfl T.g__law_any T.F__law_any.kp T.b__law_any .nil pass0 (pa_cons (pv 0) (pa_cons (pe_lst (pa_cons pe_non (pa_cons pe_int (pa_cons pe_str (pa_cons pe_dnewK (pa_cons (pe_lst (pa_cons pe_int (pa_cons pe_int pa_nil))) (pa_cons (pe_lst (pa_cons (pe_tup (pa_cons pe_int (pa_cons pe_int pa_nil))) (pa_cons pe_int pa_nil))) (pa_cons (pe_lst (pa_cons (pe_tup (pa_cons pe_int (pa_cons pe_int (pa_cons pe_int pa_nil)))) pa_nil)) (pa_cons (pe_lst (pa_cons (pe_tup (pa_cons pe_int pa_nil)) pa_nil)) (pa_cons (pe_lst (pa_cons (pe_tup (pa_cons pe_int (pa_cons pe_int pa_nil))) pa_nil)) (pa_cons (pe_lst (pa_cons (pe_lst (pa_cons pe_int (pa_cons (pe_un un_neg pe_int) pa_nil))) pa_nil)) (pa_cons (pe_lst (pa_cons (pe_tup (pa_cons pe_int (pa_cons pe_bl pa_nil))) pa_nil)) (pa_cons (pe_lst (pa_cons (pe_tup (pa_cons pe_str (pa_cons pe_str pa_nil))) pa_nil)) (pa_cons (pe_op op_rep (pe_lst (pa_cons (pe_tup (pa_cons pe_int (pa_cons pe_int pa_nil))) pa_nil)) pe_int) (pa_cons (pe_lst (pa_cons pe_non pa_nil)) (pa_cons (pe_lst (pa_cons (pe_lst pa_nil) pa_nil)) (pa_cons (pe_tup (pa_cons (pe_tup (pa_cons pe_int (pa_cons (pe_op op_pow pe_int pe_int) pa_nil))) pa_nil)) pa_nil))))))))))))))))) pa_nil))))
      (pss_cons (ps_set (i := 3) sc__law_made_right.nd rfl (Or.inr rfl) (pe_callG (G__law_any T) (hr.mono (by decide)) rfl T.g__law_any T.F__law_any.kp T.b__law_any .nil pass0 (pa_cons (pv 0) (pa_cons (pe_lst (pa_cons (pe_lst pa_nil) (pa_cons (pe_lst (pa_cons (pe_tup (pa_cons pe_int (pa_cons pe_int pa_nil))) pa_nil)) (pa_cons (pe_lst (pa_cons (pe_tup (pa_cons pe_int (pa_cons pe_int pa_nil))) (pa_cons (pe_tup (pa_cons pe_int (pa_cons pe_int pa_nil))) pa_nil))) (pa_cons (pe_lst (pa_cons (pe_tup (pa_cons pe_int (pa_cons pe_int pa_nil))) (pa_cons (pe_tup (pa_cons pe_int (pa_cons pe_int pa_nil))) (pa_cons (pe_tup (pa_cons pe_int (pa_cons pe_int pa_nil))) pa_nil)))) (pa_cons (pe_lst (pa_cons (pe_tup (pa_cons pe_int (pa_cons pe_int pa_nil))) (pa_cons (pe_tup (pa_cons pe_int (pa_cons pe_int pa_nil))) (pa_cons (pe_tup (pa_cons pe_int (pa_cons pe_int pa_nil))) pa_nil)))) pa_nil)))))) pa_nil))))
      (pss_cons (ps_set (i := 4) sc__law_made_right.nd rfl (Or.inl rfl) (pe_lst (pa_cons (pe_lamG (T := tabs A) (t := fun E => (tMkG A.c_Web (sp_webi K A.c_Web A.c_BadWeb) E (tCons (tVar 1) (tCons (tVar 2) tNil)))) rfl T.g__law_heard T.F__law_heard T.b__law_heard sc__law_heard rfl (Or.inl rfl) (heard_gives T) TB rfl List.mem_cons_self (tabs_u0 ne) (k := 12) (hr.mono (by decide)) (lamS_by (sc := defScope s__law_made_right) (by decide +kernel)) rfl (fun _ _ _ _ _ => rfl) (fun A1 outer1 s1 H1 E1 f1 c1 hr1 => (pe_mkG (E := E1) T.M_Web (G_Web___init__ T) (hr1.mono (by decide)) rfl T.g_Web T.b_Web___init__ (passes_call (takes_of rfl rfl rfl rfl) (fun _ _ _ _ h => h)) (pa_cons (pv 1) (pa_cons (pv 2) pa_nil))))) pa_nil)))
      (pss_cons (ps_expr (pe_bm PySem.F.plainAttrs_list PySem.F.slot_list_append PySem.F.type_list_append mt_append (pv 4) (pa_cons (pe_lamG (T := tabs A) (t := fun E => (tMkG A.c_Web (sp_webi K A.c_Web A.c_BadWeb) E (tCons (tVar 1) (tCons (tVar 3) tNil)))) rfl T.g__law_heard T.F__law_heard T.b__law_heard sc__law_heard rfl (Or.inl rfl) (heard_gives T) TB rfl List.mem_cons_self (tabs_u0 ne) (k := 12) (hr.mono (by decide)) (lamS_by (sc := defScope s__law_made_right) (by decide +kernel)) rfl (fun _ _ _ _ _ => rfl) (fun A1 outer1 s1 H1 E1 f1 c1 hr1 => (pe_mkG (E := E1) T.M_Web (G_Web___init__ T) (hr1.mono (by decide)) rfl T.g_Web T.b_Web___init__ (passes_call (takes_of rfl rfl rfl rfl) (fun _ _ _ _ h => h)) (pa_cons (pv 1) (pa_cons (pv 3) pa_nil))))) pa_nil)))
      (pss_cons (ps_expr (pe_bm PySem.F.plainAttrs_list PySem.F.slot_list_append PySem.F.type_list_append mt_append (pv 4) (pa_cons (pe_lamG (T := tabs A) (t := fun E => (tMkG A.c_Web (sp_webi K A.c_Web A.c_BadWeb) E (tCons (tC (.int 3)) (tCons (tVar 2) tNil)))) rfl T.g__law_heard T.F__law_heard T.b__law_heard sc__law_heard rfl (Or.inl rfl) (heard_gives T) TB rfl List.mem_cons_self (tabs_u0 ne) (k := 12) (hr.mono (by decide)) (lamS_by (sc := defScope s__law_made_right) (by decide +kernel)) rfl (fun _ _ _ _ _ => rfl) (fun A1 outer1 s1 H1 E1 f1 c1 hr1 => (pe_mkG (E := E1) T.M_Web (G_Web___init__ T) (hr1.mono (by decide)) rfl T.g_Web T.b_Web___init__ (passes_call (takes_of rfl rfl rfl rfl) (fun _ _ _ _ h => h)) (pa_cons pe_int (pa_cons (pv 2) pa_nil))))) pa_nil)))
      (pss_cons (ps_expr (pe_bm PySem.F.plainAttrs_list PySem.F.slot_list_append PySem.F.type_list_append mt_append (pv 4) (pa_cons (pe_lamG (T := tabs A) (t := fun E => (tMkGK A.c_Web (sp_webi K A.c_Web A.c_BadWeb) E twoX tNil (tCons (tVar 3) (tCons (tC (.int 3)) tNil)))) rfl T.g__law_heard T.F__law_heard T.b__law_heard sc__law_heard rfl (Or.inl rfl) (heard_gives T) TB rfl List.mem_cons_self (tabs_u0 ne) (k := 12) (hr.mono (by decide)) (lamS_by (sc := defScope s__law_made_right) (by decide +kernel)) rfl (fun _ _ _ _ _ => rfl) (fun A1 outer1 s1 H1 E1 f1 c1 hr1 => (pe_mkGK0 (E := E1) T.M_Web (G_Web___init__ T) (hr1.mono (by decide)) rfl T.g_Web (kb_Web___init___ties_places T) (passes_call (takes_of rfl rfl rfl rfl) (fun _ _ _ _ h => h)) (pk_cons (pv 3) (pk_cons pe_int pk_nil))))) pa_nil)))
      (pss_cons (ps_expr (pe_bm PySem.F.plainAttrs_list PySem.F.slot_list_append PySem.F.type_list_append mt_append (pv 4) (pa_cons (pe_lamG (T := tabs A) (t := fun E => (tMkG A.c_Web (sp_webi K A.c_Web A.c_BadWeb) E (tCons (tCall sp_some [] E0 (tCons (tVar 0) (tCons (tLst (tCons (tC (.int 2)) (tCons (tC (.int 13)) (tCons (tC (.int 7)) tNil)))) tNil))) (tCons (tLst tNil) tNil)))) rfl T.g__law_heard T.F__law_heard T.b__law_heard sc__law_heard rfl (Or.inl rfl) (heard_gives T) TB rfl List.mem_cons_self (tabs_u0 ne) (k := 12) (hr.mono (by decide)) (lamS_by (sc := defScope s__law_made_right) (by decide +kernel)) rfl (fun _ _ _ _ _ => rfl) (fun A1 outer1 s1 H1 E1 f1 c1 hr1 => (pe_mkG (E := E1) T.M_Web (G_Web___init__ T) (hr1.mono (by decide)) rfl T.g_Web T.b_Web___init__ (passes_call (takes_of rfl rfl rfl rfl) (fun _ _ _ _ h => h)) (pa_cons (pe_callG (G__law_any T) (hr1.mono (by decide)) rfl T.g__law_any T.F__law_any.kp T.b__law_any .nil pass0 (pa_cons (pv 0) (pa_cons (pe_lst (pa_cons pe_int (pa_cons pe_int (pa_cons pe_int pa_nil)))) pa_nil))) (pa_cons (pe_lst pa_nil) pa_nil))))) pa_nil)))
      (pss_cons (ps_expr (pe_bm PySem.F.plainAttrs_list PySem.F.slot_list_append PySem.F.type_list_append mt_append (pv 4) (pa_cons (pe_lamG (T := tabs A) (t := fun E => (tMkG A.c_Web (sp_webi K A.c_Web A.c_BadWeb) E (tCons (tC (.int 3)) (tCons (tOp rCat (tLst (tCons (tTup (tCons (tC (.int 0)) (tCons (tC (.int 1)) tNil))) (tCons (tTup (tCons (tC (.int 1)) (tCons (tC (.int 2)) tNil))) tNil))) (tOp rRep (tLst (tCons (tTup (tCons (tC (.int 0)) (tCons (tC (.int 2)) tNil))) tNil)) (tC (.int 10)))) tNil)))) rfl T.g__law_heard T.F__law_heard T.b__law_heard sc__law_heard rfl (Or.inl rfl) (heard_gives T) TB rfl List.mem_cons_self (tabs_u0 ne) (k := 12) (hr.mono (by decide)) (lamS_by (sc := defScope s__law_made_right) (by decide +kernel)) rfl (fun _ _ _ _ _ => rfl) (fun A1 outer1 s1 H1 E1 f1 c1 hr1 => (pe_mkG (E := E1) T.M_Web (G_Web___init__ T) (hr1.mono (by decide)) rfl T.g_Web T.b_Web___init__ (passes_call (takes_of rfl rfl rfl rfl) (fun _ _ _ _ h => h)) (pa_cons pe_int (pa_cons (pe_op op_cat (pe_lst (pa_cons (pe_tup (pa_cons pe_int (pa_cons pe_int pa_nil))) (pa_cons (pe_tup (pa_cons pe_int (pa_cons pe_int pa_nil))) pa_nil))) (pe_op op_rep (pe_lst (pa_cons (pe_tup (pa_cons pe_int (pa_cons pe_int pa_nil))) pa_nil)) pe_int)) pa_nil))))) pa_nil)))
      (pss_one (ps_ret (pe_cmpR (op_eqD hr.room.units) (pv 4) (pe_op op_cat (pe_op op_rep (pe_lst (pa_cons (pe_tup (pa_cons pe_str (pa_cons pe_str pa_nil))) pa_nil)) pe_int) (pe_lst (pa_cons (pe_tup (pa_cons pe_str (pa_cons pe_str pa_nil))) (pa_cons (pe_tup (pa_cons pe_str (pa_cons pe_str pa_nil))) (pa_cons (pe_tup (pa_cons pe_str (pa_cons pe_str pa_nil))) (pa_cons pe_non pa_nil)))))) (nomark _))))))))))))), ?_⟩
  obtain ⟨_, ms0, t0, l0, hp0, hc0, _⟩ := id bg
  have sz : (1000 : Nat) ≤ sizeLine := by decide
  -- a number of places that is none
  refine ⟨_, rfl, _, rfl, by show 1 ≤ sizeLine; decide, fun a1 ha1 => ⟨_, _, rfl, rfl, ⟨by decide, by decide, by decide⟩, by show 1 ≤ sizeLine; decide, fun a2 ha2 => ⟨by show 10 ≤ sizeLine; decide, fun q1 hq1 => ?_⟩⟩⟩
  have na1 : a1 ≠ p := (ne_of_none hp0 ha1).symm
  have na2 : a2 ≠ p := (ne_of_none (at_new hp0 ha1) ha2).symm
  have nq1 : q1 ≠ p := (ne_of_none (at_new (at_new hp0 ha1) ha2) hq1).symm
  refine ⟨p, c, q1, n, _, rfl, (Bg.new (Bg.new (Bg.new bg ha1) ha2) hq1), by omega, upd_same, nq1, by show 1 ≤ 10; decide, by show 10 ≤ 1000; decide, fun odd H1 hv kp1 bg1 => ?_⟩
  have ga1 := strip_at (p := p) na1 (kp1 _ _ na1 (at_new (at_new upd_same ha2) hq1)) (fun _ z => by cases z)
  have ga2 := strip_at (p := p) na2 (kp1 _ _ na2 (at_new upd_same hq1)) (fun _ z => by cases z)
  have fo : OkV (strip p H1) odd ∧ placesB odd = false := by
    simp only [List.mem_cons, List.not_mem_nil, or_false] at hv
    rcases hv with rfl | rfl | rfl | rfl | rfl | rfl | rfl | rfl | rfl | rfl
    · exact ⟨trivial, by decide +kernel⟩
    · exact ⟨trivial, by decide +kernel⟩
    · exact ⟨trivial, by decide +kernel⟩
    · exact ⟨trivial, rfl⟩
    · exact ⟨trivial, rfl⟩
    · exact ⟨trivial, rfl⟩
    · exact ⟨src_ok (d := 1) (by walk_at "src"), rfl⟩
    · exact ⟨trivial, by decide +kernel⟩
    · exact ⟨src_ok (d := 1) (by walk_at "src"), rfl⟩
    · exact ⟨trivial, rfl⟩
  have tb1 : Tabs (tabs A) H1 := tabs_keep (Tabs.ext tb (Same.new (Same.new (Same.new (fun _ _ h => h) ha1) ha2) hq1)) (kp_n kp1 (at_new (at_new (at_new hp0 ha1) ha2) hq1))
  obtain ⟨_, ms1, t1', l1', hp1, hc1, _⟩ := id bg1
  clear kp1 ga1 ga2 hv
  -- ties that are none
  refine ⟨_, rfl, fun d1 hd1 => ⟨by show 2 ≤ sizeLine; decide, fun l1 hl1 => ⟨by show 2 ≤ sizeLine; decide, fun t1 ht1 => ⟨by show 2 ≤ sizeLine; decide, fun l2 hl2 => ⟨by show 3 ≤ sizeLine; decide, fun t2 ht2 => ⟨by show 1 ≤ sizeLine; decide, fun l3 hl3 => ⟨by show 1 ≤ sizeLine; decide, fun t3 ht3 => ⟨by show 1 ≤ sizeLine; decide, fun l4 hl4 => ⟨by show 2 ≤ sizeLine; decide, fun t4 ht4 => ⟨by show 1 ≤ sizeLine; decide, fun l5 hl5 => ⟨_, rfl, by show 2 ≤ sizeLine; decide, fun l6 hl6 => ⟨by show 1 ≤ sizeLine; decide, fun l7 hl7 => ⟨by show 2 ≤ sizeLine; decide, fun t5 ht5 => ⟨by show 1 ≤ sizeLine; decide, fun l8 hl8 => ⟨by show 2 ≤ sizeLine; decide, fun t6 ht6 => ⟨by show 1 ≤ sizeLine; decide, fun l9 hl9 => ⟨by show 2 ≤ sizeLine; decide, fun t7 ht7 => ⟨by show 1 ≤ sizeLine; decide, fun l10 hl10 => ⟨l10, 13, _, rfl, rfl, upd_same, by decide, by decide, by show 1 * 13 ≤ sizeLine; decide, fun l11 hl11 => ⟨by show 1 ≤ sizeLine; decide, fun l12 hl12 => ⟨Nat.zero_le _, fun l13 hl13 => ⟨by show 1 ≤ sizeLine; decide, fun l14 hl14 => ⟨_, _, rfl, rfl, ⟨by decide, by decide, by decide⟩, by show 2 ≤ sizeLine; decide, fun t8 ht8 => ⟨by show 1 ≤ sizeLine; decide, fun t9 ht9 => ⟨by show 16 ≤ sizeLine; decide, fun q2 hq2 => ?_⟩⟩⟩⟩⟩⟩⟩⟩⟩⟩⟩⟩⟩⟩⟩⟩⟩⟩⟩⟩⟩⟩⟩⟩⟩
  have nd1 : d1 ≠ p := (ne_of_none hp1 hd1).symm
  have nl1 : l1 ≠ p := (ne_of_none (at_new hp1 hd1) hl1).symm
  have nt1 : t1 ≠ p := (ne_of_none (at_new (at_new hp1 hd1) hl1) ht1).symm
  have nl2 : l2 ≠ p := (ne_of_none (at_new (at_new (at_new hp1 hd1) hl1) ht1) hl2).symm
  have nt2 : t2 ≠ p := (ne_of_none (at_new (at_new (at_new (at_new hp1 hd1) hl1) ht1) hl2) ht2).symm
  have nl3 : l3 ≠ p := (ne_of_none (at_new (at_new (at_new (at_new (at_new hp1 hd1) hl1) ht1) hl2) ht2) hl3).symm
  have nt3 : t3 ≠ p := (ne_of_none (at_new (at_new (at_new (at_new (at_new (at_new hp1 hd1) hl1) ht1) hl2) ht2) hl3) ht3).symm
  have nl4 : l4 ≠ p := (ne_of_none (at_new (at_new (at_new (at_new (at_new (at_new (at_new hp1 hd1) hl1) ht1) hl2) ht2) hl3) ht3) hl4).symm
  have nt4 : t4 ≠ p := (ne_of_none (at_new (at_new (at_new (at_new (at_new (at_new (at_new (at_new hp1 hd1) hl1) ht1) hl2) ht2) hl3) ht3) hl4) ht4).symm
  have nl5 : l5 ≠ p := (ne_of_none (at_new (at_new (at_new (at_new (at_new (at_new (at_new (at_new (at_new hp1 hd1) hl1) ht1) hl2) ht2) hl3) ht3) hl4) ht4) hl5).symm
  have nl6 : l6 ≠ p := (ne_of_none (at_new (at_new (at_new (at_new (at_new (at_new (at_new (at_new (at_new (at_new hp1 hd1) hl1) ht1) hl2) ht2) hl3) ht3) hl4) ht4) hl5) hl6).symm
  have nl7 : l7 ≠ p := (ne_of_none (at_new (at_new (at_new (at_new (at_new (at_new (at_new (at_new (at_new (at_new (at_new hp1 hd1) hl1) ht1) hl2) ht2) hl3) ht3) hl4) ht4) hl5) hl6) hl7).symm
  have nt5 : t5 ≠ p := (ne_of_none (at_new (at_new (at_new (at_new (at_new (at_new (at_new (at_new (at_new (at_new (at_new (at_new hp1 hd1) hl1) ht1) hl2) ht2) hl3) ht3) hl4) ht4) hl5) hl6) hl7) ht5).symm
  have nl8 : l8 ≠ p := (ne_of_none (at_new (at_new (at_new (at_new (at_new (at_new (at_new (at_new (at_new (at_new (at_new (at_new (at_new hp1 hd1) hl1) ht1) hl2) ht2) hl3) ht3) hl4) ht4) hl5) hl6) hl7) ht5) hl8).symm
  have nt6 : t6 ≠ p := (ne_of_none (at_new (at_new (at_new (at_new (at_new (at_new (at_new (at_new (at_new (at_new (at_new (at_new (at_new (at_new hp1 hd1) hl1) ht1) hl2) ht2) hl3) ht3) hl4) ht4) hl5) hl6) hl7) ht5) hl8) ht6).symm
  have nl9 : l9 ≠ p := (ne_of_none (at_new (at_new (at_new (at_new (at_new (at_new (at_new (at_new (at_new (at_new (at_new (at_new (at_new (at_new (at_new hp1 hd1) hl1) ht1) hl2) ht2) hl3) ht3) hl4) ht4) hl5) hl6) hl7) ht5) hl8) ht6) hl9).symm
  have nt7 : t7 ≠ p := (ne_of_none (at_new (at_new (at_new (at_new (at_new (at_new (at_new (at_new (at_new (at_new (at_new (at_new (at_new (at_new (at_new (at_new hp1 hd1) hl1) ht1) hl2) ht2) hl3) ht3) hl4) ht4) hl5) hl6) hl7) ht5) hl8) ht6) hl9) ht7).symm
  have nl10 : l10 ≠ p := (ne_of_none (at_new (at_new (at_new (at_new (at_new (at_new (at_new (at_new (at_new (at_new (at_new (at_new (at_new (at_new (at_new (at_new (at_new hp1 hd1) hl1) ht1) hl2) ht2) hl3) ht3) hl4) ht4) hl5) hl6) hl7) ht5) hl8) ht6) hl9) ht7) hl10).symm
  have nl11 : l11 ≠ p := (ne_of_none (at_new (at_new (at_new (at_new (at_new (at_new (at_new (at_new (at_new (at_new (at_new (at_new (at_new (at_new (at_new (at_new (at_new (at_new hp1 hd1) hl1) ht1) hl2) ht2) hl3) ht3) hl4) ht4) hl5) hl6) hl7) ht5) hl8) ht6) hl9) ht7) hl10) hl11).symm
  have nl12 : l12 ≠ p := (ne_of_none (at_new (at_new (at_new (at_new (at_new (at_new (at_new (at_new (at_new (at_new (at_new (at_new (at_new (at_new (at_new (at_new (at_new (at_new (at_new hp1 hd1) hl1) ht1) hl2) ht2) hl3) ht3) hl4) ht4) hl5) hl6) hl7) ht5) hl8) ht6) hl9) ht7) hl10) hl11) hl12).symm
  have nl13 : l13 ≠ p := (ne_of_none (at_new (at_new (at_new (at_new (at_new (at_new (at_new (at_new (at_new (at_new (at_new (at_new (at_new (at_new (at_new (at_new (at_new (at_new (at_new (at_new hp1 hd1) hl1) ht1) hl2) ht2) hl3) ht3) hl4) ht4) hl5) hl6) hl7) ht5) hl8) ht6) hl9) ht7) hl10) hl11) hl12) hl13).symm
  have nl14 : l14 ≠ p := (ne_of_none (at_new (at_new (at_new (at_new (at_new (at_new (at_new (at_new (at_new (at_new (at_new (at_new (at_new (at_new (at_new (at_new (at_new (at_new (at_new (at_new (at_new hp1 hd1) hl1) ht1) hl2) ht2) hl3) ht3) hl4) ht4) hl5) hl6) hl7) ht5) hl8) ht6) hl9) ht7) hl10) hl11) hl12) hl13) hl14).symm
  have nt8 : t8 ≠ p := (ne_of_none (at_new (at_new (at_new (at_new (at_new (at_new (at_new (at_new (at_new (at_new (at_new (at_new (at_new (at_new (at_new (at_new (at_new (at_new (at_new (at_new (at_new (at_new hp1 hd1) hl1) ht1) hl2) ht2) hl3) ht3) hl4) ht4) hl5) hl6) hl7) ht5) hl8) ht6) hl9) ht7) hl10) hl11) hl12) hl13) hl14) ht8).symm
  have nt9 : t9 ≠ p := (ne_of_none (at_new (at_new (at_new (at_new (at_new (at_new (at_new (at_new (at_new (at_new (at_new (at_new (at_new (at_new (at_new (at_new (at_new (at_new (at_new (at_new (at_new (at_new (at_new hp1 hd1) hl1) ht1) hl2) ht2) hl3) ht3) hl4) ht4) hl5) hl6) hl7) ht5) hl8) ht6) hl9) ht7) hl10) hl11) hl12) hl13) hl14) ht8) ht9).symm
  have nq2 : q2 ≠ p := (ne_of_none (at_new (at_new (at_new (at_new (at_new (at_new (at_new (at_new (at_new (at_new (at_new (at_new (at_new (at_new (at_new (at_new (at_new (at_new (at_new (at_new (at_new (at_new (at_new (at_new hp1 hd1) hl1) ht1) hl2) ht2) hl3) ht3) hl4) ht4) hl5) hl6) hl7) ht5) hl8) ht6) hl9) ht7) hl10) hl11) hl12) hl13) hl14) ht8) ht9) hq2).symm
  refine ⟨p, c, q2, n + 1, _, rfl, (Bg.new (Bg.new (Bg.new (Bg.new (Bg.new (Bg.new (Bg.new (Bg.new (Bg.new (Bg.new (Bg.new (Bg.new (Bg.new (Bg.new (Bg.new (Bg.new (Bg.new (Bg.new (Bg.new (Bg.new (Bg.new (Bg.new (Bg.new (Bg.new (Bg.new bg1 hd1) hl1) ht1) hl2) ht2) hl3) ht3) hl4) ht4) hl5) hl6) hl7) ht5) hl8) ht6) hl9) ht7) hl10) hl11) hl12) hl13) hl14) ht8) ht9) hq2), by omega, upd_same, nq2, by show 1 ≤ 16; decide, by show 16 ≤ 1000; decide, fun bad H2 hw kp2 bg2 => ?_⟩
  have gd1 := strip_at (p := p) nd1 (kp2 _ _ nd1 (at_new (at_new (at_new (at_new (at_new (at_new (at_new (at_new (at_new (at_new (at_new (at_new (at_new (at_new (at_new (at_new (at_new (at_new (at_new (at_new (at_new (at_new (at_new (at_new upd_same hl1) ht1) hl2) ht2) hl3) ht3) hl4) ht4) hl5) hl6) hl7) ht5) hl8) ht6) hl9) ht7) hl10) hl11) hl12) hl13) hl14) ht8) ht9) hq2)) (fun _ z => by cases z)
  have gl1 := strip_at (p := p) nl1 (kp2 _ _ nl1 (at_new (at_new (at_new (at_new (at_new (at_new (at_new (at_new (at_new (at_new (at_new (at_new (at_new (at_new (at_new (at_new (at_new (at_new (at_new (at_new (at_new (at_new (at_new upd_same ht1) hl2) ht2) hl3) ht3) hl4) ht4) hl5) hl6) hl7) ht5) hl8) ht6) hl9) ht7) hl10) hl11) hl12) hl13) hl14) ht8) ht9) hq2)) (fun _ z => by cases z)
  have gt1 := strip_at (p := p) nt1 (kp2 _ _ nt1 (at_new (at_new (at_new (at_new (at_new (at_new (at_new (at_new (at_new (at_new (at_new (at_new (at_new (at_new (at_new (at_new (at_new (at_new (at_new (at_new (at_new (at_new upd_same hl2) ht2) hl3) ht3) hl4) ht4) hl5) hl6) hl7) ht5) hl8) ht6) hl9) ht7) hl10) hl11) hl12) hl13) hl14) ht8) ht9) hq2)) (fun _ z => by cases z)
  have gl2 := strip_at (p := p) nl2 (kp2 _ _ nl2 (at_new (at_new (at_new (at_new (at_new (at_new (at_new (at_new (at_new (at_new (at_new (at_new (at_new (at_new (at_new (at_new (at_new (at_new (at_new (at_new (at_new upd_same ht2) hl3) ht3) hl4) ht4) hl5) hl6) hl7) ht5) hl8) ht6) hl9) ht7) hl10) hl11) hl12) hl13) hl14) ht8) ht9) hq2)) (fun _ z => by cases z)
  have gt2 := strip_at (p := p) nt2 (kp2 _ _ nt2 (at_new (at_new (at_new (at_new (at_new (at_new (at_new (at_new (at_new (at_new (at_new (at_new (at_new (at_new (at_new (at_new (at_new (at_new (at_new (at_new upd_same hl3) ht3) hl4) ht4) hl5) hl6) hl7) ht5) hl8) ht6) hl9) ht7) hl10) hl11) hl12) hl13) hl14) ht8) ht9) hq2)) (fun _ z => by cases z)
  have gl3 := strip_at (p := p) nl3 (kp2 _ _ nl3 (at_new (at_new (at_new (at_new (at_new (at_new (at_new (at_new (at_new (at_new (at_new (at_new (at_new (at_new (at_new (at_new (at_new (at_new (at_new upd_same ht3) hl4) ht4) hl5) hl6) hl7) ht5) hl8) ht6) hl9) ht7) hl10) hl11) hl12) hl13) hl14) ht8) ht9) hq2)) (fun _ z => by cases z)
  have gt3 := strip_at (p := p) nt3 (kp2 _ _ nt3 (at_new (at_new (at_new (at_new (at_new (at_new (at_new (at_new (at_new (at_new (at_new (at_new (at_new (at_new (at_new (at_new (at_new (at_new upd_same hl4) ht4) hl5) hl6) hl7) ht5) hl8) ht6) hl9) ht7) hl10) hl11) hl12) hl13) hl14) ht8) ht9) hq2)) (fun _ z => by cases z)
  have gl4 := strip_at (p := p) nl4 (kp2 _ _ nl4 (at_new (at_new (at_new (at_new (at_new (at_new (at_new (at_new (at_new (at_new (at_new (at_new (at_new (at_new (at_new (at_new (at_new upd_same ht4) hl5) hl6) hl7) ht5) hl8) ht6) hl9) ht7) hl10) hl11) hl12) hl13) hl14) ht8) ht9) hq2)) (fun _ z => by cases z)
  have gt4 := strip_at (p := p) nt4 (kp2 _ _ nt4 (at_new (at_new (at_new (at_new (at_new (at_new (at_new (at_new (at_new (at_new (at_new (at_new (at_new (at_new (at_new (at_new upd_same hl5) hl6) hl7) ht5) hl8) ht6) hl9) ht7) hl10) hl11) hl12) hl13) hl14) ht8) ht9) hq2)) (fun _ z => by cases z)
  have gl5 := strip_at (p := p) nl5 (kp2 _ _ nl5 (at_new (at_new (at_new (at_new (at_new (at_new (at_new (at_new (at_new (at_new (at_new (at_new (at_new (at_new (at_new upd_same hl6) hl7) ht5) hl8) ht6) hl9) ht7) hl10) hl11) hl12) hl13) hl14) ht8) ht9) hq2)) (fun _ z => by cases z)
  have gl6 := strip_at (p := p) nl6 (kp2 _ _ nl6 (at_new (at_new (at_new (at_new (at_new (at_new (at_new (at_new (at_new (at_new (at_new (at_new (at_new (at_new upd_same hl7) ht5) hl8) ht6) hl9) ht7) hl10) hl11) hl12) hl13) hl14) ht8) ht9) hq2)) (fun _ z => by cases z)
  have gl7 := strip_at (p := p) nl7 (kp2 _ _ nl7 (at_new (at_new (at_new (at_new (at_new (at_new (at_new (at_new (at_new (at_new (at_new (at_new (at_new upd_same ht5) hl8) ht6) hl9) ht7) hl10) hl11) hl12) hl13) hl14) ht8) ht9) hq2)) (fun _ z => by cases z)
  have gt5 := strip_at (p := p) nt5 (kp2 _ _ nt5 (at_new (at_new (at_new (at_new (at_new (at_new (at_new (at_new (at_new (at_new (at_new (at_new upd_same hl8) ht6) hl9) ht7) hl10) hl11) hl12) hl13) hl14) ht8) ht9) hq2)) (fun _ z => by cases z)
  have gl8 := strip_at (p := p) nl8 (kp2 _ _ nl8 (at_new (at_new (at_new (at_new (at_new (at_new (at_new (at_new (at_new (at_new (at_new upd_same ht6) hl9) ht7) hl10) hl11) hl12) hl13) hl14) ht8) ht9) hq2)) (fun _ z => by cases z)
  have gt6 := strip_at (p := p) nt6 (kp2 _ _ nt6 (at_new (at_new (at_new (at_new (at_new (at_new (at_new (at_new (at_new (at_new upd_same hl9) ht7) hl10) hl11) hl12) hl13) hl14) ht8) ht9) hq2)) (fun _ z => by cases z)
  have gl9 := strip_at (p := p) nl9 (kp2 _ _ nl9 (at_new (at_new (at_new (at_new (at_new (at_new (at_new (at_new (at_new upd_same ht7) hl10) hl11) hl12) hl13) hl14) ht8) ht9) hq2)) (fun _ z => by cases z)
  have gt7 := strip_at (p := p) nt7 (kp2 _ _ nt7 (at_new (at_new (at_new (at_new (at_new (at_new (at_new (at_new upd_same hl10) hl11) hl12) hl13) hl14) ht8) ht9) hq2)) (fun _ z => by cases z)
  have gl10 := strip_at (p := p) nl10 (kp2 _ _ nl10 (at_new (at_new (at_new (at_new (at_new (at_new (at_new upd_same hl11) hl12) hl13) hl14) ht8) ht9) hq2)) (fun _ z => by cases z)
  have gl11 := strip_at (p := p) nl11 (kp2 _ _ nl11 (at_new (at_new (at_new (at_new (at_new (at_new upd_same hl12) hl13) hl14) ht8) ht9) hq2)) (fun _ z => by cases z)
  have gl12 := strip_at (p := p) nl12 (kp2 _ _ nl12 (at_new (at_new (at_new (at_new (at_new upd_same hl13) hl14) ht8) ht9) hq2)) (fun _ z => by cases z)
  have gl13 := strip_at (p := p) nl13 (kp2 _ _ nl13 (at_new (at_new (at_new (at_new upd_same hl14) ht8) ht9) hq2)) (fun _ z => by cases z)
  have gl14 := strip_at (p := p) nl14 (kp2 _ _ nl14 (at_new (at_new (at_new upd_same ht8) ht9) hq2)) (fun _ z => by cases z)
  have gt8 := strip_at (p := p) nt8 (kp2 _ _ nt8 (at_new (at_new upd_same ht9) hq2)) (fun _ z => by cases z)
  have gt9 := strip_at (p := p) nt9 (kp2 _ _ nt9 (at_new upd_same hq2)) (fun _ z => by cases z)
  have fb : ∃ t, Src 2 (strip p H2) bad t ∧ tiesT 3 t = false := by
    simp only [List.mem_cons, List.not_mem_nil, or_false] at hw
    rcases hw with rfl | rfl | rfl | rfl | rfl | rfl | rfl | rfl | rfl | rfl | rfl | rfl | rfl | rfl | rfl | rfl
    all_goals (apply Exists.intro; apply And.intro; (walk_at "src"); first | rfl | decide +kernel)
  have tb2 : Tabs (tabs A) H2 := tabs_keep (Tabs.ext tb1 (Same.new (Same.new (Same.new (Same.new (Same.new (Same.new (Same.new (Same.new (Same.new (Same.new (Same.new (Same.new (Same.new (Same.new (Same.new (Same.new (Same.new (Same.new (Same.new (Same.new (Same.new (Same.new (Same.new (Same.new (Same.new (fun _ _ h => h) hd1) hl1) ht1) hl2) ht2) hl3) ht3) hl4) ht4) hl5) hl6) hl7) ht5) hl8) ht6) hl9) ht7) hl10) hl11) hl12) hl13) hl14) ht8) ht9) hq2)) (kp_n kp2 (at_new (at_new (at_new (at_new (at_new (at_new (at_new (at_new (at_new (at_new (at_new (at_new (at_new (at_new (at_new (at_new (at_new (at_new (at_new (at_new (at_new (at_new (at_new (at_new (at_new hp1 hd1) hl1) ht1) hl2) ht2) hl3) ht3) hl4) ht4) hl5) hl6) hl7) ht5) hl8) ht6) hl9) ht7) hl10) hl11) hl12) hl13) hl14) ht8) ht9) hq2))
  have s12 : Same (strip p H1) (strip p H2) := Same.trans (strip_ss (Same.new (Same.new (Same.new (Same.new (Same.new (Same.new (Same.new (Same.new (Same.new (Same.new (Same.new (Same.new (Same.new (Same.new (Same.new (Same.new (Same.new (Same.new (Same.new (Same.new (Same.new (Same.new (Same.new (Same.new (Same.new (fun _ _ h => h) hd1) hl1) ht1) hl2) ht2) hl3) ht3) hl4) ht4) hl5) hl6) hl7) ht5) hl8) ht6) hl9) ht7) hl10) hl11) hl12) hl13) hl14) ht8) ht9) hq2)) (strip_kp kp2)
  obtain ⟨_, ms2, t2', l2', hp2, hc2, _⟩ := id bg2
  clear kp2 hw gd1 gl1 gt1 gl2 gt2 gl3 gt3 gl4 gt4 gl5 gl6 gl7 gt5 gl8 gt6 gl9 gt7 gl10 gl11 gl12 gl13 gl14 gt8 gt9
  -- webs that are apart
  refine ⟨_, rfl, ⟨Nat.zero_le _, fun b1 hb1 => ⟨by show 2 ≤ sizeLine; decide, fun c1 hc1 => ⟨by show 1 ≤ sizeLine; decide, fun b2 hb2 => ⟨by show 2 ≤ sizeLine; decide, fun c2 hc2 => ⟨by show 2 ≤ sizeLine; decide, fun c3 hc3 => ⟨by show 2 ≤ sizeLine; decide, fun b3 hb3 => ⟨by show 2 ≤ sizeLine; decide, fun c4 hc4 => ⟨by show 2 ≤ sizeLine; decide, fun c5 hc5 => ⟨by show 2 ≤ sizeLine; decide, fun c6 hc6 => ⟨by show 3 ≤ sizeLine; decide, fun b4 hb4 => ⟨by show 2 ≤ sizeLine; decide, fun c7 hc7 => ⟨by show 2 ≤ sizeLine; decide, fun c8 hc8 => ⟨by show 2 ≤ sizeLine; decide, fun c9 hc9 => ⟨by show 3 ≤ sizeLine; decide, fun b5 hb5 => ⟨by show 5 ≤ sizeLine; decide, fun q3 hq3 => ?_⟩⟩⟩⟩⟩⟩⟩⟩⟩⟩⟩⟩⟩⟩⟩⟩
  have nb1 : b1 ≠ p := (ne_of_none hp2 hb1).symm
  have nc1 : c1 ≠ p := (ne_of_none (at_new hp2 hb1) hc1).symm
  have nb2 : b2 ≠ p := (ne_of_none (at_new (at_new hp2 hb1) hc1) hb2).symm
  have nc2 : c2 ≠ p := (ne_of_none (at_new (at_new (at_new hp2 hb1) hc1) hb2) hc2).symm
  have nc3 : c3 ≠ p := (ne_of_none (at_new (at_new (at_new (at_new hp2 hb1) hc1) hb2) hc2) hc3).symm
  have nb3 : b3 ≠ p := (ne_of_none (at_new (at_new (at_new (at_new (at_new hp2 hb1) hc1) hb2) hc2) hc3) hb3).symm
  have nc4 : c4 ≠ p := (ne_of_none (at_new (at_new (at_new (at_new (at_new (at_new hp2 hb1) hc1) hb2) hc2) hc3) hb3) hc4).symm
  have nc5 : c5 ≠ p := (ne_of_none (at_new (at_new (at_new (at_new (at_new (at_new (at_new hp2 hb1) hc1) hb2) hc2) hc3) hb3) hc4) hc5).symm
  have nc6 : c6 ≠ p := (ne_of_none (at_new (at_new (at_new (at_new (at_new (at_new (at_new (at_new hp2 hb1) hc1) hb2) hc2) hc3) hb3) hc4) hc5) hc6).symm
  have nb4 : b4 ≠ p := (ne_of_none (at_new (at_new (at_new (at_new (at_new (at_new (at_new (at_new (at_new hp2 hb1) hc1) hb2) hc2) hc3) hb3) hc4) hc5) hc6) hb4).symm
  have nc7 : c7 ≠ p := (ne_of_none (at_new (at_new (at_new (at_new (at_new (at_new (at_new (at_new (at_new (at_new hp2 hb1) hc1) hb2) hc2) hc3) hb3) hc4) hc5) hc6) hb4) hc7).symm
  have nc8 : c8 ≠ p := (ne_of_none (at_new (at_new (at_new (at_new (at_new (at_new (at_new (at_new (at_new (at_new (at_new hp2 hb1) hc1) hb2) hc2) hc3) hb3) hc4) hc5) hc6) hb4) hc7) hc8).symm
  have nc9 : c9 ≠ p := (ne_of_none (at_new (at_new (at_new (at_new (at_new (at_new (at_new (at_new (at_new (at_new (at_new (at_new hp2 hb1) hc1) hb2) hc2) hc3) hb3) hc4) hc5) hc6) hb4) hc7) hc8) hc9).symm
  have nb5 : b5 ≠ p := (ne_of_none (at_new (at_new (at_new (at_new (at_new (at_new (at_new (at_new (at_new (at_new (at_new (at_new (at_new hp2 hb1) hc1) hb2) hc2) hc3) hb3) hc4) hc5) hc6) hb4) hc7) hc8) hc9) hb5).symm
  have nq3 : q3 ≠ p := (ne_of_none (at_new (at_new (at_new (at_new (at_new (at_new (at_new (at_new (at_new (at_new (at_new (at_new (at_new (at_new hp2 hb1) hc1) hb2) hc2) hc3) hb3) hc4) hc5) hc6) hb4) hc7) hc8) hc9) hb5) hq3).symm
  refine ⟨p, c, q3, n + 2, _, rfl, (Bg.new (Bg.new (Bg.new (Bg.new (Bg.new (Bg.new (Bg.new (Bg.new (Bg.new (Bg.new (Bg.new (Bg.new (Bg.new (Bg.new (Bg.new bg2 hb1) hc1) hb2) hc2) hc3) hb3) hc4) hc5) hc6) hb4) hc7) hc8) hc9) hb5) hq3), by omega, upd_same, nq3, by show 1 ≤ 5; decide, by show 5 ≤ 1000; decide, fun apart H3 hu kp3 bg3 => ?_⟩
  have gb1 := strip_at (p := p) nb1 (kp3 _ _ nb1 (at_new (at_new (at_new (at_new (at_new (at_new (at_new (at_new (at_new (at_new (at_new (at_new (at_new (at_new upd_same hc1) hb2) hc2) hc3) hb3) hc4) hc5) hc6) hb4) hc7) hc8) hc9) hb5) hq3)) (fun _ z => by cases z)
  have gc1 := strip_at (p := p) nc1 (kp3 _ _ nc1 (at_new (at_new (at_new (at_new (at_new (at_new (at_new (at_new (at_new (at_new (at_new (at_new (at_new upd_same hb2) hc2) hc3) hb3) hc4) hc5) hc6) hb4) hc7) hc8) hc9) hb5) hq3)) (fun _ z => by cases z)
  have gb2 := strip_at (p := p) nb2 (kp3 _ _ nb2 (at_new (at_new (at_new (at_new (at_new (at_new (at_new (at_new (at_new (at_new (at_new (at_new upd_same hc2) hc3) hb3) hc4) hc5) hc6) hb4) hc7) hc8) hc9) hb5) hq3)) (fun _ z => by cases z)
  have gc2 := strip_at (p := p) nc2 (kp3 _ _ nc2 (at_new (at_new (at_new (at_new (at_new (at_new (at_new (at_new (at_new (at_new (at_new upd_same hc3) hb3) hc4) hc5) hc6) hb4) hc7) hc8) hc9) hb5) hq3)) (fun _ z => by cases z)
  have gc3 := strip_at (p := p) nc3 (kp3 _ _ nc3 (at_new (at_new (at_new (at_new (at_new (at_new (at_new (at_new (at_new (at_new upd_same hb3) hc4) hc5) hc6) hb4) hc7) hc8) hc9) hb5) hq3)) (fun _ z => by cases z)
  have gb3 := strip_at (p := p) nb3 (kp3 _ _ nb3 (at_new (at_new (at_new (at_new (at_new (at_new (at_new (at_new (at_new upd_same hc4) hc5) hc6) hb4) hc7) hc8) hc9) hb5) hq3)) (fun _ z => by cases z)
  have gc4 := strip_at (p := p) nc4 (kp3 _ _ nc4 (at_new (at_new (at_new (at_new (at_new (at_new (at_new (at_new upd_same hc5) hc6) hb4) hc7) hc8) hc9) hb5) hq3)) (fun _ z => by cases z)
  have gc5 := strip_at (p := p) nc5 (kp3 _ _ nc5 (at_new (at_new (at_new (at_new (at_new (at_new (at_new upd_same hc6) hb4) hc7) hc8) hc9) hb5) hq3)) (fun _ z => by cases z)
  have gc6 := strip_at (p := p) nc6 (kp3 _ _ nc6 (at_new (at_new (at_new (at_new (at_new (at_new upd_same hb4) hc7) hc8) hc9) hb5) hq3)) (fun _ z => by cases z)
  have gb4 := strip_at (p := p) nb4 (kp3 _ _ nb4 (at_new (at_new (at_new (at_new (at_new upd_same hc7) hc8) hc9) hb5) hq3)) (fun _ z => by cases z)
  have gc7 := strip_at (p := p) nc7 (kp3 _ _ nc7 (at_new (at_new (at_new (at_new upd_same hc8) hc9) hb5) hq3)) (fun _ z => by cases z)
  have gc8 := strip_at (p := p) nc8 (kp3 _ _ nc8 (at_new (at_new (at_new upd_same hc9) hb5) hq3)) (fun _ z => by cases z)
  have gc9 := strip_at (p := p) nc9 (kp3 _ _ nc9 (at_new (at_new upd_same hb5) hq3)) (fun _ z => by cases z)
  have gb5 := strip_at (p := p) nb5 (kp3 _ _ nb5 (at_new upd_same hq3)) (fun _ z => by cases z)
  have fa : ∃ a ps, apart = .ref a ∧ PrsA (strip p H3) a ps ∧ ps.length ≤ 12 ∧ MC.Below 3 ps ∧ hang 3 ps = false := by
    simp only [List.mem_cons, List.not_mem_nil, or_false] at hu
    rcases hu with rfl | rfl | rfl | rfl | rfl
    · exact ⟨b1, [], rfl, ⟨_, .inl gb1, .nil⟩, by decide, by unfold MC.Below; decide, by decide +kernel⟩
    · exact ⟨b2, [(0, 1)], rfl, ⟨_, .inl gb2, .cons ⟨_, rfl, .inr gc1⟩ .nil⟩, by decide, by unfold MC.Below; decide, by decide +kernel⟩
    · exact ⟨b3, [(1, 2), (2, 1)], rfl, ⟨_, .inl gb3, .cons ⟨_, rfl, .inr gc2⟩ (.cons ⟨_, rfl, .inr gc3⟩ .nil)⟩, by decide, by unfold MC.Below; decide, by decide +kernel⟩
    · exact ⟨b4, [(0, 0), (1, 1), (2, 2)], rfl, ⟨_, .inl gb4, .cons ⟨_, rfl, .inr gc4⟩ (.cons ⟨_, rfl, .inr gc5⟩ (.cons ⟨_, rfl, .inr gc6⟩ .nil))⟩, by decide, by unfold MC.Below; decide, by decide +kernel⟩
    · exact ⟨b5, [(2, 0), (0, 2), (1, 1)], rfl, ⟨_, .inl gb5, .cons ⟨_, rfl, .inr gc7⟩ (.cons ⟨_, rfl, .inr gc8⟩ (.cons ⟨_, rfl, .inr gc9⟩ .nil))⟩, by decide, by unfold MC.Below; decide, by decide +kernel⟩
  have tb3 : Tabs (tabs A) H3 := tabs_keep (Tabs.ext tb2 (Same.new (Same.new (Same.new (Same.new (Same.new (Same.new (Same.new (Same.new (Same.new (Same.new (Same.new (Same.new (Same.new (Same.new (Same.new (fun _ _ h => h) hb1) hc1) hb2) hc2) hc3) hb3) hc4) hc5) hc6) hb4) hc7) hc8) hc9) hb5) hq3)) (kp_n kp3 (at_new (at_new (at_new (at_new (at_new (at_new (at_new (at_new (at_new (at_new (at_new (at_new (at_new (at_new (at_new hp2 hb1) hc1) hb2) hc2) hc3) hb3) hc4) hc5) hc6) hb4) hc7) hc8) hc9) hb5) hq3))
  have s23 : Same (strip p H2) (strip p H3) := Same.trans (strip_ss (Same.new (Same.new (Same.new (Same.new (Same.new (Same.new (Same.new (Same.new (Same.new (Same.new (Same.new (Same.new (Same.new (Same.new (Same.new (fun _ _ h => h) hb1) hc1) hb2) hc2) hc3) hb3) hc4) hc5) hc6) hb4) hc7) hc8) hc9) hb5) hq3)) (strip_kp kp3)
  clear kp3 hu gb1 gc1 gb2 gc2 gc3 gb3 gc4 gc5 gc6 gb4 gc7 gc8 gc9 gb5
  have fo3 : OkV (strip p H3) odd := fo.1.mono fun b o _ e => s23 _ _ (s12 _ _ e)
  obtain ⟨tr, ft, ff⟩ := fb
  have ft3 := ft.same s23
  obtain ⟨fti, ftb⟩ := src_ti (n := 3) ft3
  rw [ff] at ftb
  obtain ⟨pa, ps, rfl, fp, fl, fbl, fh⟩ := fa
  clear ft ff ft3 s12 s23 bg1 bg2 tb1 tb2 hp1 hc1 hp2 hc2
  clear ha1 ha2 hq1 hd1 hl1 ht1 hl2 ht2 hl3 ht3 hl4 ht4 hl5 hl6 hl7 ht5 hl8 ht6 hl9 ht7 hl10 hl11 hl12 hl13 hl14 ht8 ht9 hq2 hb1 hc1 hb2 hc2 hc3 hb3 hc4 hc5 hc6 hb4 hc7 hc8 hc9 hb5 hq3
  refine first_heard (w := some [.str "web", .str "places"]) (m := n + 3) tb3 strip_same strip_p strip_nn bg3 (fun E H4 R ss bg4 he _ => ?_) fun hd v1 H4 hh1 => ?_
  · exact ⟨_, rfl, _, rfl, mk_places (fun x => rfl) (fo3.mono fun b o _ e => ss _ _ e) fo.2 (out_web (Kp.refl _ _) bg4 he)⟩
  refine next_heard (w := some [.str "web", .str "places"]) (m := n + 3) hh1 (by show 1 + 1 ≤ 100; decide) rfl (fun E H4 R ss bg4 he _ => ?_) fun v2 H4 hh2 => ?_
  · exact ⟨_, rfl, _, rfl, mk_places (fun x => rfl) (fo3.mono fun b o _ e => ss _ _ e) fo.2 (out_web (Kp.refl _ _) bg4 he)⟩
  refine next_heard (w := some [.str "web", .str "ties"]) (m := n + 3) hh2 (by show 2 + 1 ≤ 100; decide) rfl (fun E H4 R ss bg4 he _ => ?_) fun v3 H4 hh3 => ?_
  · exact ⟨_, rfl, mk_ties (m := 3) (fun x => rfl) (by decide) (by decide) (fti.same ss) ((tiesB_same fti ss).trans ftb) (out_web (Kp.refl _ _) bg4 he)⟩
  refine next_heard (w := some [.str "web", .str "apart"]) (m := n + 3) hh3 (by show 3 + 1 ≤ 100; decide) rfl (fun E H4 R ss bg4 he _ => ?_) fun v4 H4 hh4 => ?_
  · exact ⟨_, rfl, mk_apart (m := 3) (fun x => rfl) (by decide) (by decide) fl (fp.same ss) fbl fh (out_web (Kp.refl _ _) bg4 he)⟩
  refine next_heard (w := some [.str "web", .str "apart"]) (m := n + 4) hh4 (by show 4 + 1 ≤ 100; decide) rfl (fun E H4 R ss bg4 he _ => ?_) fun v5 H4 hh5 => ?_
  · refine ⟨_, rfl, by show 3 ≤ sizeLine; decide, fun q hq => ?_⟩
    obtain ⟨_, ms4, t4', l4', hp4, hc4, _⟩ := id bg4
    refine ⟨p, c, q, n + 3, _, rfl, bg4.new hq, by omega, upd_same, (ne_of_none hp4 hq).symm, by show 1 ≤ 3; decide, by show 3 ≤ 1000; decide, fun v H5 hv kp5 bg5 => ⟨Nat.zero_le _, fun e he' => ?_⟩⟩
    have kp6 : Kp p H4 (upd H5 e (.lst [])) := ((Kp.of_same (Same.new (fun _ _ h => h) hq)).trans kp5).trans (Kp.of_same (Same.new (fun _ _ h => h) he'))
    have fv : ∃ m : Nat, v = .int (m : Int) ∧ 1 ≤ m ∧ m ≤ 13 ∧ hang m [] = false := by
      simp only [List.mem_cons, List.not_mem_nil, or_false] at hv
      rcases hv with rfl | rfl | rfl
      · exact ⟨2, rfl, by decide, by decide, by decide +kernel⟩
      · exact ⟨13, rfl, by decide, by decide, by decide +kernel⟩
      · exact ⟨7, rfl, by decide, by decide, by decide +kernel⟩
    obtain ⟨m, rfl, m1, m13, mh⟩ := fv
    exact mk_apart (m := m) (ps := []) (fun x => rfl) m1 m13 (by decide) ⟨_, .inl upd_same, .nil⟩ (fun r hr => by cases hr) mh (out_web kp6 (bg5.new he') he)
  refine next_heard (w := none) (m := n + 4) hh5 (by show 5 + 1 ≤ 100; decide) rfl (fun E H4 R ss bg4 _ hn4 => ?_) fun v6 H4 hh6 => ?_
  · refine ⟨by show 2 ≤ sizeLine; decide, fun t1 g1 => ⟨by show 2 ≤ sizeLine; decide, fun t2 g2 => ⟨by show 2 ≤ sizeLine; decide, fun l1 g3 => ⟨by show 2 ≤ sizeLine; decide, fun t3 g4 => ⟨by show 1 ≤ sizeLine; decide, fun l2 g5 => ⟨l2, 10, _, rfl, rfl, upd_same, by decide, by decide, by show 1 * 10 ≤ sizeLine; decide, fun l3 g6 => ?_⟩⟩⟩⟩⟩⟩
    refine ⟨l1, l3, _, _, rfl, rfl, at_new (at_new (at_new upd_same g4) g5) g6, upd_same, by show 2 + 10 ≤ sizeLine; decide, fun l4 g7 => ?_⟩
    have pp : Paired (PrI (upd (upd (upd (upd (upd (upd (upd H4 t1 (.tup [.int 0, .int 1])) t2 (.tup [.int 1, .int 2])) l1 (.lst [.ref t1, .ref t2])) t3 (.tup [.int 0, .int 2])) l2 (.lst [.ref t3])) l3 (.lst (List.replicate (Int.toNat 10) [V.ref t3]).flatten)) l4 (.lst ([V.ref t1, V.ref t2] ++ (List.replicate (Int.toNat 10) [V.ref t3]).flatten)))) ([V.ref t1, V.ref t2] ++ (List.replicate (Int.toNat 10) [V.ref t3]).flatten) ([(0, 1), (1, 2)] ++ List.replicate 10 (0, 2)) := by
      refine paired_app (paired_rep ⟨t3, rfl, .inr (at_new (at_new (at_new upd_same g5) g6) g7)⟩ 10) (.cons ⟨t1, rfl, .inr (at_new (at_new (at_new (at_new (at_new (at_new upd_same g2) g3) g4) g5) g6) g7)⟩ (.cons ⟨t2, rfl, .inr (at_new (at_new (at_new (at_new (at_new upd_same g3) g4) g5) g6) g7)⟩ .nil))
    have sm := Same.new (o := .lst ([V.ref t1, V.ref t2] ++ (List.replicate (Int.toNat 10) [V.ref t3]).flatten)) (Same.new (Same.new (Same.new (Same.new (Same.new (Same.new (fun _ _ h => h : Same H4 H4) g1) g2) g3) g4) g5) g6) g7
    refine mk_web (m := 3) (ps := [(0, 1), (1, 2)] ++ List.replicate 10 (0, 2)) (fun x => rfl) (by decide) (by decide) (by decide) ⟨_, .inl upd_same, pp⟩ (by unfold MC.Below; decide) (by decide +kernel) fun y H6 s6 hy => ?_
    exact hn4 rfl _ _ (Kp.of_same (sm.trans s6)) ((bg4.keep (sm.trans s6)).le (by omega))
  refine ⟨_, rfl, by show 2 ≤ sizeLine; decide, fun w1 hw1 => ⟨by show 1 ≤ sizeLine; decide, fun m1 hm1 => ⟨m1, 2, _, rfl, rfl, upd_same, by decide, by decide, by show 1 * 2 ≤ sizeLine; decide, fun m2 hm2 => ⟨by show 2 ≤ sizeLine; decide, fun w2 hw2 => ⟨by show 2 ≤ sizeLine; decide, fun w3 hw3 => ⟨by show 2 ≤ sizeLine; decide, fun w4 hw4 => ⟨by show 4 ≤ sizeLine; decide, fun m3 hm3 => ⟨m2, m3, _, _, rfl, rfl, at_new (at_new (at_new (at_new upd_same hw2) hw3) hw4) hm3, upd_same, by show 2 + 4 ≤ sizeLine; decide, fun m4 hm4 => ?_⟩⟩⟩⟩⟩⟩⟩⟩
  refine eq_heard (hh6.on (Same.new (Same.new (Same.new (Same.new (Same.new (Same.new (Same.new (Same.new (fun _ _ h => h) hw1) hm1) hm2) hw2) hw3) hw4) hm3) hm4)) upd_same (.cons ⟨_, rfl, (at_new (at_new (at_new (at_new (at_new (at_new (at_new upd_same hm1) hm2) hw2) hw3) hw4) hm3) hm4)⟩ (.cons ⟨_, rfl, (at_new (at_new (at_new (at_new (at_new (at_new (at_new upd_same hm1) hm2) hw2) hw3) hw4) hm3) hm4)⟩ (.cons ⟨_, rfl, (at_new (at_new (at_new (at_new upd_same hw3) hw4) hm3) hm4)⟩ (.cons ⟨_, rfl, (at_new (at_new (at_new upd_same hw4) hm3) hm4)⟩ (.cons ⟨_, rfl, (at_new (at_new upd_same hm3) hm4)⟩ (.cons rfl .nil)))))) (by decide +kernel) (by decide +kernel) (by decide +kernel) ?_
  exact k _ (hh6.bg.keep (Same.new (Same.new (Same.new (Same.new (Same.new (Same.new (Same.new (Same.new (fun _ _ h => h) hw1) hm1) hm2) hw2) hw3) hw4) hm3) hm4)) (hh6.tb.ext (Same.new (Same.new (Same.new (Same.new (Same.new (Same.new (Same.new (Same.new (fun _ _ h => h) hw1) hm1) hm2) hw2) hw3) hw4) hm3) hm4))
/-! ### either end of a tie bent -/
def rTupOf (K : PySem.W.Frag) : List V → Hp → VK → Prop := fun xs H Q => ∃ p ys, xs = [V.ref p] ∧ ((SqL K H p ys ∧ ∀ l, H l = none → Q (.ref l) (upd H l (.tup ys))) ∨ (SqT K H p ys ∧ Q (.ref p) H))
/-- a list of two ends, apart from p and g -/
def PrL (p g : Addr) (H : Hp) (x : V) (q : Nat × Nat) : Prop := ∃ t, x = .ref t ∧ t ≠ p ∧ t ≠ g ∧ H t = some (.lst [.int (q.1 : Int), .int (q.2 : Int)])
theorem PrL.kp {p g : Addr} {H H' : Hp} {x : V} {q : Nat × Nat} (h : PrL p g H x q) (k : Kp p H H') : PrL p g H' x q := by
  obtain ⟨t, e, n1, n2, z⟩ := h
  exact ⟨t, e, n1, n2, k _ _ n1 z⟩
theorem PrL.new {p g t : Addr} {H : Hp} {x : V} {q : Nat × Nat} {o u : HO} (h : PrL p g H x q) (ht : H t = none) : PrL p g (upd (upd H t o) g u) x q := by
  obtain ⟨t', e, n1, n2, z⟩ := h
  exact ⟨t', e, n1, n2, by rw [upd_ne n2]; exact at_new z ht⟩
/-- a copy, new at H0 -/
def CL (H0 : Hp) (D : Addr) (H : Hp) (x : V) (q : Nat × Nat) : Prop := ∃ t, x = .ref t ∧ H0 t = none ∧ t ≠ D ∧ H t = some (.lst [.int (q.1 : Int), .int (q.2 : Int)])
/-- two items, flat; one of them no end -/
def GI (H : Hp) (y : V) : Prop := ∃ t a b, y = .ref t ∧ H t = some (.lst [a, b]) ∧ OkV H a ∧ OkV H b
def BI (H : Hp) (m : Int) (y : V) : Prop := ∃ t a b, y = .ref t ∧ H t = some (.lst [a, b]) ∧ (inB m a && inB m b) = false
def GX (H : Hp) (y : V) : Prop := ∃ t a b, y = .ref t ∧ SqX H t [a, b] ∧ OkV H a ∧ OkV H b
def BX (H : Hp) (m : Int) (y : V) : Prop := ∃ t a b, y = .ref t ∧ SqX H t [a, b] ∧ (inB m a && inB m b) = false
theorem GI.sx {H : Hp} {y : V} (h : GI H y) : GX H y := by
  obtain ⟨t, a, b, e, z, r⟩ := h
  exact ⟨t, a, b, e, .inl z, r⟩
theorem BI.sx {H : Hp} {y : V} {m : Int} (h : BI H m y) : BX H m y := by
  obtain ⟨t, a, b, e, z, r⟩ := h
  exact ⟨t, a, b, e, .inl z, r⟩
theorem GX.same {H H' : Hp} {y : V} (h : GX H y) (s : Same H H') : GX H' y := by
  obtain ⟨t, a, b, e, z, o1, o2⟩ := h
  exact ⟨t, a, b, e, z.same s, o1.mono fun a o _ e => s _ _ e, o2.mono fun a o _ e => s _ _ e⟩
theorem BX.same {H H' : Hp} {y : V} {m : Int} (h : BX H m y) (s : Same H H') : BX H' m y := by
  obtain ⟨t, a, b, e, z, r⟩ := h
  exact ⟨t, a, b, e, z.same s, r⟩
theorem tie_bad {H : Hp} {v : V} {ys : List V} {m : Int} (hs : seqOf H v = some ys) (hl : ys.length ≤ 12) (okv : OkV H v) (ok : ∀ y ∈ ys, GX H y) (bad : ∃ y ∈ ys, BX H m y) : TiOk H v ∧ tiesB H m v = false := by
  refine ⟨⟨okv, fun xs h => ?_⟩, ?_⟩
  · rw [hs] at h
    cases h
    refine ⟨by omega, fun y hy => ?_⟩
    obtain ⟨t, a, b, rfl, z, o1, o2⟩ := ok y hy
    refine ⟨z.ok, fun xs h => ?_⟩
    rw [seqOf_sqx z] at h
    cases h
    refine ⟨by show 2 ≤ 1000; decide, fun w hw => ?_⟩
    rcases List.mem_cons.mp hw with rfl | hw
    · exact o1
    · rw [List.mem_singleton.mp hw]
      exact o2
  · obtain ⟨y, hy, t, a, b, rfl, z, r⟩ := bad
    have pf : pairB H m (.ref t) = false := by
      simp only [pairB, seqOf_sqx z, List.all_cons, List.all_nil, Bool.and_true, r, Bool.and_false]
    simp only [tiesB, hs]
    have : ys.all (pairB H m) = false := by
      rw [Bool.eq_false_iff]
      intro h
      have := List.all_eq_true.mp h _ hy
      rw [pf] at this
      cases this
    rw [this, Bool.and_false]
theorem ixN_at {n j : Nat} (hj : j < n) : ixN n (j : Int) = some j := by
  unfold ixN
  rw [if_pos (by omega), if_pos (by omega)]
  simp
/-- the same of tuples, apart from D -/
def GY (D : Addr) (H : Hp) (y : V) : Prop := ∃ t a b, y = .ref t ∧ t ≠ D ∧ H t = some (.tup [a, b]) ∧ OkV H a ∧ OkV H b
def BY (D : Addr) (H : Hp) (m : Int) (y : V) : Prop := ∃ t a b, y = .ref t ∧ t ≠ D ∧ H t = some (.tup [a, b]) ∧ (inB m a && inB m b) = false
theorem GY.gx {D : Addr} {H : Hp} {y : V} (h : GY D H y) : GX H y := by
  obtain ⟨t, a, b, e, _, z, r⟩ := h
  exact ⟨t, a, b, e, .inr z, r⟩
theorem BY.bx {D : Addr} {H : Hp} {y : V} {m : Int} (h : BY D H m y) : BX H m y := by
  obtain ⟨t, a, b, e, _, z, r⟩ := h
  exact ⟨t, a, b, e, .inr z, r⟩
theorem okV_put {H : Hp} {D l : Addr} {zs ws : List V} {o : HO} {v : V} (h : OkV H v) (hD : H D = some (.lst zs)) (hl : H l = none) : OkV (upd (upd H l o) D (.lst ws)) v := by
  cases v with
  | ref a =>
    by_cases e : a = D
    · subst e
      exact .inl ⟨ws, upd_same⟩
    · exact h.mono fun b u eb hb => by
        cases eb
        rw [upd_ne e]
        exact at_new hb hl
  | _ => exact h
theorem ne_heard {H : Hp} {hd b : Addr} {items ys : List V} {ds : List (Option (List V))} {Q : VK} (h : H hd = some (.lst items) ∧ Paired (HI H) items ds) (hb : H b = some (.lst ys)) (py : Paired (HI H) ys ds) (fl : ds.all flatI = true)
    (sh : SeqAt.shaped (.list (ds.map datI)) = true) (ev : PyData.eqv (.list (ds.map datI)) (.list (ds.map datI)) = true) (k : Q (.bl false) H) : rNeD K (.ref hd) (.ref b) H Q := by
  refine ⟨_, _, .lst (SqL.of h.1) (dp_items h.2 fl), .lst (SqL.of hb) (dp_items py fl), sh, sh, ?_⟩
  rw [ev]
  exact k
theorem G__law_ends_right (T : Txt P K mg A) (TB : TabB base mg A.k__law_ends_right A.t__law_ends_right) (ne : NE A) : FnG P w K mg base CX0 15 A.a__law_ends_right A.d__law_ends_right P__law_ends_right (sp_part A 40) := by
  refine okGC T.F__law_ends_right sc__law_ends_right (fun vs H Q E h => ?_) (fun A0 outer s H vs Q E hr h => ?_)
  · obtain ⟨p, c, n, rfl, _⟩ := h
    rfl
  obtain ⟨p, c, n, rfl, bg, hn, tb, k⟩ := h
  refine ⟨_, (pss_cons (ps_asg (pe_tup (pa_cons (pe_op op_add pe_int (pe_callG (G__law_push T) (hr.mono (by decide)) rfl T.g__law_push T.F__law_push.kp T.b__law_push .nil pass0 (pa_cons (pv 0) (pa_cons pe_int pa_nil)))) (pa_cons (pe_lst pa_nil) pa_nil))) (pg_tup rfl (pgs_cons (pg_name (i := 1) sc__law_ends_right.nd rfl (Or.inr rfl)) (pgs_cons (pg_name (i := 2) sc__law_ends_right.nd rfl (Or.inr rfl)) pgs_nil))))
      (pss_cons (ps_for PassesOwn.never rfl (pi_range2 (by rfl) T.n_range (pa_cons pe_int (pa_cons (pv 1) pa_nil))) (pg_name (i := 3) sc__law_ends_right.nd rfl (Or.inl rfl)) (pss_one (ps_expr (pe_bm PySem.F.plainAttrs_list PySem.F.slot_list_append PySem.F.type_list_append mt_append (pv 2) (pa_cons (pe_ifExp (pt_cmpR op_eq (pe_callG (G__law_push T) (hr.mono (by decide)) rfl T.g__law_push T.F__law_push.kp T.b__law_push .nil pass0 (pa_cons (pv 0) (pa_cons pe_int pa_nil))) pe_int (nomark _)) (pe_lst (pa_cons (pe_op op_sub (pv 3) pe_int) (pa_cons (pv 3) pa_nil))) (pe_lst (pa_cons (pv 3) (pa_cons (pe_op op_sub (pv 3) pe_int) pa_nil)))) pa_nil)))))
      (pss_cons (ps_set (i := 2) sc__law_ends_right.nd rfl (Or.inr rfl) (pe_op op_cat (pv 2) (pe_op op_rep (pe_lst (pa_cons (pe_lst (pa_cons pe_int (pa_cons pe_int pa_nil))) pa_nil)) (pe_callG (G__law_push T) (hr.mono (by decide)) rfl T.g__law_push T.F__law_push.kp T.b__law_push .nil pass0 (pa_cons (pv 0) (pa_cons (pe_op op_sub pe_int (pv 1)) pa_nil))))))
      (pss_cons (ps_if (pt_cmpR op_notN (pe_lamG (T := tabs A) (t := fun E => (tMkG A.c_Web (sp_webi K A.c_Web A.c_BadWeb) E (tCons (tVar 1) (tCons (tVar 2) tNil)))) rfl T.g__law_heard T.F__law_heard T.b__law_heard sc__law_heard rfl (Or.inl rfl) (heard_gives T) TB rfl (List.mem_cons_of_mem _ List.mem_cons_self) (tabs_u1 ne) (k := 12) (hr.mono (by decide)) (lamS_by (sc := defScope s__law_ends_right) (by decide +kernel)) rfl (fun _ _ _ _ _ => rfl) (fun A1 outer1 s1 H1 E1 f1 c1 hr1 => (pe_mkG (E := E1) T.M_Web (G_Web___init__ T) (hr1.mono (by decide)) rfl T.g_Web T.b_Web___init__ (passes_call (takes_of rfl rfl rfl rfl) (fun _ _ _ _ h => h)) (pa_cons (pv 1) (pa_cons (pv 2) pa_nil))))) pe_non (nomark _)) (pss_one (ps_ret pe_bl)) pss_nil)
      (pss_cons (ps_for PassesOwn.never rfl (pi_range1 (by rfl) T.n_range (pa_cons pe_int pa_nil)) (pg_name (i := 4) sc__law_ends_right.nd rfl (Or.inl rfl)) (pss_cons (ps_asg (pe_tup (pa_cons (pe_callG (G__law_push T) (hr.mono (by decide)) rfl T.g__law_push T.F__law_push.kp T.b__law_push .nil pass0 (pa_cons (pv 0) (pa_cons (pe_callB call_len_seq (by rfl) T.n_len (by decide +kernel) (pa_cons (pv 2) pa_nil)) pa_nil))) (pa_cons (pe_lc (own := [("ends", 8)]) (g := gName 8) (tt := tYes) (te := tCB (rListOf K) (tCons (tVar 8) tNil)) rfl sc__law_ends_right.nd (pi_list (pv 2)) (blkOk_by (N := N__law_ends_right) (sc := defScope s__law_ends_right) (by decide +kernel)) (fun _ _ _ _ _ => (pg_name (i := 8) sc__law_ends_right.nd rfl (Or.inl rfl))) (fun _ _ _ _ _ => pts_nil) (fun _ _ _ _ _ => (pe_callTy (T := "list") call_list_of (by rfl) T.n_list (by decide +kernel) (pa_cons (pv 8) pa_nil)))) pa_nil))) (pg_tup rfl (pgs_cons (pg_name (i := 5) sc__law_ends_right.nd rfl (Or.inl rfl)) (pgs_cons (pg_name (i := 6) sc__law_ends_right.nd rfl (Or.inr rfl)) pgs_nil))))
      (pss_cons (ps_asg (pe_callG (G__law_any T) (hr.mono (by decide)) rfl T.g__law_any T.F__law_any.kp T.b__law_any .nil pass0 (pa_cons (pv 0) (pa_cons (pe_lst (pa_cons pe_bl (pa_cons pe_bl (pa_cons pe_non (pa_cons (pe_un un_neg pe_int) (pa_cons (pv 1) (pa_cons pe_str (pa_cons (pe_lst (pa_cons pe_int pa_nil)) (pa_cons (pe_op op_pow pe_int pe_int) pa_nil))))))))) pa_nil))) (pg_sub (pe_ix (r := rIxL K) ix_list (pv 6) (pv 5) (fun _ _ => rfl)) (pe_callG (G__law_push T) (hr.mono (by decide)) rfl T.g__law_push T.F__law_push.kp T.b__law_push .nil pass0 (pa_cons (pv 0) (pa_cons pe_int pa_nil))) set_list))
      (pss_cons (ps_set (i := 7) sc__law_ends_right.nd rfl (Or.inl rfl) (pe_lst (pa_cons (pe_lamG (T := tabs A) (t := fun E => (tMkG A.c_Web (sp_webi K A.c_Web A.c_BadWeb) E (tCons (tVar 1) (tCons (tVar 6) tNil)))) rfl T.g__law_heard T.F__law_heard T.b__law_heard sc__law_heard rfl (Or.inl rfl) (heard_gives T) TB rfl (List.mem_cons_of_mem _ List.mem_cons_self) (tabs_u1 ne) (k := 12) (hr.mono (by decide)) (lamS_by (sc := defScope s__law_ends_right) (by decide +kernel)) rfl (fun _ _ _ _ _ => rfl) (fun A1 outer1 s1 H1 E1 f1 c1 hr1 => (pe_mkG (E := E1) T.M_Web (G_Web___init__ T) (hr1.mono (by decide)) rfl T.g_Web T.b_Web___init__ (passes_call (takes_of rfl rfl rfl rfl) (fun _ _ _ _ h => h)) (pa_cons (pv 1) (pa_cons (pv 6) pa_nil))))) pa_nil)))
      (pss_cons (ps_expr (pe_bm PySem.F.plainAttrs_list PySem.F.slot_list_append PySem.F.type_list_append mt_append (pv 7) (pa_cons (pe_lamG (T := tabs A) (t := fun E => (tMkG A.c_Web (sp_webi K A.c_Web A.c_BadWeb) E (tCons (tVar 1) (tCons (tLc (iList K (tVar 6)) (gName 8) tYes (tCB (rTupOf K) (tCons (tVar 8) tNil)) [8]) tNil)))) rfl T.g__law_heard T.F__law_heard T.b__law_heard sc__law_heard rfl (Or.inl rfl) (heard_gives T) TB rfl (List.mem_cons_of_mem _ List.mem_cons_self) (tabs_u1 ne) (k := 12) (hr.mono (by decide)) (lamS_by (sc := defScope s__law_ends_right) (by decide +kernel)) rfl (fun _ _ _ _ _ => rfl) (fun A1 outer1 s1 H1 E1 f1 c1 hr1 => (pe_mkG (E := E1) T.M_Web (G_Web___init__ T) (hr1.mono (by decide)) rfl T.g_Web T.b_Web___init__ (passes_call (takes_of rfl rfl rfl rfl) (fun _ _ _ _ h => h)) (pa_cons (pv 1) (pa_cons (pe_lc (own := [("ends", 8)]) (g := gName 8) (tt := tYes) (te := tCB (rTupOf K) (tCons (tVar 8) tNil)) rfl sc__law_ends_right.nd (pi_list (pv 6)) (blkOk_by (by rfl)) (fun _ _ _ _ _ => (pg_name (i := 8) sc__law_ends_right.nd rfl (Or.inl rfl))) (fun _ _ _ _ _ => pts_nil) (fun _ _ _ _ _ => (pe_callTy (T := "tuple") call_tuple_of (by rfl) T.n_tuple (by decide +kernel) (pa_cons (pv 8) pa_nil)))) pa_nil))))) pa_nil)))
      (pss_one (ps_if (pt_cmpR (op_neD hr.room.units) (pv 7) (pe_op op_rep (pe_lst (pa_cons (pe_tup (pa_cons pe_str (pa_cons pe_str pa_nil))) pa_nil)) pe_int) (nomark _)) (pss_one (ps_ret pe_bl)) pss_nil)))))))
      (pss_one (ps_ret pe_bl))))))), ?_⟩
  obtain ⟨_, ms0, t0, l0, hp0, hc0, _⟩ := id bg
  -- how many places
  refine ⟨_, rfl, p, c, n, 12, rfl, bg, by omega, by decide, by decide, fun x H1 x0 x1 kp1 bg1 => ⟨_, _, rfl, rfl, Nat.zero_le _, fun g hg => ⟨by show 2 ≤ sizeLine; decide, fun t ht => ⟨t, _, rfl, SqT.of upd_same, rfl, _, _, rfl, _, _, rfl, rfl, ?_⟩⟩⟩⟩
  obtain ⟨m, em, m2, m13⟩ : ∃ m : Nat, 2 + x = (m : Int) ∧ 2 ≤ m ∧ m ≤ 13 := ⟨(2 + x).toNat, by omega, by omega, by omega⟩
  try dsimp only
  rw [em]
  obtain ⟨_, ms1, t1, l1, hp1, hc1, _⟩ := id bg1
  have ngp : g ≠ p := (ne_of_none hp1 hg).symm
  have ngc : g ≠ c := (ne_of_none hc1 hg).symm
  have tb2 := ((tabs_keep tb (kp_n kp1 hp0)).ext (Same.new (o := .lst []) (fun _ _ h => h) hg)).ext (Same.new (o := .tup [.int (m : Int), .ref g]) (fun _ _ h => h) ht)
  have bg2 := (bg1.new (o := .lst []) hg).new (o := .tup [.int (m : Int), .ref g]) ht
  have hg2 := at_new (u := .tup [.int (m : Int), .ref g]) (upd_same (H := H1) (a := g) (o := .lst [])) ht
  generalize upd (upd H1 g (.lst [])) t (.tup [.int (m : Int), .ref g]) = H2 at tb2 bg2 hg2
  clear hp1 hc1 kp1 ht hg bg1
  have en : ((m : Int) - 1).toNat = m - 1 := by omega
  refine seq_cut (fun σ' H' => (∃ u3 u4 u5 u6 u7 u8 : Option V, σ' = [some (.ref p), some (.int (m : Int)), some (.ref g), u3, u4, u5, u6, u7, u8]) ∧ Bg H' p c (n + 1 + (m - 1)) ∧ Tabs (tabs A) H' ∧ ∃ xs ps, H' g = some (.lst xs) ∧ Paired (PrL p g H') xs ps ∧ ps.length = m - 1 ∧ MC.Below m ps ∧ ∀ x, x < m → MC.Con ps 0 x) (fun N hN => ?_) ?_
  · refine ⟨_, rfl, _, _, rfl, ⟨by omega, by omega, by omega, by omega⟩, ?_⟩
    rw [en]
    refine for_range (lo := 1) (n := m - 1) (fun i σ' H' => (∃ u3 u4 u5 u6 u7 u8 : Option V, σ' = [some (.ref p), some (.int (m : Int)), some (.ref g), u3, u4, u5, u6, u7, u8]) ∧ Bg H' p c (n + 1 + i) ∧ Tabs (tabs A) H' ∧ ∃ xs ps, H' g = some (.lst xs) ∧ Paired (PrL p g H') xs ps ∧ ps.length = i ∧ MC.Below m ps ∧ ∀ x, x ≤ i → MC.Con ps 0 x) ⟨⟨_, _, _, _, _, _, rfl⟩, bg2, tb2, [], [], hg2, .nil, rfl, (fun p m => by cases m), fun x hx => (show x = 0 by omega) ▸ .refl _⟩ ?_ ?_
    · rintro i σ' H' hi ⟨⟨u3, u4, u5, u6, u7, u8, rfl⟩, bgi, tbi, xs, ps, hxs, pp, lp, bl, cn⟩
      obtain ⟨_, msi, ti, li, hpi, hci, _⟩ := id bgi
      have e0 : (1 : Int) + (i : Int) = ((i + 1 : Nat) : Int) := by omega
      rw [e0]
      refine ⟨_, rfl, .inl ⟨rfl, _, SqL.of hxs⟩, _, rfl, p, c, _, 2, rfl, bgi, by omega, by decide, by decide, fun y H4 y0 y1 kp4 bg4 => ⟨rfl, _, rfl, ?_⟩⟩
      have hxs4 := kp4 _ _ ngp hxs
      have tb4 := tabs_keep tbi (kp_n kp4 hpi)
      obtain ⟨_, ms4, t4, l4, hp4, hc4, _⟩ := id bg4
      have lx : xs.length ≤ 12 := by rw [Paired.length pp, lp]; omega
      have pp4 : Paired (PrL p g H4) xs ps := paired_imp (fun _ _ z => z.kp kp4) pp
      have fin : ∀ (q : Nat × Nat) (t : Addr), (q = (i, i + 1) ∨ q = (i + 1, i)) → H4 t = none →
          Bg (upd (upd H4 t (.lst [.int (q.1 : Int), .int (q.2 : Int)])) g (.lst (xs ++ [.ref t]))) p c (n + 1 + (i + 1)) ∧ Tabs (tabs A) (upd (upd H4 t (.lst [.int (q.1 : Int), .int (q.2 : Int)])) g (.lst (xs ++ [.ref t]))) ∧
          ∃ xs' ps', (upd (upd H4 t (.lst [.int (q.1 : Int), .int (q.2 : Int)])) g (.lst (xs ++ [.ref t]))) g = some (.lst xs') ∧ Paired (PrL p g (upd (upd H4 t (.lst [.int (q.1 : Int), .int (q.2 : Int)])) g (.lst (xs ++ [.ref t])))) xs' ps' ∧ ps'.length = i + 1 ∧ MC.Below m ps' ∧ ∀ x, x ≤ i + 1 → MC.Con ps' 0 x := by
        intro q t hq ht
        have ntg : t ≠ g := fun z => by rw [z, hxs4] at ht; cases ht
        have ntp : t ≠ p := (ne_of_none hp4 ht).symm
        have kpg : Kp g (upd H4 t (.lst [.int (q.1 : Int), .int (q.2 : Int)])) (upd (upd H4 t (.lst [.int (q.1 : Int), .int (q.2 : Int)])) g (.lst (xs ++ [.ref t]))) := fun b o nb h => by
          rw [upd_ne nb]
          exact h
        refine ⟨((bg4.new ht).oth ngp.symm ngc.symm).le (by omega), tabs_keep (tb4.ext (Same.new (fun _ _ h => h) ht)) (kp_n kpg (at_new hxs4 ht)), xs ++ [.ref t], ps ++ [q], upd_same, paired_snoc ⟨t, rfl, ntp, ntg, kpg _ _ ntg upd_same⟩ (paired_imp (fun _ _ z => z.new ht) pp4), by rw [List.length_append, lp]; rfl, ?_, ?_⟩
        · intro r hr
          rcases List.mem_append.mp hr with hr | hr
          · exact bl r hr
          · rw [List.mem_singleton.mp hr]
            rcases hq with rfl | rfl
            · exact ⟨by show i < m; omega, by show i + 1 < m; omega⟩
            · exact ⟨by show i + 1 < m; omega, by show i < m; omega⟩
        · intro z hz
          have mono : ∀ {u v}, MC.Con ps u v → MC.Con (ps ++ [q]) u v := fun h => h.mono fun r hr => List.mem_append_left _ hr
          by_cases hzi : z ≤ i
          · exact mono (cn z hzi)
          · obtain rfl : z = i + 1 := by omega
            rcases hq with rfl | rfl
            · exact MC.con_snoc.mpr (.inr (.inl ⟨cn i (Nat.le_refl _), .refl _⟩))
            · exact MC.con_snoc.mpr (.inr (.inr ⟨cn i (Nat.le_refl _), .refl _⟩))
      have ei : ((i + 1 : Nat) : Int) - 1 = (i : Int) := by omega
      refine ite2 (fun _ => ?_) (fun _ => ?_)
      · refine ⟨_, rfl, _, _, rfl, rfl, _, rfl, by show 2 ≤ sizeLine; decide, fun t ht => ⟨g, xs, _, rfl, rfl, at_new hxs4 ht, small1000 (by omega), ?_⟩⟩
        dsimp only
        rw [ei]
        obtain ⟨z1, z2, z3⟩ := fin (i, i + 1) t (.inl rfl) ht
        exact ⟨⟨_, _, _, _, _, _, rfl⟩, z1, z2, z3⟩
      · refine ⟨_, rfl, _, rfl, _, _, rfl, rfl, by show 2 ≤ sizeLine; decide, fun t ht => ⟨g, xs, _, rfl, rfl, at_new hxs4 ht, small1000 (by omega), ?_⟩⟩
        dsimp only
        rw [ei]
        obtain ⟨z1, z2, z3⟩ := fin (i + 1, i) t (.inr rfl) ht
        exact ⟨⟨_, _, _, _, _, _, rfl⟩, z1, z2, z3⟩
    · rintro σ' H' ⟨hσ, bgi, tbi, xs, ps, hxs, pp, lp, bl, cn⟩
      exact hN _ _ ⟨hσ, bgi, tbi, xs, ps, hxs, pp, lp, bl, fun x hx => cn x (by omega)⟩
  · rintro σ' H3 ⟨⟨u3, u4, u5, u6, u7, u8, rfl⟩, bg3, tb3, xs, ps, hxs, pp, lp, bl, cn⟩
    obtain ⟨_, ms3, t3, l3, hp3, hc3, _⟩ := id bg3
    have lx : xs.length = m - 1 := (Paired.length pp).trans lp
    refine seq_cut (fun σ' H' => ∃ g2 XS PS, (∃ u3 u4 u5 u6 u7 u8 : Option V, σ' = [some (.ref p), some (.int (m : Int)), some (.ref g2), u3, u4, u5, u6, u7, u8]) ∧ Bg H' p c (n + 2 + (m - 1)) ∧ Tabs (tabs A) H' ∧ strip p H' g2 = some (.lst XS) ∧ Paired (PrI (strip p H')) XS PS ∧ 1 ≤ PS.length ∧ PS.length ≤ 12 ∧ MC.Below m PS ∧ hang m PS = true) (fun N hN => ?_) ?_
    · refine ⟨_, rfl, by show 2 ≤ sizeLine; decide, fun t5 h5 => ⟨by show 1 ≤ sizeLine; decide, fun l5 h6 => ?_⟩⟩
      have n5 : t5 ≠ p := (ne_of_none hp3 h5).symm
      have n6 : l5 ≠ p := (ne_of_none (at_new hp3 h5) h6).symm
      refine ⟨_, rfl, _, rfl, _, _, rfl, rfl, p, c, _, _, rfl, (bg3.new h5).new h6, by omega, by omega, by omega, fun y H5 y0 y1 kp5 bg5 => ?_⟩
      obtain ⟨_, ms5, t5', l5', hp5, hc5, _⟩ := id bg5
      have hy : y.toNat ≤ 13 - m := by omega
      have z5 := kp5 _ _ n5 (at_new upd_same h6)
      have z6 := kp5 _ _ n6 upd_same
      have zg := kp5 _ _ ngp (at_new (at_new hxs h5) h6)
      have zx : Paired (PrL p g H5) xs ps := paired_imp (fun _ _ z => by
        obtain ⟨t', e, n1, n2, z⟩ := z
        exact ⟨t', e, n1, n2, kp5 _ _ n1 (at_new (at_new z h5) h6)⟩) pp
      have tb5 := tabs_keep ((tb3.ext (Same.new (fun _ _ h => h) h5)).ext (Same.new (fun _ _ h => h) h6)) (kp_n kp5 (at_new (at_new hp3 h5) h6))
      refine ⟨l5, y, _, rfl, rfl, z6, by omega, by omega, ?_, fun l6 h7 => ?_⟩
      · have : (1000 : Nat) ≤ sizeLine := by decide
        show 1 * y.toNat ≤ sizeLine
        omega
      have n7 : l6 ≠ p := (ne_of_none hp5 h7).symm
      have lr : ((List.replicate y.toNat [V.ref t5]).flatten).length = y.toNat := by simp
      refine ⟨g, l6, _, _, rfl, rfl, at_new zg h7, upd_same, ?_, fun g2 h8 => ?_⟩
      · have : (1000 : Nat) ≤ sizeLine := by decide
        rw [lr, lx]
        omega
      have n8 : g2 ≠ p := (ne_of_none (at_new hp5 h7) h8).symm
      refine hN _ _ ⟨g2, _, ps ++ List.replicate y.toNat (0, 1), ⟨_, _, _, _, _, _, rfl⟩, ((bg5.new h7).new h8).le (by omega), (tb5.ext (Same.new (fun _ _ h => h) h7)).ext (Same.new (fun _ _ h => h) h8), strip_at n8 upd_same (fun _ z => by cases z), ?_, ?_, ?_, ?_, ?_⟩
      · refine paired_app (paired_rep ⟨t5, rfl, .inl (strip_at n5 (at_new (at_new z5 h7) h8) (fun _ z => by cases z))⟩ _) (paired_imp (fun _ _ z => ?_) zx)
        obtain ⟨t', e, n1, n2, z⟩ := z
        exact ⟨t', e, .inl (strip_at n1 (at_new (at_new z h7) h8) (fun _ z => by cases z))⟩
      · rw [List.length_append, lp]
        omega
      · rw [List.length_append, lp, List.length_replicate]
        omega
      · intro r hr
        rcases List.mem_append.mp hr with hr | hr
        · exact bl r hr
        · rw [List.eq_of_mem_replicate hr]
          exact ⟨by show 0 < m; omega, by show 1 < m; omega⟩
      · have bl' : MC.Below m (ps ++ List.replicate y.toNat (0, 1)) := fun r hr => by
          rcases List.mem_append.mp hr with hr | hr
          · exact bl r hr
          · rw [List.eq_of_mem_replicate hr]
            exact ⟨by show 0 < m; omega, by show 1 < m; omega⟩
        exact hang_iff.mpr ((MC.names_nm bl').whole.mp fun x hx => (cn x hx).mono fun r hr => List.mem_append_left _ hr)
    · clear hxs pp lp bl cn lx
      rintro σ' H6 ⟨g2, XS, PS, ⟨u3, u4, u5, u6, u7, u8, rfl⟩, bg6, tb6, gS, pS, l1', l2', bl, hh⟩
      generalize hS : strip p H6 = S at gS pS
      have sS : Same S H6 := hS ▸ strip_same
      have npS : S p = none := hS ▸ strip_p
      have nnS : ∀ b o, S b = some o → ∀ ps, o ≠ .tbl ps := hS ▸ strip_nn
      refine seq_cut (fun σ' H' => (∃ u3 u4 u5 u6 u7 u8 : Option V, σ' = [some (.ref p), some (.int (m : Int)), some (.ref g2), u3, u4, u5, u6, u7, u8]) ∧ Bg H' p c (n + 2 + (m - 1)) ∧ Tabs (tabs A) H' ∧ Same S H') (fun N hN => ?_) ?_
      · refine lam_heard (w := none) (m := n + 2 + (m - 1)) tb6 sS nnS bg6 (fun E H4 R ss bg4 _ hn4 => ?_) fun v H1 H' e1 kp bg' tb' hi => ?_
        · refine ⟨_, rfl, _, rfl, mk_web (m := m) (fun x => rfl) (by omega) m13 l2' ⟨XS, .inl (ss _ _ gS), paired_imp (fun _ _ z => z.same ss) pS⟩ bl hh fun y H6 s6 hy => ?_⟩
          exact hn4 rfl _ _ (Kp.of_same s6) (bg4.keep s6)
        · obtain rfl : v = .non := hi
          refine ⟨rfl, _, rfl, iteF (hN _ _ ⟨⟨_, _, _, _, _, _, rfl⟩, bg', tb', fun b o h => ?_⟩)⟩
          exact kp b o (fun z => by rw [z, npS] at h; cases h) (e1 b o (sS b o h) (nnS b o h))
      · clear hS sS bg6 tb6 u3 u4 u5 u6 u7 u8
        rintro σ' H7 ⟨⟨u3, u4, u5, u6, u7, u8, rfl⟩, bg7, tb7, s7⟩
        have lXS : XS.length = PS.length := Paired.length pS
        refine ⟨3, rfl, by decide, by decide, ?_⟩
        refine for_range (lo := 0) (n := 3) (fun i σ' H' => (∃ u3 u4 u5 u6 u7 u8 : Option V, σ' = [some (.ref p), some (.int (m : Int)), some (.ref g2), u3, u4, u5, u6, u7, u8]) ∧ Bg H' p c (n + 2 + (m - 1) + 3 * i) ∧ Tabs (tabs A) H' ∧ Same S H') ⟨⟨_, _, _, _, _, _, rfl⟩, bg7, tb7, s7⟩ ?_ ?_
        · clear bg7 tb7 s7 u3 u4 u5 u6 u7 u8
          rintro i σ' H7 hi ⟨⟨u3, u4, u5, u6, u7, u8, rfl⟩, bg7, tb7, s7⟩
          obtain ⟨_, ms7, t7, l7, hp7, hc7, _⟩ := id bg7
          -- the tie, and the copies
          refine ⟨_, rfl, _, rfl, g2, XS, rfl, .inl (SqL.of (s7 _ _ gS)), p, c, _, _, rfl, bg7, by omega, by omega, by omega, fun x H8 a0 a1 kp8 bg8 => ?_⟩
          have s8 : Same S H8 := fun b o h => kp8 b o (fun z => by rw [z, npS] at h; cases h) (s7 b o h)
          have tb8 := tabs_keep tb7 (kp_n kp8 hp7)
          obtain ⟨at_, ea, la⟩ : ∃ at_ : Nat, x = (at_ : Int) ∧ at_ < PS.length := ⟨x.toNat, by omega, by omega⟩
          subst ea
          obtain ⟨_, ms8, t8, l8, hp8, hc8, _⟩ := id bg8
          refine ⟨_, rfl, g2, rfl, ⟨_, SqL.of (s8 _ _ gS)⟩, fun D hD => ?_⟩
          refine lc_list (K := K) (a := g2) (xs := XS) (fun i H' => Same H8 H' ∧ ∃ ys, H' D = some (.lst ys) ∧ Paired (CL H8 D H') ys (PS.take i)) ⟨Same.new (fun _ _ h => h) hD, [], upd_same, .nil⟩ (fun i H' _ h => SqL.of (h.1 _ _ (s8 _ _ gS))) ?_ ?_
          · rintro i x H' hx ⟨s3, ys, hDy, py⟩
            obtain ⟨q, hq, tt, rfl, hqq⟩ := paired_get pS hx
            have hqq' := hqq.same (s8.trans s3)
            have tk : PS.take (i + 1) = PS.take i ++ [q] := by rw [List.take_succ, hq]; rfl
            have lys : ys.length ≤ 12 := by
              rw [Paired.length py, List.length_take]
              omega
            refine ⟨rfl, tYes_of (iteT ⟨_, rfl, tt, _, rfl, hqq'.sq, fun l hl => ?_⟩)⟩
            have nlD : l ≠ D := fun z => by rw [z, hDy] at hl; cases hl
            refine ⟨ys, at_new hDy hl, small1000 (by omega), ?_, ys ++ [.ref l], upd_same, ?_⟩
            · intro b o h
              rw [upd_ne (ne_of_none h hD)]
              exact at_new (s3 _ _ h) hl
            · rw [tk]
              refine paired_snoc ⟨l, rfl, s3.free hl, nlD, by rw [upd_ne nlD]; exact upd_same⟩ (paired_imp (fun _ _ z => ?_) py)
              obtain ⟨t', e, z1, z2, z3⟩ := z
              exact ⟨t', e, z1, z2, by rw [upd_ne z2]; exact at_new z3 hl⟩
          · rintro H9 ⟨s9, ys, hDy, py⟩
            rw [List.take_of_length_le (by omega)] at py
            refine ⟨by show 2 ≤ sizeLine; decide, fun t ht => ⟨t, _, rfl, SqT.of upd_same, rfl, _, _, rfl, _, _, rfl, rfl, ?_⟩⟩
            have hDy' := at_new (u := .tup [.int (at_ : Int), .ref D]) hDy ht
            have py' : Paired (CL H8 D (upd H9 t (.tup [.int (at_ : Int), .ref D]))) ys PS := paired_imp (fun _ _ z => by
              obtain ⟨t', e, z1, z2, z3⟩ := z
              exact ⟨t', e, z1, z2, at_new z3 ht⟩) py
            have s9' : Same H8 (upd H9 t (.tup [.int (at_ : Int), .ref D])) := s9.trans (Same.new (fun _ _ h => h) ht)
            clear s9 hDy py
            have nDp : D ≠ p := (ne_of_none hp8 hD).symm
            generalize upd H9 t (.tup [.int (at_ : Int), .ref D]) = H10 at s9' hDy' py'
            have bg10 := bg8.keep s9'
            have tb10 := tb8.ext s9'
            have hp10 := s9' _ _ hp8
            -- a bad end
            refine ⟨_, rfl, _, rfl, _, rfl, by show 1 ≤ sizeLine; decide, fun e1 g1 => ⟨_, _, rfl, rfl, ⟨by decide, by decide, by decide⟩, by show 8 ≤ sizeLine; decide, fun q1 g3 => ?_⟩⟩
            have ne1 : e1 ≠ p := (ne_of_none hp10 g1).symm
            have nq1 : q1 ≠ p := (ne_of_none (at_new hp10 g1) g3).symm
            refine ⟨p, c, q1, _, _, rfl, (bg10.new g1).new g3, by omega, upd_same, nq1, by show 1 ≤ 8; decide, by show 8 ≤ 1000; decide, fun v H11 hv kp11 bg11 => ?_⟩
            have fv : inB (m : Int) v = false ∧ ∀ Hx : Hp, Hx e1 = some (.lst [.int 0]) → OkV Hx v := by
              simp only [List.mem_cons, List.not_mem_nil, or_false] at hv
              rcases hv with rfl | rfl | rfl | rfl | rfl | rfl | rfl | rfl
              · exact ⟨rfl, fun _ _ => trivial⟩
              · exact ⟨rfl, fun _ _ => trivial⟩
              · exact ⟨rfl, fun _ _ => trivial⟩
              · exact ⟨by rfl, fun _ _ => trivial⟩
              · refine ⟨?_, fun _ _ => trivial⟩
                have a2 : inHi (V.int (m : Int)) (.int ((m : Int) - 1)) = false := show decide ((m : Int) ≤ (m : Int) - 1) = false from decide_eq_false (by omega)
                unfold inB
                rw [a2, Bool.and_false, Bool.and_false]
              · exact ⟨rfl, fun _ _ => trivial⟩
              · exact ⟨rfl, fun _ h => .inl ⟨_, h⟩⟩
              · refine ⟨?_, fun _ _ => trivial⟩
                have a2 : inHi (V.int ((10 : Int) ^ Int.toNat 20)) (.int ((m : Int) - 1)) = false := show decide ((10 : Int) ^ Int.toNat 20 ≤ (m : Int) - 1) = false from decide_eq_false (by
                  have : (10 : Int) ^ Int.toNat 20 = 100000000000000000000 := by decide +kernel
                  omega)
                unfold inB
                rw [a2, Bool.and_false, Bool.and_false]
            have ge1 : H11 e1 = some (.lst [.int 0]) := kp11 _ _ ne1 (at_new upd_same g3)
            have hD11 := kp11 _ _ nDp (at_new (at_new hDy' g1) g3)
            have off8 : ∀ {b : Addr}, H8 b = none → b ≠ p := fun hb z => by rw [z, hp8] at hb; cases hb
            have py11 : Paired (CL H8 D H11) ys PS := paired_imp (fun _ _ z => by
              obtain ⟨t', e, z1, z2, z3⟩ := z
              exact ⟨t', e, z1, z2, kp11 _ _ (off8 z1) (at_new (at_new z3 g1) g3)⟩) py'
            have s11 : Same H8 H11 → True := fun _ => trivial
            have tb11 : Tabs (tabs A) H11 := tabs_keep ((tb10.ext (Same.new (fun _ _ h => h) g1)).ext (Same.new (fun _ _ h => h) g3)) (kp_n kp11 (at_new (at_new hp10 g1) g3))
            have S11 : Same S H11 := fun b o h => kp11 b o (fun z => by rw [z, npS] at h; cases h) (at_new (at_new (s9' _ _ (s8 _ _ h)) g1) g3)
            have e1D : e1 ≠ D := (ne_of_none hDy' g1).symm
            have e1t : ∀ {t' : Addr} {o : HO}, H10 t' = some o → e1 ≠ t' := fun h => (ne_of_none h g1).symm
            have lys : ys.length = PS.length := Paired.length py11
            have hya : ys[at_]? = some ys[at_] := List.getElem?_eq_getElem (by omega)
            obtain ⟨q, hq, ta, eta, fta, ntaD, hta⟩ := paired_get py11 hya
            obtain ⟨_, _, ta', eta', _, _, hta'⟩ := paired_get py' hya
            have ett : ta' = ta := by
              rw [eta] at eta'
              exact (V.ref.inj eta').symm
            subst ett
            have e1a : e1 ≠ ta' := e1t hta'
            have nta : ta' ≠ p := off8 fta
            have ntc : ta' ≠ c := fun z => by rw [z, hc8] at fta; cases fta
            clear kp11 g1 g3 hv py' hDy' hta' eta'
            obtain ⟨_, ms11, t11, l11, hp11, hc11, _⟩ := id bg11
            refine ⟨_, rfl, _, rfl, D, ys, _, _, rfl, rfl, SqL.of hD11, atI_nat (by rw [hya, eta]), _, rfl, p, c, _, 2, rfl, bg11, by omega, by decide, by decide, fun j H12 j0 j1 kp12 bg12 => ?_⟩
            obtain ⟨jn, ej, lj⟩ : ∃ jn : Nat, j = (jn : Int) ∧ jn < 2 := ⟨j.toNat, by omega, by omega⟩
            subst ej
            have hta12 := kp12 _ _ nta hta
            refine ⟨ta', _, _, jn, rfl, rfl, hta12, ixN_at lj, ?_⟩
            have off : Kp ta' H12 (upd H12 ta' (.lst ([V.int (q.1 : Int), V.int (q.2 : Int)].set jn v))) := fun b o nb h => by
              rw [upd_ne nb]
              exact h
            have S13 : Same S (upd H12 ta' (.lst ([V.int (q.1 : Int), V.int (q.2 : Int)].set jn v))) := fun b o h => by
              refine off b o (fun z => ?_) (kp12 b o (fun z => by rw [z, npS] at h; cases h) (S11 b o h))
              rw [z] at h
              rw [s8 _ _ h] at fta
              cases fta
            have bg13 : Bg (upd H12 ta' (.lst ([V.int (q.1 : Int), V.int (q.2 : Int)].set jn v))) p c (n + 2 + (m - 1) + 3 * (i + 1)) := (bg12.oth nta.symm ntc.symm).le (by omega)
            have tb13 : Tabs (tabs A) (upd H12 ta' (.lst ([V.int (q.1 : Int), V.int (q.2 : Int)].set jn v))) := tabs_keep (tabs_keep tb11 (kp_n kp12 hp11)) (kp_n off hta12)
            have hp13 : upd H12 ta' (.lst ([V.int (q.1 : Int), V.int (q.2 : Int)].set jn v)) p ≠ none := by
              obtain ⟨_, ms, t, l, h, _⟩ := id bg12
              rw [off _ _ nta.symm h]
              exact fun z => by cases z
            have D13 := off _ _ ntaD.symm (kp12 _ _ nDp hD11)
            have e13 := off _ _ e1a (kp12 _ _ ne1 ge1)
            have new13 : (upd H12 ta' (.lst ([V.int (q.1 : Int), V.int (q.2 : Int)].set jn v))) ta' = some (.lst ([V.int (q.1 : Int), V.int (q.2 : Int)].set jn v)) := upd_same
            have old13 : ∀ b o, b ≠ ta' → b ≠ p → H11 b = some o → (upd H12 ta' (.lst ([V.int (q.1 : Int), V.int (q.2 : Int)].set jn v))) b = some o := fun b o n1 n2 h => off b o n1 (kp12 b o n2 h)
            generalize upd H12 ta' (.lst ([V.int (q.1 : Int), V.int (q.2 : Int)].set jn v)) = H13 at S13 bg13 tb13 hp13 D13 e13 new13 old13
            have gi : ∀ y ∈ ys, GI (strip p H13) y := fun y hy => by
              obtain ⟨i2, hi2⟩ := List.mem_iff_getElem?.mp hy
              obtain ⟨q2, _, t2, e2, f2, nD2, h2⟩ := paired_get py11 hi2
              by_cases ez : t2 = ta'
              · subst ez
                have okv : OkV (strip p H13) v := fv.2 _ (strip_at ne1 e13 (fun _ z => by cases z))
                match jn, lj with
                | 0, _ => exact ⟨t2, v, .int (q.2 : Int), e2, strip_at nta new13 (fun _ z => by cases z), okv, trivial⟩
                | 1, _ => exact ⟨t2, .int (q.1 : Int), v, e2, strip_at nta new13 (fun _ z => by cases z), trivial, okv⟩
              · exact ⟨t2, _, _, e2, strip_at (off8 f2) (old13 _ _ ez (off8 f2) h2) (fun _ z => by cases z), trivial, trivial⟩
            have bi : BI (strip p H13) (m : Int) (.ref ta') := by
              match jn, lj with
              | 0, _ => exact ⟨ta', v, .int (q.2 : Int), rfl, strip_at nta new13 (fun _ z => by cases z), by rw [fv.1]; rfl⟩
              | 1, _ => exact ⟨ta', .int (q.1 : Int), v, rfl, strip_at nta new13 (fun _ z => by cases z), by rw [fv.1, Bool.and_false]⟩
            have D2 : strip p H13 D = some (.lst ys) := strip_at nDp D13 (fun _ z => by cases z)
            have S2 : Same S (strip p H13) := fun b o h => strip_at (fun z => by rw [z, npS] at h; cases h) (S13 b o h) (nnS b o h)
            clear new13 old13 py11 hta hta12 D13 e13 kp12 bg12 bg11 hp11 hc11 hD11 ge1
            have lys12 : ys.length ≤ 12 := by omega
            rw [eta] at hya
            refine first_heard (w := some [.str "web", .str "ties"]) (m := n + 2 + (m - 1) + 3 * (i + 1)) tb13 strip_same strip_p strip_nn bg13 (fun E H4 R ss bg4 he _ => ?_) fun hd v1 H4 hh1 => ?_
            · obtain ⟨z1, z2⟩ := tie_bad (m := (m : Int)) (seqOf_sqx (.inl (ss _ _ D2))) lys12 (SqX.ok (.inl (ss _ _ D2))) (fun y hy => (gi y hy).sx.same ss) ⟨_, List.mem_of_getElem? hya, bi.sx.same ss⟩
              exact ⟨_, rfl, _, rfl, mk_ties (m := m) (fun x => rfl) (by omega) m13 z1 z2 (out_web (Kp.refl _ _) bg4 he)⟩
            refine next_heard (w := some [.str "web", .str "ties"]) (m := n + 2 + (m - 1) + 3 * (i + 1)) hh1 (by show 1 + 1 ≤ 100; decide) rfl (fun E H4 R ss bg4 he _ => ?_) fun v2 H4 hh2 => ?_
            · refine ⟨_, rfl, _, rfl, D, rfl, ⟨_, SqL.of (ss _ _ D2)⟩, fun D3 hD3 => ?_⟩
              refine lc_list (K := K) (a := D) (xs := ys) (fun i H' => Same H4 H' ∧ ∃ zs, H' D3 = some (.lst zs) ∧ zs.length = i ∧ (∀ z ∈ zs, GY D3 H' z) ∧ (at_ < i → ∃ z ∈ zs, BY D3 H' (m : Int) z)) ⟨Same.new (fun _ _ h => h) hD3, [], upd_same, rfl, (fun z hz => by cases hz), fun z => by omega⟩ (fun i H' _ h => SqL.of (h.1 _ _ (ss _ _ D2))) ?_ ?_
              · rintro i2 x H' hx ⟨s3, zs, hz, lz, gz, bz⟩
                obtain ⟨t2, a2, b2, ex, hx2, o1, o2⟩ := gi x (List.mem_of_getElem? hx)
                subst ex
                have hx3 := s3 _ _ (ss _ _ hx2)
                refine ⟨rfl, tYes_of (iteT ⟨_, rfl, t2, _, rfl, .inl ⟨SqL.of hx3, fun l hl => ?_⟩⟩)⟩
                have nlD : l ≠ D3 := fun z => by rw [z, hz] at hl; cases hl
                have n23 : t2 ≠ D3 := fun z => by rw [z] at hx2; rw [ss _ _ hx2] at hD3; cases hD3
                have hi2 : i2 < ys.length := (List.getElem?_eq_some_iff.mp hx).1
                have s4 : ∀ b o, b ≠ D3 → H' b = some o → upd (upd H' l (.tup [a2, b2])) D3 (.lst (zs ++ [.ref l])) b = some o := fun b o nb h => by
                  rw [upd_ne nb]
                  exact at_new h hl
                have ok' : ∀ {v : V}, OkV (strip p H13) v → OkV (upd (upd H' l (.tup [a2, b2])) D3 (.lst (zs ++ [.ref l]))) v := fun h => h.mono fun b o _ e => s4 _ _ (fun z => by rw [z] at e; rw [ss _ _ e] at hD3; cases hD3) (s3 _ _ (ss _ _ e))
                refine ⟨zs, at_new hz hl, small1000 (by omega), ?_, zs ++ [.ref l], upd_same, by rw [List.length_append, lz]; rfl, fun z hz' => ?_, fun la' => ?_⟩
                · intro b o h
                  rw [upd_ne (ne_of_none h hD3)]
                  exact at_new (s3 _ _ h) hl
                · rcases List.mem_append.mp hz' with hz' | hz'
                  · obtain ⟨t', a', b', e, nt, h, q1, q2⟩ := gz z hz'
                    exact ⟨t', a', b', e, nt, s4 _ _ nt h, okV_put q1 hz hl, okV_put q2 hz hl⟩
                  · rw [List.mem_singleton.mp hz']
                    exact ⟨l, a2, b2, rfl, nlD, by rw [upd_ne nlD]; exact upd_same, ok' o1, ok' o2⟩
                · by_cases ei : at_ < i2
                  · obtain ⟨z, hz', t', a', b', e, nt, h, r⟩ := bz ei
                    exact ⟨z, List.mem_append_left _ hz', t', a', b', e, nt, s4 _ _ nt h, r⟩
                  · obtain rfl : at_ = i2 := by omega
                    obtain ⟨t', a', b', e, h, r⟩ := bi
                    rw [hya] at hx
                    have e1 : t2 = ta' := (V.ref.inj (Option.some.inj hx)).symm
                    have e2 : t' = ta' := (V.ref.inj e).symm
                    rw [e2, ← e1, hx2] at h
                    have h' := HO.lst.inj (Option.some.inj h)
                    injection h' with h1 h2
                    injection h2 with h2 _
                    subst h1 h2
                    exact ⟨.ref l, List.mem_append_right _ List.mem_cons_self, l, a2, b2, rfl, nlD, by rw [upd_ne nlD]; exact upd_same, r⟩
              · rintro H5 ⟨s5, zs, hz, lz, gz, bz⟩
                obtain ⟨zb, hzb, bb⟩ := bz (by omega)
                obtain ⟨z1, z2⟩ := tie_bad (m := (m : Int)) (seqOf_sqx (.inl hz)) (by omega) (SqX.ok (.inl hz)) (fun y hy => (gz y hy).gx) ⟨_, hzb, bb.bx⟩
                exact mk_ties (m := m) (fun x => rfl) (by omega) m13 z1 z2 (out_web (Kp.of_same s5) (bg4.keep s5) he)
            refine ⟨_, rfl, by show 2 ≤ sizeLine; decide, fun w1 hw1 => ⟨by show 1 ≤ sizeLine; decide, fun m1 hm1 => ⟨m1, 2, _, rfl, rfl, upd_same, by decide, by decide, by show 1 * 2 ≤ sizeLine; decide, fun m2 hm2 => ?_⟩⟩⟩
            refine ne_heard (hh2.on (Same.new (Same.new (Same.new (fun _ _ h => h) hw1) hm1) hm2)) upd_same (.cons ⟨_, rfl, (at_new (at_new upd_same hm1) hm2)⟩ (.cons ⟨_, rfl, (at_new (at_new upd_same hm1) hm2)⟩ .nil)) (by decide +kernel) (by decide +kernel) (by decide +kernel) ?_
            refine ⟨_, rfl, iteF ⟨⟨_, _, _, _, _, _, rfl⟩, hh2.bg.keep (Same.new (Same.new (Same.new (fun _ _ h => h) hw1) hm1) hm2), hh2.tb.ext (Same.new (Same.new (Same.new (fun _ _ h => h) hw1) hm1) hm2), S2.trans (hh2.same.trans (Same.new (Same.new (Same.new (fun _ _ h => h) hw1) hm1) hm2))⟩⟩
        · rintro σ' H8 ⟨⟨u3, u4, u5, u6, u7, u8, rfl⟩, bg8, tb8, s8⟩
          exact k _ (bg8.le (by omega)) tb8
/-! ### third places -/
def ends (ps : MC.Pr) (t : Nat) : List Nat := match ps[t]? with
  | some p => [p.1, p.2]
  | none => []
def inners (ps : MC.Pr) (ts : List Nat) : List Nat := ts.flatMap (ends ps)
def outers (ps : MC.Pr) (ts : List Nat) : List Nat := ((List.range ps.length).filter fun i => !ts.contains i).flatMap (ends ps)
def thirds (ps : MC.Pr) (ts : List Nat) (a b : Nat) : List Nat := (inners ps ts).filter fun e => (outers ps ts).contains e && !(e == a || e == b)
theorem nv_flat : ∀ ns : List Nat, (nv ns).all flatV = true
  | [] => rfl
  | n :: ns => by
    show (flatV (V.int (n : Int)) && (nv ns).all flatV) = true
    rw [nv_flat ns]
    rfl
theorem inV_nv (n : Nat) : ∀ ns : List Nat, inV (.int (n : Int)) (nv ns) = ns.contains n
  | [] => rfl
  | m :: ns => by
    have ih := inV_nv n ns
    unfold inV at ih ⊢
    rw [List.contains_cons, ← ih]
    show (eqV (V.int (m : Int)) (V.int (n : Int)) || _) = _
    congr 1
    show ((m : Int) == (n : Int)) = (n == m)
    rw [Bool.eq_iff_iff]
    simp only [beq_iff_eq]
    omega
theorem ends_len (ps : MC.Pr) (t : Nat) : (ends ps t).length ≤ 2 := by
  unfold ends
  split
  · exact Nat.le_refl _
  · exact Nat.zero_le _
theorem flat_len (ps : MC.Pr) : ∀ ts : List Nat, (ts.flatMap (ends ps)).length ≤ 2 * ts.length
  | [] => Nat.le_refl _
  | t :: ts => by
    have h1 := ends_len ps t
    have h2 := flat_len ps ts
    rw [List.flatMap_cons, List.length_append, List.length_cons]
    omega
def sp_third (C : Addr) : Sp := fun vs H Q _ => ∃ (x l : Addr) (a b n : Nat) (ps : MC.Pr) (ts : List Nat), vs = [.ref x, .int (a : Int), .int (b : Int), .ref l] ∧ WebAt H x C n ps ∧ ps.length ≤ 12 ∧ SqX H l (nv ts) ∧ ts.length ≤ 12 ∧ (∀ t ∈ ts, t < ps.length) ∧
  ∀ D H', Same H H' → H' D = some (.lst (nv (thirds ps ts a b))) → Q (.ref D) H'
theorem G_third_places (T : Txt P K mg A) : FnG P w K mg base CX0 3 A.a_third_places A.d_third_places P_third_places (sp_third A.c_Web) := by
  refine okG T.F_third_places sc_third_places (fun vs H Q E h => ?_) (fun cdv A0 outer s H vs Q E hr h => ?_)
  · obtain ⟨x, l, a, b, n, ps, ts, rfl, _⟩ := h
    rfl
  obtain ⟨x, l, a, b, n, ps, ts, rfl, ⟨dx, q, xs, hx, hq, hp⟩, lps, hl, lts, hts, k⟩ := h
  refine ⟨_, (pss_cons (ps_setLc2 (i := 4) (own := [("tie", 6), ("end", 7)]) (vs1 := [7]) (g := gName 6) (tt := tYes) (g1 := gName 7) (tt1 := tYes) (te := tVar 7) (wi1 := iTup K (tOp (rIxT K) (tFld K (tVar 0) "ties") (tVar 6))) rfl sc_third_places.nd rfl rfl (sw_true rfl rfl rfl (by decide +kernel)) (pi_seqV (pv 3)) (blkOk_by (N := N_third_places) (sc := defScope s_third_places) (by decide +kernel)) (by decide) (fun _ _ _ _ _ => (pg_name (i := 6) sc_third_places.nd rfl (Or.inl rfl))) (fun _ _ _ _ _ => pts_nil) (fun _ _ _ _ _ => (pi_tup (pe_ix (r := rIxT K) ix_tup (pe_fld (pv 0) rfl) (pv 6) (fun _ _ => rfl)))) (fun _ _ _ _ _ => (pg_name (i := 7) sc_third_places.nd rfl (Or.inl rfl))) (fun _ _ _ _ _ => pts_nil) (fun _ _ _ _ _ => (pv 7)))
      (pss_cons (ps_set (i := 5) sc_third_places.nd rfl (Or.inr rfl) (pe_lc2 (own := [("tie", 6), ("pair", 8), ("end", 7)]) (vs1 := [7]) (g := gTup K 2 (gCons (gName 6) (gCons (gName 8) gNil))) (tt := (tTest (tOp (rIn K true) (tVar 6) (tVar 3)))) (g1 := gName 7) (tt1 := tYes) (te := tVar 7) (wi1 := iTup K (tVar 8)) rfl sc_third_places.nd (pi_enumT (by rfl) T.n_enumerate (pa_cons (pe_fld (pv 0) rfl) pa_nil)) (blkOk_by (N := N_third_places) (sc := defScope s_third_places) (by decide +kernel)) (by decide) (fun _ _ _ _ _ => (pg_tup rfl (pgs_cons (pg_name (i := 6) sc_third_places.nd rfl (Or.inl rfl)) (pgs_cons (pg_name (i := 8) sc_third_places.nd rfl (Or.inl rfl)) pgs_nil)))) (fun _ _ _ _ _ => (pts_one (pt_cmpR op_notIn_seq (pv 6) (pv 3) (by rfl)))) (fun _ _ _ _ _ => (pi_tup (pv 8))) (fun _ _ _ _ _ => (pg_name (i := 7) sc_third_places.nd rfl (Or.inl rfl))) (fun _ _ _ _ _ => pts_nil) (fun _ _ _ _ _ => (pv 7))))
      (pss_one (ps_ret (pe_lc (own := [("end", 7)]) (g := gName 7) (tt := tAnd (tTest (tOp (rIn K false) (tVar 7) (tVar 5))) (tTest (tOp (rIn K true) (tVar 7) (tTup (tCons (tVar 1) (tCons (tVar 2) tNil)))))) rfl sc_third_places.nd (pi_list (pv 4)) (blkOk_by (N := N_third_places) (sc := defScope s_third_places) (by decide +kernel)) (fun _ _ _ _ _ => (pg_name (i := 7) sc_third_places.nd rfl (Or.inl rfl))) (fun _ _ _ _ _ => pts_one (PW.pt (pw_and (pt_cmpR op_in_seq (pv 7) (pv 5) (by rfl)) (pw_and1 (pt_cmpR op_notIn_seq (pv 7) (pe_tup (pa_cons (pv 1) (pa_cons (pv 2) pa_nil))) (by rfl)))))) (fun _ _ _ _ _ => (pv 7))))))), ?_⟩
  have sz : (1000 : Nat) ≤ sizeLine := by decide
  have lxs : xs.length = ps.length := Paired.length hp
  obtain ⟨ol, hol⟩ := hl.has
  -- the ends within
  refine ⟨_, rfl, l, rfl, seq_by hl.sq fun J G W gG D hD => ?_⟩
  have lnv : (nv ts).length = ts.length := by rw [List.length_map]
  refine walk_gen W (fun i H' => Same H H' ∧ H' D = some (.lst (nv (inners ps (ts.take i))))) ⟨Same.new (fun _ _ h => h) hD, upd_same⟩ (fun i H' _ q => gG H' fun o h => (q.1 _ _ h)) ?_ ?_
  · rintro i y H' _ hi ⟨s2, hD2⟩ ⟨rfl, hy⟩
    rw [List.getElem?_map] at hy
    obtain ⟨t, ht, rfl⟩ := Option.map_eq_some_iff.mp hy
    have htl := hts t (List.mem_of_getElem? ht)
    have hxt : xs[t]? = some xs[t] := List.getElem?_eq_getElem (by omega)
    obtain ⟨p, hpt, tt, ett, htt⟩ := paired_get hp hxt
    have et : inners ps (ts.take (i + 1)) = inners ps (ts.take i) ++ [p.1, p.2] := by
      unfold inners
      rw [List.take_succ, ht]
      simp [ends, hpt]
    have el : (inners ps (ts.take i)).length ≤ 24 := by
      have h1 := flat_len ps (ts.take i)
      have h2 := List.length_take_le i ts
      unfold inners
      omega
    rw [et]
    generalize inners ps (ts.take i) = acc at hD2 el
    refine ⟨rfl, tYes_of (iteT ⟨_, rfl, x, A.c_Web, dx, _, _, rfl, s2 _ _ hx, T.K_Web, T.N_Web_ties, rfl, _, rfl, q, xs, _, _, rfl, rfl, SqT.of (s2 _ _ hq), atI_nat (by rw [hxt, ett]), tt, rfl, ⟨_, SqT.of (s2 _ _ htt)⟩, ?_⟩)⟩
    refine walk_gen (walk_tup (K := K) (a := tt) (xs := [V.int (p.1 : Int), .int (p.2 : Int)])) (fun j H'' => Same H H'' ∧ H'' D = some (.lst (nv (acc ++ [p.1, p.2].take j)))) ⟨s2, by simpa using hD2⟩ (fun j H'' _ q => SqT.of (q.1 _ _ htt)) ?_ ?_
    · rintro j z H'' _ hj ⟨s3, hD3⟩ ⟨rfl, hz⟩
      have hj2 : j < 2 := hj
      obtain ⟨m, hm, rfl⟩ : ∃ m : Nat, [p.1, p.2][j]? = some m ∧ z = .int (m : Int) := by
        match j, hj2, hz with
        | 0, _, hz => exact ⟨p.1, rfl, (Option.some.inj hz).symm⟩
        | 1, _, hz => exact ⟨p.2, rfl, (Option.some.inj hz).symm⟩
      refine ⟨rfl, tYes_of (iteT ⟨_, rfl, _, hD3, ?_, ?_, ?_⟩)⟩
      · rw [List.length_map, List.length_append]
        have := List.length_take_le j [p.1, p.2]
        exact small1000 (by have e2 : [p.1, p.2].length = 2 := rfl
                            omega)
      · intro b o h
        rw [upd_ne (ne_of_none h hD)]
        exact s3 _ _ h
      · rw [upd_same, List.take_succ, hm]
        simp
    · rintro H'' ⟨s3, hD3⟩
      exact ⟨s3, by simpa using hD3⟩
  · rintro H1 ⟨s1, hD1⟩
    rw [List.take_of_length_le (by omega)] at hD1
    have hx1 := s1 _ _ hx
    have hq1 := s1 _ _ hq
    have hl1 := hl.same s1
    have lin : (inners ps ts).length ≤ 24 := by
      have h1 := flat_len ps ts
      unfold inners
      omega
    -- the ends of the others
    refine ⟨_, rfl, x, A.c_Web, dx, _, _, rfl, hx1, T.K_Web, T.N_Web_ties, rfl, q, xs, rfl, SqT.of hq1, fun D2 hD2 => ?_⟩
    have step : ∀ i, i < ps.length → ((List.range (i + 1)).filter fun i => !ts.contains i).flatMap (ends ps) = ((List.range i).filter fun i => !ts.contains i).flatMap (ends ps) ++ (if (!ts.contains i) = true then ends ps i else []) := fun i hi => by
      rw [List.range_succ, List.filter_append, List.flatMap_append]
      congr 1
      cases e : ts.contains i with
      | true =>
        rw [List.filter_cons_of_neg (by rw [e]; exact Bool.false_ne_true)]
        rfl
      | false =>
        rw [List.filter_cons_of_pos (by rw [e]; rfl)]
        simp
    refine walk_gen (walk_enumT (K := K) (a := q) (xs := xs)) (fun i H' => Same H1 H' ∧ H' D2 = some (.lst (nv (((List.range i).filter fun i => !ts.contains i).flatMap (ends ps))))) ⟨Same.new (fun _ _ h => h) hD2, upd_same⟩ (fun i H' _ q => SqT.of (q.1 _ _ hq1)) ?_ ?_
    · rintro i y H' H'' hi ⟨s2, hDD⟩ ⟨t0, x0, y0, rfl, ht0, rfl, e1, e2⟩
      cases e1
      have hil : i < ps.length := by omega
      have hxi : xs[i]? = some xs[i] := List.getElem?_eq_getElem hi
      obtain ⟨p, hpi, tt, ett, htt⟩ := paired_get hp hxi
      have e3 : some xs[i] = some y0 := hxi.symm.trans e2
      cases e3
      have s3 : Same H1 (upd H' t0 (.tup [.int (i : Nat), xs[i]])) := s2.trans (Same.new (fun _ _ h => h) ht0)
      have hDD3 := at_new (u := .tup [.int (i : Nat), xs[i]]) hDD ht0
      have htt3 := s3 _ _ (s1 _ _ htt)
      have el : (((List.range i).filter fun i => !ts.contains i).flatMap (ends ps)).length ≤ 24 := by
        have h1 := flat_len ps ((List.range i).filter fun i => !ts.contains i)
        have h2 := List.length_filter_le (fun i => !ts.contains i) (List.range i)
        rw [List.length_range] at h2
        omega
      rw [step i hil]
      have eps : ends ps i = [p.1, p.2] := by simp [ends, hpi]
      rw [eps]
      generalize (((List.range i).filter fun i => !ts.contains i).flatMap (ends ps)) = acc at hDD3 el
      refine ⟨t0, _, rfl, SqT.of upd_same, rfl, _, _, rfl, _, _, rfl, rfl, ?_⟩
      refine ⟨rfl, _, rfl, _, rfl, l, _, rfl, (hl1.same s3).sq, rfl, nv_flat _, _, rfl, ?_⟩
      have einv : (if true = true then !inV (.int (i : Int)) (nv ts) else inV (.int (i : Int)) (nv ts)) = !ts.contains i := by
        rw [if_pos rfl, inV_nv]
      rw [einv]
      cases ec : ts.contains i with
      | true =>
        refine iteF ⟨s3, ?_⟩
        simpa using hDD3
      | false =>
        refine iteT ⟨_, rfl, tt, by rw [ett], ⟨_, SqT.of htt3⟩, ?_⟩
        refine walk_gen (walk_tup (K := K) (a := tt) (xs := [V.int (p.1 : Int), .int (p.2 : Int)])) (fun j H'' => Same H1 H'' ∧ H'' D2 = some (.lst (nv (acc ++ [p.1, p.2].take j)))) ⟨s3, by simpa using hDD3⟩ (fun j H'' _ q => SqT.of (q.1 _ _ (s1 _ _ htt))) ?_ ?_
        · rintro j z H'' _ hj ⟨s4, hD4⟩ ⟨rfl, hz⟩
          have hj2 : j < 2 := hj
          obtain ⟨m, hm, rfl⟩ : ∃ m : Nat, [p.1, p.2][j]? = some m ∧ z = .int (m : Int) := by
            match j, hj2, hz with
            | 0, _, hz => exact ⟨p.1, rfl, (Option.some.inj hz).symm⟩
            | 1, _, hz => exact ⟨p.2, rfl, (Option.some.inj hz).symm⟩
          refine ⟨rfl, tYes_of (iteT ⟨_, rfl, _, hD4, ?_, ?_, ?_⟩)⟩
          · rw [List.length_map, List.length_append]
            have := List.length_take_le j [p.1, p.2]
            exact small1000 (by have e2 : [p.1, p.2].length = 2 := rfl
                                omega)
          · intro b o h
            rw [upd_ne (ne_of_none h hD2)]
            exact s4 _ _ h
          · rw [upd_same, List.take_succ, hm]
            simp
        · rintro H'' ⟨s4, hD4⟩
          exact ⟨s4, by simpa using hD4⟩
    · rintro H2 ⟨s2, hD22⟩
      have eo : ((List.range xs.length).filter fun i => !ts.contains i).flatMap (ends ps) = outers ps ts := by
        unfold outers
        rw [lxs]
      rw [eo] at hD22
      have hD12 := s2 _ _ hD1
      refine ⟨_, rfl, D, rfl, ⟨_, SqL.of hD12⟩, fun D3 hD3 => ?_⟩
      refine lc_list (K := K) (a := D) (xs := nv (inners ps ts)) (fun i H' => Same H2 H' ∧ H' D3 = some (.lst (nv (((inners ps ts).take i).filter fun e => (outers ps ts).contains e && !(e == a || e == b))))) ⟨Same.new (fun _ _ h => h) hD3, upd_same⟩ (fun i H' _ h => SqL.of (h.1 _ _ hD12)) ?_ ?_
      · rintro i y H' hy ⟨s3, hD33⟩
        rw [List.getElem?_map] at hy
        obtain ⟨e, he, rfl⟩ := Option.map_eq_some_iff.mp hy
        have tk : (inners ps ts).take (i + 1) = (inners ps ts).take i ++ [e] := by rw [List.take_succ, he]; rfl
        rw [tk, List.filter_append]
        have el : (((inners ps ts).take i).filter fun e => (outers ps ts).contains e && !(e == a || e == b)).length ≤ 24 := by
          have h1 := List.length_filter_le (fun e => (outers ps ts).contains e && !(e == a || e == b)) ((inners ps ts).take i)
          have h2 : ((inners ps ts).take i).length ≤ (inners ps ts).length := by
            rw [List.length_take]
            omega
          omega
        generalize (((inners ps ts).take i).filter fun e => (outers ps ts).contains e && !(e == a || e == b)) = acc at hD33 el
        refine ⟨rfl, _, rfl, _, rfl, D2, _, rfl, .inl (SqL.of (s3 _ _ hD22)), rfl, nv_flat _, _, rfl, ?_⟩
        rw [show (if false = true then !inV (.int (e : Int)) (nv (outers ps ts)) else inV (.int (e : Int)) (nv (outers ps ts))) = (outers ps ts).contains e from inV_nv _ _]
        cases eo2 : (outers ps ts).contains e with
        | false =>
          refine iteF (iteF ⟨s3, ?_⟩)
          simp only [List.filter_cons, eo2, Bool.false_and, Bool.false_eq_true, if_false, List.filter_nil, List.append_nil]
          exact hD33
        | true =>
          refine iteT ⟨_, rfl, _, rfl, _, rfl, by show 2 ≤ sizeLine; decide, fun u hu => ⟨u, _, rfl, .inr (SqT.of upd_same), rfl, rfl, _, rfl, ?_⟩⟩
          have ein : (if true = true then !inV (.int (e : Int)) [V.int (a : Int), .int (b : Int)] else inV (.int (e : Int)) [V.int (a : Int), .int (b : Int)]) = !(e == a || e == b) := by
            rw [if_pos rfl, show ([V.int (a : Int), .int (b : Int)] : List V) = nv [a, b] from rfl, inV_nv]
            simp only [List.contains_cons, List.contains_nil, Bool.or_false]
          rw [ein]
          have hD34 := at_new (u := .tup [.int (a : Int), .int (b : Int)]) hD33 hu
          have s4 : Same H2 (upd H' u (.tup [.int (a : Int), .int (b : Int)])) := s3.trans (Same.new (fun _ _ h => h) hu)
          cases eab : (e == a || e == b) with
          | true =>
            refine iteF ⟨s4, ?_⟩
            simp only [List.filter_cons, eo2, eab, Bool.not_true, Bool.and_false, Bool.false_eq_true, if_false, List.filter_nil, List.append_nil]
            exact hD34
          | false =>
            refine iteT ⟨_, rfl, _, hD34, ?_, ?_, ?_⟩
            · rw [List.length_map]
              exact small1000 (by omega)
            · intro b o h
              rw [upd_ne (ne_of_none h hD3)]
              exact s4 _ _ h
            · rw [upd_same]
              simp only [List.filter_cons, eo2, eab, Bool.not_false, Bool.and_true, if_true, List.filter_nil]
              simp
      · rintro H3 ⟨s3, hD33⟩
        rw [List.length_map, List.take_of_length_le (Nat.le_refl _)] at hD33
        exact k D3 H3 (s1.trans (s2.trans s3)) hD33
/-! ### places, ties that are none -/
def sp_np (C NP : Addr) : Sp := fun vs H Q E => ∃ (x : Addr) (n : Nat) (ps : MC.Pr) (v : V), vs = [.ref x, v] ∧ WebAt H x C n ps ∧ OkV H v ∧ ((inB (n : Int) v = true ∧ Q .non H) ∨ (inB (n : Int) v = false ∧ Out E H NP "value" v))
theorem G_need_place (T : Txt P K mg A) : FnG P w K mg base (L2.CX P w) 4 A.a_need_place A.d_need_place P_need_place (sp_np A.c_Web A.c_NoPlace) := by
  refine okGX T.F_need_place sc_need_place (fun vs H Q E h => ?_) (fun cdv A0 outer s H vs Q E hr h => ?_)
  · obtain ⟨x, n, ps, v, rfl, _⟩ := h
    rfl
  obtain ⟨x, n, ps, v, rfl, ⟨dx, q, xs, hx, _⟩, ok, h⟩ := h
  refine ⟨_, (pss_one (ps_if (pt_not (pt_val (pe_callG (G_is_within T) (hr.mono (by decide)) rfl T.g_is_within T.F_is_within.kp T.b_is_within .nil pass0 (pa_cons (pv 1) (pa_cons pe_int (pa_cons (pe_op op_sub (pe_fld (pv 0) rfl) pe_int) pa_nil)))))) (pss_one (ps_raise rfl (takes_of rfl rfl rfl rfl) (pmk_G T.X_NoPlace.oex T.X_NoPlace.iC T.X_NoPlace.tI (G_init_NoPlace T) (hr.mono (by decide)) rfl T.X_NoPlace.gC T.b_init_NoPlace pass0 (pa_cons (pv 1) pa_nil)))) pss_nil)), ?_⟩
  refine ⟨_, rfl, _, rfl, x, A.c_Web, dx, _, _, rfl, hx, T.K_Web, T.N_Web_places, rfl, _, _, rfl, rfl, v, .int 0, .int ((n : Int) - 1), rfl, ok, trivial, trivial, ?_⟩
  rcases h with ⟨e, k⟩ | ⟨e, k⟩
  · rw [show (isI v && (inLo v (.int 0) && inHi v (.int ((n : Int) - 1)))) = true from e]
    exact ⟨_, rfl, iteF k⟩
  · rw [show (isI v && (inLo v (.int 0) && inHi v (.int ((n : Int) - 1)))) = false from e]
    exact ⟨_, rfl, iteT ⟨_, rfl, by show 1 ≤ 1000; decide, raiseS T.U_NoPlace T.X_NoPlace.oex (T.X_NoPlace.no _ List.mem_cons_self) k⟩⟩
/-- the first that stands among those ahead of it -/
def twice : List Int → List Int → V
  | _, [] => .non
  | seen, x :: r => if x ∈ seen then .int x else twice (seen ++ [x]) r
def sp_twice : Sp := fun vs H Q _ => ∃ (a : Addr) (ns : List Int), vs = [.ref a] ∧ SqX H a (ns.map V.int) ∧ ns.length ≤ 1000 ∧ ∀ H', Same H H' → Q (twice [] ns) H'
theorem twice_at {ns : List Int} {i : Nat} {x : Int} (h : ns[i]? = some x) : twice (ns.take i) (ns.drop i) = if x ∈ ns.take i then .int x else twice (ns.take (i + 1)) (ns.drop (i + 1)) := by
  have hi := (List.getElem?_eq_some_iff.mp h)
  obtain ⟨hl, e⟩ := hi
  rw [List.drop_eq_getElem_cons hl, e]
  show (if x ∈ ns.take i then V.int x else twice (ns.take i ++ [x]) (ns.drop (i + 1))) = _
  rw [List.take_succ, h]
  rfl
theorem G_first_twice (T : Txt P K mg A) : FnG P w K mg base CX0 1 A.a_first_twice A.d_first_twice P_first_twice sp_twice := by
  refine okG T.F_first_twice sc_first_twice (fun vs H Q E h => ?_) (fun cdv A0 outer s H vs Q E hr h => ?_)
  · obtain ⟨a, ns, rfl, _⟩ := h
    rfl
  obtain ⟨a, ns, rfl, sq, hl, k⟩ := h
  obtain ⟨oa, ha⟩ := sq.has
  refine ⟨_, (pss_cons (ps_set (i := 1) sc_first_twice.nd rfl (Or.inl rfl) (pe_callTy0 cr_set0 (by rfl) T.n_set (by decide +kernel)))
      (pss_cons (ps_for PassesOwn.never rfl (pi_seqV (pv 0)) (pg_name (i := 2) sc_first_twice.nd rfl (Or.inl rfl)) (pss_cons (ps_if (pt_cmpR or_sin (pv 2) (pv 1) (by rfl)) (pss_one (ps_ret (pv 2))) pss_nil)
      (pss_one (ps_expr (pe_sadd (pv 1) (pa_cons (pv 2) pa_nil))))))
      (pss_one (ps_ret pe_non)))), ?_⟩
  refine ⟨rfl, fun q hq => ?_⟩
  have s1 : Same H (upd H q (SetO w q (fun _ => false) 0)) := Same.new (fun _ _ h => h) hq
  have sq1 := sq.same s1
  refine ⟨_, rfl, a, rfl, seq_by sq1.sq fun J G W gG => ?_⟩
  refine for_it W (fun i σ H' => Same H H' ∧ (∃ v : Option V, σ = [some (.ref a), some (.ref q), v]) ∧ ∃ (S : Int → Bool) (n : Nat), n ≤ i ∧ H' q = some (SetO w q S n) ∧ (∀ j, S j = decide (j ∈ ns.take i)) ∧ twice [] ns = twice (ns.take i) (ns.drop i))
    ⟨s1, ⟨none, rfl⟩, _, _, Nat.zero_le _, upd_same, fun j => by simp, by simp⟩ (fun i σ H' _ h => gG H' fun o e => ?_) ?_ ?_
  · have e1 := (s1 _ _ ha).symm.trans e
    rw [← e1]
    exact h.1 _ _ ha
  · rintro i x σ H' _ hi ⟨s2, ⟨v, rfl⟩, S, n, hn, hq2, hS, ht⟩ ⟨rfl, hx⟩
    rw [List.length_map] at hi
    obtain ⟨z, hz, rfl⟩ : ∃ z, ns[i]? = some z ∧ x = V.int z := by
      rw [List.getElem?_map, List.getElem?_eq_getElem hi] at hx
      exact ⟨_, List.getElem?_eq_getElem hi, (Option.some.inj hx).symm⟩
    rw [twice_at hz] at ht
    refine ⟨_, rfl, _, rfl, z, q, S, n, rfl, rfl, hq2, _, rfl, ite2 (fun e => ?_) (fun e => ?_)⟩
    · rw [hS] at e
      rw [if_pos (of_decide_eq_true e)] at ht
      refine ⟨_, rfl, ?_⟩
      rw [ht] at k
      exact k _ s2
    · have e' : ¬ z ∈ ns.take i := fun h => e (by rw [hS]; exact decide_eq_true h)
      rw [if_neg e'] at ht
      have hf : S z = false := by rw [hS]; exact decide_eq_false e'
      refine ⟨_, rfl, ⟨_, S, n, rfl, hq2⟩, _, rfl, q, z, S, n, rfl, rfl, hq2, ?_, ?_⟩
      · have : (1001 : Nat) < scanBound := by decide
        omega
      · refine ⟨?_, ⟨_, rfl⟩, _, _, ?_, upd_same, fun j => ?_, ht⟩
        · intro b o h
          rw [upd_ne (ne_of_none h hq)]
          exact s2 _ _ h
        · rw [if_neg (by rw [hf]; exact Bool.false_ne_true)]
          omega
        · rw [hS, List.take_succ, hz]
          simp only [Option.toList_some, List.mem_append, List.mem_singleton]
          by_cases h1 : j ∈ ns.take i <;> by_cases h2 : j = z <;> simp [h1, h2]
  · rintro σ H' ⟨s2, _, S, n, _, _, _, ht⟩
    rw [List.length_map, List.drop_eq_nil_of_le (Nat.le_refl _)] at ht
    rw [ht] at k
    exact k _ s2
def itn (ts : List Nat) : List Int := ts.map fun (t : Nat) => (t : Int)
theorem nv_itn (ts : List Nat) : nv ts = (itn ts).map V.int := by
  unfold itn
  rw [List.map_map]
  rfl
theorem inB_nat {n t : Nat} (h : t < n) : inB (n : Int) (.int (t : Int)) = true := by
  have a1 : inLo (V.int (t : Int)) (.int 0) = true := show decide ((0 : Int) ≤ (t : Int)) = true from decide_eq_true (by omega)
  have a2 : inHi (V.int (t : Int)) (.int ((n : Int) - 1)) = true := show decide ((t : Int) ≤ (n : Int) - 1) = true from decide_eq_true (by omega)
  unfold inB
  rw [a1, a2]
  rfl
/-- no ties: the first of what is none -/
def BadTies (A : Ad) (H : Hp) (m : Nat) (tv : V) (E : XK) : Prop :=
  (OkV H tv ∧ isLT H tv = false ∧ Out E H A.c_BadNumber "part" (.str "ties")) ∨
  ∃ (l : Addr) (xs : List V), tv = .ref l ∧ SqX H l xs ∧ xs.length ≤ 900 ∧ (∀ v ∈ xs, OkV H v) ∧
    ((∃ i v, xs[i]? = some v ∧ inB (m : Int) v = false ∧ (∀ (j : Nat) u, j < i → xs[j]? = some u → inB (m : Int) u = true) ∧ Out E H A.c_NoTie "value" v) ∨
     ∃ (ts : List Nat) (t : Int), xs = nv ts ∧ (∀ t ∈ ts, t < m) ∧ twice [] (itn ts) = .int t ∧ Out E H A.c_Twice "value" (.int t))
def sp_nties (A : Ad) : Sp := fun vs H Q E => ∃ (x : Addr) (n : Nat) (ps : MC.Pr) (tv : V), vs = [.ref x, tv] ∧ WebAt H x A.c_Web n ps ∧
  (BadTies A H ps.length tv E ∨ ∃ (l : Addr) (ts : List Nat), tv = .ref l ∧ SqX H l (nv ts) ∧ ts.length ≤ 900 ∧ (∀ t ∈ ts, t < ps.length) ∧ twice [] (itn ts) = .non ∧ ∀ H', Same H H' → Q .non H')
theorem G_need_ties (T : Txt P K mg A) : FnG P w K mg base (L2.CX P w) 4 A.a_need_ties A.d_need_ties P_need_ties (sp_nties A) := by
  refine okGX T.F_need_ties sc_need_ties (fun vs H Q E h => ?_) (fun cdv A0 outer s H vs Q E hr h => ?_)
  · obtain ⟨x, n, ps, tv, rfl, _⟩ := h
    rfl
  obtain ⟨x, n, ps, tv, rfl, ⟨dx, q, ys, hx, hq, hp⟩, h⟩ := h
  have ly : ys.length = ps.length := Paired.length hp
  refine ⟨_, (pss_cons (ps_if (pt_not (pt_val (pe_callB call_isiT (by rfl) T.n_isinstance (by decide +kernel) (pa_cons (pv 1) (pa_cons (pe_tup (pa_cons (pe_bltn (v := .ty "list") (u := .type "list") (by rfl) T.n_list (by decide +kernel) rfl) (pa_cons (pe_bltn (v := .ty "tuple") (u := .type "tuple") (by rfl) T.n_tuple (by decide +kernel) rfl) pa_nil))) pa_nil))))) (pss_one (ps_raise rfl (takes_of rfl rfl rfl rfl) (pmk_G T.X_BadNumber.oex T.X_BadNumber.iC T.X_BadNumber.tI (G_init_BadNumber T) (hr.mono (by decide)) rfl T.X_BadNumber.gC T.b_init_BadNumber pass0 (pa_cons pe_str pa_nil)))) pss_nil)
      (pss_cons (ps_for (passes_of rfl) rfl (pi_seqV (pv 1)) (pg_name (i := 2) sc_need_ties.nd rfl (Or.inl rfl)) (pss_one (ps_if (pt_not (pt_val (pe_callG (G_is_within T) (hr.mono (by decide)) rfl T.g_is_within T.F_is_within.kp T.b_is_within .nil pass0 (pa_cons (pv 2) (pa_cons pe_int (pa_cons (pe_op op_sub (pe_callB call_len_seq (by rfl) T.n_len (by decide +kernel) (pa_cons (pe_fld (pv 0) rfl) pa_nil)) pe_int) pa_nil)))))) (pss_one (ps_raise rfl (takes_of rfl rfl rfl rfl) (pmk_G T.X_NoTie.oex T.X_NoTie.iC T.X_NoTie.tI (G_init_NoTie T) (hr.mono (by decide)) rfl T.X_NoTie.gC T.b_init_NoTie pass0 (pa_cons (pv 2) pa_nil)))) pss_nil)))
      (pss_cons (ps_set (i := 3) sc_need_ties.nd rfl (Or.inl rfl) (pe_callG (G_first_twice T) (hr.mono (by decide)) rfl T.g_first_twice T.F_first_twice.kp T.b_first_twice .nil pass0 (pa_cons (pv 1) pa_nil)))
      (pss_one (ps_if (pt_cmpR op_notN (pv 3) pe_non (nomark _)) (pss_one (ps_raise rfl (takes_of rfl rfl rfl rfl) (pmk_G T.X_Twice.oex T.X_Twice.iC T.X_Twice.tI (G_init_Twice T) (hr.mono (by decide)) rfl T.X_Twice.gC T.b_init_Twice pass0 (pa_cons (pv 3) pa_nil)))) pss_nil))))), ?_⟩
  have hh : (OkV H tv ∧ isLT H tv = false ∧ Out E H A.c_BadNumber "part" (.str "ties")) ∨
      ∃ (l : Addr) (xs : List V), tv = .ref l ∧ SqX H l xs ∧ xs.length ≤ 900 ∧ (∀ v ∈ xs, OkV H v) ∧
        (∀ i v, xs[i]? = some v → (∀ (j : Nat) u, j < i → xs[j]? = some u → inB (ps.length : Int) u = true) → inB (ps.length : Int) v = false → Out E H A.c_NoTie "value" v) ∧
        ((∀ (j : Nat) u, j < xs.length → xs[j]? = some u → inB (ps.length : Int) u = true) → ∃ ts : List Nat, xs = nv ts ∧ ((twice [] (itn ts) = .non ∧ ∀ H', Same H H' → Q .non H') ∨ ∃ t : Int, twice [] (itn ts) = .int t ∧ Out E H A.c_Twice "value" (.int t))) := by
    rcases h with (h | ⟨l, xs, rfl, hl, ll, ok, ⟨i0, v0, e0, f0, g0, k⟩ | ⟨ts, t, rfl, bt, ht, k⟩⟩) | ⟨l, ts, rfl, hl, ll, bt, ht, k⟩
    · exact .inl h
    · refine .inr ⟨l, xs, rfl, hl, ll, ok, fun i v e g f => ?_, fun g => ?_⟩
      · rcases Nat.lt_trichotomy i i0 with c | c | c
        · rw [g0 _ _ c e] at f
          cases f
        · subst c
          rw [e] at e0
          cases e0
          exact k
        · rw [g _ _ c e0] at f0
          cases f0
      · rw [g _ _ (List.getElem?_eq_some_iff.mp e0).1 e0] at f0
        cases f0
    · refine .inr ⟨l, _, rfl, hl, ll, ok, fun i v e g f => ?_, fun g => ⟨ts, rfl, .inr ⟨t, ht, k⟩⟩⟩
      rw [List.getElem?_map] at e
      obtain ⟨z, hz, rfl⟩ := Option.map_eq_some_iff.mp e
      rw [inB_nat (bt z (List.mem_of_getElem? hz))] at f
      cases f
    · refine .inr ⟨l, _, rfl, hl, by rw [List.length_map]; exact ll, fun v hv => ?_, fun i v e g f => ?_, fun g => ⟨ts, rfl, .inl ⟨ht, k⟩⟩⟩
      · obtain ⟨z, _, rfl⟩ := List.mem_map.mp hv
        trivial
      · rw [List.getElem?_map] at e
        obtain ⟨z, hz, rfl⟩ := Option.map_eq_some_iff.mp e
        rw [inB_nat (bt z (List.mem_of_getElem? hz))] at f
        cases f
  refine ⟨_, rfl, by show 2 ≤ sizeLine; decide, fun q1 h1 => ?_⟩
  have s1 : Same H (upd H q1 (.tup [.ty "list", .ty "tuple"])) := Same.new (fun _ _ h => h) h1
  have hq1 : (upd H q1 (.tup [.ty "list", .ty "tuple"])) q1 = some (.tup [.ty "list", .ty "tuple"]) := upd_same
  generalize upd H q1 (.tup [.ty "list", .ty "tuple"]) = H1 at s1 hq1
  rcases hh with ⟨ok, lt, k⟩ | ⟨l, xs, rfl, hl, ll, ok, kb, ke⟩
  · have ok1 : OkV H1 tv := ok.mono fun b o _ e => s1 _ _ e
    obtain ⟨T1, ty, _, _, k3⟩ := kindV (K := K) ok1
    refine ⟨_, _, _, _, _, _, rfl, hq1, .cons (.ty "list") (.cons (.ty "tuple") .nil), ty, k3, _, rfl, ?_⟩
    have lt1 : isLT H1 tv = false := by
      cases tv with
      | ref a =>
        rcases ok with ⟨zs, e⟩ | ⟨zs, e⟩ | ⟨zs, e⟩ <;> simp only [isLT, e] at lt <;> first | cases lt | skip
        simp only [isLT, s1 _ _ e]
      | _ => rfl
    rw [lt1]
    exact iteT ⟨by show 1 ≤ 1000; decide, raise1 T.X_BadNumber.oex (T.X_BadNumber.no _ List.mem_cons_self) (k.on s1)⟩
  · have hl1 := hl.same s1
    obtain ⟨T1, ty, _, _, k3⟩ := kindV (K := K) hl1.ok
    refine ⟨_, _, _, _, _, _, rfl, hq1, .cons (.ty "list") (.cons (.ty "tuple") .nil), ty, k3, _, rfl, ?_⟩
    rw [hl1.lt]
    refine iteF ?_
    obtain ⟨oa, ha⟩ := hl1.has
    refine ⟨_, rfl, l, rfl, seq_by hl1.sq fun J G W gG => ?_⟩
    refine for_it W (fun i σ H' => Same H1 H' ∧ (∃ v : Option V, σ = [some (.ref x), some (.ref l), v, none]) ∧ (∀ (j : Nat) u, j < i → xs[j]? = some u → inB (ps.length : Int) u = true))
      ⟨fun _ _ h => h, ⟨none, rfl⟩, fun j u hj => by omega⟩ (fun i σ H' _ h => gG H' fun o e => ?_) ?_ ?_
    · rw [← e]
      exact (h.1 _ _ ha).trans ha.symm
    · rintro i y σ H2 _ hi ⟨s2, ⟨v, rfl⟩, hg⟩ ⟨rfl, hy⟩
      have oky : OkV _ y := (ok y (List.mem_of_getElem? hy)).mono fun b o _ e => s2 _ _ (s1 _ _ e)
      refine ⟨_, rfl, _, rfl, x, A.c_Web, dx, _, _, rfl, s2 _ _ (s1 _ _ hx), T.K_Web, T.N_Web_ties, rfl, q, _, rfl, .inr (SqT.of (s2 _ _ (s1 _ _ hq))), _, _, rfl, rfl, y, .int 0, .int ((ps.length : Int) - 1), by rw [ly]; rfl, oky, trivial, trivial, ?_⟩
      cases e : inB (ps.length : Int) y with
      | true =>
        rw [show (isI y && (inLo y (.int 0) && inHi y (.int ((ps.length : Int) - 1)))) = true from e]
        refine ⟨_, rfl, iteF ⟨s2, ⟨_, rfl⟩, fun j u hj hu => ?_⟩⟩
        rcases Nat.lt_or_ge j i with c | c
        · exact hg j u c hu
        · obtain rfl : j = i := by omega
          rw [hy] at hu
          cases hu
          exact e
      | false =>
        rw [show (isI y && (inLo y (.int 0) && inHi y (.int ((ps.length : Int) - 1)))) = false from e]
        exact ⟨_, rfl, iteT ⟨_, rfl, by show 1 ≤ 1000; decide, raiseS T.U_NoTie T.X_NoTie.oex (T.X_NoTie.no _ List.mem_cons_self) ((kb i y hy hg e).on (s1.trans s2))⟩⟩
    · rintro σ H2 ⟨s2, ⟨v, rfl⟩, hg⟩
      obtain ⟨ts, rfl, hd⟩ := ke hg
      have S2 := s1.trans s2
      refine ⟨_, rfl, l, itn ts, rfl, by rw [← nv_itn]; exact hl.same S2, by rw [List.length_map] at ll; unfold itn; rw [List.length_map]; omega, fun H3 s3 => ?_⟩
      rcases hd with ⟨ht, k⟩ | ⟨t, ht, k⟩
      · rw [ht]
        exact ⟨_, rfl, rfl, _, rfl, iteF (k _ (S2.trans s3))⟩
      · rw [ht]
        exact ⟨_, rfl, rfl, _, rfl, iteT ⟨_, rfl, by show 1 ≤ 1000; decide, raise1 T.X_Twice.oex (T.X_Twice.no _ List.mem_cons_self) (k.on (S2.trans s3))⟩⟩
def sp_turned (K : PySem.W.Frag) (A : Ad) : Sp := fun vs H Q E => ∃ (wv o1 o2 tv : V), vs = [wv, o1, o2, tv] ∧
  ((OkV H wv ∧ Out E H A.c_BadWeb "part" (.str "web")) ∨
   ∃ (x : Addr) (n : Nat) (ps : MC.Pr), wv = .ref x ∧ WebAt H x A.c_Web n ps ∧ ps.length ≤ 12 ∧
    ((OkV H o1 ∧ inB (n : Int) o1 = false ∧ Out E H A.c_NoPlace "value" o1) ∨
     ∃ a : Nat, o1 = .int (a : Int) ∧ a < n ∧
      ((OkV H o2 ∧ inB (n : Int) o2 = false ∧ Out E H A.c_NoPlace "value" o2) ∨
       ∃ b : Nat, o2 = .int (b : Int) ∧ b < n ∧
        ((a = b ∧ Out E H A.c_Twice "value" (.int (b : Int))) ∨
         (a ≠ b ∧ (BadTies A H ps.length tv E ∨ ∃ (l : Addr) (ts : List Nat), tv = .ref l ∧ SqX H l (nv ts) ∧ ts.length ≤ 12 ∧ (∀ t ∈ ts, t < ps.length) ∧ twice [] (itn ts) = .non ∧ thirds ps ts a b ≠ [] ∧ Out E H A.c_Misfit "part" (.str "part")))))))
theorem G_turned (T : Txt P K mg A) : FnG P w K mg base (L2.CX P w) 5 A.a_turned A.d_turned P_turned (sp_turned K A) := by
  refine okGX T.F_turned sc_turned (fun vs H Q E h => ?_) (fun cdv A0 outer s H vs Q E hr h => ?_)
  · obtain ⟨wv, o1, o2, tv, rfl, _⟩ := h
    rfl
  obtain ⟨wv, o1, o2, tv, rfl, h⟩ := h
  refine ⟨_, (pss_cons (ps_expr (pe_callG (E := E) (G_need_web T) (hr.mono (by decide)) rfl T.g_need_web T.F_need_web.kp T.b_need_web .nil (passes_call (takes_of rfl rfl rfl rfl) (fun _ _ _ _ h => h)) (pa_cons (pv 0) (pa_cons pe_str pa_nil))))
      (pss_cons (ps_expr (pe_callG (E := E) (G_need_place T) (hr.mono (by decide)) rfl T.g_need_place T.F_need_place.kp T.b_need_place .nil (passes_call (takes_of rfl rfl rfl rfl) (fun _ _ _ _ h => h)) (pa_cons (pv 0) (pa_cons (pv 1) pa_nil))))
      (pss_cons (ps_expr (pe_callG (E := E) (G_need_place T) (hr.mono (by decide)) rfl T.g_need_place T.F_need_place.kp T.b_need_place .nil (passes_call (takes_of rfl rfl rfl rfl) (fun _ _ _ _ h => h)) (pa_cons (pv 0) (pa_cons (pv 2) pa_nil))))
      (pss_cons (ps_if (pt_cmpR op_eq (pv 1) (pv 2) (nomark _)) (pss_one (ps_raise rfl (takes_of rfl rfl rfl rfl) (pmk_G T.X_Twice.oex T.X_Twice.iC T.X_Twice.tI (G_init_Twice T) (hr.mono (by decide)) rfl T.X_Twice.gC T.b_init_Twice pass0 (pa_cons (pv 2) pa_nil)))) pss_nil)
      (pss_cons (ps_expr (pe_callG (E := E) (G_need_ties T) (hr.mono (by decide)) rfl T.g_need_ties T.F_need_ties.kp T.b_need_ties .nil (passes_call (takes_of rfl rfl rfl rfl) (fun _ _ _ _ h => h)) (pa_cons (pv 0) (pa_cons (pv 3) pa_nil))))
      (pss_cons (ps_if (pt_truth (pe_callG (G_third_places T) (hr.mono (by decide)) rfl T.g_third_places T.F_third_places.kp T.b_third_places .nil pass0 (pa_cons (pv 0) (pa_cons (pv 1) (pa_cons (pv 2) (pa_cons (pv 3) pa_nil))))) (by intro _; rfl)) (pss_one (ps_raise rfl (takes_of rfl rfl rfl rfl) (pmk_G T.X_Misfit.oex T.X_Misfit.iC T.X_Misfit.tI (G_init_Misfit T) (hr.mono (by decide)) rfl T.X_Misfit.gC T.b_init_Misfit pass0 (pa_cons pe_str pa_nil)))) pss_nil)
      pss_never)))))), ?_⟩
  rcases h with ⟨ok, k⟩ | ⟨x, n, ps, rfl, wa, lps, h⟩
  · exact ⟨_, rfl, _, _, rfl, .inr ⟨ok, k⟩⟩
  refine ⟨_, rfl, _, _, rfl, .inl ⟨x, n, ps, rfl, wa, ?_⟩⟩
  rcases h with ⟨ok, e, k⟩ | ⟨a, rfl, ha, h⟩
  · exact ⟨_, rfl, _, rfl, x, n, ps, _, rfl, wa, ok, .inr ⟨e, k⟩⟩
  refine ⟨_, rfl, _, rfl, x, n, ps, _, rfl, wa, trivial, .inl ⟨inB_nat ha, ?_⟩⟩
  rcases h with ⟨ok, e, k⟩ | ⟨b, rfl, hb, h⟩
  · exact ⟨_, rfl, _, rfl, x, n, ps, _, rfl, wa, ok, .inr ⟨e, k⟩⟩
  refine ⟨_, rfl, _, rfl, x, n, ps, _, rfl, wa, trivial, .inl ⟨inB_nat hb, ?_⟩⟩
  refine ⟨_, rfl, _, rfl, rfl, _, rfl, ?_⟩
  rcases h with ⟨rfl, k⟩ | ⟨nab, h⟩
  · rw [decide_eq_true rfl]
    exact iteT ⟨_, rfl, by show 1 ≤ 1000; decide, raise1 T.X_Twice.oex (T.X_Twice.no _ List.mem_cons_self) k⟩
  rw [decide_eq_false (fun z => nab (by have := V.int.inj z; omega))]
  refine iteF ?_
  rcases h with h | ⟨l, ts, rfl, hl, lts, bt, ht, nt, k⟩
  · exact ⟨_, rfl, _, rfl, x, n, ps, _, rfl, wa, .inl h⟩
  refine ⟨_, rfl, _, rfl, x, n, ps, _, rfl, wa, .inr ⟨l, ts, rfl, hl, by omega, bt, ht, fun H1 s1 => ?_⟩⟩
  refine ⟨_, rfl, _, rfl, _, rfl, _, rfl, x, l, a, b, n, ps, ts, rfl, wa.keep s1, lps, hl.same s1, lts, bt, fun D H2 s2 hD => ?_⟩
  refine ⟨true, .inl ⟨_, SqL.of hD, ?_⟩, iteT ⟨by show 1 ≤ 1000; decide, raise1 T.X_Misfit.oex (T.X_Misfit.no _ List.mem_cons_self) (k.on (s1.trans s2))⟩⟩
  cases e : thirds ps ts a b with
  | nil => exact absurd e nt
  | cons _ _ => rfl
/-! ### reprs -/
theorem Rep.same {H H' : Hp} {v : V} {z : Str} (r : Rep K H v z) (s : Same H H') : Rep K H' v z := fun H2 Q t k => r H2 Q (s.trans t) k
theorem rep_flat {H : Hp} {v : V} (d : PyData) (hd : ∀ H' : Hp, Dp K H' v d) (hs : d.showable = true) (h1 : d.depth ≤ 60) (h2 : d.shown.length ≤ sizeLine) : Rep K H v d.shown := fun H' Q _ k => .inl ⟨v, d, rfl, hd H', hs, h1, h2, k⟩
theorem rep_ref {H : Hp} {a : Addr} (d : PyData) (hd : ∀ H' : Hp, Same H H' → Dp K H' (.ref a) d) (hs : d.showable = true) (h1 : d.depth ≤ 60) (h2 : d.shown.length ≤ sizeLine) : Rep K H (.ref a) d.shown := fun H' Q s k => .inl ⟨_, d, rfl, hd H' s, hs, h1, h2, k⟩
theorem rep_dk {H : Hp} {a : Addr} (h : H a = some (.dK [])) : Rep K H (.ref a) (PyData.dict []).shown := fun H' Q s k => .inr ⟨a, [], [], rfl, s _ _ h, .nil, by decide +kernel, by decide +kernel, by decide +kernel, k⟩
theorem rep_nat {H : Hp} {n : Nat} (h : n ≤ 13) : Rep K H (.int (n : Int)) (PyData.int (n : Int)).shown := by
  refine rep_flat (PyData.int (n : Int)) (fun H' => .int _) ?_ ?_ ?_
  · exact of_decide_eq_true (List.all_eq_true.mp (show (List.range 14).all (fun n => decide ((PyData.int ((n : Nat) : Int)).showable = true)) = true by decide +kernel) n (List.mem_range.mpr (by omega)))
  · exact of_decide_eq_true (List.all_eq_true.mp (show (List.range 14).all (fun n => decide ((PyData.int ((n : Nat) : Int)).depth ≤ 60)) = true by decide +kernel) n (List.mem_range.mpr (by omega)))
  · exact of_decide_eq_true (List.all_eq_true.mp (show (List.range 14).all (fun n => decide ((PyData.int ((n : Nat) : Int)).shown.length ≤ sizeLine)) = true by decide +kernel) n (List.mem_range.mpr (by omega)))
theorem out_told {E : XK} {H1 H : Hp} {p c C : Addr} {m : Nat} {f : Str} {v : V} {ws : List V} (kp : Kp p H1 H) (bg : Bg H p c m) (he : ∀ us, some ws = some us → ∀ cls d gs H', Kp p H1 H' → Bg H' p c m → H' d = some (.xd gs) → Told A K H' cls gs us → E cls (some d) H')
    (td : ∀ H', Same H H' → Told A K H' (.ref C) [(f, v)] ws) : Out E H C f v :=
  fun d H' hd s => he _ rfl _ _ _ H' (kp.trans (Kp.of_same s)) (bg.keep s) hd (td H' s)
def okS : V → Bool
  | .str s => PyData.strOk s
  | _ => true
def okI : Option (List V) → Bool
  | none => true
  | some ws => ws.all okS
theorem lay_flat : ∀ ws : List V, ws.all okS = true → PyData.canLayAll0 (ws.map datV) = true
  | [], _ => by simp [PyData.canLayAll0]
  | w :: ws, h => by
    rw [List.all_cons, Bool.and_eq_true] at h
    have ih := lay_flat ws h.2
    cases w with
    | str s =>
      have h1 : PyData.strOk s = true := h.1
      simp only [List.map_cons, PyData.canLayAll0, ih, datV, PyData.canLay0, h1, Bool.and_self]
    | _ => simp only [List.map_cons, PyData.canLayAll0, ih, datV, PyData.canLay0, Bool.and_self]
theorem dep_flat : ∀ ws : List V, PyData.depthAll (ws.map datV) ≤ 0
  | [] => by simp [PyData.depthAll]
  | w :: ws => by
    have ih := dep_flat ws
    cases w <;> simp only [List.map_cons, PyData.depthAll, datV, PyData.depth] <;> omega
theorem lay_items : ∀ ds : List (Option (List V)), ds.all okI = true → PyData.canLayAll0 (ds.map datI) = true
  | [], _ => by simp [PyData.canLayAll0]
  | d :: ds, h => by
    rw [List.all_cons, Bool.and_eq_true] at h
    have ih := lay_items ds h.2
    cases d with
    | none => simp only [List.map_cons, PyData.canLayAll0, ih, datI, PyData.canLay0, Bool.and_self]
    | some ws =>
      have h1 := lay_flat ws h.1
      simp only [List.map_cons, PyData.canLayAll0, ih, datI, PyData.canLay0, h1, Bool.and_self]
theorem dep_items : ∀ ds : List (Option (List V)), PyData.depthAll (ds.map datI) ≤ 1
  | [] => by simp [PyData.depthAll]
  | d :: ds => by
    have ih := dep_items ds
    cases d with
    | none =>
      simp only [List.map_cons, PyData.depthAll, datI, PyData.depth]
      omega
    | some ws =>
      have := dep_flat ws
      simp only [List.map_cons, PyData.depthAll, datI, PyData.depth]
      omega
theorem shaped_items (ds : List (Option (List V))) (h : ds.all okI = true) : SeqAt.shaped (.list (ds.map datI)) = true := by
  have := dep_items ds
  unfold SeqAt.shaped
  simp only [PyData.canLay0, PyData.depth, lay_items ds h, Bool.true_and]
  exact decide_eq_true (by omega)
theorem eqv_flat : ∀ ws : List V, PyData.eqvAll (ws.map datV) (ws.map datV) = true
  | [] => by simp [PyData.eqvAll]
  | w :: ws => by
    have ih := eqv_flat ws
    cases w <;> simp [List.map_cons, PyData.eqvAll, ih, datV, PyData.eqv]
theorem eqv_items : ∀ ds : List (Option (List V)), PyData.eqvAll (ds.map datI) (ds.map datI) = true
  | [] => by simp [PyData.eqvAll]
  | d :: ds => by
    have ih := eqv_items ds
    cases d <;> simp [List.map_cons, PyData.eqvAll, ih, datI, PyData.eqv, eqv_flat]
theorem eqv_list_items (ds : List (Option (List V))) : PyData.eqv (.list (ds.map datI)) (.list (ds.map datI)) = true := by
  simp only [PyData.eqv, eqv_items]
theorem WebAt.strip {H : Hp} {x C p : Addr} {n : Nat} {ps : MC.Pr} {op : List V} (h : WebAt H x C n ps) (hp : H p = some (.lst op)) : WebAt (strip p H) x C n ps := by
  obtain ⟨dx, q, xs, h1, h2, h3⟩ := h
  refine ⟨dx, q, xs, strip_at (fun z => ?_) h1 (fun _ z => by cases z), strip_at (fun z => ?_) h2 (fun _ z => by cases z), paired_imp (fun _ _ z => ?_) h3⟩
  · rw [z, hp] at h1
    cases h1
  · rw [z, hp] at h2
    cases h2
  · obtain ⟨t, e, g⟩ := z
    exact ⟨t, e, strip_at (fun z => by rw [z, hp] at g; cases g) g (fun _ z => by cases z)⟩
def fourX {α : Type} : List α → List α → List α
  | [], [t, o, n, w] => [w, n, o, t]
  | _, _ => []
theorem rel_fourX {vs : List V} {us : List Value} {zs : List V} {ws : List Value} (r : Vals vs us) (q : Vals zs ws) : Vals (fourX vs zs) (fourX us ws) := by
  cases r with
  | cons _ _ => cases q <;> exact .nil
  | nil =>
    cases q with
    | nil => exact .nil
    | cons a q =>
      cases q with
      | nil => exact .nil
      | cons b q =>
        cases q with
        | nil => exact .nil
        | cons c q =>
          cases q with
          | nil => exact .nil
          | cons d q =>
            cases q with
            | nil => exact .cons d (.cons c (.cons b (.cons a .nil)))
            | cons _ _ => exact .nil
theorem kb_turned_ties_other_one_web (T : Txt P K mg A) : KBinds K A.d_turned P_turned ["ties", "other", "one", "web"] fourX fourX :=
  kbindsF T.F_turned rel_fourX fun _ _ _ _ _ _ us ws hl => match us, ws, hl with
    | [], [_, _, _, _], _ => rfl
theorem G__law_functions_right (T : Txt P K mg A) (TB : TabB base mg A.k__law_functions_right A.t__law_functions_right) (ne : NE A) : FnG P w K mg base CX0 15 A.a__law_functions_right A.d__law_functions_right P__law_functions_right (sp_part A 1) := by
  refine okGC T.F__law_functions_right sc__law_functions_right (fun vs H Q E h => ?_) (fun A0 outer s H vs Q E hr h => ?_)
  · obtain ⟨p, c, n, rfl, _⟩ := h
    rfl
  obtain ⟨p, c, n, rfl, bg, hn, tb, k⟩ := h
  refine ⟨_, (pss_cons (ps_set (i := 1) sc__law_functions_right.nd rfl (Or.inr rfl) (pe_callG (G__law_any T) (hr.mono (by decide)) rfl T.g__law_any T.F__law_any.kp T.b__law_any .nil pass0 (pa_cons (pv 0) (pa_cons (pe_lst (pa_cons pe_non (pa_cons pe_int (pa_cons pe_str (pa_cons (pe_tup (pa_cons pe_int (pa_cons (pe_tup pa_nil) pa_nil))) (pa_cons (pe_lst (pa_cons pe_int (pa_cons (pe_lst (pa_cons (pe_tup (pa_cons pe_int (pa_cons pe_int pa_nil))) pa_nil)) pa_nil))) (pa_cons pe_bl (pa_cons pe_dnewK (pa_cons pe_str pa_nil))))))))) pa_nil))))
      (pss_cons (ps_set (i := 2) sc__law_functions_right.nd rfl (Or.inl rfl) (pe_lst (pa_cons (pe_lamG (T := tabs A) (t := fun E => (tCall (sp_nw A.c_BadWeb) [] E (tCons (tVar 1) tNil))) rfl T.g__law_heard T.F__law_heard T.b__law_heard sc__law_heard rfl (Or.inl rfl) (heard_gives T) TB rfl (List.mem_cons_of_mem _ (List.mem_cons_of_mem _ List.mem_cons_self)) (tabs_u2 ne) (k := 12) (hr.mono (by decide)) (lamS_by (sc := defScope s__law_functions_right) (by decide +kernel)) rfl (fun _ _ _ _ _ => rfl) (fun A1 outer1 s1 H1 E1 f1 c1 hr1 => (pe_callG (E := E1) (G_rounds T) (hr1.mono (by decide)) rfl T.g_rounds T.F_rounds.kp T.b_rounds .nil (passes_call (takes_of rfl rfl rfl rfl) (fun _ _ _ _ h => h)) (pa_cons (pv 1) pa_nil)))) pa_nil)))
      (pss_cons (ps_expr (pe_bm PySem.F.plainAttrs_list PySem.F.slot_list_append PySem.F.type_list_append mt_append (pv 2) (pa_cons (pe_lamG (T := tabs A) (t := fun E => (tCall (sp_nw A.c_BadWeb) [] E (tCons (tVar 1) tNil))) rfl T.g__law_heard T.F__law_heard T.b__law_heard sc__law_heard rfl (Or.inl rfl) (heard_gives T) TB rfl (List.mem_cons_of_mem _ (List.mem_cons_of_mem _ List.mem_cons_self)) (tabs_u2 ne) (k := 12) (hr.mono (by decide)) (lamS_by (sc := defScope s__law_functions_right) (by decide +kernel)) rfl (fun _ _ _ _ _ => rfl) (fun A1 outer1 s1 H1 E1 f1 c1 hr1 => (pe_callG (E := E1) (G_bonds T) (hr1.mono (by decide)) rfl T.g_bonds T.F_bonds.kp T.b_bonds .nil (passes_call (takes_of rfl rfl rfl rfl) (fun _ _ _ _ h => h)) (pa_cons (pv 1) pa_nil)))) pa_nil)))
      (pss_cons (ps_expr (pe_bm PySem.F.plainAttrs_list PySem.F.slot_list_append PySem.F.type_list_append mt_append (pv 2) (pa_cons (pe_lamG (T := tabs A) (t := fun E => (tCall (sp_nw A.c_BadWeb) [] E (tCons (tVar 1) tNil))) rfl T.g__law_heard T.F__law_heard T.b__law_heard sc__law_heard rfl (Or.inl rfl) (heard_gives T) TB rfl (List.mem_cons_of_mem _ (List.mem_cons_of_mem _ List.mem_cons_self)) (tabs_u2 ne) (k := 12) (hr.mono (by decide)) (lamS_by (sc := defScope s__law_functions_right) (by decide +kernel)) rfl (fun _ _ _ _ _ => rfl) (fun A1 outer1 s1 H1 E1 f1 c1 hr1 => (pe_callG (E := E1) (G_bridges T) (hr1.mono (by decide)) rfl T.g_bridges T.F_bridges.kp T.b_bridges .nil (passes_call (takes_of rfl rfl rfl rfl) (fun _ _ _ _ h => h)) (pa_cons (pv 1) pa_nil)))) pa_nil)))
      (pss_cons (ps_expr (pe_bm PySem.F.plainAttrs_list PySem.F.slot_list_append PySem.F.type_list_append mt_append (pv 2) (pa_cons (pe_lamG (T := tabs A) (t := fun E => (tCall (sp_nw A.c_BadWeb) [] E (tCons (tVar 1) tNil))) rfl T.g__law_heard T.F__law_heard T.b__law_heard sc__law_heard rfl (Or.inl rfl) (heard_gives T) TB rfl (List.mem_cons_of_mem _ (List.mem_cons_of_mem _ List.mem_cons_self)) (tabs_u2 ne) (k := 12) (hr.mono (by decide)) (lamS_by (sc := defScope s__law_functions_right) (by decide +kernel)) rfl (fun _ _ _ _ _ => rfl) (fun A1 outer1 s1 H1 E1 f1 c1 hr1 => (pe_callG (E := E1) (G_pieces T) (hr1.mono (by decide)) rfl T.g_pieces T.F_pieces.kp T.b_pieces .nil (passes_call (takes_of rfl rfl rfl rfl) (fun _ _ _ _ h => h)) (pa_cons (pv 1) pa_nil)))) pa_nil)))
      (pss_cons (ps_expr (pe_bm PySem.F.plainAttrs_list PySem.F.slot_list_append PySem.F.type_list_append mt_append (pv 2) (pa_cons (pe_lamG (T := tabs A) (t := fun E => (tCall (sp_nw A.c_BadWeb) [] E (tCons (tVar 1) tNil))) rfl T.g__law_heard T.F__law_heard T.b__law_heard sc__law_heard rfl (Or.inl rfl) (heard_gives T) TB rfl (List.mem_cons_of_mem _ (List.mem_cons_of_mem _ List.mem_cons_self)) (tabs_u2 ne) (k := 12) (hr.mono (by decide)) (lamS_by (sc := defScope s__law_functions_right) (by decide +kernel)) rfl (fun _ _ _ _ _ => rfl) (fun A1 outer1 s1 H1 E1 f1 c1 hr1 => (pe_callG (E := E1) (G_parting_places T) (hr1.mono (by decide)) rfl T.g_parting_places T.F_parting_places.kp T.b_parting_places .nil (passes_call (takes_of rfl rfl rfl rfl) (fun _ _ _ _ h => h)) (pa_cons (pv 1) pa_nil)))) pa_nil)))
      (pss_cons (ps_expr (pe_bm PySem.F.plainAttrs_list PySem.F.slot_list_append PySem.F.type_list_append mt_append (pv 2) (pa_cons (pe_lamG (T := tabs A) (t := fun E => (tCall (sp_nw A.c_BadWeb) [] E (tCons (tVar 1) tNil))) rfl T.g__law_heard T.F__law_heard T.b__law_heard sc__law_heard rfl (Or.inl rfl) (heard_gives T) TB rfl (List.mem_cons_of_mem _ (List.mem_cons_of_mem _ List.mem_cons_self)) (tabs_u2 ne) (k := 12) (hr.mono (by decide)) (lamS_by (sc := defScope s__law_functions_right) (by decide +kernel)) rfl (fun _ _ _ _ _ => rfl) (fun A1 outer1 s1 H1 E1 f1 c1 hr1 => (pe_callG (E := E1) (G_in_a_row T) (hr1.mono (by decide)) rfl T.g_in_a_row T.F_in_a_row.kp T.b_in_a_row .nil (passes_call (takes_of rfl rfl rfl rfl) (fun _ _ _ _ h => h)) (pa_cons (pv 1) pa_nil)))) pa_nil)))
      (pss_cons (ps_expr (pe_bm PySem.F.plainAttrs_list PySem.F.slot_list_append PySem.F.type_list_append mt_append (pv 2) (pa_cons (pe_lamG (T := tabs A) (t := fun E => (tCall (sp_nw A.c_BadWeb) [] E (tCons (tVar 1) tNil))) rfl T.g__law_heard T.F__law_heard T.b__law_heard sc__law_heard rfl (Or.inl rfl) (heard_gives T) TB rfl (List.mem_cons_of_mem _ (List.mem_cons_of_mem _ List.mem_cons_self)) (tabs_u2 ne) (k := 12) (hr.mono (by decide)) (lamS_by (sc := defScope s__law_functions_right) (by decide +kernel)) rfl (fun _ _ _ _ _ => rfl) (fun A1 outer1 s1 H1 E1 f1 c1 hr1 => (pe_callG (E := E1) (G_beside T) (hr1.mono (by decide)) rfl T.g_beside T.F_beside.kp T.b_beside .nil (passes_call (takes_of rfl rfl rfl rfl) (fun _ _ _ _ h => h)) (pa_cons (pv 1) pa_nil)))) pa_nil)))
      (pss_cons (ps_expr (pe_bm PySem.F.plainAttrs_list PySem.F.slot_list_append PySem.F.type_list_append mt_append (pv 2) (pa_cons (pe_lamG (T := tabs A) (t := fun E => (tCall (sp_turned K A) [] E (tCons (tVar 1) (tCons (tC (.int 9)) (tCons (tC (.int 9)) (tCons (tC .non) tNil)))))) rfl T.g__law_heard T.F__law_heard T.b__law_heard sc__law_heard rfl (Or.inl rfl) (heard_gives T) TB rfl (List.mem_cons_of_mem _ (List.mem_cons_of_mem _ List.mem_cons_self)) (tabs_u2 ne) (k := 12) (hr.mono (by decide)) (lamS_by (sc := defScope s__law_functions_right) (by decide +kernel)) rfl (fun _ _ _ _ _ => rfl) (fun A1 outer1 s1 H1 E1 f1 c1 hr1 => (pe_callG (E := E1) (G_turned T) (hr1.mono (by decide)) rfl T.g_turned T.F_turned.kp T.b_turned .nil (passes_call (takes_of rfl rfl rfl rfl) (fun _ _ _ _ h => h)) (pa_cons (pv 1) (pa_cons pe_int (pa_cons pe_int (pa_cons pe_non pa_nil))))))) pa_nil)))
      (pss_one (ps_ret (pe_cmpR (op_eqD hr.room.units) (pv 2) (pe_op op_rep (pe_lst (pa_cons (pe_tup (pa_cons pe_str (pa_cons pe_str pa_nil))) pa_nil)) pe_int) (nomark _))))))))))))), ?_⟩
  obtain ⟨_, ms0, t0, l0, hp0, hc0, _⟩ := id bg
  refine ⟨_, rfl, ⟨Nat.zero_le _, fun t1 ht1 => ⟨by show 2 ≤ sizeLine; decide, fun t2 ht2 => ⟨by show 2 ≤ sizeLine; decide, fun t3 ht3 => ⟨by show 1 ≤ sizeLine; decide, fun l1 hl1 => ⟨by show 2 ≤ sizeLine; decide, fun l2 hl2 => fun d1 hd1 => ⟨by show 8 ≤ sizeLine; decide, fun q1 hq1 => ?_⟩⟩⟩⟩⟩⟩⟩
  have nt1 : t1 ≠ p := (ne_of_none hp0 ht1).symm
  have nt2 : t2 ≠ p := (ne_of_none (at_new hp0 ht1) ht2).symm
  have nt3 : t3 ≠ p := (ne_of_none (at_new (at_new hp0 ht1) ht2) ht3).symm
  have nl1 : l1 ≠ p := (ne_of_none (at_new (at_new (at_new hp0 ht1) ht2) ht3) hl1).symm
  have nl2 : l2 ≠ p := (ne_of_none (at_new (at_new (at_new (at_new hp0 ht1) ht2) ht3) hl1) hl2).symm
  have nd1 : d1 ≠ p := (ne_of_none (at_new (at_new (at_new (at_new (at_new hp0 ht1) ht2) ht3) hl1) hl2) hd1).symm
  have nq1 : q1 ≠ p := (ne_of_none (at_new (at_new (at_new (at_new (at_new (at_new hp0 ht1) ht2) ht3) hl1) hl2) hd1) hq1).symm
  refine ⟨p, c, q1, n, _, rfl, (Bg.new (Bg.new (Bg.new (Bg.new (Bg.new (Bg.new (Bg.new bg ht1) ht2) ht3) hl1) hl2) hd1) hq1), by omega, upd_same, nq1, by show 1 ≤ 8; decide, by show 8 ≤ 1000; decide, fun odd H1 hv kp1 bg1 => ?_⟩
  have gt1 := strip_at (p := p) nt1 (kp1 _ _ nt1 (at_new (at_new (at_new (at_new (at_new (at_new upd_same ht2) ht3) hl1) hl2) hd1) hq1)) (fun _ z => by cases z)
  have gt2 := strip_at (p := p) nt2 (kp1 _ _ nt2 (at_new (at_new (at_new (at_new (at_new upd_same ht3) hl1) hl2) hd1) hq1)) (fun _ z => by cases z)
  have gt3 := strip_at (p := p) nt3 (kp1 _ _ nt3 (at_new (at_new (at_new (at_new upd_same hl1) hl2) hd1) hq1)) (fun _ z => by cases z)
  have gl1 := strip_at (p := p) nl1 (kp1 _ _ nl1 (at_new (at_new (at_new upd_same hl2) hd1) hq1)) (fun _ z => by cases z)
  have gl2 := strip_at (p := p) nl2 (kp1 _ _ nl2 (at_new (at_new upd_same hd1) hq1)) (fun _ z => by cases z)
  have gd1 := strip_at (p := p) nd1 (kp1 _ _ nd1 (at_new upd_same hq1)) (fun _ z => by cases z)
  have fo : OkV (strip p H1) odd := by
    simp only [List.mem_cons, List.not_mem_nil, or_false] at hv
    rcases hv with rfl | rfl | rfl | rfl | rfl | rfl | rfl | rfl
    · trivial
    · trivial
    · trivial
    · exact .inr (.inl ⟨_, gt2⟩)
    · exact .inl ⟨_, gl2⟩
    · trivial
    · exact .inr (.inr ⟨_, gd1⟩)
    · trivial
  have tb1 : Tabs (tabs A) H1 := tabs_keep (Tabs.ext tb (Same.new (Same.new (Same.new (Same.new (Same.new (Same.new (Same.new (fun _ _ h => h) ht1) ht2) ht3) hl1) hl2) hd1) hq1)) (kp_n kp1 (at_new (at_new (at_new (at_new (at_new (at_new (at_new hp0 ht1) ht2) ht3) hl1) hl2) hd1) hq1))
  clear kp1 hv gt1 gt2 gt3 gl1 gl2 gd1
  have ask : ∀ (E : XK) (H4 : Hp), Same (strip p H1) H4 → Bg H4 p c (n + 1) → (∀ ws, some [V.str "web", V.str "web"] = some ws → ∀ cls d gs H', Kp p H4 H' → Bg H' p c (n + 1) → H' d = some (.xd gs) → Told A K H' cls gs ws → E cls (some d) H') → OkV H4 odd ∧ Out E H4 A.c_BadWeb "part" (.str "web") :=
    fun E H4 ss bg4 he => ⟨fo.mono fun b o _ e => ss _ _ e, out_web (Kp.refl _ _) bg4 he⟩
  refine first_heard (w := some [.str "web", .str "web"]) (m := n + 1) tb1 strip_same strip_p strip_nn bg1 (fun E H4 R ss bg4 he _ => ?_) fun hd v1 H4 hh1 => ?_
  · exact ⟨_, rfl, odd, rfl, (ask E H4 ss bg4 he).1, (ask E H4 ss bg4 he).2⟩
  refine next_heard (w := some [.str "web", .str "web"]) (m := n + 1) hh1 (by show 1 + 1 ≤ 100; decide) rfl (fun E H4 R ss bg4 he _ => ?_) fun v2 H4 hh2 => ?_
  · exact ⟨_, rfl, odd, rfl, (ask E H4 ss bg4 he).1, (ask E H4 ss bg4 he).2⟩
  refine next_heard (w := some [.str "web", .str "web"]) (m := n + 1) hh2 (by show 2 + 1 ≤ 100; decide) rfl (fun E H4 R ss bg4 he _ => ?_) fun v3 H4 hh3 => ?_
  · exact ⟨_, rfl, odd, rfl, (ask E H4 ss bg4 he).1, (ask E H4 ss bg4 he).2⟩
  refine next_heard (w := some [.str "web", .str "web"]) (m := n + 1) hh3 (by show 3 + 1 ≤ 100; decide) rfl (fun E H4 R ss bg4 he _ => ?_) fun v4 H4 hh4 => ?_
  · exact ⟨_, rfl, odd, rfl, (ask E H4 ss bg4 he).1, (ask E H4 ss bg4 he).2⟩
  refine next_heard (w := some [.str "web", .str "web"]) (m := n + 1) hh4 (by show 4 + 1 ≤ 100; decide) rfl (fun E H4 R ss bg4 he _ => ?_) fun v5 H4 hh5 => ?_
  · exact ⟨_, rfl, odd, rfl, (ask E H4 ss bg4 he).1, (ask E H4 ss bg4 he).2⟩
  refine next_heard (w := some [.str "web", .str "web"]) (m := n + 1) hh5 (by show 5 + 1 ≤ 100; decide) rfl (fun E H4 R ss bg4 he _ => ?_) fun v6 H4 hh6 => ?_
  · exact ⟨_, rfl, odd, rfl, (ask E H4 ss bg4 he).1, (ask E H4 ss bg4 he).2⟩
  refine next_heard (w := some [.str "web", .str "web"]) (m := n + 1) hh6 (by show 6 + 1 ≤ 100; decide) rfl (fun E H4 R ss bg4 he _ => ?_) fun v7 H4 hh7 => ?_
  · exact ⟨_, rfl, odd, rfl, (ask E H4 ss bg4 he).1, (ask E H4 ss bg4 he).2⟩
  refine next_heard (w := some [.str "web", .str "web"]) (m := n + 1) hh7 (by show 7 + 1 ≤ 100; decide) rfl (fun E H4 R ss bg4 he _ => ?_) fun v8 H4 hh8 => ?_
  · exact ⟨_, rfl, odd, _, _, _, rfl, .inl (ask E H4 ss bg4 he)⟩
  refine ⟨_, rfl, by show 2 ≤ sizeLine; decide, fun w1 hw1 => ⟨by show 1 ≤ sizeLine; decide, fun m1 hm1 => ⟨m1, 8, _, rfl, rfl, upd_same, by decide, by decide, by show 1 * 8 ≤ sizeLine; decide, fun m2 hm2 => ?_⟩⟩⟩
  refine eq_heard (hh8.on (Same.new (Same.new (Same.new (fun _ _ h => h) hw1) hm1) hm2)) upd_same (.cons ⟨_, rfl, (at_new (at_new upd_same hm1) hm2)⟩ (.cons ⟨_, rfl, (at_new (at_new upd_same hm1) hm2)⟩ (.cons ⟨_, rfl, (at_new (at_new upd_same hm1) hm2)⟩ (.cons ⟨_, rfl, (at_new (at_new upd_same hm1) hm2)⟩ (.cons ⟨_, rfl, (at_new (at_new upd_same hm1) hm2)⟩ (.cons ⟨_, rfl, (at_new (at_new upd_same hm1) hm2)⟩ (.cons ⟨_, rfl, (at_new (at_new upd_same hm1) hm2)⟩ (.cons ⟨_, rfl, (at_new (at_new upd_same hm1) hm2)⟩ (.nil))))))))) (by decide +kernel) (by decide +kernel) (by decide +kernel) ?_
  exact k _ (hh8.bg.keep (Same.new (Same.new (Same.new (fun _ _ h => h) hw1) hm1) hm2)) (hh8.tb.ext (Same.new (Same.new (Same.new (fun _ _ h => h) hw1) hm1) hm2))
/-! ### what turned refuses -/
def rInt1 : List V → Hp → VK → Prop := fun xs H Q => (∃ i, xs = [.int i] ∧ Q (.int i) H) ∨ ∃ k, xs = [.bl k] ∧ Q (.int (if k then 1 else 0)) H
def BadV (K : PySem.W.Frag) (m : Int) (S : Hp) (v : V) : Prop := OkV S v ∧ inB m v = false ∧ ∃ z, PyData.strOk z = true ∧ Rep K S v z
theorem BadV.same {m : Int} {S S' : Hp} {v : V} (h : BadV K m S v) (s : Same S S') : BadV K m S' v := ⟨h.1.mono fun b o _ e => s _ _ e, h.2.1, h.2.2.choose, h.2.2.choose_spec.1, h.2.2.choose_spec.2.same s⟩
def BadL (S : Hp) (v : V) : Prop := OkV S v ∧ isLT S v = false
theorem BadL.same {S S' : Hp} {v : V} (h : BadL S v) (s : Same S S') : BadL S' v := by
  refine ⟨h.1.mono fun b o _ e => s _ _ e, ?_⟩
  have lt := h.2
  cases v with
  | ref a =>
    rcases h.1 with ⟨zs, e⟩ | ⟨zs, e⟩ | ⟨zs, e⟩ <;> simp only [isLT, e] at lt <;> first | cases lt | skip
    simp only [isLT, s _ _ e]
  | _ => rfl
theorem upd_two {H : Hp} {a : Addr} {u o : HO} : upd (upd H a u) a o = upd H a o := by
  funext b
  by_cases e : b = a
  · subst e
    rw [upd_same, upd_same]
  · rw [upd_ne e, upd_ne e, upd_ne e]
theorem strip_ext {p a : Addr} {H : Hp} {o : HO} (h : H a = none) : Same (strip p H) (strip p (upd H a o)) := strip_ss (Same.new (fun _ _ h => h) h)
theorem ok_nat {n : Nat} (h : n ≤ 13) : PyData.strOk (PyData.int (n : Int)).shown = true :=
  List.all_eq_true.mp (show (List.range 14).all (fun n => PyData.strOk (PyData.int ((n : Nat) : Int)).shown) = true by decide +kernel) n (List.mem_range.mpr (by omega))
theorem ok_pl : PyData.strOk "place" = true := by decide +kernel
theorem G__law_turned_right (T : Txt P K mg A) (TB : TabB base mg A.k__law_turned_right A.t__law_turned_right) (ne : NE A) : FnG P w K mg base CX0 15 A.a__law_turned_right A.d__law_turned_right P__law_turned_right (sp_part A 8) := by
  refine okGC T.F__law_turned_right sc__law_turned_right (fun vs H Q E h => ?_) (fun A0 outer s H vs Q E hr h => ?_)
  · obtain ⟨p, c, n, rfl, _⟩ := h
    rfl
  obtain ⟨p, c, n, rfl, bg, hn, tb, k⟩ := h
  refine ⟨_, (pss_cons (ps_set (i := 1) sc__law_turned_right.nd rfl (Or.inr rfl) (pe_mkG (E := fun _ _ _ => False) T.M_Web (G_Web___init__ T) (hr.mono (by decide)) rfl T.g_Web T.b_Web___init__ (passes_call (W := fun _ _ _ _ => False) L2.takes0 (fun _ _ _ _ h => h)) (pa_cons pe_int (pa_cons (pe_lst (pa_cons (pe_tup (pa_cons pe_int (pa_cons pe_int pa_nil))) (pa_cons (pe_tup (pa_cons pe_int (pa_cons pe_int pa_nil))) (pa_cons (pe_tup (pa_cons pe_int (pa_cons pe_int pa_nil))) (pa_cons (pe_tup (pa_cons pe_int (pa_cons pe_int pa_nil))) (pa_cons (pe_tup (pa_cons pe_int (pa_cons pe_int pa_nil))) pa_nil)))))) pa_nil))))
      (pss_cons (ps_asg (pe_tup (pa_cons (pe_callG (G__law_any T) (hr.mono (by decide)) rfl T.g__law_any T.F__law_any.kp T.b__law_any .nil pass0 (pa_cons (pv 0) (pa_cons (pe_lst (pa_cons pe_int (pa_cons (pe_un un_neg pe_int) (pa_cons pe_non (pa_cons pe_bl (pa_cons pe_str (pa_cons (pe_lst (pa_cons pe_int pa_nil)) (pa_cons (pe_tup (pa_cons pe_int pa_nil)) (pa_cons (pe_op op_pow pe_int pe_int) (pa_cons pe_dnewK pa_nil)))))))))) pa_nil))) (pa_cons (pe_callG (G__law_any T) (hr.mono (by decide)) rfl T.g__law_any T.F__law_any.kp T.b__law_any .nil pass0 (pa_cons (pv 0) (pa_cons (pe_lst (pa_cons pe_int (pa_cons (pe_un un_neg pe_int) (pa_cons pe_bl (pa_cons pe_non (pa_cons (pe_lst (pa_cons (pe_lst (pa_cons pe_int pa_nil)) pa_nil)) pa_nil)))))) pa_nil))) pa_nil))) (pg_tup rfl (pgs_cons (pg_name (i := 2) sc__law_turned_right.nd rfl (Or.inr rfl)) (pgs_cons (pg_name (i := 3) sc__law_turned_right.nd rfl (Or.inr rfl)) pgs_nil))))
      (pss_cons (ps_asg (pe_tup (pa_cons (pe_callG (G__law_push T) (hr.mono (by decide)) rfl T.g__law_push T.F__law_push.kp T.b__law_push .nil pass0 (pa_cons (pv 0) (pa_cons pe_int pa_nil))) (pa_cons (pe_callG (G__law_any T) (hr.mono (by decide)) rfl T.g__law_any T.F__law_any.kp T.b__law_any .nil pass0 (pa_cons (pv 0) (pa_cons (pe_lst (pa_cons pe_non (pa_cons pe_int (pa_cons pe_str (pa_cons pe_dnewK (pa_cons (pe_disp (pps_cons pe_int pe_int pps_nil) (by rfl) (by rfl) (fun z => by cases z) (by decide)) (pa_cons pe_bl pa_nil))))))) pa_nil))) pa_nil))) (pg_tup rfl (pgs_cons (pg_name (i := 4) sc__law_turned_right.nd rfl (Or.inr rfl)) (pgs_cons (pg_name (i := 5) sc__law_turned_right.nd rfl (Or.inr rfl)) pgs_nil))))
      (pss_cons (ps_asg (pe_tup (pa_cons (pe_callG (G__law_any T) (hr.mono (by decide)) rfl T.g__law_any T.F__law_any.kp T.b__law_any .nil pass0 (pa_cons (pv 0) (pa_cons (pe_lst (pa_cons pe_int (pa_cons (pe_un un_neg pe_int) (pa_cons pe_non (pa_cons pe_bl (pa_cons pe_str (pa_cons (pe_lst (pa_cons pe_int pa_nil)) (pa_cons (pe_tup (pa_cons pe_int pa_nil)) (pa_cons (pe_op op_pow pe_int pe_int) pa_nil))))))))) pa_nil))) (pa_cons (pe_callG (G__law_push T) (hr.mono (by decide)) rfl T.g__law_push T.F__law_push.kp T.b__law_push .nil pass0 (pa_cons (pv 0) (pa_cons pe_int pa_nil))) pa_nil))) (pg_tup rfl (pgs_cons (pg_name (i := 6) sc__law_turned_right.nd rfl (Or.inr rfl)) (pgs_cons (pg_name (i := 7) sc__law_turned_right.nd rfl (Or.inr rfl)) pgs_nil))))
      (pss_cons (ps_set (i := 8) sc__law_turned_right.nd rfl (Or.inr rfl) (pe_op op_modN (pe_callTy (T := "int") call_int1 (by rfl) T.n_int (by decide +kernel) (pa_cons (pe_op op_add (pe_op op_add (pv 4) pe_int) (pe_callG (G__law_push T) (hr.mono (by decide)) rfl T.g__law_push T.F__law_push.kp T.b__law_push .nil pass0 (pa_cons (pv 0) (pa_cons pe_int pa_nil)))) pa_nil)) pe_int))
      (pss_cons (ps_set (i := 9) sc__law_turned_right.nd rfl (Or.inl rfl) (pe_lst (pa_cons (pe_lamG (T := tabs A) (t := fun E => (tCall (sp_turned K A) [] E (tCons (tVar 1) (tCons (tVar 2) (tCons (tVar 3) (tCons (tVar 5) tNil)))))) rfl T.g__law_heard T.F__law_heard T.b__law_heard sc__law_heard rfl (Or.inl rfl) (heard_gives T) TB rfl (List.mem_cons_of_mem _ (List.mem_cons_of_mem _ (List.mem_cons_of_mem _ List.mem_cons_self))) (tabs_u3 ne) (k := 12) (hr.mono (by decide)) (lamS_by (sc := defScope s__law_turned_right) (by decide +kernel)) rfl (fun _ _ _ _ _ => rfl) (fun A1 outer1 s1 H1 E1 f1 c1 hr1 => (pe_callG (E := E1) (G_turned T) (hr1.mono (by decide)) rfl T.g_turned T.F_turned.kp T.b_turned .nil (passes_call (takes_of rfl rfl rfl rfl) (fun _ _ _ _ h => h)) (pa_cons (pv 1) (pa_cons (pv 2) (pa_cons (pv 3) (pa_cons (pv 5) pa_nil))))))) pa_nil)))
      (pss_cons (ps_expr (pe_bm PySem.F.plainAttrs_list PySem.F.slot_list_append PySem.F.type_list_append mt_append (pv 9) (pa_cons (pe_lamG (T := tabs A) (t := fun E => (tCall (sp_turned K A) [] E (tCons (tVar 1) (tCons (tVar 4) (tCons (tVar 3) (tCons (tVar 5) tNil)))))) rfl T.g__law_heard T.F__law_heard T.b__law_heard sc__law_heard rfl (Or.inl rfl) (heard_gives T) TB rfl (List.mem_cons_of_mem _ (List.mem_cons_of_mem _ (List.mem_cons_of_mem _ List.mem_cons_self))) (tabs_u3 ne) (k := 12) (hr.mono (by decide)) (lamS_by (sc := defScope s__law_turned_right) (by decide +kernel)) rfl (fun _ _ _ _ _ => rfl) (fun A1 outer1 s1 H1 E1 f1 c1 hr1 => (pe_callG (E := E1) (G_turned T) (hr1.mono (by decide)) rfl T.g_turned T.F_turned.kp T.b_turned .nil (passes_call (takes_of rfl rfl rfl rfl) (fun _ _ _ _ h => h)) (pa_cons (pv 1) (pa_cons (pv 4) (pa_cons (pv 3) (pa_cons (pv 5) pa_nil))))))) pa_nil)))
      (pss_cons (ps_expr (pe_bm PySem.F.plainAttrs_list PySem.F.slot_list_append PySem.F.type_list_append mt_append (pv 9) (pa_cons (pe_lamG (T := tabs A) (t := fun E => (tCall (sp_turned K A) [] E (tCons (tVar 1) (tCons (tVar 4) (tCons (tVar 4) (tCons (tVar 5) tNil)))))) rfl T.g__law_heard T.F__law_heard T.b__law_heard sc__law_heard rfl (Or.inl rfl) (heard_gives T) TB rfl (List.mem_cons_of_mem _ (List.mem_cons_of_mem _ (List.mem_cons_of_mem _ List.mem_cons_self))) (tabs_u3 ne) (k := 12) (hr.mono (by decide)) (lamS_by (sc := defScope s__law_turned_right) (by decide +kernel)) rfl (fun _ _ _ _ _ => rfl) (fun A1 outer1 s1 H1 E1 f1 c1 hr1 => (pe_callG (E := E1) (G_turned T) (hr1.mono (by decide)) rfl T.g_turned T.F_turned.kp T.b_turned .nil (passes_call (takes_of rfl rfl rfl rfl) (fun _ _ _ _ h => h)) (pa_cons (pv 1) (pa_cons (pv 4) (pa_cons (pv 4) (pa_cons (pv 5) pa_nil))))))) pa_nil)))
      (pss_cons (ps_expr (pe_bm PySem.F.plainAttrs_list PySem.F.slot_list_append PySem.F.type_list_append mt_append (pv 9) (pa_cons (pe_lamG (T := tabs A) (t := fun E => (tCall (sp_turned K A) [] E (tCons (tVar 1) (tCons (tVar 4) (tCons (tVar 8) (tCons (tVar 5) tNil)))))) rfl T.g__law_heard T.F__law_heard T.b__law_heard sc__law_heard rfl (Or.inl rfl) (heard_gives T) TB rfl (List.mem_cons_of_mem _ (List.mem_cons_of_mem _ (List.mem_cons_of_mem _ List.mem_cons_self))) (tabs_u3 ne) (k := 12) (hr.mono (by decide)) (lamS_by (sc := defScope s__law_turned_right) (by decide +kernel)) rfl (fun _ _ _ _ _ => rfl) (fun A1 outer1 s1 H1 E1 f1 c1 hr1 => (pe_callG (E := E1) (G_turned T) (hr1.mono (by decide)) rfl T.g_turned T.F_turned.kp T.b_turned .nil (passes_call (takes_of rfl rfl rfl rfl) (fun _ _ _ _ h => h)) (pa_cons (pv 1) (pa_cons (pv 4) (pa_cons (pv 8) (pa_cons (pv 5) pa_nil))))))) pa_nil)))
      (pss_cons (ps_expr (pe_bm PySem.F.plainAttrs_list PySem.F.slot_list_append PySem.F.type_list_append mt_append (pv 9) (pa_cons (pe_lamG (T := tabs A) (t := fun E => (tCall (sp_turned K A) [] E (tCons (tVar 1) (tCons (tVar 4) (tCons (tVar 8) (tCons (tLst (tCons (tVar 7) (tCons (tVar 7) (tCons (tVar 6) tNil)))) tNil)))))) rfl T.g__law_heard T.F__law_heard T.b__law_heard sc__law_heard rfl (Or.inl rfl) (heard_gives T) TB rfl (List.mem_cons_of_mem _ (List.mem_cons_of_mem _ (List.mem_cons_of_mem _ List.mem_cons_self))) (tabs_u3 ne) (k := 12) (hr.mono (by decide)) (lamS_by (sc := defScope s__law_turned_right) (by decide +kernel)) rfl (fun _ _ _ _ _ => rfl) (fun A1 outer1 s1 H1 E1 f1 c1 hr1 => (pe_callG (E := E1) (G_turned T) (hr1.mono (by decide)) rfl T.g_turned T.F_turned.kp T.b_turned .nil (passes_call (takes_of rfl rfl rfl rfl) (fun _ _ _ _ h => h)) (pa_cons (pv 1) (pa_cons (pv 4) (pa_cons (pv 8) (pa_cons (pe_lst (pa_cons (pv 7) (pa_cons (pv 7) (pa_cons (pv 6) pa_nil)))) pa_nil))))))) pa_nil)))
      (pss_cons (ps_expr (pe_bm PySem.F.plainAttrs_list PySem.F.slot_list_append PySem.F.type_list_append mt_append (pv 9) (pa_cons (pe_lamG (T := tabs A) (t := fun E => (tCall (sp_turned K A) [] E (tCons (tVar 1) (tCons (tVar 4) (tCons (tVar 8) (tCons (tTup (tCons (tVar 7) (tCons (tVar 6) (tCons (tC .non) tNil)))) tNil)))))) rfl T.g__law_heard T.F__law_heard T.b__law_heard sc__law_heard rfl (Or.inl rfl) (heard_gives T) TB rfl (List.mem_cons_of_mem _ (List.mem_cons_of_mem _ (List.mem_cons_of_mem _ List.mem_cons_self))) (tabs_u3 ne) (k := 12) (hr.mono (by decide)) (lamS_by (sc := defScope s__law_turned_right) (by decide +kernel)) rfl (fun _ _ _ _ _ => rfl) (fun A1 outer1 s1 H1 E1 f1 c1 hr1 => (pe_callG (E := E1) (G_turned T) (hr1.mono (by decide)) rfl T.g_turned T.F_turned.kp T.b_turned .nil (passes_call (takes_of rfl rfl rfl rfl) (fun _ _ _ _ h => h)) (pa_cons (pv 1) (pa_cons (pv 4) (pa_cons (pv 8) (pa_cons (pe_tup (pa_cons (pv 7) (pa_cons (pv 6) (pa_cons pe_non pa_nil)))) pa_nil))))))) pa_nil)))
      (pss_cons (ps_expr (pe_bm PySem.F.plainAttrs_list PySem.F.slot_list_append PySem.F.type_list_append mt_append (pv 9) (pa_cons (pe_lamG (T := tabs A) (t := fun E => (tCall (sp_turned K A) [] E (tCons (tVar 1) (tCons (tVar 4) (tCons (tVar 8) (tCons (tLst (tCons (tVar 7) (tCons (tOp (rI (fun _ j => j ≠ 0) fun i j => V.int (i.fmod j)) (tCB rInt1 (tCons (tOp (rI0 fun i j => V.int (i + j)) (tVar 7) (tC (.int 1))) tNil)) (tC (.int 5))) (tCons (tVar 7) tNil)))) tNil)))))) rfl T.g__law_heard T.F__law_heard T.b__law_heard sc__law_heard rfl (Or.inl rfl) (heard_gives T) TB rfl (List.mem_cons_of_mem _ (List.mem_cons_of_mem _ (List.mem_cons_of_mem _ List.mem_cons_self))) (tabs_u3 ne) (k := 12) (hr.mono (by decide)) (lamS_by (sc := defScope s__law_turned_right) (by decide +kernel)) rfl (fun _ _ _ _ _ => rfl) (fun A1 outer1 s1 H1 E1 f1 c1 hr1 => (pe_callG (E := E1) (G_turned T) (hr1.mono (by decide)) rfl T.g_turned T.F_turned.kp T.b_turned .nil (passes_call (takes_of rfl rfl rfl rfl) (fun _ _ _ _ h => h)) (pa_cons (pv 1) (pa_cons (pv 4) (pa_cons (pv 8) (pa_cons (pe_lst (pa_cons (pv 7) (pa_cons (pe_op op_modN (pe_callTy (T := "int") call_int1 (by rfl) T.n_int (by decide +kernel) (pa_cons (pe_op op_add (pv 7) pe_int) pa_nil)) pe_int) (pa_cons (pv 7) pa_nil)))) pa_nil))))))) pa_nil)))
      (pss_cons (ps_expr (pe_bm PySem.F.plainAttrs_list PySem.F.slot_list_append PySem.F.type_list_append mt_append (pv 9) (pa_cons (pe_lamG (T := tabs A) (t := fun E => (tCallK (sp_turned K A) fourX E tNil (tCons (tCall sp_some [] E0 (tCons (tVar 0) (tCons (tLst (tCons (tLst (tCons (tC (.int 1)) tNil)) (tCons (tLst (tCons (tC (.int 4)) tNil)) (tCons (tLst (tCons (tC (.int 1)) (tCons (tC (.int 3)) tNil))) (tCons (tTup (tCons (tC (.int 2)) (tCons (tC (.int 4)) (tCons (tC (.int 0)) tNil)))) tNil))))) tNil))) (tCons (tC (.int 1)) (tCons (tC (.int 0)) (tCons (tVar 1) tNil)))))) rfl T.g__law_heard T.F__law_heard T.b__law_heard sc__law_heard rfl (Or.inl rfl) (heard_gives T) TB rfl (List.mem_cons_of_mem _ (List.mem_cons_of_mem _ (List.mem_cons_of_mem _ List.mem_cons_self))) (tabs_u3 ne) (k := 12) (hr.mono (by decide)) (lamS_by (sc := defScope s__law_turned_right) (by decide +kernel)) rfl (fun _ _ _ _ _ => rfl) (fun A1 outer1 s1 H1 E1 f1 c1 hr1 => (pe_callGK0 (E := E1) (G_turned T) (hr1.mono (by decide)) rfl T.g_turned T.F_turned.kp (kb_turned_ties_other_one_web T) (passes_call (takes_of rfl rfl rfl rfl) (fun _ _ _ _ h => h)) (pk_cons (pe_callG (G__law_any T) (hr1.mono (by decide)) rfl T.g__law_any T.F__law_any.kp T.b__law_any .nil pass0 (pa_cons (pv 0) (pa_cons (pe_lst (pa_cons (pe_lst (pa_cons pe_int pa_nil)) (pa_cons (pe_lst (pa_cons pe_int pa_nil)) (pa_cons (pe_lst (pa_cons pe_int (pa_cons pe_int pa_nil))) (pa_cons (pe_tup (pa_cons pe_int (pa_cons pe_int (pa_cons pe_int pa_nil)))) pa_nil))))) pa_nil))) (pk_cons pe_int (pk_cons pe_int (pk_cons (pv 1) pk_nil))))))) pa_nil)))
      (pss_cons (ps_set (i := 10) sc__law_turned_right.nd rfl (Or.inl rfl) (pe_lst (pa_cons (pe_tup (pa_cons pe_str (pa_cons (pe_callB (call_repr2 hr.gd hr.room.units) (by rfl) T.n_repr (by decide +kernel) (pa_cons (pv 2) pa_nil)) pa_nil))) (pa_cons (pe_tup (pa_cons pe_str (pa_cons (pe_callB (call_repr2 hr.gd hr.room.units) (by rfl) T.n_repr (by decide +kernel) (pa_cons (pv 3) pa_nil)) pa_nil))) (pa_cons (pe_tup (pa_cons pe_str (pa_cons (pe_callB (call_repr2 hr.gd hr.room.units) (by rfl) T.n_repr (by decide +kernel) (pa_cons (pv 4) pa_nil)) pa_nil))) (pa_cons (pe_tup (pa_cons pe_str (pa_cons pe_str pa_nil))) (pa_cons (pe_tup (pa_cons pe_str (pa_cons (pe_callB (call_repr2 hr.gd hr.room.units) (by rfl) T.n_repr (by decide +kernel) (pa_cons (pv 6) pa_nil)) pa_nil))) (pa_cons (pe_tup (pa_cons pe_str (pa_cons (pe_callB (call_repr2 hr.gd hr.room.units) (by rfl) T.n_repr (by decide +kernel) (pa_cons (pv 6) pa_nil)) pa_nil))) (pa_cons (pe_tup (pa_cons pe_str (pa_cons (pe_callB (call_repr2 hr.gd hr.room.units) (by rfl) T.n_repr (by decide +kernel) (pa_cons (pv 7) pa_nil)) pa_nil))) pa_nil)))))))))
      (pss_one (ps_ret (pe_and (pe_cmpR (op_eqD hr.room.units) (pv 9) (pe_op op_cat (pv 10) (pe_lst (pa_cons (pe_tup (pa_cons pe_str (pa_cons pe_str pa_nil))) pa_nil))) (nomark _)) (pe_one (pe_cmpR (op_eqD hr.room.units) (pe_lamG (T := tabs A) (t := fun E => (tCall (sp_turned K A) [] E (tCons (tMkG A.c_Web (sp_webi K A.c_Web A.c_BadWeb) E (tCons (tC (.int 2)) (tCons (tLst (tCons (tTup (tCons (tC (.int 0)) (tCons (tC (.int 1)) tNil))) tNil)) tNil))) (tCons (tC (.int 0)) (tCons (tC (.int 1)) (tCons (tLst (tCons (tC (.int 1)) tNil)) tNil)))))) rfl T.g__law_heard T.F__law_heard T.b__law_heard sc__law_heard rfl (Or.inl rfl) (heard_gives T) TB rfl (List.mem_cons_of_mem _ (List.mem_cons_of_mem _ (List.mem_cons_of_mem _ List.mem_cons_self))) (tabs_u3 ne) (k := 12) (hr.mono (by decide)) (lamS_by (sc := defScope s__law_turned_right) (by decide +kernel)) rfl (fun _ _ _ _ _ => rfl) (fun A1 outer1 s1 H1 E1 f1 c1 hr1 => (pe_callG (E := E1) (G_turned T) (hr1.mono (by decide)) rfl T.g_turned T.F_turned.kp T.b_turned .nil (passes_call (takes_of rfl rfl rfl rfl) (fun _ _ _ _ h => h)) (pa_cons (pe_mkG (E := E1) T.M_Web (G_Web___init__ T) (hr1.mono (by decide)) rfl T.g_Web T.b_Web___init__ (passes_call (takes_of rfl rfl rfl rfl) (fun _ _ _ _ h => h)) (pa_cons pe_int (pa_cons (pe_lst (pa_cons (pe_tup (pa_cons pe_int (pa_cons pe_int pa_nil))) pa_nil)) pa_nil))) (pa_cons pe_int (pa_cons pe_int (pa_cons (pe_lst (pa_cons pe_int pa_nil)) pa_nil))))))) (pe_tup (pa_cons pe_str (pa_cons pe_str pa_nil))) (nomark _)))))))))))))))))))), ?_⟩
  obtain ⟨_, ms0, t0, l0, hp0, hc0, _⟩ := id bg
  -- the web
  refine ⟨by show 2 ≤ sizeLine; decide, fun t1 ht1 => ⟨by show 2 ≤ sizeLine; decide, fun t2 ht2 => ⟨by show 2 ≤ sizeLine; decide, fun t3 ht3 => ⟨by show 2 ≤ sizeLine; decide, fun t4 ht4 => ⟨by show 2 ≤ sizeLine; decide, fun t5 ht5 => ⟨by show 5 ≤ sizeLine; decide, fun l1 hl1 => ?_⟩⟩⟩⟩⟩⟩
  refine mk_web (m := 4) (ps := [(0, 1), (0, 2), (2, 1), (0, 3), (3, 1)]) (fun x => rfl) (by decide) (by decide) (by decide) ⟨_, .inl upd_same, (.cons ⟨_, rfl, .inr (at_new (at_new (at_new (at_new (at_new upd_same ht2) ht3) ht4) ht5) hl1)⟩ (.cons ⟨_, rfl, .inr (at_new (at_new (at_new (at_new upd_same ht3) ht4) ht5) hl1)⟩ (.cons ⟨_, rfl, .inr (at_new (at_new (at_new upd_same ht4) ht5) hl1)⟩ (.cons ⟨_, rfl, .inr (at_new (at_new upd_same ht5) hl1)⟩ (.cons ⟨_, rfl, .inr (at_new upd_same hl1)⟩ .nil)))))⟩ (by unfold MC.Below; decide) (by decide +kernel) fun x H1 s1 hw => ?_
  have bg1 := (Bg.new (Bg.new (Bg.new (Bg.new (Bg.new (Bg.new bg ht1) ht2) ht3) ht4) ht5) hl1).keep s1
  have tb1 := (Tabs.ext tb (Same.new (Same.new (Same.new (Same.new (Same.new (Same.new (fun _ _ h => h) ht1) ht2) ht3) ht4) ht5) hl1)).ext s1
  clear s1 hl1 ht5 ht4 ht3 ht2 ht1 hp0 hc0 bg tb
  obtain ⟨_, ms1, t1', l1', hp1, hc1, _⟩ := id bg1
  replace hw := hw.strip hp1
  -- what is no place
  refine ⟨_, rfl, _, rfl, by show 1 ≤ sizeLine; decide, fun a1 ha1 => ⟨by show 1 ≤ sizeLine; decide, fun a2 ha2 => ⟨_, _, rfl, rfl, ⟨by decide, by decide, by decide⟩, fun d1 hd1 => ⟨by show 9 ≤ sizeLine; decide, fun q1 hq1 => ?_⟩⟩⟩⟩
  have na1 : a1 ≠ p := (ne_of_none hp1 ha1).symm
  have na2 : a2 ≠ p := (ne_of_none (at_new hp1 ha1) ha2).symm
  have nd1 : d1 ≠ p := (ne_of_none (at_new (at_new hp1 ha1) ha2) hd1).symm
  have nq1 : q1 ≠ p := (ne_of_none (at_new (at_new (at_new hp1 ha1) ha2) hd1) hq1).symm
  refine ⟨p, c, q1, n + 0, _, rfl, (Bg.new (Bg.new (Bg.new (Bg.new bg1 ha1) ha2) hd1) hq1), by omega, upd_same, nq1, by show 1 ≤ 9; decide, by show 9 ≤ 1000; decide, fun nun H2 hv kp2 bg2 => ?_⟩
  have ga1 := strip_at (p := p) na1 (kp2 _ _ na1 (at_new (at_new (at_new upd_same ha2) hd1) hq1)) (fun _ z => by cases z)
  have ga2 := strip_at (p := p) na2 (kp2 _ _ na2 (at_new (at_new upd_same hd1) hq1)) (fun _ z => by cases z)
  have gd1 := strip_at (p := p) nd1 (kp2 _ _ nd1 (at_new upd_same hq1)) (fun _ z => by cases z)
  have fnun : BadV K 4 (strip p H2) nun := by
    simp only [List.mem_cons, List.not_mem_nil, or_false] at hv
    rcases hv with rfl | rfl | rfl | rfl | rfl | rfl | rfl | rfl | rfl
    · exact ⟨trivial, by decide +kernel, _, by decide +kernel, rep_flat (.int (4)) (fun _ => .int _) (by decide +kernel) (by decide +kernel) (by decide +kernel)⟩
    · exact ⟨trivial, by decide +kernel, _, by decide +kernel, rep_flat (.int (-1)) (fun _ => .int _) (by decide +kernel) (by decide +kernel) (by decide +kernel)⟩
    · exact ⟨trivial, rfl, _, by decide +kernel, rep_flat .none (fun _ => .non) (by decide +kernel) (by decide +kernel) (by decide +kernel)⟩
    · exact ⟨trivial, rfl, _, by decide +kernel, rep_flat (.bool true) (fun _ => .bl _) (by decide +kernel) (by decide +kernel) (by decide +kernel)⟩
    · exact ⟨trivial, rfl, _, by decide +kernel, rep_flat (.str "0") (fun _ => .str _) (by decide +kernel) (by decide +kernel) (by decide +kernel)⟩
    · exact ⟨.inl ⟨_, ga1⟩, rfl, _, by decide +kernel, rep_ref (.list [.int 0]) (fun _ s => .lst (SqL.of (s _ _ ga1)) (.cons (.int _) .nil)) (by decide +kernel) (by decide +kernel) (by decide +kernel)⟩
    · exact ⟨.inr (.inl ⟨_, ga2⟩), rfl, _, by decide +kernel, rep_ref (.tuple [.int 1]) (fun _ s => .tup (SqT.of (s _ _ ga2)) (.cons (.int _) .nil)) (by decide +kernel) (by decide +kernel) (by decide +kernel)⟩
    · exact ⟨trivial, by decide +kernel, _, by decide +kernel, rep_flat (.int (10 ^ 30)) (fun _ => .int _) (by decide +kernel) (by decide +kernel) (by decide +kernel)⟩
    · exact ⟨.inr (.inr ⟨_, gd1⟩), rfl, _, by decide +kernel, rep_dk gd1⟩
  clear hv ga1 ga2 gd1
  have tb2 : Tabs (tabs A) H2 := tabs_keep (Tabs.ext tb1 (Same.new (Same.new (Same.new (Same.new (fun _ _ h => h) ha1) ha2) hd1) hq1)) (kp_n kp2 (at_new (at_new (at_new (at_new hp1 ha1) ha2) hd1) hq1))
  have ss2 : Same (strip p H1) (strip p H2) := Same.trans (strip_ss (Same.new (Same.new (Same.new (Same.new (fun _ _ h => h) ha1) ha2) hd1) hq1)) (strip_kp kp2)
  replace hw := hw.keep ss2
  obtain ⟨_, ms2, t2', l2', hp2, hc2, _⟩ := id bg2
  clear ss2 kp2 hq1 hd1 ha2 ha1 hp1 tb1 bg1
  refine ⟨_, rfl, _, rfl, by show 1 ≤ sizeLine; decide, fun b1 hb1 => ⟨by show 1 ≤ sizeLine; decide, fun b2 hb2 => ⟨by show 5 ≤ sizeLine; decide, fun q2 hq2 => ?_⟩⟩⟩
  have nb1 : b1 ≠ p := (ne_of_none hp2 hb1).symm
  have nb2 : b2 ≠ p := (ne_of_none (at_new hp2 hb1) hb2).symm
  have nq2 : q2 ≠ p := (ne_of_none (at_new (at_new hp2 hb1) hb2) hq2).symm
  refine ⟨p, c, q2, n + 1, _, rfl, (Bg.new (Bg.new (Bg.new bg2 hb1) hb2) hq2), by omega, upd_same, nq2, by show 1 ≤ 5; decide, by show 5 ≤ 1000; decide, fun odd H3 hv kp3 bg3 => ?_⟩
  have gb1 := strip_at (p := p) nb1 (kp3 _ _ nb1 (at_new (at_new upd_same hb2) hq2)) (fun _ z => by cases z)
  have gb2 := strip_at (p := p) nb2 (kp3 _ _ nb2 (at_new upd_same hq2)) (fun _ z => by cases z)
  have fodd : BadV K 4 (strip p H3) odd := by
    simp only [List.mem_cons, List.not_mem_nil, or_false] at hv
    rcases hv with rfl | rfl | rfl | rfl | rfl
    · exact ⟨trivial, by decide +kernel, _, by decide +kernel, rep_flat (.int (4)) (fun _ => .int _) (by decide +kernel) (by decide +kernel) (by decide +kernel)⟩
    · exact ⟨trivial, by decide +kernel, _, by decide +kernel, rep_flat (.int (-2)) (fun _ => .int _) (by decide +kernel) (by decide +kernel) (by decide +kernel)⟩
    · exact ⟨trivial, rfl, _, by decide +kernel, rep_flat (.bool false) (fun _ => .bl _) (by decide +kernel) (by decide +kernel) (by decide +kernel)⟩
    · exact ⟨trivial, rfl, _, by decide +kernel, rep_flat .none (fun _ => .non) (by decide +kernel) (by decide +kernel) (by decide +kernel)⟩
    · exact ⟨.inl ⟨_, gb2⟩, rfl, _, by decide +kernel, rep_ref (.list [.list [.int 1]]) (fun _ s => .lst (SqL.of (s _ _ gb2)) (.cons (.lst (SqL.of (s _ _ gb1)) (.cons (.int _) .nil)) .nil)) (by decide +kernel) (by decide +kernel) (by decide +kernel)⟩
  clear hv gb1 gb2
  have tb3 : Tabs (tabs A) H3 := tabs_keep (Tabs.ext tb2 (Same.new (Same.new (Same.new (fun _ _ h => h) hb1) hb2) hq2)) (kp_n kp3 (at_new (at_new (at_new hp2 hb1) hb2) hq2))
  have ss3 : Same (strip p H2) (strip p H3) := Same.trans (strip_ss (Same.new (Same.new (Same.new (fun _ _ h => h) hb1) hb2) hq2)) (strip_kp kp3)
  replace hw := hw.keep ss3
  replace fnun := fnun.same ss3
  obtain ⟨_, ms3, t3', l3', hp3, hc3, _⟩ := id bg3
  clear ss3 kp3 hq2 hb2 hb1 hp2 tb2 bg2
  refine ⟨by show 2 ≤ sizeLine; decide, fun u1 hu1 => ⟨u1, _, rfl, SqT.of upd_same, rfl, _, _, rfl, _, _, rfl, rfl, ?_⟩⟩
  have bg4 := bg3.new (o := .tup [nun, odd]) hu1
  have tb4 := tb3.ext (Same.new (o := .tup [nun, odd]) (fun _ _ h => h) hu1)
  have ss4 : Same (strip p H3) (strip p (upd H3 u1 (.tup [nun, odd]))) := strip_ext hu1
  have hp4 := at_new (u := .tup [nun, odd]) hp3 hu1
  replace hw := hw.keep ss4
  replace fnun := fnun.same ss4
  replace fodd := fodd.same ss4
  clear ss4 bg3 tb3 hp3
  generalize upd H3 u1 (.tup [nun, odd]) = H4 at *
  clear hu1
  -- a place, and what is no list
  refine ⟨_, rfl, p, c, _, 4, rfl, bg4, by omega, by decide, by decide, fun pl0 H5 pl1 pl2 kp5 bg5 => ?_⟩
  have tb5 : Tabs (tabs A) H5 := tabs_keep (Tabs.ext tb4 (fun _ _ h => h)) (kp_n kp5 hp4)
  have ss5 : Same (strip p H4) (strip p H5) := Same.trans (strip_ss (fun _ _ h => h)) (strip_kp kp5)
  replace hw := hw.keep ss5
  replace fnun := fnun.same ss5
  replace fodd := fodd.same ss5
  obtain ⟨_, ms5, t5', l5', hp5, hc5, _⟩ := id bg5
  clear ss5 kp5  hp4 tb4 bg4
  refine ⟨_, rfl, fun d1 hd1 d2 hd2 => ⟨upd_same, [(.inl 1, .int 2)], rfl, by decide, ?_⟩⟩
  rw [L2.upd_upd]
  refine ⟨by show 6 ≤ sizeLine; decide, fun q3 hq3 => ?_⟩
  have nd1 : d1 ≠ p := (ne_of_none hp5 hd1).symm
  have nd2 : d2 ≠ p := (ne_of_none (at_new hp5 hd1) hd2).symm
  have nq3 : q3 ≠ p := (ne_of_none (at_new (at_new hp5 hd1) hd2) hq3).symm
  refine ⟨p, c, q3, n + 3, _, rfl, (Bg.new (Bg.new (Bg.new bg5 hd1) hd2) hq3), by omega, upd_same, nq3, by show 1 ≤ 6; decide, by show 6 ≤ 1000; decide, fun lot H6 hv kp6 bg6 => ?_⟩
  have gd1 := strip_at (p := p) nd1 (kp6 _ _ nd1 (at_new (at_new upd_same hd2) hq3)) (fun _ z => by cases z)
  have gd2 := strip_at (p := p) nd2 (kp6 _ _ nd2 (at_new upd_same hq3)) (fun _ z => by cases z)
  have flot : BadL (strip p H6) lot := by
    simp only [List.mem_cons, List.not_mem_nil, or_false] at hv
    rcases hv with rfl | rfl | rfl | rfl | rfl | rfl
    · exact ⟨trivial, rfl⟩
    · exact ⟨trivial, rfl⟩
    · exact ⟨trivial, rfl⟩
    · exact ⟨.inr (.inr ⟨_, gd1⟩), by simp only [isLT, gd1]⟩
    · exact ⟨.inr (.inr ⟨_, gd2⟩), by simp only [isLT, gd2]⟩
    · exact ⟨trivial, rfl⟩
  clear hv gd1 gd2
  have tb6 : Tabs (tabs A) H6 := tabs_keep (Tabs.ext tb5 (Same.new (Same.new (Same.new (fun _ _ h => h) hd1) hd2) hq3)) (kp_n kp6 (at_new (at_new (at_new hp5 hd1) hd2) hq3))
  have ss6 : Same (strip p H5) (strip p H6) := Same.trans (strip_ss (Same.new (Same.new (Same.new (fun _ _ h => h) hd1) hd2) hq3)) (strip_kp kp6)
  replace hw := hw.keep ss6
  replace fnun := fnun.same ss6
  replace fodd := fodd.same ss6
  obtain ⟨_, ms6, t6', l6', hp6, hc6, _⟩ := id bg6
  clear ss6 kp6 hq3 hd2 hd1 hp5 tb5 bg5
  refine ⟨by show 2 ≤ sizeLine; decide, fun u2 hu2 => ⟨u2, _, rfl, SqT.of upd_same, rfl, _, _, rfl, _, _, rfl, rfl, ?_⟩⟩
  have bg7 := bg6.new (o := .tup [.int pl0, lot]) hu2
  have tb7 := tb6.ext (Same.new (o := .tup [.int pl0, lot]) (fun _ _ h => h) hu2)
  have ss7 : Same (strip p H6) (strip p (upd H6 u2 (.tup [.int pl0, lot]))) := strip_ext hu2
  have hp7 := at_new (u := .tup [.int pl0, lot]) hp6 hu2
  replace hw := hw.keep ss7
  replace fnun := fnun.same ss7
  replace fodd := fodd.same ss7
  replace flot := flot.same ss7
  clear ss7 bg6 tb6 hp6
  generalize upd H6 u2 (.tup [.int pl0, lot]) = H7 at *
  clear hu2
  -- what is no tie, a tie
  refine ⟨_, rfl, _, rfl, by show 1 ≤ sizeLine; decide, fun e1 he1 => ⟨by show 1 ≤ sizeLine; decide, fun e2 he2 => ⟨_, _, rfl, rfl, ⟨by decide, by decide, by decide⟩, by show 8 ≤ sizeLine; decide, fun q4 hq4 => ?_⟩⟩⟩
  have ne1 : e1 ≠ p := (ne_of_none hp7 he1).symm
  have ne2 : e2 ≠ p := (ne_of_none (at_new hp7 he1) he2).symm
  have nq4 : q4 ≠ p := (ne_of_none (at_new (at_new hp7 he1) he2) hq4).symm
  refine ⟨p, c, q4, n + 4, _, rfl, (Bg.new (Bg.new (Bg.new bg7 he1) he2) hq4), by omega, upd_same, nq4, by show 1 ≤ 8; decide, by show 8 ≤ 1000; decide, fun far H8 hv kp8 bg8 => ?_⟩
  have ge1 := strip_at (p := p) ne1 (kp8 _ _ ne1 (at_new (at_new upd_same he2) hq4)) (fun _ z => by cases z)
  have ge2 := strip_at (p := p) ne2 (kp8 _ _ ne2 (at_new upd_same hq4)) (fun _ z => by cases z)
  have ffar : BadV K 5 (strip p H8) far := by
    simp only [List.mem_cons, List.not_mem_nil, or_false] at hv
    rcases hv with rfl | rfl | rfl | rfl | rfl | rfl | rfl | rfl
    · exact ⟨trivial, by decide +kernel, _, by decide +kernel, rep_flat (.int (5)) (fun _ => .int _) (by decide +kernel) (by decide +kernel) (by decide +kernel)⟩
    · exact ⟨trivial, by decide +kernel, _, by decide +kernel, rep_flat (.int (-1)) (fun _ => .int _) (by decide +kernel) (by decide +kernel) (by decide +kernel)⟩
    · exact ⟨trivial, rfl, _, by decide +kernel, rep_flat .none (fun _ => .non) (by decide +kernel) (by decide +kernel) (by decide +kernel)⟩
    · exact ⟨trivial, rfl, _, by decide +kernel, rep_flat (.bool true) (fun _ => .bl _) (by decide +kernel) (by decide +kernel) (by decide +kernel)⟩
    · exact ⟨trivial, rfl, _, by decide +kernel, rep_flat (.str "1") (fun _ => .str _) (by decide +kernel) (by decide +kernel) (by decide +kernel)⟩
    · exact ⟨.inl ⟨_, ge1⟩, rfl, _, by decide +kernel, rep_ref (.list [.int 1]) (fun _ s => .lst (SqL.of (s _ _ ge1)) (.cons (.int _) .nil)) (by decide +kernel) (by decide +kernel) (by decide +kernel)⟩
    · exact ⟨.inr (.inl ⟨_, ge2⟩), rfl, _, by decide +kernel, rep_ref (.tuple [.int 0]) (fun _ s => .tup (SqT.of (s _ _ ge2)) (.cons (.int _) .nil)) (by decide +kernel) (by decide +kernel) (by decide +kernel)⟩
    · exact ⟨trivial, by decide +kernel, _, by decide +kernel, rep_flat (.int (10 ^ 20)) (fun _ => .int _) (by decide +kernel) (by decide +kernel) (by decide +kernel)⟩
  clear hv ge1 ge2
  have tb8 : Tabs (tabs A) H8 := tabs_keep (Tabs.ext tb7 (Same.new (Same.new (Same.new (fun _ _ h => h) he1) he2) hq4)) (kp_n kp8 (at_new (at_new (at_new hp7 he1) he2) hq4))
  have ss8 : Same (strip p H7) (strip p H8) := Same.trans (strip_ss (Same.new (Same.new (Same.new (fun _ _ h => h) he1) he2) hq4)) (strip_kp kp8)
  replace hw := hw.keep ss8
  replace fnun := fnun.same ss8
  replace fodd := fodd.same ss8
  replace flot := flot.same ss8
  obtain ⟨_, ms8, t8', l8', hp8, hc8, _⟩ := id bg8
  clear ss8 kp8 hq4 he2 he1 hp7 tb7 bg7
  refine ⟨_, rfl, p, c, _, 5, rfl, bg8, by omega, by decide, by decide, fun ti0 H9 ti1 ti2 kp9 bg9 => ?_⟩
  have tb9 : Tabs (tabs A) H9 := tabs_keep (Tabs.ext tb8 (fun _ _ h => h)) (kp_n kp9 hp8)
  have ss9 : Same (strip p H8) (strip p H9) := Same.trans (strip_ss (fun _ _ h => h)) (strip_kp kp9)
  replace hw := hw.keep ss9
  replace fnun := fnun.same ss9
  replace fodd := fodd.same ss9
  replace flot := flot.same ss9
  replace ffar := ffar.same ss9
  obtain ⟨_, ms9, t9', l9', hp9, hc9, _⟩ := id bg9
  clear ss9 kp9  hp8 tb8 bg8
  refine ⟨by show 2 ≤ sizeLine; decide, fun u3 hu3 => ⟨u3, _, rfl, SqT.of upd_same, rfl, _, _, rfl, _, _, rfl, rfl, ?_⟩⟩
  have bg10 := bg9.new (o := .tup [far, .int ti0]) hu3
  have tb10 := tb9.ext (Same.new (o := .tup [far, .int ti0]) (fun _ _ h => h) hu3)
  have ss10 : Same (strip p H9) (strip p (upd H9 u3 (.tup [far, .int ti0]))) := strip_ext hu3
  have hp10 := at_new (u := .tup [far, .int ti0]) hp9 hu3
  replace hw := hw.keep ss10
  replace fnun := fnun.same ss10
  replace fodd := fodd.same ss10
  replace flot := flot.same ss10
  replace ffar := ffar.same ss10
  clear ss10 bg9 tb9 hp9
  generalize upd H9 u3 (.tup [far, .int ti0]) = H10 at *
  clear hu3
  -- another place
  refine ⟨_, rfl, _, _, rfl, rfl, _, rfl, p, c, _, 3, rfl, bg10, by omega, by decide, by decide, fun o0 H11 o1 o2 kp11 bg11 => ⟨_, _, rfl, rfl, .inl ⟨_, rfl, _, _, rfl, rfl, (by show (4 : Int) ≠ 0; decide), ?_⟩⟩⟩
  have tb11 : Tabs (tabs A) H11 := tabs_keep (Tabs.ext tb10 (fun _ _ h => h)) (kp_n kp11 hp10)
  have ss11 : Same (strip p H10) (strip p H11) := Same.trans (strip_ss (fun _ _ h => h)) (strip_kp kp11)
  replace hw := hw.keep ss11
  replace fnun := fnun.same ss11
  replace fodd := fodd.same ss11
  replace flot := flot.same ss11
  replace ffar := ffar.same ss11
  obtain ⟨_, ms11, t11', l11', hp11, hc11, _⟩ := id bg11
  clear ss11 kp11  hp10 tb10 bg10
  obtain ⟨a, rfl⟩ : ∃ a : Nat, pl0 = (a : Int) := ⟨pl0.toNat, by omega⟩
  obtain ⟨t, rfl⟩ : ∃ t : Nat, ti0 = (t : Int) := ⟨ti0.toNat, by omega⟩
  obtain ⟨b, eb, hb, nab⟩ : ∃ b : Nat, Int.fmod ((a : Int) + 1 + o0) 4 = (b : Int) ∧ b < 4 ∧ a ≠ b := by
    rw [Int.fmod_eq_emod_of_nonneg _ (by decide)]
    exact ⟨(((a : Int) + 1 + o0) % 4).toNat, by omega, by omega, by omega⟩
  obtain ⟨s, es, hs, nst⟩ : ∃ s : Nat, Int.fmod ((t : Int) + 1) 5 = (s : Int) ∧ s < 5 ∧ t ≠ s := by
    rw [Int.fmod_eq_emod_of_nonneg _ (by decide)]
    exact ⟨(((t : Int) + 1) % 5).toNat, by omega, by omega, by omega⟩
  have ha : a < 4 := by omega
  have ht : t < 5 := by omega
  dsimp only
  rw [eb]
  obtain ⟨zn, sn, rn⟩ := fnun.2.2
  obtain ⟨zo, so, ro⟩ := fodd.2.2
  obtain ⟨zf, sf, rf⟩ := ffar.2.2
  refine first_heard (w := some [.str "place", .str zn]) (m := n + 7) tb11 strip_same strip_p strip_nn bg11 (fun E H12 R ss bg12 he _ => ?_) fun hd v1 H12 hh1 => ?_
  · exact ⟨_, rfl, _, rfl, _, rfl, _, rfl, _, _, _, _, rfl, .inr ⟨x, 4, _, rfl, hw.keep ss, by decide, .inl ⟨(fnun.same ss).1, fnun.2.1, out_told (Kp.refl _ _) bg12 he fun H' s' => .place rfl (rn.same (ss.trans s'))⟩⟩⟩
  refine next_heard (w := some [.str "place", .str zo]) (m := n + 7) hh1 (by show 1 + 1 ≤ 100; decide) rfl (fun E H12 R ss bg12 he _ => ?_) fun v2 H12 hh2 => ?_
  · exact ⟨_, rfl, _, rfl, _, rfl, _, rfl, _, _, _, _, rfl, .inr ⟨x, 4, _, rfl, hw.keep ss, by decide, .inr ⟨a, rfl, ha, .inl ⟨(fodd.same ss).1, fodd.2.1, out_told (Kp.refl _ _) bg12 he fun H' s' => .place rfl (ro.same (ss.trans s'))⟩⟩⟩⟩
  refine next_heard (w := some [.str "twice", .str (PyData.int (a : Int)).shown]) (m := n + 7) hh2 (by show 2 + 1 ≤ 100; decide) rfl (fun E H12 R ss bg12 he _ => ?_) fun v3 H12 hh3 => ?_
  · exact ⟨_, rfl, _, rfl, _, rfl, _, rfl, _, _, _, _, rfl, .inr ⟨x, 4, _, rfl, hw.keep ss, by decide, .inr ⟨a, rfl, ha, .inr ⟨a, rfl, ha, .inl ⟨rfl, out_told (Kp.refl _ _) bg12 he fun H' s' => .twice rfl (rep_nat (by omega))⟩⟩⟩⟩⟩
  refine next_heard (w := some [.str "number", .str "ties"]) (m := n + 7) hh3 (by show 3 + 1 ≤ 100; decide) rfl (fun E H12 R ss bg12 he _ => ?_) fun v4 H12 hh4 => ?_
  · exact ⟨_, rfl, _, rfl, _, rfl, _, rfl, _, _, _, _, rfl, .inr ⟨x, 4, _, rfl, hw.keep ss, by decide, .inr ⟨a, rfl, ha, .inr ⟨b, rfl, hb, .inr ⟨nab, .inl (.inl ⟨(flot.same ss).1, (flot.same ss).2, out_told (Kp.refl _ _) bg12 he fun H' s' => .number rfl⟩)⟩⟩⟩⟩⟩
  refine next_heard (w := some [.str "tie", .str zf]) (m := n + 7) hh4 (by show 4 + 1 ≤ 100; decide) rfl (fun E H12 R ss bg12 he _ => ?_) fun v5 H12 hh5 => ?_
  · refine ⟨_, rfl, _, rfl, _, rfl, _, rfl, _, rfl, _, rfl, by show 3 ≤ sizeLine; decide, fun l hl => ?_⟩
    have sl : Same H12 (upd H12 l (.lst [.int (t : Int), .int (t : Int), far])) := Same.new (fun _ _ h => h) hl
    refine ⟨_, _, _, _, rfl, .inr ⟨x, 4, _, rfl, hw.keep (ss.trans sl), by decide, .inr ⟨a, rfl, ha, .inr ⟨b, rfl, hb, .inr ⟨nab, .inl (.inr ⟨l, _, rfl, .inl upd_same, by show 3 ≤ 900; decide, fun v hv => ?_, .inl ⟨2, far, rfl, ffar.2.1, fun j u hj hu => ?_, out_told (Kp.of_same sl) (bg12.keep sl) he fun H' s' => .tie rfl (rf.same (ss.trans (sl.trans s')))⟩⟩)⟩⟩⟩⟩⟩
    · simp only [List.mem_cons, List.not_mem_nil, or_false] at hv
      rcases hv with rfl | rfl | rfl
      · trivial
      · trivial
      · exact (ffar.same (ss.trans sl)).1
    · match j, hj, hu with
      | 0, _, hu => cases hu; exact inB_nat ht
      | 1, _, hu => cases hu; exact inB_nat ht
  refine next_heard (w := some [.str "tie", .str zf]) (m := n + 7) hh5 (by show 5 + 1 ≤ 100; decide) rfl (fun E H12 R ss bg12 he _ => ?_) fun v6 H12 hh6 => ?_
  · refine ⟨_, rfl, _, rfl, _, rfl, _, rfl, _, rfl, by show 3 ≤ sizeLine; decide, fun l hl => ?_⟩
    have sl : Same H12 (upd H12 l (.tup [.int (t : Int), far, .non])) := Same.new (fun _ _ h => h) hl
    refine ⟨_, _, _, _, rfl, .inr ⟨x, 4, _, rfl, hw.keep (ss.trans sl), by decide, .inr ⟨a, rfl, ha, .inr ⟨b, rfl, hb, .inr ⟨nab, .inl (.inr ⟨l, _, rfl, .inr upd_same, by show 3 ≤ 900; decide, fun v hv => ?_, .inl ⟨1, far, rfl, ffar.2.1, fun j u hj hu => ?_, out_told (Kp.of_same sl) (bg12.keep sl) he fun H' s' => .tie rfl (rf.same (ss.trans (sl.trans s')))⟩⟩)⟩⟩⟩⟩⟩
    · simp only [List.mem_cons, List.not_mem_nil, or_false] at hv
      rcases hv with rfl | rfl | rfl
      · trivial
      · exact (ffar.same (ss.trans sl)).1
      · trivial
    · match j, hj, hu with
      | 0, _, hu => cases hu; exact inB_nat ht
  refine next_heard (w := some [.str "twice", .str (PyData.int (t : Int)).shown]) (m := n + 7) hh6 (by show 6 + 1 ≤ 100; decide) rfl (fun E H12 R ss bg12 he _ => ?_) fun v7 H12 hh7 => ?_
  · refine ⟨_, rfl, _, rfl, _, rfl, _, rfl, _, rfl, _, _, rfl, rfl, .inl ⟨_, rfl, _, _, rfl, rfl, (by show (5 : Int) ≠ 0; decide), _, rfl, by show 3 ≤ sizeLine; decide, fun l hl => ?_⟩⟩
    dsimp only at hl ⊢
    rw [es]
    have sl : Same H12 (upd H12 l (.lst [.int (t : Int), .int (s : Int), .int (t : Int)])) := Same.new (fun _ _ h => h) hl
    refine ⟨_, _, _, _, rfl, .inr ⟨x, 4, _, rfl, hw.keep (ss.trans sl), by decide, .inr ⟨a, rfl, ha, .inr ⟨b, rfl, hb, .inr ⟨nab, .inl (.inr ⟨l, _, rfl, .inl upd_same, by show 3 ≤ 900; decide, fun v hv => ?_, .inr ⟨[t, s, t], (t : Int), rfl, fun v hv => ?_, ?_, out_told (Kp.of_same sl) (bg12.keep sl) he fun H' s' => .twice rfl (rep_nat (by omega))⟩⟩)⟩⟩⟩⟩⟩
    · simp only [List.mem_cons, List.not_mem_nil, or_false] at hv
      rcases hv with rfl | rfl | rfl <;> trivial
    · simp only [List.mem_cons, List.not_mem_nil, or_false] at hv
      rcases hv with rfl | rfl | rfl <;> assumption
    · simp [itn, twice]
  refine next_heard (w := some [.str "misfit", .str "part"]) (m := n + 8) hh7 (by show 7 + 1 ≤ 100; decide) rfl (fun E H12 R ss bg12 he _ => ?_) fun v8 H12 hh8 => ?_
  · refine ⟨_, rfl, by show 1 ≤ sizeLine; decide, fun g1 k1 => ⟨by show 1 ≤ sizeLine; decide, fun g2 k2 => ⟨by show 2 ≤ sizeLine; decide, fun g3 k3 => ⟨by show 3 ≤ sizeLine; decide, fun g4 k4 => ⟨by show 4 ≤ sizeLine; decide, fun q5 k5 => ?_⟩⟩⟩⟩⟩
    obtain ⟨_, ms12, t12', l12', hp12, hc12, _⟩ := id bg12
    have ng1 : g1 ≠ p := (ne_of_none hp12 k1).symm
    have ng2 : g2 ≠ p := (ne_of_none (at_new hp12 k1) k2).symm
    have ng3 : g3 ≠ p := (ne_of_none (at_new (at_new hp12 k1) k2) k3).symm
    have ng4 : g4 ≠ p := (ne_of_none (at_new (at_new (at_new hp12 k1) k2) k3) k4).symm
    have nq5 : q5 ≠ p := (ne_of_none (at_new (at_new (at_new (at_new hp12 k1) k2) k3) k4) k5).symm
    refine ⟨p, c, q5, n + 7, _, rfl, (Bg.new (Bg.new (Bg.new (Bg.new (Bg.new bg12 k1) k2) k3) k4) k5), by omega, upd_same, nq5, by show 1 ≤ 4; decide, by show 4 ≤ 1000; decide, fun v H13 hv kp13 bg13 => ⟨_, rfl, ?_⟩⟩
    have xg1 := kp13 _ _ ng1 (at_new (at_new (at_new (at_new upd_same k2) k3) k4) k5)
    have xg2 := kp13 _ _ ng2 (at_new (at_new (at_new upd_same k3) k4) k5)
    have xg3 := kp13 _ _ ng3 (at_new (at_new upd_same k4) k5)
    have xg4 := kp13 _ _ ng4 (at_new upd_same k5)
    have kpT : Kp p H12 H13 := (Kp.of_same (Same.new (Same.new (Same.new (Same.new (Same.new (fun _ _ h => h) k1) k2) k3) k4) k5)).trans kp13
    have fv : ∃ (l : Addr) (ts : List Nat), v = .ref l ∧ SqX H13 l (nv ts) ∧ ts.length ≤ 12 ∧ (∀ t ∈ ts, t < 5) ∧ twice [] (itn ts) = .non ∧ thirds [(0, 1), (0, 2), (2, 1), (0, 3), (3, 1)] ts 0 1 ≠ [] := by
      simp only [List.mem_cons, List.not_mem_nil, or_false] at hv
      rcases hv with rfl | rfl | rfl | rfl
      · exact ⟨_, [1], rfl, .inl xg1, by decide, by decide, by decide +kernel, by decide +kernel⟩
      · exact ⟨_, [4], rfl, .inl xg2, by decide, by decide, by decide +kernel, by decide +kernel⟩
      · exact ⟨_, [1, 3], rfl, .inl xg3, by decide, by decide, by decide +kernel, by decide +kernel⟩
      · exact ⟨_, [2, 4, 0], rfl, .inr xg4, by decide, by decide, by decide +kernel, by decide +kernel⟩
    obtain ⟨l, ts, rfl, f1, f2, f3, f4, f5⟩ := fv
    exact ⟨_, _, _, _, rfl, .inr ⟨x, 4, _, rfl, hw.keep fun b o h => kpT b o (strip_of h).1 (ss b o h), by decide, .inr ⟨0, rfl, by decide, .inr ⟨1, rfl, by decide, .inr ⟨by decide, .inr ⟨l, ts, rfl, f1, f2, f3, f4, f5, out_told kpT bg13 he fun H' s' => .misfit rfl⟩⟩⟩⟩⟩⟩
  -- what is due
  have S8 := hh8.same
  refine ⟨_, rfl, rn _ _ S8 ⟨by show 2 ≤ sizeLine; decide, fun w1 hw1 => ⟨_, rfl, ro _ _ (Same.new S8 hw1) ⟨by show 2 ≤ sizeLine; decide, fun w2 hw2 => ⟨_, rfl, (rep_nat (K := K) (H := strip p H11) (by omega : a ≤ 13)) _ _ (Same.new (Same.new S8 hw1) hw2) ⟨by show 2 ≤ sizeLine; decide, fun w3 hw3 => ⟨by show 2 ≤ sizeLine; decide, fun w4 hw4 => ⟨_, rfl, rf _ _ (Same.new (Same.new (Same.new (Same.new S8 hw1) hw2) hw3) hw4) ⟨by show 2 ≤ sizeLine; decide, fun w5 hw5 => ⟨_, rfl, rf _ _ (Same.new (Same.new (Same.new (Same.new (Same.new S8 hw1) hw2) hw3) hw4) hw5) ⟨by show 2 ≤ sizeLine; decide, fun w6 hw6 => ⟨_, rfl, (rep_nat (K := K) (H := strip p H11) (by omega : t ≤ 13)) _ _ (Same.new (Same.new (Same.new (Same.new (Same.new (Same.new S8 hw1) hw2) hw3) hw4) hw5) hw6) ⟨by show 2 ≤ sizeLine; decide, fun w7 hw7 => ⟨by show 7 ≤ sizeLine; decide, fun du hdu => ?_⟩⟩⟩⟩⟩⟩⟩⟩⟩⟩⟩⟩⟩⟩
  refine ⟨_, rfl, _, rfl, by show 2 ≤ sizeLine; decide, fun w8 hw8 => ⟨by show 1 ≤ sizeLine; decide, fun m1 hm1 => ⟨du, m1, _, _, rfl, rfl, at_new (at_new upd_same hw8) hm1, upd_same, by show 7 + 1 ≤ sizeLine; decide, fun m2 hm2 => ?_⟩⟩⟩
  refine eq_heard (hh8.on (Same.new (Same.new (Same.new (Same.new (Same.new (Same.new (Same.new (Same.new (Same.new (Same.new (Same.new (fun _ _ h => h) hw1) hw2) hw3) hw4) hw5) hw6) hw7) hdu) hw8) hm1) hm2)) upd_same (.cons ⟨_, rfl, (at_new (at_new (at_new (at_new (at_new (at_new (at_new (at_new (at_new (at_new upd_same hw2) hw3) hw4) hw5) hw6) hw7) hdu) hw8) hm1) hm2)⟩ (.cons ⟨_, rfl, (at_new (at_new (at_new (at_new (at_new (at_new (at_new (at_new (at_new upd_same hw3) hw4) hw5) hw6) hw7) hdu) hw8) hm1) hm2)⟩ (.cons ⟨_, rfl, (at_new (at_new (at_new (at_new (at_new (at_new (at_new (at_new upd_same hw4) hw5) hw6) hw7) hdu) hw8) hm1) hm2)⟩ (.cons ⟨_, rfl, (at_new (at_new (at_new (at_new (at_new (at_new (at_new upd_same hw5) hw6) hw7) hdu) hw8) hm1) hm2)⟩ (.cons ⟨_, rfl, (at_new (at_new (at_new (at_new (at_new (at_new upd_same hw6) hw7) hdu) hw8) hm1) hm2)⟩ (.cons ⟨_, rfl, (at_new (at_new (at_new (at_new (at_new upd_same hw7) hdu) hw8) hm1) hm2)⟩ (.cons ⟨_, rfl, (at_new (at_new (at_new (at_new upd_same hdu) hw8) hm1) hm2)⟩ (.cons ⟨_, rfl, (at_new (at_new upd_same hm1) hm2)⟩ (.nil))))))))) (by rfl) (shaped_items _ ?_) (eqv_list_items _) ?_
  · have k1 := ok_nat (show a ≤ 13 by omega)
    have k2 := ok_nat (show t ≤ 13 by omega)
    have ks : ∀ z ∈ (["place", "twice", "number", "ties", "tie", "misfit", "part"] : List Str), PyData.strOk z = true := by decide +kernel
    simp only [List.mem_cons, List.not_mem_nil, or_false, forall_eq_or_imp, forall_eq] at ks
    simp only [List.cons_append, List.nil_append, List.all_cons, List.all_nil, okI, okS, k1, k2, sn, so, sf, ks, Bool.and_self]
  refine ⟨true, rfl, iteT ?_⟩
  refine lam_heard (w := some [.str "tie", .str "1"]) (m := n + 8) (hh8.tb.ext (Same.new (Same.new (Same.new (Same.new (Same.new (Same.new (Same.new (Same.new (Same.new (Same.new (Same.new (fun _ _ h => h) hw1) hw2) hw3) hw4) hw5) hw6) hw7) hdu) hw8) hm1) hm2)) (hh8.same.trans (Same.new (Same.new (Same.new (Same.new (Same.new (Same.new (Same.new (Same.new (Same.new (Same.new (Same.new (fun _ _ h => h) hw1) hw2) hw3) hw4) hw5) hw6) hw7) hdu) hw8) hm1) hm2)) strip_nn (hh8.bg.keep (Same.new (Same.new (Same.new (Same.new (Same.new (Same.new (Same.new (Same.new (Same.new (Same.new (Same.new (fun _ _ h => h) hw1) hw2) hw3) hw4) hw5) hw6) hw7) hdu) hw8) hm1) hm2)) (fun E H14 R ss bg14 he _ => ?_) fun v H13 H14 e1 kp bg14 tb14 hi => ⟨by show 2 ≤ sizeLine; decide, fun z hz => ?_⟩
  · refine ⟨by show 2 ≤ sizeLine; decide, fun g1 k1 => ⟨by show 1 ≤ sizeLine; decide, fun g2 k2 => ?_⟩⟩
    refine mk_web (m := 2) (ps := [(0, 1)]) (fun x => rfl) (by decide) (by decide) (by decide) ⟨_, .inl upd_same, .cons ⟨_, rfl, .inr (at_new upd_same k2)⟩ .nil⟩ (by unfold MC.Below; decide) (by decide +kernel) fun y H15 s15 hy => ⟨by show 1 ≤ sizeLine; decide, fun l hl => ?_⟩
    have sl : Same H15 (upd H15 l (.lst [.int 1])) := Same.new (fun _ _ h => h) hl
    have sa := (Same.new (Same.new (fun _ _ h => h) k1) k2).trans (s15.trans sl)
    have e1 : (PyData.int ((1 : Nat) : Int)).shown = "1" := by decide +kernel
    refine ⟨_, _, _, _, rfl, .inr ⟨y, 2, _, rfl, hy.keep sl, by decide, .inr ⟨0, rfl, by decide, .inr ⟨1, rfl, by decide, .inr ⟨by decide, .inl (.inr ⟨l, _, rfl, .inl upd_same, by show 1 ≤ 900; decide, fun v hv => ?_, .inl ⟨0, .int 1, rfl, by decide +kernel, fun j u hj => absurd hj (Nat.not_lt_zero _), out_told (Kp.of_same sa) (bg14.keep sa) he fun H' s' => .tie rfl (e1 ▸ rep_nat (n := 1) (by decide))⟩⟩)⟩⟩⟩⟩⟩
    rw [List.mem_singleton.mp hv]
    trivial
  · obtain ⟨t', rfl, ht'⟩ := hi
    refine ⟨.tuple [.str "tie", .str "1"], .tuple [.str "tie", .str "1"], .tup (SqT.of (at_new ht' hz)) (.cons (.str _) (.cons (.str _) .nil)), .tup (SqT.of upd_same) (.cons (.str _) (.cons (.str _) .nil)), by decide +kernel, by decide +kernel, ?_⟩
    have ev : PyData.eqv (.tuple [.str "tie", .str "1"]) (.tuple [.str "tie", .str "1"]) = true := by decide +kernel
    rw [ev]
    exact k _ (bg14.new hz) (tb14.ext (Same.new (fun _ _ h => h) hz))
/-! ### texts -/
theorem H_init_BadText (T : Txt P K mg A) : L2H.FnH P w K mg base CX0 1 A.i_BadText A.d_init_BadText P_init_BadText (sp2 K "line" "item") := by
  refine okH T.F_init_BadText sc_init_BadText (fun vs H Q E h => ?_) (fun cdv A0 outer s H vs Q E p h => ?_)
  · obtain ⟨a, C, v, u, rfl, _⟩ := h
    rfl
  obtain ⟨a, C, v, u, rfl, o, n1, n2, ha, k⟩ := h
  refine ⟨_, (pss_cons (ps_ost (pv 0) (pv 1)) (pss_one (ps_ost (pv 0) (pv 2)))), ?_⟩
  refine ⟨_, rfl, _, rfl, a, C, rfl, o, n1, .inl ⟨ha, fun dx hd hda => ?_⟩⟩
  have e1 : (upd (upd H dx (exd dx [("line", v)])) a (exo a C (some dx))) a = some (exo a C (some dx)) := upd_same
  have e2 : (upd (upd H dx (exd dx [("line", v)])) a (exo a C (some dx))) dx = some (exd dx [("line", v)]) := by rw [upd_ne hda]; exact upd_same
  refine ⟨_, rfl, _, rfl, a, C, rfl, o, n2, .inr ⟨dx, _, e1, e2, by show 1 ≤ 900; decide, ?_⟩⟩
  refine k _ dx hd hda (by rw [upd_ne hda.symm]; exact e1) upd_same ?_
  intro b z n h
  rw [upd_ne (ne_of_none h hd)]
  exact (upd_kp hd hda) b z n h
/-- the text of a number -/
def wd (n : Nat) : Str := Str.ofString (toString (n : Int))
theorem by15 (f : Nat → Bool) (h : (List.range 15).all f = true) {n : Nat} (h1 : n ≤ 14) : f n = true := List.all_eq_true.mp h n (List.mem_range.mpr (by omega))
/-- what item tells -/
inductive NumW : Str → V → Prop
  | num (n : Nat) (h : n ≤ 14) : NumW (wd n) (.int (n : Int))
  | neg : NumW "-3" (.int (-3))
  | non (s : Str) (h : s = "" ∨ s = "03" ∨ s = "three") : NumW s .non
theorem NumW.ok {s : Str} {v : V} {H : Hp} (h : NumW s v) : OkV H v := by
  cases h <;> trivial
def OutT (A : Ad) (E : XK) (H : Hp) (i : V) : Prop := ∀ d H', H' d = some (.xd [("item", i), ("line", .int 0)]) → Same H H' → E (.ref A.c_BadText) (some d) H'
theorem OutT.on {E : XK} {H H1 : Hp} {i : V} (o : OutT A E H i) (s : Same H H1) : OutT A E H1 i := fun d H' h t => o d H' h (s.trans t)
theorem kindS {H : Hp} {v : V} (h : OkV H v) (ns : ∀ s, v ≠ .str s) : ∃ t, TyX K H v (.type t) ∧ kitB t "str" = some false := by
  cases v with
  | non => exact ⟨_, .base .non, by decide +kernel⟩
  | bl b => exact ⟨_, .base (.bl b), by decide +kernel⟩
  | int b => exact ⟨_, .base (.int b), by decide +kernel⟩
  | str b => exact absurd rfl (ns b)
  | ref a =>
    rcases h with ⟨xs, e⟩ | ⟨xs, e⟩ | ⟨xs, e⟩
    · exact ⟨_, .base (.lst e), by decide +kernel⟩
    · exact ⟨_, .base (.tup e), by decide +kernel⟩
    · exact ⟨_, .base (.dK e), by decide +kernel⟩
  | byt _ => exact h.elim
  | flt _ => exact h.elim
  | ty _ => exact h.elim
def sp_items (A : Ad) : Sp := fun vs H Q E => ∃ v : V, vs = [v] ∧
  ((OkV H v ∧ (∀ s, v ≠ .str s) ∧ OutT A E H (.int 0)) ∨
   ∃ ws : List Str, v = .str (Txt.join " " ws) ∧ ws ≠ [] ∧ (∀ p ∈ ws, 32 ∉ TL.tl p) ∧ (Txt.join " " ws).length + 2 ≤ sizeLine ∧ ∀ q H', Same H H' → H' q = some (.lst (ws.map V.str)) → Q (.ref q) H')
theorem G_items_of (T : Txt P K mg A) : FnG P w K mg base (L2.CX P w) 3 A.a_items_of A.d_items_of P_items_of (sp_items A) := by
  refine okGX T.F_items_of sc_items_of (fun vs H Q E h => ?_) (fun cdv A0 outer s H vs Q E hr h => ?_)
  · obtain ⟨v, rfl, _⟩ := h
    rfl
  obtain ⟨v, rfl, h⟩ := h
  refine ⟨_, (pss_cons (ps_if (pt_not (pt_val (pe_callB call_isi (by rfl) T.n_isinstance (by decide +kernel) (pa_cons (pv 0) (pa_cons (pe_bltn (v := .ty "str") (u := .type "str") (by rfl) T.n_str (by decide +kernel) rfl) pa_nil))))) (pss_one (ps_raise rfl (takes_of rfl rfl rfl rfl) (pmk_G T.X_BadText.oex T.X_BadText.iC T.X_BadText.tI (G_init_BadText T) (hr.mono (by decide)) rfl T.X_BadText.gC T.b_init_BadText pass0 (pa_cons pe_int (pa_cons pe_int pa_nil))))) pss_nil)
      (pss_one (ps_ret (pe_bm PySem.F.plainAttrs_str PySem.F.slot_str_split PySem.F.type_str_split mt_split (pv 0) (pa_cons pe_str pa_nil))))), ?_⟩
  rcases h with ⟨ok, ns, k⟩ | ⟨ws, rfl, h1, h2, h3, k⟩
  · obtain ⟨t, ty, kt⟩ := kindS (K := K) ok ns
    refine ⟨_, rfl, _, _, _, _, _, rfl, .ty "str", ty, kit_ty kt, _, rfl, iteT ?_⟩
    exact ⟨by show 2 ≤ 1000; decide, raise2 T.X_BadText.oex (T.X_BadText.no _ List.mem_cons_self) (T.X_BadText.no _ (List.mem_cons_of_mem _ List.mem_cons_self)) k⟩
  · refine ⟨_, rfl, _, _, _, _, _, rfl, .ty "str", .base (.str _), kit_ty (show kitB "str" "str" = some true by decide +kernel), _, rfl, iteF ?_⟩
    refine ⟨_, rfl, rfl, _, _, rfl, rfl, rfl, h3, fun q hq => ?_⟩
    have es : Txt.split (Txt.join " " ws) " " = ws := TL.split_join (s := 32) (S := []) (by rfl) (by decide +kernel) h1 h2
    rw [es]
    exact k q _ (Same.new (fun _ _ h => h) hq) upd_same
def sp_numof : Sp := fun vs H Q _ => ∃ (s : Str) (v : V), vs = [.str s] ∧ NumW s v ∧ Q v H
theorem G_number_of (T : Txt P K mg A) : FnG P w K mg base CX0 1 A.a_number_of A.d_number_of P_number_of sp_numof := by
  refine okG T.F_number_of sc_number_of (fun vs H Q E h => ?_) (fun cdv A0 outer s H vs Q E hr h => ?_)
  · obtain ⟨n, v, rfl, _⟩ := h
    rfl
  obtain ⟨z, v, rfl, hn, k⟩ := h
  refine ⟨_, (pss_cons (ps_set (i := 1) sc_number_of.nd rfl (Or.inl rfl) (pe_ifExp (pt_val (pe_bm PySem.F.plainAttrs_str PySem.F.slot_str_startswith PySem.F.type_str_startswith mt_startswith (pv 0) (pa_cons pe_str pa_nil))) (pe_slice sl_str (pv 0) (po_some pe_int) po_none) (pv 0)))
      (pss_cons (ps_if (PW.pt (pw_or (pt_not (PW.pt (pw_and (pt_val (pe_bm0 PySem.F.plainAttrs_str PySem.F.slot_str_isascii PySem.F.type_str_isascii mt_isascii (pv 1))) (pw_and1 (pt_val (pe_bm0 PySem.F.plainAttrs_str PySem.F.slot_str_isdigit PySem.F.type_str_isdigit mt_isdigit (pv 1))))))) (pw_or1 (pt_cmpR op_gt (pe_callB call_len_str (by rfl) T.n_len (by decide +kernel) (pa_cons (pv 1) pa_nil)) (pe_glob (v := .int 60) rfl T.m_MOST_DIGITS ⟨_, rfl⟩) (nomark _))))) (pss_one (ps_ret pe_non)) pss_nil)
      (pss_cons (ps_if (PW.pt (pw_and (pt_val (pe_bm PySem.F.plainAttrs_str PySem.F.slot_str_startswith PySem.F.type_str_startswith mt_startswith (pv 1) (pa_cons pe_str pa_nil))) (pw_and1 (pt_cmpR op_ne (pv 0) pe_str (nomark _))))) (pss_one (ps_ret pe_non)) pss_nil)
      (pss_one (ps_ret (pe_callTy (T := "int") call_int_str (by rfl) T.n_int (by decide +kernel) (pa_cons (pv 0) pa_nil))))))), ?_⟩
  refine ⟨_, rfl, rfl, _, _, rfl, rfl, _, rfl, ?_⟩
  cases hn with
  | num n hn =>
    have e1 : Txt.startswith (wd n) "-" = false := by have := by15 (fun n => !Txt.startswith (wd n) "-") (by decide +kernel) hn; simpa using this
    have e2 : Txt.isascii (wd n) = true := by15 (fun n => Txt.isascii (wd n)) (by decide +kernel) hn
    have e3 : Txt.isdigit (wd n) = true := by15 (fun n => Txt.isdigit (wd n)) (by decide +kernel) hn
    have e4 : (wd n).length ≤ 2 := of_decide_eq_true (by15 (fun n => decide ((wd n).length ≤ 2)) (by decide +kernel) hn)
    have e5 : PySem.intText? (wd n) = some (n : Int) := of_decide_eq_true (by15 (fun n => decide (PySem.intText? (wd n) = some (n : Int))) (by decide +kernel) hn)
    rw [e1]
    refine iteF ⟨_, rfl, ?_⟩
    refine ⟨_, rfl, rfl, _, rfl, rfl, trivial, _, rfl, ?_⟩
    rw [e2]
    refine iteT ⟨_, rfl, rfl, _, rfl, rfl, trivial, _, rfl, ?_⟩
    rw [e3]
    have ll : (wd n).length ≤ sizeLine := Nat.le_trans e4 (by decide)
    refine iteF ⟨_, rfl, _, rfl, ll, _, _, rfl, rfl, _, rfl, ?_⟩
    rw [decide_eq_false (by omega)]
    refine iteF ?_
    have e6 : Txt.startswith (wd n) "0" = decide (n = 0) := of_decide_eq_true (by15 (fun n => decide (Txt.startswith (wd n) "0" = decide (n = 0))) (by decide +kernel) hn)
    refine ⟨_, rfl, rfl, _, _, rfl, rfl, _, rfl, ?_⟩
    rw [e6]
    have last : tRet (tCB (fun xs H Q => ∃ a n, xs = [V.str a] ∧ intText? a = some n ∧ a.length ≤ 640 ∧ Q (V.int n) H) (tCons (tVar 0) tNil)) { nx := fun x H' => Q V.non H', rt := Q } (List.set (L2.start N_number_of [V.str (wd n)]) 1 (some (V.str (wd n)))) H :=
      ⟨_, rfl, _, _, rfl, e5, by omega, k⟩
    refine ite2 (fun h0 => ?_) (fun _ => last)
    have h0 := of_decide_eq_true h0
    subst h0
    have ew : wd 0 = "0" := by decide +kernel
    refine ⟨_, rfl, ?_⟩
    rw [ew] at last ⊢
    exact ⟨rfl, _, rfl, iteF last⟩
  | neg =>
    rw [show Txt.startswith "-3" "-" = true by decide +kernel]
    refine iteT ⟨_, rfl, _, rfl, _, rfl, by decide, ?_⟩
    rw [show cutS "-3" (some 1) none = "3" by decide +kernel]
    refine ⟨_, rfl, rfl, _, rfl, rfl, trivial, _, rfl, ?_⟩
    rw [show Txt.isascii "3" = true by decide +kernel]
    refine iteT ⟨_, rfl, rfl, _, rfl, rfl, trivial, _, rfl, ?_⟩
    rw [show Txt.isdigit "3" = true by decide +kernel]
    refine iteF ⟨_, rfl, _, rfl, by decide, _, _, rfl, rfl, _, rfl, ?_⟩
    rw [show decide ((60 : Int) < (("3" : Str).length : Int)) = false by decide +kernel]
    refine iteF ⟨_, rfl, rfl, _, _, rfl, rfl, _, rfl, ?_⟩
    rw [show Txt.startswith "3" "0" = false by decide +kernel]
    exact iteF ⟨_, rfl, _, _, rfl, by decide +kernel, by decide, k⟩
  | non z hz =>
    rcases hz with rfl | rfl | rfl
    · rw [show Txt.startswith "" "-" = false by decide +kernel]
      refine iteF ⟨_, rfl, ?_⟩
      refine ⟨_, rfl, rfl, _, rfl, rfl, trivial, _, rfl, ?_⟩
      rw [show Txt.isascii "" = true by decide +kernel]
      refine iteT ⟨_, rfl, rfl, _, rfl, rfl, trivial, _, rfl, ?_⟩
      rw [show Txt.isdigit "" = false by decide +kernel]
      exact iteT k
    · rw [show Txt.startswith "03" "-" = false by decide +kernel]
      refine iteF ⟨_, rfl, ?_⟩
      refine ⟨_, rfl, rfl, _, rfl, rfl, trivial, _, rfl, ?_⟩
      rw [show Txt.isascii "03" = true by decide +kernel]
      refine iteT ⟨_, rfl, rfl, _, rfl, rfl, trivial, _, rfl, ?_⟩
      rw [show Txt.isdigit "03" = true by decide +kernel]
      refine iteF ⟨_, rfl, _, rfl, by decide, _, _, rfl, rfl, _, rfl, ?_⟩
      rw [show decide ((60 : Int) < (("03" : Str).length : Int)) = false by decide +kernel]
      refine iteF ⟨_, rfl, rfl, _, _, rfl, rfl, _, rfl, ?_⟩
      rw [show Txt.startswith "03" "0" = true by decide +kernel]
      refine iteT ⟨_, rfl, rfl, _, rfl, ?_⟩
      exact iteT k
    · rw [show Txt.startswith "three" "-" = false by decide +kernel]
      refine iteF ⟨_, rfl, ?_⟩
      refine ⟨_, rfl, rfl, _, rfl, rfl, trivial, _, rfl, ?_⟩
      rw [show Txt.isascii "three" = true by decide +kernel]
      refine iteT ⟨_, rfl, rfl, _, rfl, rfl, trivial, _, rfl, ?_⟩
      rw [show Txt.isdigit "three" = false by decide +kernel]
      exact iteT k
def sp_itemat (K : PySem.W.Frag) : Sp := fun vs H Q _ => ∃ (a : Addr) (ws : List Str) (i : Nat) (x : Str), vs = [.ref a, .int (i : Int)] ∧ H a = some (.lst (ws.map V.str)) ∧ ws[i]? = some x ∧ Q (.str x) H
theorem G_item_at (T : Txt P K mg A) : FnG P w K mg base (L2.CX P w) 3 A.a_item_at A.d_item_at P_item_at (sp_itemat K) := by
  refine okGX T.F_item_at sc_item_at (fun vs H Q E h => ?_) (fun cdv A0 outer s H vs Q E hr h => ?_)
  · obtain ⟨a, ws, i, x, rfl, _⟩ := h
    rfl
  obtain ⟨a, ws, i, x, rfl, ha, hx, k⟩ := h
  have hi : i < ws.length := (List.getElem?_eq_some_iff.mp hx).1
  refine ⟨_, (pss_cons (ps_if (pt_cmpR op_ge (pv 1) (pe_callB call_len_seq (by rfl) T.n_len (by decide +kernel) (pa_cons (pv 0) pa_nil)) (nomark _)) (pss_one (ps_raise rfl (takes_of rfl rfl rfl rfl) (pmk_G T.X_BadText.oex T.X_BadText.iC T.X_BadText.tI (G_init_BadText T) (hr.mono (by decide)) rfl T.X_BadText.gC T.b_init_BadText pass0 (pa_cons pe_int (pa_cons (pe_callB call_len_seq (by rfl) T.n_len (by decide +kernel) (pa_cons (pv 0) pa_nil)) pa_nil))))) pss_nil)
      (pss_one (ps_ret (pe_ix (r := rIxL K) ix_list (pv 0) (pv 1) (fun _ _ => rfl))))), ?_⟩
  refine ⟨_, rfl, _, rfl, a, _, rfl, .inl (SqL.of ha), _, _, rfl, rfl, _, rfl, ?_⟩
  rw [decide_eq_false (by rw [List.length_map]; omega)]
  refine iteF ⟨_, rfl, _, rfl, _, _, _, _, rfl, rfl, SqL.of ha, atI_nat (by rw [List.getElem?_map, hx]; rfl), k⟩
def sp_numat (K : PySem.W.Frag) (A : Ad) : Sp := fun vs H Q E => ∃ (a : Addr) (ws : List Str) (i : Nat) (lo hi : Int) (z : Str) (u : V), vs = [.ref a, .int (i : Int), .int lo, .int hi] ∧ H a = some (.lst (ws.map V.str)) ∧ ws[i]? = some z ∧ NumW z u ∧
  (((isI u && (inLo u (.int lo) && inHi u (.int hi))) = true ∧ Q u H) ∨ ((isI u && (inLo u (.int lo) && inHi u (.int hi))) = false ∧ OutT A E H (.int (i : Int))))
theorem G_number_at (T : Txt P K mg A) : FnG P w K mg base (L2.CX P w) 4 A.a_number_at A.d_number_at P_number_at (sp_numat K A) := by
  refine okGX T.F_number_at sc_number_at (fun vs H Q E h => ?_) (fun cdv A0 outer s H vs Q E hr h => ?_)
  · obtain ⟨a, ws, i, lo, hi, z, u, rfl, _⟩ := h
    rfl
  obtain ⟨a, ws, i, lo, hi, z, u, rfl, ha, hx, nw, h⟩ := h
  refine ⟨_, (pss_cons (ps_set (i := 4) sc_number_at.nd rfl (Or.inl rfl) (pe_callG (G_number_of T) (hr.mono (by decide)) rfl T.g_number_of T.F_number_of.kp T.b_number_of .nil pass0 (pa_cons (pe_callG (E := E) (G_item_at T) (hr.mono (by decide)) rfl T.g_item_at T.F_item_at.kp T.b_item_at .nil (passes_call (takes_of rfl rfl rfl rfl) (fun _ _ _ _ h => h)) (pa_cons (pv 0) (pa_cons (pv 1) pa_nil))) pa_nil)))
      (pss_cons (ps_if (pt_not (pt_val (pe_callG (G_is_within T) (hr.mono (by decide)) rfl T.g_is_within T.F_is_within.kp T.b_is_within .nil pass0 (pa_cons (pv 4) (pa_cons (pv 2) (pa_cons (pv 3) pa_nil)))))) (pss_one (ps_raise rfl (takes_of rfl rfl rfl rfl) (pmk_G T.X_BadText.oex T.X_BadText.iC T.X_BadText.tI (G_init_BadText T) (hr.mono (by decide)) rfl T.X_BadText.gC T.b_init_BadText pass0 (pa_cons pe_int (pa_cons (pv 1) pa_nil))))) pss_nil)
      (pss_one (ps_ret (pv 4))))), ?_⟩
  refine ⟨_, rfl, _, rfl, a, ws, i, _, rfl, ha, hx, z, u, rfl, nw, ?_⟩
  refine ⟨_, rfl, _, rfl, _, rfl, u, .int lo, .int hi, rfl, nw.ok, trivial, trivial, ?_⟩
  rcases h with ⟨e, k⟩ | ⟨e, k⟩
  · rw [e]
    exact ⟨_, rfl, iteF ⟨_, rfl, k⟩⟩
  · rw [e]
    exact ⟨_, rfl, iteT ⟨_, rfl, by show 2 ≤ 1000; decide, raise2 T.X_BadText.oex (T.X_BadText.no _ List.mem_cons_self) (T.X_BadText.no _ (List.mem_cons_of_mem _ List.mem_cons_self)) k⟩⟩
def sp_colon (K : PySem.W.Frag) (A : Ad) : Sp := fun vs H Q E => ∃ (a : Addr) (ws : List Str) (i : Nat) (z : Str), vs = [.ref a, .int (i : Int)] ∧ H a = some (.lst (ws.map V.str)) ∧ ws[i]? = some z ∧ ((z = ":" ∧ Q .non H) ∨ (z ≠ ":" ∧ OutT A E H (.int (i : Int))))
theorem G_read_colon (T : Txt P K mg A) : FnG P w K mg base (L2.CX P w) 4 A.a_read_colon A.d_read_colon P_read_colon (sp_colon K A) := by
  refine okGX T.F_read_colon sc_read_colon (fun vs H Q E h => ?_) (fun cdv A0 outer s H vs Q E hr h => ?_)
  · obtain ⟨a, ws, i, z, rfl, _⟩ := h
    rfl
  obtain ⟨a, ws, i, z, rfl, ha, hx, h⟩ := h
  refine ⟨_, (pss_one (ps_if (pt_cmpR op_ne (pe_callG (E := E) (G_item_at T) (hr.mono (by decide)) rfl T.g_item_at T.F_item_at.kp T.b_item_at .nil (passes_call (takes_of rfl rfl rfl rfl) (fun _ _ _ _ h => h)) (pa_cons (pv 0) (pa_cons (pv 1) pa_nil))) pe_str (nomark _)) (pss_one (ps_raise rfl (takes_of rfl rfl rfl rfl) (pmk_G T.X_BadText.oex T.X_BadText.iC T.X_BadText.tI (G_init_BadText T) (hr.mono (by decide)) rfl T.X_BadText.gC T.b_init_BadText pass0 (pa_cons pe_int (pa_cons (pv 1) pa_nil))))) pss_nil)), ?_⟩
  refine ⟨_, rfl, _, rfl, a, ws, i, _, rfl, ha, hx, rfl, _, rfl, ?_⟩
  rcases h with ⟨rfl, k⟩ | ⟨e, k⟩
  · exact iteF k
  · have ne : (!decide (V.str z = V.str ":")) = true := by
      rw [decide_eq_false (fun y => e (V.str.inj y))]
      rfl
    rw [ne]
    exact iteT ⟨_, rfl, by show 2 ≤ 1000; decide, raise2 T.X_BadText.oex (T.X_BadText.no _ List.mem_cons_self) (T.X_BadText.no _ (List.mem_cons_of_mem _ List.mem_cons_self)) k⟩
def sp_rend (K : PySem.W.Frag) (A : Ad) : Sp := fun vs H Q E => ∃ (a : Addr) (ws : List Str) (i : Nat), vs = [.ref a, .int (i : Int)] ∧ H a = some (.lst (ws.map V.str)) ∧ ws.length ≤ 1000 ∧ ((ws.length ≤ i ∧ Q .non H) ∨ (i < ws.length ∧ OutT A E H (.int (i : Int))))
theorem G_read_end (T : Txt P K mg A) : FnG P w K mg base (L2.CX P w) 3 A.a_read_end A.d_read_end P_read_end (sp_rend K A) := by
  refine okGX T.F_read_end sc_read_end (fun vs H Q E h => ?_) (fun cdv A0 outer s H vs Q E hr h => ?_)
  · obtain ⟨a, ws, i, rfl, _⟩ := h
    rfl
  obtain ⟨a, ws, i, rfl, ha, hx, h⟩ := h
  refine ⟨_, (pss_one (ps_if (pt_cmpR op_gt (pe_callB call_len_seq (by rfl) T.n_len (by decide +kernel) (pa_cons (pv 0) pa_nil)) (pv 1) (nomark _)) (pss_one (ps_raise rfl (takes_of rfl rfl rfl rfl) (pmk_G T.X_BadText.oex T.X_BadText.iC T.X_BadText.tI (G_init_BadText T) (hr.mono (by decide)) rfl T.X_BadText.gC T.b_init_BadText pass0 (pa_cons pe_int (pa_cons (pv 1) pa_nil))))) pss_nil)), ?_⟩
  refine ⟨_, rfl, a, _, rfl, .inl (SqL.of ha), _, rfl, _, _, rfl, rfl, _, rfl, ?_⟩
  rcases h with ⟨e, k⟩ | ⟨e, k⟩
  · rw [decide_eq_false (by rw [List.length_map]; omega)]
    exact iteF k
  · rw [decide_eq_true (by rw [List.length_map]; omega)]
    exact iteT ⟨_, rfl, by show 2 ≤ 1000; decide, raise2 T.X_BadText.oex (T.X_BadText.no _ List.mem_cons_self) (T.X_BadText.no _ (List.mem_cons_of_mem _ List.mem_cons_self)) k⟩
/-! ### a text read -/
def fl (ps : MC.Pr) : List Nat := ps.flatMap fun p => [p.1, p.2]
theorem fl_len : ∀ ps : MC.Pr, (fl ps).length = 2 * ps.length
  | [] => rfl
  | p :: ps => by
    have ih := fl_len ps
    unfold fl at ih ⊢
    rw [List.flatMap_cons, List.length_append, ih]
    show 2 + 2 * ps.length = 2 * (ps.length + 1)
    omega
theorem fl_at : ∀ (ps : MC.Pr) (k : Nat), (fl ps)[2 * k]? = (ps.map (·.1))[k]? ∧ (fl ps)[2 * k + 1]? = (ps.map (·.2))[k]?
  | [], k => ⟨rfl, rfl⟩
  | p :: ps, 0 => ⟨rfl, rfl⟩
  | p :: ps, k + 1 => by
    have ih := fl_at ps k
    exact ih
theorem fm_congr {α β : Type} {f g : α → Option β} : ∀ {l : List α}, (∀ x ∈ l, f x = g x) → l.filterMap f = l.filterMap g
  | [], _ => rfl
  | a :: l, h => by
    rw [List.filterMap_cons, List.filterMap_cons, h a List.mem_cons_self, fm_congr fun x hx => h x (List.mem_cons_of_mem _ hx)]
theorem pickL (f : Nat → Nat) (xs ys : List V) (h : ∀ k, k < ys.length → xs[f k]? = ys[k]?) : ((List.range ys.length).map f).filterMap (xs[·]?) = ys := by
  rw [List.filterMap_map]
  have e : (List.range ys.length).filterMap (fun k => ys[k]?) = ys := by
    have := PySem.W.krv_all ys.toArray
    simpa using this
  refine Eq.trans (fm_congr fun k hk => ?_) e
  exact h k (List.mem_range.mp hk)
theorem stp_even (ps : MC.Pr) : stpV none (nv (fl ps)) = nv (ps.map (·.1)) := by
  have hl : (nv (fl ps)).length = 2 * ps.length := by rw [List.length_map, fl_len]
  have e := pickL (fun k => 2 * k) (nv (fl ps)) (nv (ps.map (·.1))) fun k hk => by
    rw [List.getElem?_map, (fl_at ps k).1, ← List.getElem?_map]
  have hm : (nv (ps.map (·.1))).length = ps.length := by rw [List.length_map, List.length_map]
  rw [hm] at e
  unfold stpV
  rw [hl]
  have eb : sliceBounds none none (some 2) (2 * ps.length) = (0, ((2 * ps.length : Nat) : Int), 2) := by simp [sliceBounds]
  rw [eb]
  have er : sliceRange 0 ((2 * ps.length : Nat) : Int) 2 = (List.range ps.length).map fun k => 2 * k := by
    unfold sliceRange
    rw [if_pos (by decide)]
    by_cases h0 : ps.length = 0
    · rw [h0]
      rfl
    · rw [if_pos (by omega)]
      show (List.range ((((2 * ps.length : Nat) : Int) - 0 + 2 - 1) / 2).toNat).map _ = _
      rw [show ((((2 * ps.length : Nat) : Int) - 0 + 2 - 1) / 2).toNat = ps.length by omega]
      refine List.map_congr_left fun k _ => ?_
      omega
  rw [er]
  exact e
theorem stp_odd (ps : MC.Pr) : stpV (some 1) (nv (fl ps)) = nv (ps.map (·.2)) := by
  have hl : (nv (fl ps)).length = 2 * ps.length := by rw [List.length_map, fl_len]
  have e := pickL (fun k => 2 * k + 1) (nv (fl ps)) (nv (ps.map (·.2))) fun k hk => by
    rw [List.getElem?_map, (fl_at ps k).2, ← List.getElem?_map]
  have hm : (nv (ps.map (·.2))).length = ps.length := by rw [List.length_map, List.length_map]
  rw [hm] at e
  unfold stpV
  rw [hl]
  by_cases h0 : ps.length = 0
  · have : ps = [] := List.length_eq_zero_iff.mp h0
    subst this
    rfl
  · have eb : sliceBounds (some 1) none (some 2) (2 * ps.length) = (1, ((2 * ps.length : Nat) : Int), 2) := by
      simp [sliceBounds]
      omega
    rw [eb]
    have er : sliceRange 1 ((2 * ps.length : Nat) : Int) 2 = (List.range ps.length).map fun k => 2 * k + 1 := by
      unfold sliceRange
      rw [if_pos (by decide), if_pos (by omega)]
      show (List.range ((((2 * ps.length : Nat) : Int) - 1 + 2 - 1) / 2).toNat).map _ = _
      rw [show ((((2 * ps.length : Nat) : Int) - 1 + 2 - 1) / 2).toNat = ps.length by omega]
      refine List.map_congr_left fun k _ => ?_
      omega
    rw [er]
    exact e
theorem zip_prs : ∀ ps : MC.Pr, (nv (ps.map (·.1))).zip (nv (ps.map (·.2))) = ps.map fun p => (V.int (p.1 : Int), V.int (p.2 : Int))
  | [] => rfl
  | p :: ps => by
    have ih := zip_prs ps
    exact congrArg ((V.int (p.1 : Int), V.int (p.2 : Int)) :: ·) ih
theorem prs_of {H : Hp} : ∀ {ts : List Addr} {ps : MC.Pr}, Paired (fun (t : Addr) (q : V × V) => H t = some (.tup [q.1, q.2])) ts (ps.map fun p => (V.int (p.1 : Int), V.int (p.2 : Int))) → Paired (PrI H) (ts.map V.ref) ps
  | [], [], _ => .nil
  | [], _ :: _, h => by cases h
  | _ :: _, [], h => by cases h
  | t :: ts, p :: ps, .cons h r => .cons ⟨t, rfl, .inr h⟩ (prs_of r)
theorem joinL_le {S : List Nat} (hS : S.length = 1) : ∀ ps : List (List Nat), (∀ p ∈ ps, p.length ≤ 2) → (TL.joinL S ps).length ≤ 3 * ps.length
  | [], _ => Nat.zero_le _
  | [p], h => by
    have := h p List.mem_cons_self
    show p.length ≤ 3
    omega
  | p :: q :: r, h => by
    have h1 := h p List.mem_cons_self
    have h2 := joinL_le hS (q :: r) fun z hz => h z (List.mem_cons_of_mem _ hz)
    show (p ++ (S ++ TL.joinL S (q :: r))).length ≤ _
    rw [List.length_append, List.length_append, hS]
    have : (p :: q :: r).length = (q :: r).length + 1 := rfl
    omega
/-! ### Web.__init__, where a suite may raise on -/
theorem GN_Web___init__ (T : Txt P K mg A) : FnG P w K mg base (L2N.CX P w) 5 A.a_Web___init__ A.d_Web___init__ P_Web___init__ (sp_webi K A.c_Web A.c_BadWeb) := by
  refine okGX T.F_Web___init__ sc_Web___init__ (fun vs H Q E h => ?_) (fun cdv A0 outer s H vs Q E hr h => ?_)
  · obtain ⟨x, dx, pl, tv, rfl, _⟩ := h
    rfl
  obtain ⟨x, dx, pl, tv, rfl, hx, h⟩ := h
  refine ⟨_, (pss_cons (ps_if (pt_not (pt_val (pe_callG (G_is_within T) (hr.mono (by decide)) rfl T.g_is_within T.F_is_within.kp T.b_is_within .nil pass0 (pa_cons (pv 1) (pa_cons pe_int (pa_cons (pe_glob (v := .int 13) rfl T.m_MOST_PLACES ⟨_, rfl⟩) pa_nil)))))) (pss_one (L2N.ps_raise rfl (L2N.takes_of rfl rfl rfl rfl) (pmkN_G T.X_BadWeb.oex T.X_BadWeb.iC T.X_BadWeb.tI (G_init_BadWeb T) (hr.mono (by decide)) rfl T.X_BadWeb.gC T.b_init_BadWeb pass0 (pa_cons pe_str pa_nil)))) pss_nil)
      (pss_cons (ps_if (pt_not (pt_val (pe_callG (G_are_ties T) (hr.mono (by decide)) rfl T.g_are_ties T.F_are_ties.kp T.b_are_ties .nil pass0 (pa_cons (pv 1) (pa_cons (pv 2) pa_nil))))) (pss_one (L2N.ps_raise rfl (L2N.takes_of rfl rfl rfl rfl) (pmkN_G T.X_BadWeb.oex T.X_BadWeb.iC T.X_BadWeb.tI (G_init_BadWeb T) (hr.mono (by decide)) rfl T.X_BadWeb.gC T.b_init_BadWeb pass0 (pa_cons pe_str pa_nil)))) pss_nil)
      (pss_cons (ps_if (pt_not (pt_val (pe_callG (G_hang_together T) (hr.mono (by decide)) rfl T.g_hang_together T.F_hang_together.kp T.b_hang_together .nil pass0 (pa_cons (pv 1) (pa_cons (pv 2) pa_nil))))) (pss_one (L2N.ps_raise rfl (L2N.takes_of rfl rfl rfl rfl) (pmkN_G T.X_BadWeb.oex T.X_BadWeb.iC T.X_BadWeb.tI (G_init_BadWeb T) (hr.mono (by decide)) rfl T.X_BadWeb.gC T.b_init_BadWeb pass0 (pa_cons pe_str pa_nil)))) pss_nil)
      (pss_cons (ps_fld (pv 0) (pv 1) rfl)
      (pss_one (ps_fld (pv 0) (pe_callG (G_fixed T 2) (hr.mono (by decide)) rfl T.g_fixed T.F_fixed.kp T.b_fixed .nil pass0 (pa_cons (pv 2) pa_nil)) rfl)))))), ?_⟩
  rcases h with ⟨ok, pf, out⟩ | ⟨m, rfl, h1, hn, h⟩
  · refine ⟨_, rfl, pl, .int 1, .int 13, rfl, ok, trivial, trivial, ?_⟩
    rw [show (isI pl && (inLo pl (.int 1) && inHi pl (.int 13))) = false from pf]
    exact ⟨_, rfl, iteT ⟨by show 1 ≤ 1000; decide, raise1 T.X_BadWeb.oex (T.X_BadWeb.no _ List.mem_cons_self) out⟩⟩
  · refine ⟨_, rfl, _, .int 1, .int 13, rfl, trivial, trivial, trivial, ?_⟩
    rw [show (isI (V.int (m : Int)) && (inLo (V.int (m : Int)) (.int 1) && inHi (V.int (m : Int)) (.int 13))) = true from placesB_int h1 hn]
    refine ⟨_, rfl, iteF ?_⟩
    rcases h with ⟨ti, tf, out⟩ | ⟨a, ps, rfl, hp, hl, hb, k1, k2⟩
    · refine ⟨_, rfl, _, rfl, _, tv, rfl, ti, fun H1 s1 => ?_⟩
      rw [tf]
      exact ⟨_, rfl, iteT ⟨by show 1 ≤ 1000; decide, raise1 T.X_BadWeb.oex (T.X_BadWeb.no _ List.mem_cons_self) (out.on s1)⟩⟩
    · obtain ⟨ti, tt⟩ := tiesB_prs hp hl hb
      refine ⟨_, rfl, _, rfl, _, _, rfl, ti, fun H1 s1 => ?_⟩
      rw [tt]
      refine ⟨_, rfl, iteF ?_⟩
      refine ⟨_, rfl, _, rfl, m, a, ps, rfl, h1, by omega, hp.same s1, hb, fun H2 s2 => ⟨_, rfl, ?_⟩⟩
      cases hh : hang m ps with
      | false =>
        exact iteT ⟨by show 1 ≤ 1000; decide, raise1 T.X_BadWeb.oex (T.X_BadWeb.no _ List.mem_cons_self) ((k2 hh).on (s1.trans s2))⟩
      | true =>
        refine iteF ?_
        have S2 := s1.trans s2
        have hx2 := S2 _ _ hx
        have pp : putF "places" (V.int (m : Int)) [] = ([("places", V.int (m : Int))] : List (Str × V)) := rfl
        refine ⟨_, rfl, _, rfl, x, A.c_Web, dx, [], rfl, hx2, T.K_Web, T.N_Web_places, by decide, ?_⟩
        rw [pp]
        have hp3 : PrsA (upd H2 x (.ins A.c_Web dx [("places", .int (m : Int))])) a ps := prsA_mono (hp.same S2) fun b xs h => by
          have e : b ≠ x := fun z => by
            subst z
            rcases h with h | h <;> cases hx2.symm.trans h
          rcases h with h | h
          · exact .inl (by rw [upd_ne e]; exact h)
          · exact .inr (by rw [upd_ne e]; exact h)
        refine ⟨_, rfl, .ref a, trPs ps, rfl, src_prs hp3 (by omega), fun y H4 s4 dt => ?_⟩
        have hx4 : H4 x = some (.ins A.c_Web dx [("places", .int (m : Int))]) := s4 _ _ upd_same
        have pt : putF "ties" y ([("places", V.int (m : Int))] : List (Str × V)) = ([("places", V.int (m : Int)), ("ties", y)] : List (Str × V)) := rfl
        refine ⟨_, rfl, x, A.c_Web, dx, _, rfl, hx4, T.K_Web, T.N_Web_ties, by show 1 < 1000; decide, ?_⟩
        rw [pt]
        refine k1 hh _ y upd_same (dt.keep fun b xs h => ?_) ?_
        · have e : b ≠ x := fun z => by
            subst z
            cases hx4.symm.trans h
          rw [upd_ne e]
          exact h
        · intro b o e h
          rw [upd_ne e]
          exact s4 _ _ (by rw [upd_ne e]; exact S2 _ _ h)
def rLenQ (K : PySem.W.Frag) : List V → Hp → VK → Prop := fun xs H Q => ∃ p ys, xs = [.ref p] ∧ (SqL K H p ys ∨ SqT K H p ys) ∧ Q (.int ys.length) H
theorem exm_self {x : Str} {C fI : Addr} {up : List Addr} {ns fs : List Str} (T : XT K mg x C fI up ns fs) : PySem.W.exmOne K (.ref C) (.ref C) = some true := by
  refine PySem.W.exm_ref T.oex.exC ?_ T.oex.tyC ?_
  · obtain ⟨_, _, _, _, _, _, _, _, _, _, _, _, _, h⟩ := T.cls
    unfold PySem.W.hasDictIn PySem.W.clsIn
    rw [h]
    rfl
  · have e := T.mro (.ref C)
    unfold PySem.W.subIn
    dsimp only
    rw [e, List.contains_cons]
    simp
/-- a text that is read, or not -/
def sp_read (A : Ad) : Sp := fun vs H Q E => ∃ v : V, vs = [v] ∧
  ((OkV H v ∧ (∀ s, v ≠ .str s) ∧ OutT A E H (.int 0)) ∨
   ∃ ws : List Str, v = .str (Txt.join " " ws) ∧ (∀ p ∈ ws, 32 ∉ TL.tl p) ∧ (Txt.join " " ws).length + 2 ≤ sizeLine ∧ ws.length ≤ 100 ∧
    ((∃ (s : Str) (rs : List Str) (u : V), ws = s :: rs ∧ NumW s u ∧ placesB u = false ∧ OutT A E H (.int 0)) ∨
     ∃ n : Nat, 1 ≤ n ∧ n ≤ 13 ∧
      ((∃ (s : Str) (rs : List Str), ws = wd n :: s :: rs ∧ s ≠ ":" ∧ OutT A E H (.int 1)) ∨
       ∃ (ns : List Nat) (tail : List Str), ws = wd n :: ":" :: (ns.map wd ++ tail) ∧ (∀ x ∈ ns, x < n) ∧ ns.length ≤ 24 ∧
        ((∃ (s : Str) (rest : List Str) (u : V), tail = s :: rest ∧ ns.length < 24 ∧ NumW s u ∧ inB (n : Int) u = false ∧ OutT A E H (.int ((2 + ns.length : Nat) : Int))) ∨
         (tail ≠ [] ∧ ns.length = 24 ∧ OutT A E H (.int 26)) ∨
         (tail = [] ∧ ns.length % 2 = 1 ∧ OutT A E H (.int ((2 + ns.length : Nat) : Int))) ∨
         ∃ ps : MC.Pr, tail = [] ∧ ns = fl ps ∧ ps.length ≤ 12 ∧ MC.Below n ps ∧
          (hang n ps = true → ∀ y H', Same H H' → WebAt H' y A.c_Web n ps → Q (.ref y) H') ∧ (hang n ps = false → OutT A E H (.int (((2 + ns.length : Nat) : Int) - 1)))))))
theorem G_Web_read (T : Txt P K mg A) : FnG P w K mg base (L2.CX P w) 7 A.a_Web_read A.d_Web_read P_Web_read (sp_read A) := by
  refine okGX T.F_Web_read sc_Web_read (fun vs H Q E h => ?_) (fun cdv A0 outer s H vs Q E hr h => ?_)
  · obtain ⟨v, rfl, _⟩ := h
    rfl
  obtain ⟨v, rfl, h⟩ := h
  refine ⟨_, (pss_cons (ps_set (i := 1) sc_Web_read.nd rfl (Or.inr rfl) (pe_callG (E := E) (G_items_of T) (hr.mono (by decide)) rfl T.g_items_of T.F_items_of.kp T.b_items_of .nil (passes_call (takes_of rfl rfl rfl rfl) (fun _ _ _ _ h => h)) (pa_cons (pv 0) pa_nil)))
      (pss_cons (ps_set (i := 2) sc_Web_read.nd rfl (Or.inr rfl) (pe_callG (E := E) (G_number_at T) (hr.mono (by decide)) rfl T.g_number_at T.F_number_at.kp T.b_number_at .nil (passes_call (takes_of rfl rfl rfl rfl) (fun _ _ _ _ h => h)) (pa_cons (pv 1) (pa_cons pe_int (pa_cons pe_int (pa_cons (pe_glob (v := .int 13) rfl T.m_MOST_PLACES ⟨_, rfl⟩) pa_nil))))))
      (pss_cons (ps_expr (pe_callG (E := E) (G_read_colon T) (hr.mono (by decide)) rfl T.g_read_colon T.F_read_colon.kp T.b_read_colon .nil (passes_call (takes_of rfl rfl rfl rfl) (fun _ _ _ _ h => h)) (pa_cons (pv 1) (pa_cons pe_int pa_nil))))
      (pss_cons (ps_set (i := 3) sc_Web_read.nd rfl (Or.inl rfl) (pe_op op_add pe_int (pe_op op_mul pe_int (pe_glob (v := .int 12) rfl T.m_MOST_TIES ⟨_, rfl⟩))))
      (pss_cons (ps_setLcR (E := E) (i := 4) (own := [("index", 5)]) (g := gName 5) (tt := tYes) (by rfl) sc_Web_read.nd rfl rfl (sw_true rfl rfl rfl (by decide +kernel)) (pi_range2 (by rfl) T.n_range (pa_cons pe_int (pa_cons (pe_callB (call_min2 rfl) (by rfl) T.n_min (by decide +kernel) (pa_cons (pe_callB call_len_seq (by rfl) T.n_len (by decide +kernel) (pa_cons (pv 1) pa_nil)) (pa_cons (pv 3) pa_nil))) pa_nil))) (blkOk_by (N := N_Web_read) (sc := defScope s_Web_read) (by decide +kernel)) rfl rfl (takes_of rfl rfl rfl rfl) (fun _ _ _ _ _ => (pg_name (i := 5) sc_Web_read.nd rfl (Or.inl rfl))) (fun _ _ _ _ _ => pts_nil) (fun _ _ _ _ _ _ px => (pe_callG (E := E) (G_number_at T) (hr.mono (by decide)) rfl T.g_number_at T.F_number_at.kp T.b_number_at .nil px (pa_cons (pv 1) (pa_cons (pv 5) (pa_cons pe_int (pa_cons (pe_op op_sub (pv 2) pe_int) pa_nil)))))))
      (pss_cons (ps_expr (pe_callG (E := E) (G_read_end T) (hr.mono (by decide)) rfl T.g_read_end T.F_read_end.kp T.b_read_end .nil (passes_call (takes_of rfl rfl rfl rfl) (fun _ _ _ _ h => h)) (pa_cons (pv 1) (pa_cons (pv 3) pa_nil))))
      (pss_cons (ps_if (pt_truth (pe_op op_and (pe_callB call_len_seq (by rfl) T.n_len (by decide +kernel) (pa_cons (pv 4) pa_nil)) pe_int) (by intro _; rfl)) (pss_one (ps_raise rfl (takes_of rfl rfl rfl rfl) (pmk_G T.X_BadText.oex T.X_BadText.iC T.X_BadText.tI (G_init_BadText T) (hr.mono (by decide)) rfl T.X_BadText.gC T.b_init_BadText pass0 (pa_cons pe_int (pa_cons (pe_callB call_len_seq (by rfl) T.n_len (by decide +kernel) (pa_cons (pv 1) pa_nil)) pa_nil))))) pss_nil)
      (pss_one (L2H.ps_try_onlyX (c := .ref A.c_BadWeb) (Wout := fun cls d _ H => E cls d H) (tb := fun W => tRet (tMkGS A.c_Web (sp_webi K A.c_Web A.c_BadWeb) (WE W) (tCons (tVar 2) (tCons (tLZip K (tCons (tStp K (tVar 4) tNoPart) (tCons (tStp K (tVar 4) (tPart (tC (.int 1)))) tNil))) tNil)))) (ts := fun a cls d D σ H => tMkO A.c_BadText (sp2 K "line" "item") [] (tCons (tC (.int 0)) (tCons (tOp (rI0 fun i j => V.int (i - j)) (tCB (rLenQ K) (tCons (tVar 1) tNil)) (tC (.int 1))) tNil)) σ H fun cls d H' => E cls d H') rfl rfl ⟨rfl, by decide, .inl T.X_BadWeb.gC⟩ (fun hd => L2H.passesAt_of rfl hd) (takes_of rfl rfl rfl rfl) (fun W pn xe tkN tk _ => (pss_one (ps_ret (pe_mkGS (ES := WE W) T.M_Web (GN_Web___init__ T) (hr.mono (by decide)) rfl T.g_Web T.b_Web___init__ (fun σ => L2N.passAt tkN σ) (pa_cons (pv 2) (pa_cons (pe_lzip rfl (by rfl) T.n_list (by rfl) T.n_zip (pa_cons (pe_stp (pv 4) po_none) (pa_cons (pe_stp (pv 4) (po_some pe_int)) pa_nil))) pa_nil)))))) (fun a oe cls d pn zn hv tk hot => (pss_one (L2H.ps_raiseHN hot tk (L2H.pmk5_oexH T.X_BadText.oex T.X_BadText.iC T.X_BadText.tI (H_init_BadText T) ((hr.mono (by decide)).hot _) hot T.b_init_BadText pass0 rfl T.X_BadText.gC (pa_cons pe_int (pa_cons (pe_op op_sub (pe_callB call_len_seq (by rfl) T.n_len (by decide +kernel) (pa_cons (pv 1) pa_nil)) pe_int) pa_nil))))))))))))))), ?_⟩
  rcases h with ⟨ok, ns, k⟩ | ⟨ws, rfl, sp, tl, lw, h⟩
  · exact ⟨_, rfl, _, rfl, .inl ⟨ok, ns, k⟩⟩
  have ne : ws ≠ [] := by
    rcases h with ⟨_, _, _, rfl, _⟩ | ⟨_, _, _, ⟨_, _, rfl, _⟩ | ⟨_, _, rfl, _⟩⟩ <;> exact List.cons_ne_nil _ _
  refine ⟨_, rfl, _, rfl, .inr ⟨ws, rfl, ne, sp, tl, fun q1 H1 s1 hq1 => ?_⟩⟩
  rcases h with ⟨z, rs, u, rfl, nw, pf, k⟩ | ⟨n, h1, hn, h⟩
  · exact ⟨_, rfl, q1, _, 0, 1, 13, z, u, rfl, hq1, rfl, nw, .inr ⟨pf, k.on s1⟩⟩
  rcases h with ⟨z, rs, rfl, nz, k⟩ | ⟨ns, tail, rfl, bl, ln, h⟩
  · refine ⟨_, rfl, q1, _, 0, 1, 13, wd n, .int (n : Int), rfl, hq1, rfl, .num n (by omega), .inl ⟨placesB_int h1 hn, ?_⟩⟩
    exact ⟨_, rfl, q1, _, 1, z, rfl, hq1, rfl, .inr ⟨nz, k.on s1⟩⟩
  refine ⟨_, rfl, q1, _, 0, 1, 13, wd n, .int (n : Int), rfl, hq1, rfl, .num n (by omega), .inl ⟨placesB_int h1 hn, ?_⟩⟩
  refine ⟨_, rfl, q1, _, 1, ":", rfl, hq1, rfl, .inl ⟨rfl, ?_⟩⟩
  refine ⟨_, _, rfl, rfl, .inl ⟨by decide, by decide⟩, _, _, rfl, rfl, ?_⟩
  refine ⟨_, rfl, q1, _, rfl, .inl (SqL.of hq1), _, rfl, _, _, rfl, _, _, rfl, ?_⟩
  have lws : ((wd n :: ":" :: (ns.map wd ++ tail)).map V.str).length = 2 + (ns.length + tail.length) := by
    rw [List.length_map, List.length_cons, List.length_cons, List.length_append, List.length_map]
    omega
  have eM : (if (2 + 2 * 12 : Int) < ((((wd n :: ":" :: (ns.map wd ++ tail)).map V.str).length : Nat) : Int) then (2 + 2 * 12 : Int) else ((((wd n :: ":" :: (ns.map wd ++ tail)).map V.str).length : Nat) : Int)) = ((2 + min (ns.length + tail.length) 24 : Nat) : Int) := by
    rw [lws]
    split <;> omega
  rw [eM]
  have eN : (((2 + min (ns.length + tail.length) 24 : Nat) : Int) - 2).toNat = min (ns.length + tail.length) 24 := by omega
  rw [eN]
  have at2 : ∀ i, (wd n :: ":" :: (ns.map wd ++ tail))[2 + i]? = (ns.map wd ++ tail)[i]? := fun i => by
    rw [show 2 + i = i + 1 + 1 by omega]
    rfl
  refine ⟨⟨by omega, by omega, by omega, by omega⟩, fun D hD => ?_⟩
  refine lc_range (lo := 2) (n := min (ns.length + tail.length) 24) (fun i H' => Same H1 H' ∧ i ≤ ns.length ∧ H' D = some (.lst (nv (ns.take i)))) ⟨Same.new (fun _ _ h => h) hD, Nat.zero_le _, upd_same⟩ ?_ ?_
  · rintro i H' hi ⟨s2, il, hD2⟩
    have e0 : (2 : Int) + (i : Int) = ((2 + i : Nat) : Int) := by omega
    rw [e0]
    by_cases c : i < ns.length
    · obtain ⟨x, hx⟩ : ∃ x, ns[i]? = some x := ⟨_, List.getElem?_eq_getElem c⟩
      have hxn := bl x (List.mem_of_getElem? hx)
      have hw : (wd n :: ":" :: (ns.map wd ++ tail))[2 + i]? = some (wd x) := by
        rw [at2, List.getElem?_append_left (by rw [List.length_map]; exact c), List.getElem?_map, hx]
        rfl
      refine ⟨rfl, tYes_of (iteT ⟨_, rfl, _, rfl, _, rfl, _, _, rfl, rfl, q1, _, 2 + i, 0, (n : Int) - 1, wd x, .int (x : Int), rfl, s2 _ _ hq1, hw, .num x (by omega), .inl ⟨inB_nat hxn, _, hD2, ?_, ?_, ?_, ?_⟩⟩)⟩
      · rw [List.length_map, List.length_take]
        exact small1000 (by omega)
      · intro b o h
        rw [upd_ne (ne_of_none h hD)]
        exact s2 _ _ h
      · exact c
      · rw [upd_same, List.take_succ, hx]
        simp
    · obtain rfl : i = ns.length := by omega
      rcases h with ⟨z, rest, u, rfl, l24, nw, e, k⟩ | ⟨_, l24, _⟩ | ⟨rfl, _⟩ | ⟨_, rfl, _⟩
      · have hw : (wd n :: ":" :: (ns.map wd ++ z :: rest))[2 + ns.length]? = some z := by
          rw [at2, List.getElem?_append_right (by rw [List.length_map]; exact Nat.le_refl _), List.length_map, Nat.sub_self]
          rfl
        exact ⟨rfl, tYes_of (iteT ⟨_, rfl, _, rfl, _, rfl, _, _, rfl, rfl, q1, _, 2 + ns.length, 0, (n : Int) - 1, z, u, rfl, s2 _ _ hq1, hw, nw, .inr ⟨e, k.on (s1.trans s2)⟩⟩)⟩
      · omega
      · rw [List.length_nil] at hi
        omega
      · rw [List.length_nil] at hi
        omega
  · rintro H2 ⟨s2, il, hD2⟩
    have S2 := s1.trans s2
    have tk : ns.take (min (ns.length + tail.length) 24) = ns := by
      rcases h with ⟨z, rest, u, rfl, l24, _⟩ | ⟨_, l24, _⟩ | ⟨rfl, _⟩ | ⟨_, rfl, _⟩
      · rw [List.length_cons] at il
        omega
      · exact List.take_of_length_le (by omega)
      · rw [List.length_nil]
        exact List.take_of_length_le (by omega)
      · rw [List.length_nil]
        exact List.take_of_length_le (by omega)
    rw [tk] at hD2
    have lns : (nv ns).length = ns.length := List.length_map ..
    have even : ∀ m, m ≤ 24 → Builtin.bitAnd ((m : Nat) : Int) 1 = ((m % 2 : Nat) : Int) := fun m hm => of_decide_eq_true (List.all_eq_true.mp (show (List.range 25).all (fun m => decide (Builtin.bitAnd ((m : Nat) : Int) 1 = ((m % 2 : Nat) : Int))) = true by decide +kernel) m (List.mem_range.mpr (by omega)))
    rcases h with ⟨z, rest, u, rfl, l24, _⟩ | ⟨nt, l24, k⟩ | ⟨rfl, odd, k⟩ | ⟨ps, rfl, rfl, hl, hb, k1, k2⟩
    · rw [List.length_cons] at il
      omega
    · refine ⟨_, rfl, _, rfl, q1, _, 26, rfl, s2 _ _ hq1, by omega, .inr ⟨?_, k.on S2⟩⟩
      have lt : 0 < tail.length := List.length_pos_iff.mpr nt
      have := lws
      rw [List.length_map] at this
      omega
    · rw [List.length_nil] at lws
      refine ⟨_, rfl, _, rfl, q1, _, 26, rfl, s2 _ _ hq1, by omega, .inl ⟨by rw [List.length_map] at lws; omega, ?_⟩⟩
      refine ⟨_, rfl, D, _, rfl, .inl (SqL.of hD2), _, _, rfl, rfl, true, ?_, iteT ?_⟩
      · show true = (Builtin.bitAnd (((nv ns).length : Nat) : Int) 1 != 0)
        rw [lns, even _ ln, odd]
        rfl
      · refine ⟨_, rfl, q1, _, rfl, .inl (SqL.of (s2 _ _ hq1)), by show 2 ≤ 1000; decide, raise2 T.X_BadText.oex (T.X_BadText.no _ List.mem_cons_self) (T.X_BadText.no _ (List.mem_cons_of_mem _ List.mem_cons_self)) ?_⟩
        rw [lws]
        exact k.on S2
    · rw [List.length_nil] at lws
      have fll := fl_len ps
      refine ⟨_, rfl, _, rfl, q1, _, 26, rfl, s2 _ _ hq1, by omega, .inl ⟨by rw [List.length_map] at lws; omega, ?_⟩⟩
      refine ⟨_, rfl, D, _, rfl, .inl (SqL.of hD2), _, _, rfl, rfl, false, ?_, iteF ?_⟩
      · show false = (Builtin.bitAnd (((nv (fl ps)).length : Nat) : Int) 1 != 0)
        rw [lns, even _ ln, fll, Nat.mul_mod_right]
        rfl
      · refine ⟨_, rfl, _, rfl, D, _, rfl, SqL.of hD2, fun p1 hp1 => ⟨_, rfl, D, _, rfl, _, rfl, SqL.of (at_new hD2 hp1), fun p2 hp2 => ?_⟩⟩
        rw [stp_even, stp_odd] at *
        have g1 : (upd (upd H2 p1 (.lst (nv (ps.map (·.1))))) p2 (.lst (nv (ps.map (·.2))))) p1 = some (.lst (nv (ps.map (·.1)))) := at_new upd_same hp2
        refine ⟨p1, p2, _, _, rfl, SqL.of g1, SqL.of upd_same, by rw [List.length_map, List.length_map, List.length_map, List.length_map], fun H3 p ts s3 hp hpr => ?_⟩
        rw [zip_prs] at hpr
        have S3 := S2.trans ((Same.new (Same.new (fun _ _ h => h) hp1) hp2).trans s3)
        cases hh : hang n ps with
        | true => exact mk_web (m := n) (fun x => rfl) h1 hn hl ⟨_, .inl hp, prs_of hpr⟩ hb hh fun y H' s4 hy => k1 hh y H' (S3.trans s4) hy
        | false =>
          refine mk_apart (m := n) (fun x => rfl) h1 hn hl ⟨_, .inl hp, prs_of hpr⟩ hb hh fun d H' hd s4 => ?_
          refine ⟨true, exm_self T.X_BadWeb, fun _ b hb' => ?_, fun z => by cases z⟩
          refine ⟨_, rfl, q1, _, rfl, .inl (SqL.of (s4 _ _ (s3 _ _ (at_new (at_new (s2 _ _ hq1) hp1) hp2)))), _, _, rfl, rfl, by show 2 ≤ 1000; decide, raise2 T.X_BadText.oex (T.X_BadText.no _ List.mem_cons_self) (T.X_BadText.no _ (List.mem_cons_of_mem _ List.mem_cons_self)) ?_⟩
          dsimp only
          rw [lws]
          exact (k2 hh).on (S3.trans s4)
/-! ### the text of a web -/
def words (n : Nat) (ps : MC.Pr) : List Str := wd n :: ":" :: ps.flatMap fun p => [wd p.1, wd p.2]
def text (n : Nat) (ps : MC.Pr) : Str := Txt.join " " (words n ps)
theorem log_of {i : Int} (h : i.natAbs < 2 ^ 200) : i.natAbs.log2 < 1920 := by
  by_cases h0 : i.natAbs = 0
  · rw [h0]
    decide
  · refine (Nat.log2_lt h0).mpr (Nat.lt_of_lt_of_le h ?_)
    exact Nat.pow_le_pow_right (by decide) (by decide)
theorem log13 {n : Nat} (h : n ≤ 13) : ((n : Int)).natAbs.log2 < 1920 := log_of (by
  have : (14 : Nat) ≤ 2 ^ 200 := by decide
  omega)
theorem wd_len {n : Nat} (h : n ≤ 13) : (wd n).length ≤ 2 := of_decide_eq_true (by15 (fun n => decide ((wd n).length ≤ 2)) (by decide +kernel) (Nat.le_succ_of_le h))
theorem wd_sp {n : Nat} (h : n ≤ 13) : 32 ∉ TL.tl (wd n) := of_decide_eq_true (by15 (fun n => decide (32 ∉ TL.tl (wd n))) (by decide +kernel) (Nat.le_succ_of_le h))
theorem words_mem {n : Nat} {ps : MC.Pr} {x : Str} (hn : n ≤ 13) (hb : MC.Below n ps) (h : x ∈ words n ps) : x.length ≤ 2 ∧ 32 ∉ TL.tl x := by
  rcases List.mem_cons.mp h with rfl | h
  · exact ⟨wd_len hn, wd_sp hn⟩
  · rcases List.mem_cons.mp h with rfl | h
    · exact ⟨by decide, by decide⟩
    · obtain ⟨p, hp, hx⟩ := List.mem_flatMap.mp h
      obtain ⟨h1, h2⟩ := hb p hp
      rcases List.mem_cons.mp hx with rfl | hx
      · exact ⟨wd_len (by omega), wd_sp (by omega)⟩
      · rw [List.mem_singleton.mp hx]
        exact ⟨wd_len (by omega), wd_sp (by omega)⟩
theorem words_len (n : Nat) (ps : MC.Pr) : (words n ps).length = 2 + 2 * ps.length := by
  have e : ∀ ps : MC.Pr, (ps.flatMap fun p => [wd p.1, wd p.2]).length = 2 * ps.length := fun ps => by
    induction ps with
    | nil => rfl
    | cons p r ih =>
      rw [List.flatMap_cons, List.length_append, ih]
      show 2 + 2 * r.length = 2 * (r.length + 1)
      omega
  show (_ + 1) + 1 = _
  rw [e]
  omega
theorem sum_le2 : ∀ (l : List Str), (∀ x ∈ l, x.length ≤ 2) → (l.map (·.length)).sum ≤ 2 * l.length
  | [], _ => by simp
  | x :: r, h => by
    have h1 := h x List.mem_cons_self
    have h2 := sum_le2 r fun y hy => h y (List.mem_cons_of_mem _ hy)
    rw [List.map_cons, List.sum_cons, List.length_cons]
    omega
def sp_str (C : Addr) : Sp := fun vs H Q _ => ∃ (x : Addr) (n : Nat) (ps : MC.Pr), vs = [.ref x] ∧ WebAt H x C n ps ∧ n ≤ 13 ∧ ps.length ≤ 12 ∧ MC.Below n ps ∧ ∀ H', Same H H' → Q (.str (text n ps)) H'
theorem G_Web___str__ (T : Txt P K mg A) : FnG P w K mg base CX0 2 A.a_Web___str__ A.d_Web___str__ P_Web___str__ (sp_str A.c_Web) := by
  refine okG T.F_Web___str__ sc_Web___str__ (fun vs H Q E h => ?_) (fun cdv A0 outer s H vs Q E hr h => ?_)
  · obtain ⟨x, n, ps, rfl, _⟩ := h
    rfl
  obtain ⟨x, n, ps, rfl, ⟨dx, q, xs, hx, hq, hp⟩, hn, hl, hb, k⟩ := h
  refine ⟨_, (pss_one (ps_ret (pe_bm PySem.F.plainAttrs_str PySem.F.slot_str_join PySem.F.type_str_join mt_join pe_str (pa_cons (pe_op op_cat (pe_lst (pa_cons (pe_callTy (T := "str") call_str_int (by rfl) T.n_str (by decide +kernel) (pa_cons (pe_fld (pv 0) rfl) pa_nil)) (pa_cons pe_str pa_nil))) (pe_lc2 (own := [("pair", 1), ("end", 2)]) (vs1 := [2]) (g := gName 1) (tt := tYes) (g1 := gName 2) (tt1 := tYes) (wi1 := iTup K (tVar 1)) rfl sc_Web___str__.nd (pi_tup (pe_fld (pv 0) rfl)) (blkOk_by (N := N_Web___str__) (sc := defScope s_Web___str__) (by decide +kernel)) (by decide) (fun _ _ _ _ _ => (pg_name (i := 1) sc_Web___str__.nd rfl (Or.inl rfl))) (fun _ _ _ _ _ => pts_nil) (fun _ _ _ _ _ => (pi_tup (pv 1))) (fun _ _ _ _ _ => (pg_name (i := 2) sc_Web___str__.nd rfl (Or.inl rfl))) (fun _ _ _ _ _ => pts_nil) (fun _ _ _ _ _ => (pe_callTy (T := "str") call_str_int (by rfl) T.n_str (by decide +kernel) (pa_cons (pv 2) pa_nil))))) pa_nil)))), ?_⟩
  have hxl : xs.length = ps.length := Paired.length hp
  refine ⟨rfl, _, rfl, x, A.c_Web, dx, _, _, rfl, hx, T.K_Web, T.N_Web_places, rfl, _, rfl, log13 hn, ?_⟩
  refine ⟨by show 2 ≤ sizeLine; decide, fun q1 h1 => ?_⟩
  have s1 : Same H (upd H q1 (.lst [.str (wd n), .str ":"])) := Same.new (fun _ _ h => h) h1
  refine ⟨_, rfl, x, A.c_Web, dx, _, _, rfl, s1 _ _ hx, T.K_Web, T.N_Web_ties, rfl, q, rfl, ⟨_, SqT.of (s1 _ _ hq)⟩, fun D hD => ?_⟩
  have nD : H D = none := s1.free hD
  refine walk_gen (walk_tup (K := K) (a := q) (xs := xs)) (fun i H' => Same (upd H q1 (.lst [.str (wd n), .str ":"])) H' ∧ H' D = some (.lst (((ps.take i).flatMap fun p => [wd p.1, wd p.2]).map V.str))) ⟨Same.new (fun _ _ h => h) hD, upd_same⟩ (fun i H' _ q => SqT.of (q.1 _ _ (s1 _ _ hq))) ?_ ?_
  · rintro i y H' _ hi ⟨s2, hD2⟩ ⟨rfl, hy⟩
    obtain ⟨p, hpi, t, rfl, ht⟩ := paired_get hp hy
    obtain ⟨b1, b2⟩ := hb p (List.mem_of_getElem? hpi)
    have ht2 := s2 _ _ (s1 _ _ ht)
    have et : (ps.take (i + 1)).flatMap (fun p => [wd p.1, wd p.2]) = (ps.take i).flatMap (fun p => [wd p.1, wd p.2]) ++ [wd p.1, wd p.2] := by
      rw [List.take_succ, hpi]
      simp
    have el : ((ps.take i).flatMap fun p => [wd p.1, wd p.2]).length ≤ 24 := by
      have := words_len n (ps.take i)
      have e2 : (words n (ps.take i)).length = ((ps.take i).flatMap fun p => [wd p.1, wd p.2]).length + 1 + 1 := rfl
      have := List.length_take_le i ps
      omega
    rw [et]
    generalize ((ps.take i).flatMap fun p => [wd p.1, wd p.2]) = acc at hD2 el
    refine ⟨rfl, tYes_of (iteT ⟨_, rfl, t, rfl, ⟨_, SqT.of ht2⟩, walk_gen (walk_tup (K := K) (a := t) (xs := [V.int (p.1 : Int), .int (p.2 : Int)])) (fun j H'' => Same (upd H q1 (.lst [.str (wd n), .str ":"])) H'' ∧ H'' D = some (.lst ((acc ++ [wd p.1, wd p.2].take j).map V.str))) ⟨s2, by simpa using hD2⟩ (fun j H'' _ q => SqT.of (q.1 _ _ (s1 _ _ ht))) ?_ ?_⟩)⟩
    · rintro j z H'' _ hj ⟨s3, hD3⟩ ⟨rfl, hz⟩
      obtain ⟨m, hm, hm2, rfl⟩ : ∃ m : Nat, m ≤ 13 ∧ [wd p.1, wd p.2][j]? = some (wd m) ∧ z = .int (m : Int) := by
        match j, hj, hz with
        | 0, _, hz => exact ⟨p.1, by omega, rfl, (Option.some.inj hz).symm⟩
        | 1, _, hz => exact ⟨p.2, by omega, rfl, (Option.some.inj hz).symm⟩
      refine ⟨rfl, tYes_of (iteT ⟨_, rfl, _, rfl, log13 hm, _, hD3, ?_, ?_, ?_⟩)⟩
      · rw [List.length_map, List.length_append, List.length_take]
        have e7 : [wd p.1, wd p.2].length = 2 := rfl
        exact small1000 (by omega)
      · intro b o h
        rw [upd_ne (ne_of_none h hD)]
        exact s3 _ _ h
      · rw [upd_same, List.take_succ, hm2]
        simp [wd]
    · rintro H'' ⟨s3, hD3⟩
      exact ⟨s3, hD3⟩
  · rintro H' ⟨s2, hD2⟩
    rw [List.take_of_length_le (by omega)] at hD2
    have hq2 := s2 _ _ (upd_same (a := q1))
    have e2 := words_len n ps
    have e3 : ((ps.flatMap fun p => [wd p.1, wd p.2]).map V.str).length = 2 * ps.length := by
      rw [List.length_map]
      have e4 : (words n ps).length = (ps.flatMap fun p => [wd p.1, wd p.2]).length + 1 + 1 := rfl
      omega
    refine ⟨q1, D, _, _, rfl, rfl, hq2, hD2, ?_, fun p1 hp1 => ?_⟩
    · rw [e3]
      have : (1000 : Nat) ≤ sizeLine := by decide
      show 2 + _ ≤ _
      omega
    · refine ⟨_, p1, words n ps, rfl, rfl, .inl (SqL.of upd_same), ?_, ?_⟩
      · have e5 := sum_le2 (words n ps) fun x hx => (words_mem hn hb hx).1
        have e6 : Str.length (Str.ofString " ") = 1 := rfl
        rw [e6]
        omega
      · exact k _ (s1.trans (s2.trans (Same.new (fun _ _ h => h) hp1)))
/-! ### the law's texts -/
def rStrI : List V → Hp → VK → Prop := fun xs H Q => ∃ i, xs = [.int i] ∧ i.natAbs.log2 < 1920 ∧ Q (.str (toString i)) H
def rJoin (K : PySem.W.Frag) : V → List V → Hp → VK → Prop := fun x xs H Q => ∃ a p, ∃ ys : List Str, x = .str a ∧ xs = [.ref p] ∧ (SqL K H p (ys.map V.str) ∨ SqT K H p (ys.map V.str)) ∧ (ys.map (·.length)).sum + ys.length * a.length ≤ 16777216 ∧ Q (.str (Txt.join a ys)) H
/-- a ring of m places -/
def rg (m : Nat) : MC.Pr := (List.range m).map fun i => (i, (i + 1) % m)
def more (m : Nat) : MC.Pr := rg m ++ List.replicate (12 - m) (0, 1)
def IT (m : Nat) : List Str := wd m :: ":" :: (fl (rg m)).map wd
def Wok (w : Str) : Bool := decide (w.length ≤ 5) && decide (32 ∉ TL.tl w)
theorem by13 (f : Nat → Bool) (h : (List.range 13).all (fun m => decide (m < 3) || f m) = true) {m : Nat} (h3 : 3 ≤ m) (h12 : m ≤ 12) : f m = true := by
  have z := List.all_eq_true.mp h m (List.mem_range.mpr (by omega))
  rw [Bool.or_eq_true] at z
  rcases z with z | z
  · have := of_decide_eq_true z
    omega
  · exact z
theorem wok_wd {n : Nat} (h : n ≤ 14) : Wok (wd n) = true := by15 (fun n => Wok (wd n)) (by decide +kernel) h
theorem wok_text {ws : List Str} (h : ws.all Wok = true) (hl : ws.length ≤ 30) : (∀ p ∈ ws, 32 ∉ TL.tl p) ∧ (Txt.join " " ws).length + 2 ≤ sizeLine ∧ (ws.map (·.length)).sum + ws.length * (Str.ofString " ").length ≤ 16777216 := by
  have al : ∀ p ∈ ws, p.length ≤ 5 ∧ 32 ∉ TL.tl p := fun p hp => by
    have z := List.all_eq_true.mp h p hp
    unfold Wok at z
    rw [Bool.and_eq_true] at z
    exact ⟨of_decide_eq_true z.1, of_decide_eq_true z.2⟩
  refine ⟨fun p hp => (al p hp).2, ?_, ?_⟩
  · rw [TL.join_eq, TL.len_tl, TL.tl_join]
    have z := joinL_leS (S := TL.tl " ") (m := 5) (ws.map TL.tl) fun p hp => by
      obtain ⟨x, hx, rfl⟩ := List.mem_map.mp hp
      rw [← TL.len_tl]
      exact (al x hx).1
    rw [List.length_map] at z
    have e1 : (TL.tl " ").length = 1 := rfl
    rw [e1] at z
    have : (1000 : Nat) ≤ sizeLine := by decide
    omega
  · have e1 : (Str.ofString " ").length = 1 := rfl
    rw [e1]
    have sm : ∀ l : List Str, (∀ x ∈ l, x.length ≤ 5) → (l.map (·.length)).sum ≤ 5 * l.length := fun l => by
      induction l with
      | nil => intro _; simp
      | cons x r ih =>
        intro hx
        have h1 := hx x List.mem_cons_self
        have h2 := ih fun y hy => hx y (List.mem_cons_of_mem _ hy)
        rw [List.map_cons, List.sum_cons, List.length_cons]
        omega
    have := sm ws fun p hp => (al p hp).1
    omega
section
variable {m : Nat} (h3 : 3 ≤ m) (h12 : m ≤ 12)
include h3 h12
theorem it_len : (IT m).length = 2 + 2 * m := of_decide_eq_true (by13 (fun m => decide ((IT m).length = 2 + 2 * m)) (by decide +kernel) h3 h12)
theorem it_wok : (IT m).all Wok = true := by13 (fun m => (IT m).all Wok) (by decide +kernel) h3 h12
theorem cut1 : cutV ((IT m).map V.str) none (some (-1)) = (wd m :: ":" :: (((fl (rg m)).take (2 * m - 1)).map wd ++ [])).map V.str := of_decide_eq_true (by13 (fun m => decide (cutV ((IT m).map V.str) none (some (-1)) = (wd m :: ":" :: (((fl (rg m)).take (2 * m - 1)).map wd ++ [])).map V.str)) (by decide +kernel) h3 h12)
theorem cut4 : cutV ((IT m).map V.str) none (some (-4)) = (wd m :: ":" :: ((fl ((rg m).take (m - 2))).map wd ++ [])).map V.str := of_decide_eq_true (by13 (fun m => decide (cutV ((IT m).map V.str) none (some (-4)) = (wd m :: ":" :: ((fl ((rg m).take (m - 2))).map wd ++ [])).map V.str)) (by decide +kernel) h3 h12)
theorem cut5 : cutV ((IT m).map V.str) none (some 5) ++ [V.str (wd m)] ++ cutV ((IT m).map V.str) (some 6) none = (wd m :: ":" :: (((fl (rg m)).take 3).map wd ++ wd m :: ((fl (rg m)).drop 4).map wd)).map V.str := of_decide_eq_true (by13 (fun m => decide (cutV ((IT m).map V.str) none (some 5) ++ [V.str (wd m)] ++ cutV ((IT m).map V.str) (some 6) none = (wd m :: ":" :: (((fl (rg m)).take 3).map wd ++ wd m :: ((fl (rg m)).drop 4).map wd)).map V.str)) (by decide +kernel) h3 h12)
theorem cutR : cutV ((IT m).map V.str) (some 1) none = ((":" : Str) :: (fl (rg m)).map wd).map V.str := of_decide_eq_true (by13 (fun m => decide (cutV ((IT m).map V.str) (some 1) none = ((":" : Str) :: (fl (rg m)).map wd).map V.str)) (by decide +kernel) h3 h12)
theorem cutF : cutV ((IT m).map V.str) none (some 1) = [V.str (wd m)] := of_decide_eq_true (by13 (fun m => decide (cutV ((IT m).map V.str) none (some 1) = [V.str (wd m)])) (by decide +kernel) h3 h12)
theorem catM : (IT m).map V.str ++ (List.replicate ((12 : Int) - (m : Int)).toNat [V.str "0", V.str "1"]).flatten = (wd m :: ":" :: ((fl (more m)).map wd ++ [])).map V.str := of_decide_eq_true (by13 (fun m => decide ((IT m).map V.str ++ (List.replicate ((12 : Int) - (m : Int)).toNat [V.str "0", V.str "1"]).flatten = (wd m :: ":" :: ((fl (more m)).map wd ++ [])).map V.str)) (by decide +kernel) h3 h12)
theorem more_len : (more m).length = 12 := of_decide_eq_true (by13 (fun m => decide ((more m).length = 12)) (by decide +kernel) h3 h12)
theorem more_below : MC.Below m (more m) := by
  have z := by13 (fun m => (more m).all fun p => decide (p.1 < m) && decide (p.2 < m)) (by decide +kernel) h3 h12
  intro p hp
  have q := List.all_eq_true.mp z p hp
  rw [Bool.and_eq_true] at q
  exact ⟨of_decide_eq_true q.1, of_decide_eq_true q.2⟩
theorem more_hang : hang m (more m) = true := by13 (fun m => hang m (more m)) (by decide +kernel) h3 h12
theorem less_hang : hang m ((rg m).take (m - 2)) = false := by
  have z := by13 (fun m => !hang m ((rg m).take (m - 2))) (by decide +kernel) h3 h12
  simpa using z
theorem rg_len : (rg m).length = m := by
  unfold rg
  rw [List.length_map, List.length_range]
theorem rg_below : MC.Below m (rg m) := fun p hp => more_below h3 h12 p (List.mem_append_left _ hp)
theorem fl_below {ps : MC.Pr} (b : MC.Below m ps) : ∀ x ∈ fl ps, x < m := fun x hx => by
  obtain ⟨p, hp, q⟩ := List.mem_flatMap.mp (show x ∈ ps.flatMap (fun p => [p.1, p.2]) from hx)
  obtain ⟨b1, b2⟩ := b p hp
  rcases List.mem_cons.mp q with rfl | q
  · exact b1
  · rw [List.mem_singleton.mp q]
    exact b2
theorem back_cut : cutV ((words m (more m)).map V.str) none (some (((IT m).length : Nat) : Int)) = (IT m).map V.str := of_decide_eq_true (by13 (fun m => decide (cutV ((words m (more m)).map V.str) none (some (((IT m).length : Nat) : Int)) = (IT m).map V.str)) (by decide +kernel) h3 h12)
end
theorem outT_told {E : XK} {H1 H : Hp} {p c : Addr} {m : Nat} {i : V} (kp : Kp p H1 H) (bg : Bg H p c m) (he : ∀ us, some [V.str "text", V.int 0, i] = some us → ∀ cls d gs H', Kp p H1 H' → Bg H' p c m → H' d = some (.xd gs) → Told A K H' cls gs us → E cls (some d) H') : OutT A E H i :=
  fun d H' hd s => he _ rfl _ _ _ H' (kp.trans (Kp.of_same s)) (bg.keep s) hd (.text rfl rfl)
/-- what a text's words must be -/
def RdT (A : Ad) (H : Hp) (Q : VK) (E : XK) (ws : List Str) : Prop :=
  (∃ (s : Str) (rs : List Str) (u : V), ws = s :: rs ∧ NumW s u ∧ placesB u = false ∧ OutT A E H (.int 0)) ∨
     ∃ n : Nat, 1 ≤ n ∧ n ≤ 13 ∧
      ((∃ (s : Str) (rs : List Str), ws = wd n :: s :: rs ∧ s ≠ ":" ∧ OutT A E H (.int 1)) ∨
       ∃ (ns : List Nat) (tail : List Str), ws = wd n :: ":" :: (ns.map wd ++ tail) ∧ (∀ x ∈ ns, x < n) ∧ ns.length ≤ 24 ∧
        ((∃ (s : Str) (rest : List Str) (u : V), tail = s :: rest ∧ ns.length < 24 ∧ NumW s u ∧ inB (n : Int) u = false ∧ OutT A E H (.int ((2 + ns.length : Nat) : Int))) ∨
         (tail ≠ [] ∧ ns.length = 24 ∧ OutT A E H (.int 26)) ∨
         (tail = [] ∧ ns.length % 2 = 1 ∧ OutT A E H (.int ((2 + ns.length : Nat) : Int))) ∨
         ∃ ps : MC.Pr, tail = [] ∧ ns = fl ps ∧ ps.length ≤ 12 ∧ MC.Below n ps ∧
          (hang n ps = true → ∀ y H', Same H H' → WebAt H' y A.c_Web n ps → Q (.ref y) H') ∧ (hang n ps = false → OutT A E H (.int (((2 + ns.length : Nat) : Int) - 1)))))
theorem read_text {H : Hp} {Q : VK} {E : XK} {ws : List Str} (wk : ws.all Wok = true) (hl : ws.length ≤ 30) (rd : RdT A H Q E ws) : sp_read A [.str (Txt.join " " ws)] H Q E := by
  obtain ⟨h1, h2, _⟩ := wok_text wk hl
  exact ⟨_, rfl, .inr ⟨ws, rfl, h1, h2, by omega, rd⟩⟩
theorem join_read {H : Hp} {Q : VK} {E : XK} {q : Addr} {ws : List Str} (hq : H q = some (.lst (ws.map V.str))) (wk : ws.all Wok = true) (hl : ws.length ≤ 30) (rd : RdT A H Q E ws) : rJoin K (.str (Str.ofString " ")) [.ref q] H (fun x H1 => sp_read A [x] H1 Q E) := by
  obtain ⟨_, _, h3⟩ := wok_text wk hl
  exact ⟨_, q, ws, rfl, rfl, .inl (SqL.of hq), h3, read_text wk hl rd⟩
theorem wok_wds {ns : List Nat} (h : ∀ x ∈ ns, x ≤ 14) : (ns.map wd).all Wok = true := List.all_eq_true.mpr fun w hw => by
  obtain ⟨x, hx, rfl⟩ := List.mem_map.mp hw
  exact wok_wd (h x hx)
theorem str_web {H : Hp} {x : Addr} {n : Nat} {ps : MC.Pr} {Q : VK} (hx : WebAt H x A.c_Web n ps) (hn : n ≤ 13) (hl : ps.length ≤ 12) (hb : MC.Below n ps) (k : ∀ H', Same H H' → Q (.str (text n ps)) H') : rStrO A.c_Web (sp_str A.c_Web) [.ref x] H Q := by
  obtain ⟨dx, q, xs, h1, h2⟩ := id hx
  unfold rStrO
  exact ⟨x, dx, _, rfl, h1, x, n, ps, rfl, hx, hn, hl, hb, fun H' s => ⟨_, rfl, k H' s⟩⟩
theorem dp_strs {H : Hp} : ∀ ws : List Str, DpAll K H (ws.map V.str) (ws.map PyData.str)
  | [] => .nil
  | w :: ws => .cons (.str w) (dp_strs ws)
theorem lay_strs : ∀ ws : List Str, ws.all PyData.strOk = true → PyData.canLayAll0 (ws.map PyData.str) = true
  | [], _ => by simp [PyData.canLayAll0]
  | w :: ws, h => by
    rw [List.all_cons, Bool.and_eq_true] at h
    simp only [List.map_cons, PyData.canLayAll0, PyData.canLay0, lay_strs ws h.2, h.1, Bool.and_self]
theorem dep_strs : ∀ ws : List Str, PyData.depthAll (ws.map PyData.str) ≤ 0
  | [] => by simp [PyData.depthAll]
  | w :: ws => by
    have ih := dep_strs ws
    simp only [List.map_cons, PyData.depthAll, PyData.depth]
    omega
theorem eqv_strs : ∀ ws : List Str, PyData.eqvAll (ws.map PyData.str) (ws.map PyData.str) = true
  | [] => by simp [PyData.eqvAll]
  | w :: ws => by simp [List.map_cons, PyData.eqvAll, eqv_strs ws, PyData.eqv]
theorem eq_strs {H : Hp} {a b : Addr} {ws : List Str} {Q : VK} (ha : H a = some (.lst (ws.map V.str))) (hb : H b = some (.lst (ws.map V.str))) (ok : ws.all PyData.strOk = true) (k : Q (.bl true) H) : rEqD K (.ref a) (.ref b) H Q := by
  have sh : SeqAt.shaped (.list (ws.map PyData.str)) = true := by
    have := dep_strs ws
    unfold SeqAt.shaped
    simp only [PyData.canLay0, PyData.depth, lay_strs ws ok, Bool.true_and]
    exact decide_eq_true (by omega)
  have ev : PyData.eqv (.list (ws.map PyData.str)) (.list (ws.map PyData.str)) = true := by
    simp only [PyData.eqv, eqv_strs]
  refine ⟨.list (ws.map PyData.str), .list (ws.map PyData.str), .lst (SqL.of ha) (dp_strs ws), .lst (SqL.of hb) (dp_strs ws), sh, sh, ?_⟩
  rw [ev]
  exact k
theorem it_ok {m : Nat} (h3 : 3 ≤ m) (h12 : m ≤ 12) : (IT m).all PyData.strOk = true := by13 (fun m => (IT m).all PyData.strOk) (by decide +kernel) h3 h12
theorem G__law_texts_right (T : Txt P K mg A) (TB : TabB base mg A.k__law_texts_right A.t__law_texts_right) (ne : NE A) : FnG P w K mg base CX0 15 A.a__law_texts_right A.d__law_texts_right P__law_texts_right (sp_part A 5) := by
  refine okGC T.F__law_texts_right sc__law_texts_right (fun vs H Q E h => ?_) (fun A0 outer s H vs Q E hr h => ?_)
  · obtain ⟨p, c, n, rfl, _⟩ := h
    rfl
  obtain ⟨p, c, n, rfl, bg, hn, tb, k⟩ := h
  refine ⟨_, (pss_cons (ps_asg (pe_tup (pa_cons (pe_lst pa_nil) (pa_cons (pe_op op_add pe_int (pe_callG (G__law_push T) (hr.mono (by decide)) rfl T.g__law_push T.F__law_push.kp T.b__law_push .nil pass0 (pa_cons (pv 0) (pa_cons pe_int pa_nil)))) pa_nil))) (pg_tup rfl (pgs_cons (pg_name (i := 1) sc__law_texts_right.nd rfl (Or.inl rfl)) (pgs_cons (pg_name (i := 2) sc__law_texts_right.nd rfl (Or.inr rfl)) pgs_nil))))
      (pss_cons (ps_for PassesOwn.never rfl (pi_range1 (by rfl) T.n_range (pa_cons (pv 2) pa_nil)) (pg_name (i := 3) sc__law_texts_right.nd rfl (Or.inl rfl)) (pss_one (ps_set (i := 1) sc__law_texts_right.nd rfl (Or.inl rfl) (pe_op op_cat (pv 1) (pe_lst (pa_cons (pe_callTy (T := "str") call_str_int (by rfl) T.n_str (by decide +kernel) (pa_cons (pv 3) pa_nil)) (pa_cons (pe_callTy (T := "str") call_str_int (by rfl) T.n_str (by decide +kernel) (pa_cons (pe_op op_modN (pe_callTy (T := "int") call_int1 (by rfl) T.n_int (by decide +kernel) (pa_cons (pe_op op_add (pv 3) pe_int) pa_nil)) (pv 2)) pa_nil)) pa_nil)))))))
      (pss_cons (ps_set (i := 4) sc__law_texts_right.nd rfl (Or.inr rfl) (pe_op op_cat (pe_lst (pa_cons (pe_callTy (T := "str") call_str_int (by rfl) T.n_str (by decide +kernel) (pa_cons (pv 2) pa_nil)) (pa_cons pe_str pa_nil))) (pv 1)))
      (pss_cons (ps_set (i := 5) sc__law_texts_right.nd rfl (Or.inl rfl) (pe_lst (pa_cons (pe_lamG (T := tabs A) (t := fun E => (tSM A.c_Web (sp_read A) E (tC (.ref A.c_Web)) (tCons (tCall sp_some [] E0 (tCons (tVar 0) (tCons (tLst (tCons (tC .non) (tCons (tC (.int 5)) (tCons (tVar 4) (tCons (tCB (rTupOf K) (tCons (tVar 4) tNil)) (tCons tDNewK (tCons (tC (.bl true)) tNil))))))) tNil))) tNil))) rfl T.g__law_heard T.F__law_heard T.b__law_heard sc__law_heard rfl (Or.inl rfl) (heard_gives T) TB rfl (List.mem_cons_of_mem _ (List.mem_cons_of_mem _ (List.mem_cons_of_mem _ (List.mem_cons_of_mem _ List.mem_cons_self)))) (tabs_u4 ne) (k := 12) (hr.mono (by decide)) (lamS_by (sc := defScope s__law_texts_right) (by decide +kernel)) rfl (fun _ _ _ _ _ => rfl) (fun A1 outer1 s1 H1 E1 f1 c1 hr1 => (pe_smeth (E := E1) (pe_glob (v := .ref A.c_Web) rfl T.g_Web rfl) T.S_read (G_Web_read T) (hr1.mono (by decide)) T.F_Web_read.kp T.b_Web_read (passes_call (takes_of rfl rfl rfl rfl) (fun _ _ _ _ h => h)) (pa_cons (pe_callG (G__law_any T) (hr1.mono (by decide)) rfl T.g__law_any T.F__law_any.kp T.b__law_any .nil pass0 (pa_cons (pv 0) (pa_cons (pe_lst (pa_cons pe_non (pa_cons pe_int (pa_cons (pv 4) (pa_cons (pe_callTy (T := "tuple") call_tuple_of (by rfl) T.n_tuple (by decide +kernel) (pa_cons (pv 4) pa_nil)) (pa_cons pe_dnewK (pa_cons pe_bl pa_nil))))))) pa_nil))) pa_nil)))) pa_nil)))
      (pss_cons (ps_expr (pe_bm PySem.F.plainAttrs_list PySem.F.slot_list_append PySem.F.type_list_append mt_append (pv 5) (pa_cons (pe_lamG (T := tabs A) (t := fun E => (tSM A.c_Web (sp_read A) E (tC (.ref A.c_Web)) (tCons (tBM K "str" (rJoin K) (tC (.str " ")) (tCons (tSl (rSlL K) (tVar 4) tNoPart (tPart (tUn (rU fun i => V.int (-i)) (tC (.int 1))))) tNil)) tNil))) rfl T.g__law_heard T.F__law_heard T.b__law_heard sc__law_heard rfl (Or.inl rfl) (heard_gives T) TB rfl (List.mem_cons_of_mem _ (List.mem_cons_of_mem _ (List.mem_cons_of_mem _ (List.mem_cons_of_mem _ List.mem_cons_self)))) (tabs_u4 ne) (k := 12) (hr.mono (by decide)) (lamS_by (sc := defScope s__law_texts_right) (by decide +kernel)) rfl (fun _ _ _ _ _ => rfl) (fun A1 outer1 s1 H1 E1 f1 c1 hr1 => (pe_smeth (E := E1) (pe_glob (v := .ref A.c_Web) rfl T.g_Web rfl) T.S_read (G_Web_read T) (hr1.mono (by decide)) T.F_Web_read.kp T.b_Web_read (passes_call (takes_of rfl rfl rfl rfl) (fun _ _ _ _ h => h)) (pa_cons (pe_bm PySem.F.plainAttrs_str PySem.F.slot_str_join PySem.F.type_str_join mt_join pe_str (pa_cons (pe_slice (r := rSlL K) sl_list (pv 4) po_none (po_some (pe_un un_neg pe_int))) pa_nil)) pa_nil)))) pa_nil)))
      (pss_cons (ps_expr (pe_bm PySem.F.plainAttrs_list PySem.F.slot_list_append PySem.F.type_list_append mt_append (pv 5) (pa_cons (pe_lamG (T := tabs A) (t := fun E => (tSM A.c_Web (sp_read A) E (tC (.ref A.c_Web)) (tCons (tBM K "str" (rJoin K) (tC (.str " ")) (tCons (tSl (rSlL K) (tVar 4) tNoPart (tPart (tUn (rU fun i => V.int (-i)) (tC (.int 4))))) tNil)) tNil))) rfl T.g__law_heard T.F__law_heard T.b__law_heard sc__law_heard rfl (Or.inl rfl) (heard_gives T) TB rfl (List.mem_cons_of_mem _ (List.mem_cons_of_mem _ (List.mem_cons_of_mem _ (List.mem_cons_of_mem _ List.mem_cons_self)))) (tabs_u4 ne) (k := 12) (hr.mono (by decide)) (lamS_by (sc := defScope s__law_texts_right) (by decide +kernel)) rfl (fun _ _ _ _ _ => rfl) (fun A1 outer1 s1 H1 E1 f1 c1 hr1 => (pe_smeth (E := E1) (pe_glob (v := .ref A.c_Web) rfl T.g_Web rfl) T.S_read (G_Web_read T) (hr1.mono (by decide)) T.F_Web_read.kp T.b_Web_read (passes_call (takes_of rfl rfl rfl rfl) (fun _ _ _ _ h => h)) (pa_cons (pe_bm PySem.F.plainAttrs_str PySem.F.slot_str_join PySem.F.type_str_join mt_join pe_str (pa_cons (pe_slice (r := rSlL K) sl_list (pv 4) po_none (po_some (pe_un un_neg pe_int))) pa_nil)) pa_nil)))) pa_nil)))
      (pss_cons (ps_expr (pe_bm PySem.F.plainAttrs_list PySem.F.slot_list_append PySem.F.type_list_append mt_append (pv 5) (pa_cons (pe_lamG (T := tabs A) (t := fun E => (tSM A.c_Web (sp_read A) E (tC (.ref A.c_Web)) (tCons (tBM K "str" (rJoin K) (tC (.str " ")) (tCons (tOp rCat (tOp rCat (tSl (rSlL K) (tVar 4) tNoPart (tPart (tC (.int 5)))) (tLst (tCons (tCB rStrI (tCons (tVar 2) tNil)) tNil))) (tSl (rSlL K) (tVar 4) (tPart (tC (.int 6))) tNoPart)) tNil)) tNil))) rfl T.g__law_heard T.F__law_heard T.b__law_heard sc__law_heard rfl (Or.inl rfl) (heard_gives T) TB rfl (List.mem_cons_of_mem _ (List.mem_cons_of_mem _ (List.mem_cons_of_mem _ (List.mem_cons_of_mem _ List.mem_cons_self)))) (tabs_u4 ne) (k := 12) (hr.mono (by decide)) (lamS_by (sc := defScope s__law_texts_right) (by decide +kernel)) rfl (fun _ _ _ _ _ => rfl) (fun A1 outer1 s1 H1 E1 f1 c1 hr1 => (pe_smeth (E := E1) (pe_glob (v := .ref A.c_Web) rfl T.g_Web rfl) T.S_read (G_Web_read T) (hr1.mono (by decide)) T.F_Web_read.kp T.b_Web_read (passes_call (takes_of rfl rfl rfl rfl) (fun _ _ _ _ h => h)) (pa_cons (pe_bm PySem.F.plainAttrs_str PySem.F.slot_str_join PySem.F.type_str_join mt_join pe_str (pa_cons (pe_op op_cat (pe_op op_cat (pe_slice (r := rSlL K) sl_list (pv 4) po_none (po_some pe_int)) (pe_lst (pa_cons (pe_callTy (T := "str") call_str_int (by rfl) T.n_str (by decide +kernel) (pa_cons (pv 2) pa_nil)) pa_nil))) (pe_slice (r := rSlL K) sl_list (pv 4) (po_some pe_int) po_none)) pa_nil)) pa_nil)))) pa_nil)))
      (pss_cons (ps_expr (pe_bm PySem.F.plainAttrs_list PySem.F.slot_list_append PySem.F.type_list_append mt_append (pv 5) (pa_cons (pe_lamG (T := tabs A) (t := fun E => (tSM A.c_Web (sp_read A) E (tC (.ref A.c_Web)) (tCons (tBM K "str" (rJoin K) (tC (.str " ")) (tCons (tOp rCat (tLst (tCons (tCall sp_some [] E0 (tCons (tVar 0) (tCons (tLst (tCons (tC (.str "0")) (tCons (tC (.str "14")) (tCons (tC (.str "-3")) (tCons (tC (.str "")) (tCons (tC (.str "03")) (tCons (tC (.str "three")) tNil))))))) tNil))) tNil)) (tSl (rSlL K) (tVar 4) (tPart (tC (.int 1))) tNoPart)) tNil)) tNil))) rfl T.g__law_heard T.F__law_heard T.b__law_heard sc__law_heard rfl (Or.inl rfl) (heard_gives T) TB rfl (List.mem_cons_of_mem _ (List.mem_cons_of_mem _ (List.mem_cons_of_mem _ (List.mem_cons_of_mem _ List.mem_cons_self)))) (tabs_u4 ne) (k := 12) (hr.mono (by decide)) (lamS_by (sc := defScope s__law_texts_right) (by decide +kernel)) rfl (fun _ _ _ _ _ => rfl) (fun A1 outer1 s1 H1 E1 f1 c1 hr1 => (pe_smeth (E := E1) (pe_glob (v := .ref A.c_Web) rfl T.g_Web rfl) T.S_read (G_Web_read T) (hr1.mono (by decide)) T.F_Web_read.kp T.b_Web_read (passes_call (takes_of rfl rfl rfl rfl) (fun _ _ _ _ h => h)) (pa_cons (pe_bm PySem.F.plainAttrs_str PySem.F.slot_str_join PySem.F.type_str_join mt_join pe_str (pa_cons (pe_op op_cat (pe_lst (pa_cons (pe_callG (G__law_any T) (hr1.mono (by decide)) rfl T.g__law_any T.F__law_any.kp T.b__law_any .nil pass0 (pa_cons (pv 0) (pa_cons (pe_lst (pa_cons pe_str (pa_cons pe_str (pa_cons pe_str (pa_cons pe_str (pa_cons pe_str (pa_cons pe_str pa_nil))))))) pa_nil))) pa_nil)) (pe_slice (r := rSlL K) sl_list (pv 4) (po_some pe_int) po_none)) pa_nil)) pa_nil)))) pa_nil)))
      (pss_cons (ps_expr (pe_bm PySem.F.plainAttrs_list PySem.F.slot_list_append PySem.F.type_list_append mt_append (pv 5) (pa_cons (pe_lamG (T := tabs A) (t := fun E => (tSM A.c_Web (sp_read A) E (tC (.ref A.c_Web)) (tCons (tBM K "str" (rJoin K) (tC (.str " ")) (tCons (tOp rCat (tOp rCat (tSl (rSlL K) (tVar 4) tNoPart (tPart (tC (.int 1)))) (tLst (tCons (tCall sp_some [] E0 (tCons (tVar 0) (tCons (tLst (tCons (tC (.str "")) (tCons (tC (.str "/")) (tCons (tC (.str "::")) (tCons (tC (.str "0")) tNil))))) tNil))) tNil))) (tSl (rSlL K) (tVar 4) (tPart (tC (.int 1))) tNoPart)) tNil)) tNil))) rfl T.g__law_heard T.F__law_heard T.b__law_heard sc__law_heard rfl (Or.inl rfl) (heard_gives T) TB rfl (List.mem_cons_of_mem _ (List.mem_cons_of_mem _ (List.mem_cons_of_mem _ (List.mem_cons_of_mem _ List.mem_cons_self)))) (tabs_u4 ne) (k := 12) (hr.mono (by decide)) (lamS_by (sc := defScope s__law_texts_right) (by decide +kernel)) rfl (fun _ _ _ _ _ => rfl) (fun A1 outer1 s1 H1 E1 f1 c1 hr1 => (pe_smeth (E := E1) (pe_glob (v := .ref A.c_Web) rfl T.g_Web rfl) T.S_read (G_Web_read T) (hr1.mono (by decide)) T.F_Web_read.kp T.b_Web_read (passes_call (takes_of rfl rfl rfl rfl) (fun _ _ _ _ h => h)) (pa_cons (pe_bm PySem.F.plainAttrs_str PySem.F.slot_str_join PySem.F.type_str_join mt_join pe_str (pa_cons (pe_op op_cat (pe_op op_cat (pe_slice (r := rSlL K) sl_list (pv 4) po_none (po_some pe_int)) (pe_lst (pa_cons (pe_callG (G__law_any T) (hr1.mono (by decide)) rfl T.g__law_any T.F__law_any.kp T.b__law_any .nil pass0 (pa_cons (pv 0) (pa_cons (pe_lst (pa_cons pe_str (pa_cons pe_str (pa_cons pe_str (pa_cons pe_str pa_nil))))) pa_nil))) pa_nil))) (pe_slice (r := rSlL K) sl_list (pv 4) (po_some pe_int) po_none)) pa_nil)) pa_nil)))) pa_nil)))
      (pss_cons (ps_expr (pe_bm PySem.F.plainAttrs_list PySem.F.slot_list_append PySem.F.type_list_append mt_append (pv 5) (pa_cons (pe_lamG (T := tabs A) (t := fun E => (tSM A.c_Web (sp_read A) E (tC (.ref A.c_Web)) (tCons (tBM K "str" (rJoin K) (tC (.str " ")) (tCons (tOp rCat (tOp rCat (tVar 4) (tOp rRep (tLst (tCons (tC (.str "0")) (tCons (tC (.str "1")) tNil))) (tOp (rI0 fun i j => V.int (i - j)) (tC (.int 12)) (tVar 2)))) (tLst (tCons (tC (.str "0")) tNil))) tNil)) tNil))) rfl T.g__law_heard T.F__law_heard T.b__law_heard sc__law_heard rfl (Or.inl rfl) (heard_gives T) TB rfl (List.mem_cons_of_mem _ (List.mem_cons_of_mem _ (List.mem_cons_of_mem _ (List.mem_cons_of_mem _ List.mem_cons_self)))) (tabs_u4 ne) (k := 12) (hr.mono (by decide)) (lamS_by (sc := defScope s__law_texts_right) (by decide +kernel)) rfl (fun _ _ _ _ _ => rfl) (fun A1 outer1 s1 H1 E1 f1 c1 hr1 => (pe_smeth (E := E1) (pe_glob (v := .ref A.c_Web) rfl T.g_Web rfl) T.S_read (G_Web_read T) (hr1.mono (by decide)) T.F_Web_read.kp T.b_Web_read (passes_call (takes_of rfl rfl rfl rfl) (fun _ _ _ _ h => h)) (pa_cons (pe_bm PySem.F.plainAttrs_str PySem.F.slot_str_join PySem.F.type_str_join mt_join pe_str (pa_cons (pe_op op_cat (pe_op op_cat (pv 4) (pe_op op_rep (pe_lst (pa_cons pe_str (pa_cons pe_str pa_nil))) (pe_op op_sub pe_int (pv 2)))) (pe_lst (pa_cons pe_str pa_nil))) pa_nil)) pa_nil)))) pa_nil)))
      (pss_cons (ps_expr (pe_bm PySem.F.plainAttrs_list PySem.F.slot_list_append PySem.F.type_list_append mt_append (pv 5) (pa_cons (pe_lamG (T := tabs A) (t := fun E => (tSM A.c_Web (sp_read A) E (tC (.ref A.c_Web)) (tCons (tCall sp_some [] E0 (tCons (tVar 0) (tCons (tLst (tCons (tC (.str "2 :")) (tCons (tC (.str "13 :")) tNil))) tNil))) tNil))) rfl T.g__law_heard T.F__law_heard T.b__law_heard sc__law_heard rfl (Or.inl rfl) (heard_gives T) TB rfl (List.mem_cons_of_mem _ (List.mem_cons_of_mem _ (List.mem_cons_of_mem _ (List.mem_cons_of_mem _ List.mem_cons_self)))) (tabs_u4 ne) (k := 12) (hr.mono (by decide)) (lamS_by (sc := defScope s__law_texts_right) (by decide +kernel)) rfl (fun _ _ _ _ _ => rfl) (fun A1 outer1 s1 H1 E1 f1 c1 hr1 => (pe_smeth (E := E1) (pe_glob (v := .ref A.c_Web) rfl T.g_Web rfl) T.S_read (G_Web_read T) (hr1.mono (by decide)) T.F_Web_read.kp T.b_Web_read (passes_call (takes_of rfl rfl rfl rfl) (fun _ _ _ _ h => h)) (pa_cons (pe_callG (G__law_any T) (hr1.mono (by decide)) rfl T.g__law_any T.F__law_any.kp T.b__law_any .nil pass0 (pa_cons (pv 0) (pa_cons (pe_lst (pa_cons pe_str (pa_cons pe_str pa_nil))) pa_nil))) pa_nil)))) pa_nil)))
      (pss_cons (ps_expr (pe_bm PySem.F.plainAttrs_list PySem.F.slot_list_append PySem.F.type_list_append mt_append (pv 5) (pa_cons (pe_lamG (T := tabs A) (t := fun E => (tSM A.c_Web (sp_read A) E (tC (.ref A.c_Web)) (tCons (tC (.str "")) tNil))) rfl T.g__law_heard T.F__law_heard T.b__law_heard sc__law_heard rfl (Or.inl rfl) (heard_gives T) TB rfl (List.mem_cons_of_mem _ (List.mem_cons_of_mem _ (List.mem_cons_of_mem _ (List.mem_cons_of_mem _ List.mem_cons_self)))) (tabs_u4 ne) (k := 12) (hr.mono (by decide)) (lamS_by (sc := defScope s__law_texts_right) (by decide +kernel)) rfl (fun _ _ _ _ _ => rfl) (fun A1 outer1 s1 H1 E1 f1 c1 hr1 => (pe_smeth (E := E1) (pe_glob (v := .ref A.c_Web) rfl T.g_Web rfl) T.S_read (G_Web_read T) (hr1.mono (by decide)) T.F_Web_read.kp T.b_Web_read (passes_call (takes_of rfl rfl rfl rfl) (fun _ _ _ _ h => h)) (pa_cons pe_str pa_nil)))) pa_nil)))
      (pss_cons (ps_set (i := 6) sc__law_texts_right.nd rfl (Or.inl rfl) (pe_lst (pa_cons (pe_tup (pa_cons pe_str (pa_cons pe_int (pa_cons pe_int pa_nil)))) (pa_cons (pe_tup (pa_cons pe_str (pa_cons pe_int (pa_cons (pe_op op_sub (pe_callB call_len_seq (by rfl) T.n_len (by decide +kernel) (pa_cons (pv 4) pa_nil)) pe_int) pa_nil)))) (pa_cons (pe_tup (pa_cons pe_str (pa_cons pe_int (pa_cons (pe_op op_sub (pe_callB call_len_seq (by rfl) T.n_len (by decide +kernel) (pa_cons (pv 4) pa_nil)) pe_int) pa_nil)))) (pa_cons (pe_tup (pa_cons pe_str (pa_cons pe_int (pa_cons pe_int pa_nil)))) (pa_cons (pe_tup (pa_cons pe_str (pa_cons pe_int (pa_cons pe_int pa_nil)))) (pa_cons (pe_tup (pa_cons pe_str (pa_cons pe_int (pa_cons pe_int pa_nil)))) (pa_cons (pe_tup (pa_cons pe_str (pa_cons pe_int (pa_cons pe_int pa_nil)))) pa_nil)))))))))
      (pss_cons (ps_set (i := 7) sc__law_texts_right.nd rfl (Or.inl rfl) (pe_smeth (E := fun _ _ _ => False) (pe_glob (v := .ref A.c_Web) rfl T.g_Web rfl) T.S_read (G_Web_read T) (hr.mono (by decide)) T.F_Web_read.kp T.b_Web_read (passes_call (W := fun _ _ _ _ => False) L2.takes0 (fun _ _ _ _ h => h)) (pa_cons (pe_bm PySem.F.plainAttrs_str PySem.F.slot_str_join PySem.F.type_str_join mt_join pe_str (pa_cons (pe_op op_cat (pv 4) (pe_op op_rep (pe_lst (pa_cons pe_str (pa_cons pe_str pa_nil))) (pe_op op_sub pe_int (pv 2)))) pa_nil)) pa_nil)))
      (pss_one (ps_ret (pe_and (pe_cmpR (op_eqD hr.room.units) (pv 5) (pe_op op_cat (pv 6) (pe_lst (pa_cons (pe_tup (pa_cons pe_str (pa_cons pe_int (pa_cons pe_int pa_nil)))) (pa_cons (pe_tup (pa_cons pe_str (pa_cons pe_int (pa_cons pe_int pa_nil)))) pa_nil)))) (nomark _)) (pe_and (pe_cmpR op_eq (pe_callB call_len_seq (by rfl) T.n_len (by decide +kernel) (pa_cons (pe_fld (pv 7) rfl) pa_nil)) pe_int (nomark _)) (pe_one (pe_cmpR (op_eqD hr.room.units) (pe_slice (r := rSlL K) sl_list (pe_bm PySem.F.plainAttrs_str PySem.F.slot_str_split PySem.F.type_str_split mt_split (pe_callTy (T := "str") (call_strO T.O_s T.O_f (G_Web___str__ T) (hr.mono (by decide)) T.b_Web___str__ pass0) (by rfl) T.n_str (by decide +kernel) (pa_cons (pv 7) pa_nil)) (pa_cons pe_str pa_nil)) po_none (po_some (pe_callB call_len_seq (by rfl) T.n_len (by decide +kernel) (pa_cons (pv 4) pa_nil)))) (pv 4) (nomark _))))))))))))))))))))), ?_⟩
  obtain ⟨_, ms0, t0, l0, hp0, hc0, _⟩ := id bg
  -- how many places
  refine ⟨Nat.zero_le _, fun g hg => ⟨_, rfl, p, c, n, 10, rfl, bg.new hg, by omega, by decide, by decide, fun x H1 x0 x1 kp1 bg1 => ⟨_, _, rfl, rfl, by show 2 ≤ sizeLine; decide, fun t ht => ⟨t, _, rfl, SqT.of upd_same, rfl, _, _, rfl, _, _, rfl, rfl, ?_⟩⟩⟩⟩
  obtain ⟨m, em, m3, m12⟩ : ∃ m : Nat, 3 + x = (m : Int) ∧ 3 ≤ m ∧ m ≤ 12 := ⟨(3 + x).toNat, by omega, by omega, by omega⟩
  try dsimp only
  rw [em]
  obtain ⟨_, ms1, t1, l1, hp1, hc1, _⟩ := id bg1
  have ngp : g ≠ p := (ne_of_none hp0 hg).symm
  have hg1 := kp1 _ _ ngp upd_same
  have tb2 := (tabs_keep (tb.ext (Same.new (o := .lst []) (fun _ _ h => h) hg)) (kp_n kp1 (at_new hp0 hg))).ext (Same.new (o := .tup [.ref g, .int (m : Int)]) (fun _ _ h => h) ht)
  have bg2 := bg1.new (o := .tup [.ref g, .int (m : Int)]) ht
  have hg2 := at_new (u := .tup [.ref g, .int (m : Int)]) hg1 ht
  generalize upd H1 t (.tup [.ref g, .int (m : Int)]) = H2 at tb2 bg2 hg2
  clear hp1 hc1 kp1 ht hg bg1 hp0 hc0 hg1 bg tb
  -- the ring
  refine seq_cut (fun σ' H' => ∃ g, (∃ u3 u4 u5 u6 u7 : Option V, σ' = [some (.ref p), some (.ref g), some (.int (m : Int)), u3, u4, u5, u6, u7]) ∧ Bg H' p c (n + 1) ∧ Tabs (tabs A) H' ∧ g ≠ p ∧ H' g = some (.lst (((fl (rg m)).map wd).map V.str))) (fun N hN => ?_) ?_
  · refine ⟨_, rfl, _, rfl, by omega, by omega, ?_⟩
    rw [show ((m : Int)).toNat = m from rfl]
    refine for_range (lo := 0) (n := m) (fun i σ' H' => ∃ g, (∃ u3 u4 u5 u6 u7 : Option V, σ' = [some (.ref p), some (.ref g), some (.int (m : Int)), u3, u4, u5, u6, u7]) ∧ Bg H' p c (n + 1) ∧ Tabs (tabs A) H' ∧ g ≠ p ∧ H' g = some (.lst (((fl ((rg m).take i)).map wd).map V.str))) ⟨g, ⟨_, _, _, _, _, rfl⟩, bg2, tb2, ngp, hg2⟩ ?_ ?_
    · rintro i σ' H' hi ⟨g', ⟨u3, u4, u5, u6, u7, rfl⟩, bgi, tbi, ngi, hgi⟩
      obtain ⟨_, msi, ti, li, hpi, hci, _⟩ := id bgi
      rw [Int.zero_add]
      have ei : (rg m)[i]? = some (i, (i + 1) % m) := by
        unfold rg
        rw [List.getElem?_map, List.getElem?_range hi]
        rfl
      have et : fl ((rg m).take (i + 1)) = fl ((rg m).take i) ++ [i, (i + 1) % m] := by
        rw [List.take_succ, ei]
        unfold fl
        rw [List.flatMap_append]
        rfl
      have lf : (fl ((rg m).take i)).length ≤ 24 := by
        rw [fl_len, List.length_take]
        omega
      have lm : (i + 1) % m < m := Nat.mod_lt _ (by omega)
      have ef : Int.fmod ((i : Int) + 1) (m : Int) = (((i + 1) % m : Nat) : Int) := by
        rw [Int.fmod_eq_emod_of_nonneg _ (by omega)]
        exact (Int.natCast_emod (i + 1) m).symm
      rw [et]
      generalize fl ((rg m).take i) = acc at hgi lf
      generalize (i + 1) % m = j at lm ef
      refine ⟨_, rfl, _, rfl, _, rfl, log13 (by omega), _, rfl, _, _, rfl, rfl, .inl ⟨_, rfl, _, rfl, _, _, rfl, rfl, (by omega), _, rfl, ?_⟩⟩
      rw [ef]
      refine ⟨log13 (by omega), by show 2 ≤ sizeLine; decide, fun l hl => ⟨g', l, _, _, rfl, rfl, at_new hgi hl, upd_same, ?_, fun g2 hg2 => ?_⟩⟩
      · have : (1000 : Nat) ≤ sizeLine := by decide
        rw [List.length_map, List.length_map]
        show _ + 2 ≤ _
        omega
      · refine ⟨g2, ⟨_, _, _, _, _, rfl⟩, (bgi.new hl).new hg2, (tbi.ext (Same.new (fun _ _ h => h) hl)).ext (Same.new (fun _ _ h => h) hg2), (ne_of_none (at_new hpi hl) hg2).symm, ?_⟩
        rw [upd_same, List.map_append, List.map_append]
        rfl
    · rintro σ' H' ⟨g', hσ, bgi, tbi, ngi, hgi⟩
      rw [List.take_of_length_le (by rw [rg_len m3 m12]; exact Nat.le_refl _)] at hgi
      exact hN _ _ ⟨g', hσ, bgi, tbi, ngi, hgi⟩
  · clear hg2 tb2 bg2 ngp
    rintro σ' H3 ⟨g, ⟨u3, u4, u5, u6, u7, rfl⟩, bg3, tb3, ngp, hg3⟩
    obtain ⟨_, ms3, t3, l3, hp3, hc3, _⟩ := id bg3
    -- the items
    have l24 : (fl (rg m)).length = 2 * m := by rw [fl_len, rg_len m3 m12]
    refine ⟨_, rfl, _, rfl, log13 (by omega), by show 2 ≤ sizeLine; decide, fun l hl => ?_⟩
    rw [show Str.ofString (toString ((m : Nat) : Int)) = wd m from rfl]
    refine ⟨_, rfl, l, g, _, _, rfl, rfl, upd_same, at_new hg3 hl, ?_, fun it hit => ?_⟩
    · have : (1000 : Nat) ≤ sizeLine := by decide
      rw [List.length_map, List.length_map, l24]
      show 2 + _ ≤ _
      omega
    have nit : it ≠ p := (ne_of_none (at_new hp3 hl) hit).symm
    have bg4 := (bg3.new (o := .lst [.str (wd m), .str ":"]) hl).new (o := .lst ((IT m).map V.str)) hit
    have tb4 := (tb3.ext (Same.new (o := .lst [.str (wd m), .str ":"]) (fun _ _ h => h) hl)).ext (Same.new (o := .lst ((IT m).map V.str)) (fun _ _ h => h) hit)
    have hi4 : (upd (upd H3 l (.lst [.str (wd m), .str ":"])) it (.lst ((IT m).map V.str))) it = some (.lst ((IT m).map V.str)) := upd_same
    try dsimp only
    rw [show ([V.str (wd m), V.str ":"] ++ ((fl (rg m)).map wd).map V.str) = (IT m).map V.str from rfl]
    generalize upd (upd H3 l (.lst [.str (wd m), .str ":"])) it (.lst ((IT m).map V.str)) = H4 at bg4 tb4 hi4 ⊢
    have hiS : strip p H4 it = some (.lst ((IT m).map V.str)) := strip_at nit hi4 (fun _ z => by cases z)
    have li := it_len m3 m12
    clear hp3 hc3 hl hit bg3 tb3 hg3 hi4
    refine first_heard (w := some [.str "text", .int 0, .int 0]) (m := n + 2) tb4 strip_same strip_p strip_nn bg4 (fun E H5 R ss bg5 he _ => ?_) fun hd v1 H5 hh1 => ?_
    · have hit5 := ss _ _ hiS
      obtain ⟨_, ms5, t5, l5, hp5, hc5, _⟩ := id bg5
      refine ⟨rfl, _, rfl, _, rfl, _, rfl, it, _, rfl, .inl ⟨SqL.of hit5, fun tp htp d1 hd1 => ⟨by show 6 ≤ sizeLine; decide, fun q1 hq1 => ?_⟩⟩⟩
      have ntp : tp ≠ p := (ne_of_none hp5 htp).symm
      have nd1 : d1 ≠ p := (ne_of_none (at_new hp5 htp) hd1).symm
      have nq1 : q1 ≠ p := (ne_of_none (at_new (at_new hp5 htp) hd1) hq1).symm
      refine ⟨p, c, q1, n + 1, _, rfl, (Bg.new (Bg.new (Bg.new bg5 htp) hd1) hq1), by omega, upd_same, nq1, by show 1 ≤ 6; decide, by show 6 ≤ 1000; decide, fun v H6 hv kp6 bg6 => ⟨v, rfl, .inl ?_⟩⟩
      have zi := kp6 _ _ nit (at_new (at_new (at_new hit5 htp) hd1) hq1)
      have zt := kp6 _ _ ntp (at_new (at_new upd_same hd1) hq1)
      have zd := kp6 _ _ nd1 (at_new upd_same hq1)
      have kpT : Kp p H5 H6 := (Kp.of_same (Same.new (Same.new (Same.new (fun _ _ h => h) htp) hd1) hq1)).trans kp6
      have fv : OkV H6 v ∧ ∀ s, v ≠ .str s := by
        simp only [List.mem_cons, List.not_mem_nil, or_false] at hv
        rcases hv with rfl | rfl | rfl | rfl | rfl | rfl
        · exact ⟨trivial, fun _ z => by cases z⟩
        · exact ⟨trivial, fun _ z => by cases z⟩
        · exact ⟨.inl ⟨_, zi⟩, fun _ z => by cases z⟩
        · exact ⟨.inr (.inl ⟨_, zt⟩), fun _ z => by cases z⟩
        · exact ⟨.inr (.inr ⟨_, zd⟩), fun _ z => by cases z⟩
        · exact ⟨trivial, fun _ z => by cases z⟩
      exact ⟨fv.1, fv.2, outT_told kpT bg6 he⟩
    refine next_heard (w := some [.str "text", .int 0, .int ((2 + (2 * m - 1) : Nat) : Int)]) (m := n + 2) hh1 (by show 1 + 1 ≤ 100; decide) rfl (fun E H5 R ss bg5 he _ => ?_) fun v2 H5 hh2 => ?_
    · have hit5 := ss _ _ hiS
      obtain ⟨_, ms5, t5, l5, hp5, hc5, _⟩ := id bg5
      refine ⟨rfl, rfl, _, rfl, _, rfl, _, rfl, it, _, rfl, SqL.of hit5, fun q hq => ?_⟩
      have sl : Same H5 (upd H5 q (.lst (cutV ((IT m).map V.str) none (some (-1))))) := Same.new (fun _ _ h => h) hq
      have ll : ((fl (rg m)).take (2 * m - 1)).length = 2 * m - 1 := by
        rw [List.length_take, l24]
        omega
      have bl : ∀ x ∈ (fl (rg m)).take (2 * m - 1), x < m := fun x hx => fl_below m3 m12 (rg_below m3 m12) x (List.mem_of_mem_take hx)
      refine join_read (ws := wd m :: ":" :: (((fl (rg m)).take (2 * m - 1)).map wd ++ [])) (by rw [← cut1 m3 m12]; exact upd_same) ?_ ?_ (.inr ⟨m, by omega, by omega, .inr ⟨_, [], rfl, bl, by omega, .inr (.inr (.inl ⟨rfl, by omega, ?_⟩))⟩⟩)
      · rw [List.all_cons, List.all_cons, List.append_nil, wok_wd (by omega), wok_wds fun x hx => Nat.le_of_lt (Nat.lt_of_lt_of_le (bl x hx) (by omega))]
        decide +kernel
      · rw [List.append_nil, List.length_cons, List.length_cons, List.length_map, ll]
        omega
      · rw [ll]
        exact outT_told (Kp.of_same sl) (bg5.keep sl) he
    refine next_heard (w := some [.str "text", .int 0, .int (((2 + 2 * (m - 2) : Nat) : Int) - 1)]) (m := n + 2) hh2 (by show 2 + 1 ≤ 100; decide) rfl (fun E H5 R ss bg5 he _ => ?_) fun v3 H5 hh3 => ?_
    · have hit5 := ss _ _ hiS
      obtain ⟨_, ms5, t5, l5, hp5, hc5, _⟩ := id bg5
      refine ⟨rfl, rfl, _, rfl, _, rfl, _, rfl, it, _, rfl, SqL.of hit5, fun q hq => ?_⟩
      have sl : Same H5 (upd H5 q (.lst (cutV ((IT m).map V.str) none (some (-4))))) := Same.new (fun _ _ h => h) hq
      have lp : ((rg m).take (m - 2)).length = m - 2 := by
        rw [List.length_take, rg_len m3 m12]
        omega
      have ll : (fl ((rg m).take (m - 2))).length = 2 * (m - 2) := by rw [fl_len, lp]
      have bp : MC.Below m ((rg m).take (m - 2)) := fun p hp => rg_below m3 m12 p (List.mem_of_mem_take hp)
      have bl := fl_below m3 m12 bp
      refine join_read (ws := wd m :: ":" :: ((fl ((rg m).take (m - 2))).map wd ++ [])) (by rw [← cut4 m3 m12]; exact upd_same) ?_ ?_ (.inr ⟨m, by omega, by omega, .inr ⟨_, [], rfl, bl, by omega, .inr (.inr (.inr ⟨_, rfl, rfl, by omega, bp, fun z => ?_, fun _ => ?_⟩))⟩⟩)
      · rw [List.all_cons, List.all_cons, List.append_nil, wok_wd (by omega), wok_wds fun x hx => Nat.le_of_lt (Nat.lt_of_lt_of_le (bl x hx) (by omega))]
        decide +kernel
      · rw [List.append_nil, List.length_cons, List.length_cons, List.length_map, ll]
        omega
      · rw [less_hang m3 m12] at z
        cases z
      · rw [ll]
        exact outT_told (Kp.of_same sl) (bg5.keep sl) he
    refine next_heard (w := some [.str "text", .int 0, .int 5]) (m := n + 2) hh3 (by show 3 + 1 ≤ 100; decide) rfl (fun E H5 R ss bg5 he _ => ?_) fun v4 H5 hh4 => ?_
    · have hit5 := ss _ _ hiS
      obtain ⟨_, ms5, t5, l5, hp5, hc5, _⟩ := id bg5
      refine ⟨rfl, rfl, _, rfl, _, rfl, it, _, rfl, SqL.of hit5, fun q1 h1 => ⟨_, rfl, _, rfl, log13 (by omega), by show 1 ≤ sizeLine; decide, fun q2 h2 => ?_⟩⟩
      rw [show Str.ofString (toString ((m : Nat) : Int)) = wd m from rfl]
      have l5 := cutV_length ((IT m).map V.str) none (some 5)
      have l6 := cutV_length ((IT m).map V.str) (some 6) none
      rw [List.length_map, li] at l5 l6
      have sz : (1000 : Nat) ≤ sizeLine := by decide
      refine ⟨q1, q2, _, _, rfl, rfl, at_new upd_same h2, upd_same, (by show _ + 1 ≤ _; omega), fun q3 h3 => ?_⟩
      refine ⟨_, rfl, _, rfl, it, _, rfl, SqL.of (at_new (at_new (at_new hit5 h1) h2) h3), fun q4 h4 => ⟨q3, q4, _, _, rfl, rfl, at_new upd_same h4, upd_same, (by rw [List.length_append]; show (_ + 1) + _ ≤ _; omega), fun q5 h5 => ?_⟩⟩
      have ll : ((fl (rg m)).take 3).length = 3 := by
        rw [List.length_take, l24]
        omega
      have ld : ((fl (rg m)).drop 4).length = 2 * m - 4 := by rw [List.length_drop, l24]
      have bt : ∀ x ∈ (fl (rg m)).take 3, x < m := fun x hx => fl_below m3 m12 (rg_below m3 m12) x (List.mem_of_mem_take hx)
      have bd : ∀ x ∈ (fl (rg m)).drop 4, x < m := fun x hx => fl_below m3 m12 (rg_below m3 m12) x (List.mem_of_mem_drop hx)
      refine join_read (ws := wd m :: ":" :: (((fl (rg m)).take 3).map wd ++ wd m :: ((fl (rg m)).drop 4).map wd)) (by rw [← cut5 m3 m12]; exact upd_same) ?_ ?_ (.inr ⟨m, by omega, by omega, .inr ⟨_, _, rfl, bt, by omega, .inl ⟨_, _, .int (m : Int), rfl, by omega, .num m (by omega), ?_, ?_⟩⟩⟩)
      · rw [List.all_cons, List.all_cons, List.all_append, List.all_cons, wok_wd (by omega), wok_wds fun x hx => Nat.le_of_lt (Nat.lt_of_lt_of_le (bt x hx) (by omega)), wok_wds fun x hx => Nat.le_of_lt (Nat.lt_of_lt_of_le (bd x hx) (by omega))]
        decide +kernel
      · rw [List.length_cons, List.length_cons, List.length_append, List.length_cons, List.length_map, List.length_map, ll, ld]
        omega
      · unfold inB
        rw [show inHi (V.int (m : Int)) (.int ((m : Int) - 1)) = false from decide_eq_false (by omega), Bool.and_false, Bool.and_false]
      · rw [ll]
        have sl := Same.new (o := .lst (cutV ((IT m).map V.str) none (some 5) ++ [V.str (wd m)] ++ cutV ((IT m).map V.str) (some 6) none)) (Same.new (Same.new (Same.new (Same.new (fun _ _ h => h : Same H5 H5) h1) h2) h3) h4) h5
        exact outT_told (Kp.of_same sl) (bg5.keep sl) he
    refine next_heard (w := some [.str "text", .int 0, .int 0]) (m := n + 3) hh4 (by show 4 + 1 ≤ 100; decide) rfl (fun E H5 R ss bg5 he _ => ?_) fun v5 H5 hh5 => ?_
    · have hit5 := ss _ _ hiS
      obtain ⟨_, ms5, t5, l5, hp5, hc5, _⟩ := id bg5
      refine ⟨rfl, rfl, _, rfl, by show 6 ≤ sizeLine; decide, fun q1 h1 => ⟨p, c, q1, n + 2, _, rfl, bg5.new h1, by omega, upd_same, (ne_of_none hp5 h1).symm, by show 1 ≤ 6; decide, by show 6 ≤ 1000; decide, fun v H6 hv kp6 bg6 => ⟨by show 1 ≤ sizeLine; decide, fun l1 g1 => ?_⟩⟩⟩
      have kp1 : Kp p H5 H6 := (Kp.of_same (Same.new (fun _ _ h => h) h1)).trans kp6
      have hit6 := kp1 _ _ nit hit5
      refine ⟨_, rfl, _, rfl, it, _, rfl, SqL.of (at_new hit6 g1), fun q2 h2 => ⟨l1, q2, _, _, rfl, rfl, at_new upd_same h2, upd_same, ?_, fun q3 h3 => ?_⟩⟩
      · have l6 := cutV_length ((IT m).map V.str) (some 1) none
        rw [List.length_map, li] at l6
        have sz : (1000 : Nat) ≤ sizeLine := by decide
        show 1 + _ ≤ _
        omega
      have fv : ∃ (z : Str) (u : V), v = .str z ∧ NumW z u ∧ placesB u = false ∧ Wok z = true := by
        have e0 : ("0" : Str) = wd 0 := by decide +kernel
        have e14 : ("14" : Str) = wd 14 := by decide +kernel
        simp only [List.mem_cons, List.not_mem_nil, or_false] at hv
        rcases hv with rfl | rfl | rfl | rfl | rfl | rfl
        · exact ⟨_, .int ((0 : Nat) : Int), rfl, e0 ▸ .num 0 (by decide), by decide +kernel, by decide +kernel⟩
        · exact ⟨_, .int ((14 : Nat) : Int), rfl, e14 ▸ .num 14 (by decide), by decide +kernel, by decide +kernel⟩
        · exact ⟨_, _, rfl, .neg, by decide +kernel, by decide +kernel⟩
        · exact ⟨_, _, rfl, .non _ (.inl rfl), rfl, by decide +kernel⟩
        · exact ⟨_, _, rfl, .non _ (.inr (.inl rfl)), rfl, by decide +kernel⟩
        · exact ⟨_, _, rfl, .non _ (.inr (.inr rfl)), rfl, by decide +kernel⟩
      obtain ⟨z, u, rfl, nw, pf, wz⟩ := fv
      have bl := fl_below m3 m12 (rg_below m3 m12)
      have sl := Same.new (o := .lst ([V.str z] ++ cutV ((IT m).map V.str) (some 1) none)) (Same.new (o := .lst (cutV ((IT m).map V.str) (some 1) none)) (Same.new (fun _ _ h => h : Same H6 H6) g1) h2) h3
      refine join_read (ws := z :: ":" :: (fl (rg m)).map wd) (by rw [upd_same, cutR m3 m12]; rfl) ?_ ?_ (.inl ⟨z, _, u, rfl, nw, pf, outT_told (kp1.trans (Kp.of_same sl)) (bg6.keep sl) he⟩)
      · rw [List.all_cons, List.all_cons, wz, wok_wds fun x hx => Nat.le_of_lt (Nat.lt_of_lt_of_le (bl x hx) (by omega))]
        decide +kernel
      · rw [List.length_cons, List.length_cons, List.length_map, l24]
        omega
    refine next_heard (w := some [.str "text", .int 0, .int 1]) (m := n + 4) hh5 (by show 5 + 1 ≤ 100; decide) rfl (fun E H5 R ss bg5 he _ => ?_) fun v6 H5 hh6 => ?_
    · have hit5 := ss _ _ hiS
      obtain ⟨_, ms5, t5, l5, hp5, hc5, _⟩ := id bg5
      refine ⟨rfl, rfl, _, rfl, _, rfl, it, _, rfl, SqL.of hit5, fun q0 h0 => ⟨_, rfl, by show 4 ≤ sizeLine; decide, fun q1 h1 => ⟨p, c, q1, n + 3, _, rfl, (bg5.new h0).new h1, by omega, upd_same, (ne_of_none (at_new hp5 h0) h1).symm, by show 1 ≤ 4; decide, by show 4 ≤ 1000; decide, fun v H6 hv kp6 bg6 => ⟨by show 1 ≤ sizeLine; decide, fun l1 g1 => ?_⟩⟩⟩⟩
      have n0 : q0 ≠ p := (ne_of_none hp5 h0).symm
      have kp1 : Kp p H5 H6 := (Kp.of_same (Same.new (Same.new (fun _ _ h => h) h0) h1)).trans kp6
      have hit6 := kp1 _ _ nit hit5
      have z0 := kp6 _ _ n0 (at_new upd_same h1)
      have sz : (1000 : Nat) ≤ sizeLine := by decide
      have lf : (cutV ((IT m).map V.str) none (some 1)).length = 1 := by rw [cutF m3 m12]; rfl
      have lr := cutV_length ((IT m).map V.str) (some 1) none
      rw [List.length_map, li] at lr
      refine ⟨q0, l1, _, _, rfl, rfl, at_new z0 g1, upd_same, (by rw [lf]; show 1 + 1 ≤ _; omega), fun q3 h3 => ?_⟩
      refine ⟨_, rfl, _, rfl, it, _, rfl, SqL.of (at_new (at_new hit6 g1) h3), fun q2 h2 => ⟨q3, q2, _, _, rfl, rfl, at_new upd_same h2, upd_same, (by rw [List.length_append, lf]; show (1 + 1) + _ ≤ _; omega), fun q4 h4 => ?_⟩⟩
      have fv : ∃ z : Str, v = .str z ∧ z ≠ ":" ∧ Wok z = true := by
        simp only [List.mem_cons, List.not_mem_nil, or_false] at hv
        rcases hv with rfl | rfl | rfl | rfl
        · exact ⟨_, rfl, by decide +kernel, by decide +kernel⟩
        · exact ⟨_, rfl, by decide +kernel, by decide +kernel⟩
        · exact ⟨_, rfl, by decide +kernel, by decide +kernel⟩
        · exact ⟨_, rfl, by decide +kernel, by decide +kernel⟩
      obtain ⟨z, rfl, nz, wz⟩ := fv
      have bl := fl_below m3 m12 (rg_below m3 m12)
      have sl := Same.new (o := .lst (cutV ((IT m).map V.str) none (some 1) ++ [V.str z] ++ cutV ((IT m).map V.str) (some 1) none)) (Same.new (o := .lst (cutV ((IT m).map V.str) (some 1) none)) (Same.new (Same.new (fun _ _ h => h : Same H6 H6) g1) h3) h2) h4
      refine join_read (ws := wd m :: z :: ":" :: (fl (rg m)).map wd) (by rw [upd_same, cutR m3 m12, cutF m3 m12]; rfl) ?_ ?_ (.inr ⟨m, by omega, by omega, .inl ⟨z, _, rfl, nz, outT_told (kp1.trans (Kp.of_same sl)) (bg6.keep sl) he⟩⟩)
      · rw [List.all_cons, List.all_cons, List.all_cons, wz, wok_wd (by omega), wok_wds fun x hx => Nat.le_of_lt (Nat.lt_of_lt_of_le (bl x hx) (by omega))]
        decide +kernel
      · rw [List.length_cons, List.length_cons, List.length_cons, List.length_map, l24]
        omega
    refine next_heard (w := some [.str "text", .int 0, .int 26]) (m := n + 4) hh6 (by show 6 + 1 ≤ 100; decide) rfl (fun E H5 R ss bg5 he _ => ?_) fun v7 H5 hh7 => ?_
    · have hit5 := ss _ _ hiS
      obtain ⟨_, ms5, t5, l5, hp5, hc5, _⟩ := id bg5
      have sz : (1000 : Nat) ≤ sizeLine := by decide
      have lrep : (List.replicate ((12 : Int) - (m : Int)).toNat [V.str "0", V.str "1"]).flatten.length = 2 * (12 - m) := by simp; omega
      refine ⟨rfl, rfl, _, rfl, by show 2 ≤ sizeLine; decide, fun l1 g1 => ⟨_, rfl, _, _, rfl, rfl, l1, _, _, rfl, rfl, upd_same, (by omega), (by omega), (by show 2 * _ ≤ _; omega), fun l2 g2 => ?_⟩⟩
      dsimp only at g2 ⊢
      refine ⟨it, l2, _, _, rfl, rfl, at_new (at_new hit5 g1) g2, upd_same, (by rw [lrep, List.length_map, li]; omega), fun l3 g3 => ⟨by show 1 ≤ sizeLine; decide, fun l4 g4 => ⟨l3, l4, _, _, rfl, rfl, at_new upd_same g4, upd_same, (by rw [List.length_append, lrep, List.length_map, li]; show _ + 1 ≤ _; omega), fun l5 g5 => ?_⟩⟩⟩
      have lM : (fl (more m)).length = 24 := by rw [fl_len, more_len m3 m12]
      have bM := fl_below m3 m12 (more_below m3 m12)
      have sl := Same.new (o := .lst ((IT m).map V.str ++ (List.replicate ((12 : Int) - (m : Int)).toNat [V.str "0", V.str "1"]).flatten ++ [V.str "0"])) (Same.new (Same.new (Same.new (Same.new (fun _ _ h => h : Same H5 H5) g1) g2) g3) g4) g5
      refine join_read (ws := wd m :: ":" :: ((fl (more m)).map wd ++ [("0" : Str)])) (by rw [upd_same, catM m3 m12]; simp) ?_ ?_ (.inr ⟨m, by omega, by omega, .inr ⟨_, _, rfl, bM, by omega, .inr (.inl ⟨List.cons_ne_nil _ _, lM, outT_told (Kp.of_same sl) (bg5.keep sl) he⟩)⟩⟩)
      · rw [List.all_cons, List.all_cons, List.all_append, wok_wd (by omega), wok_wds fun x hx => Nat.le_of_lt (Nat.lt_of_lt_of_le (bM x hx) (by omega))]
        decide +kernel
      · rw [List.length_cons, List.length_cons, List.length_append, List.length_map, lM]
        decide
    refine next_heard (w := some [.str "text", .int 0, .int 1]) (m := n + 5) hh7 (by show 7 + 1 ≤ 100; decide) rfl (fun E H5 R ss bg5 he _ => ?_) fun v8 H5 hh8 => ?_
    · have hit5 := ss _ _ hiS
      obtain ⟨_, ms5, t5, l5, hp5, hc5, _⟩ := id bg5
      refine ⟨rfl, _, rfl, by show 2 ≤ sizeLine; decide, fun q1 h1 => ⟨p, c, q1, n + 4, _, rfl, bg5.new h1, by omega, upd_same, (ne_of_none hp5 h1).symm, by show 1 ≤ 2; decide, by show 2 ≤ 1000; decide, fun v H6 hv kp6 bg6 => ?_⟩⟩
      have kp1 : Kp p H5 H6 := (Kp.of_same (Same.new (fun _ _ h => h) h1)).trans kp6
      have fv : ∃ j : Nat, 1 ≤ j ∧ j ≤ 13 ∧ v = .str (Txt.join " " [wd j, ":"]) ∧ hang j [] = false := by
        simp only [List.mem_cons, List.not_mem_nil, or_false] at hv
        rcases hv with rfl | rfl
        · exact ⟨2, by decide, by decide, by decide +kernel, by decide +kernel⟩
        · exact ⟨13, by decide, by decide, by decide +kernel, by decide +kernel⟩
      obtain ⟨j, j1, j13, rfl, hj⟩ := fv
      refine read_text ?_ (by show 2 ≤ 30; decide) (.inr ⟨j, j1, j13, .inr ⟨[], [], rfl, (fun x hx => by cases hx), by decide, .inr (.inr (.inr ⟨[], rfl, rfl, by decide, (fun x hx => by cases hx), (fun z => by rw [hj] at z; cases z), fun _ => outT_told kp1 bg6 he⟩))⟩⟩)
      rw [List.all_cons, wok_wd (by omega)]
      decide +kernel
    refine next_heard (w := some [.str "text", .int 0, .int 0]) (m := n + 5) hh8 (by show 8 + 1 ≤ 100; decide) rfl (fun E H5 R ss bg5 he _ => ?_) fun v9 H5 hh9 => ?_
    · have hit5 := ss _ _ hiS
      obtain ⟨_, ms5, t5, l5, hp5, hc5, _⟩ := id bg5
      refine ⟨rfl, ?_⟩
      have e0 : (Str.ofString "") = Txt.join " " [""] := by decide +kernel
      show sp_read A [.str (Str.ofString "")] H5 R E
      rw [e0]
      exact read_text (by decide +kernel) (by show 1 ≤ 30; decide) (.inl ⟨"", [], .non, rfl, .non _ (.inl rfl), rfl, outT_told (Kp.refl _ _) bg5 he⟩)
    -- what is due
    have hitE := hh9.same _ _ hiS
    have lIV : ((IT m).map V.str).length = 2 + 2 * m := by rw [List.length_map, li]
    have e1 : ((((IT m).map V.str).length : Nat) : Int) - 1 = ((2 + (2 * m - 1) : Nat) : Int) := by rw [lIV]; omega
    have e5 : ((((IT m).map V.str).length : Nat) : Int) - 5 = ((2 + 2 * (m - 2) : Nat) : Int) - 1 := by rw [lIV]; omega
    have sz : (1000 : Nat) ≤ sizeLine := by decide
    refine ⟨by show 3 ≤ sizeLine; decide, fun w1 hw1 => ⟨_, rfl, it, _, rfl, .inl (SqL.of (at_new hitE hw1)), _, _, rfl, rfl, ?_⟩⟩
    dsimp only
    rw [e1]
    refine ⟨by show 3 ≤ sizeLine; decide, fun w2 hw2 => ⟨_, rfl, it, _, rfl, .inl (SqL.of (at_new (at_new hitE hw1) hw2)), _, _, rfl, rfl, ?_⟩⟩
    dsimp only
    rw [e5]
    refine ⟨by show 3 ≤ sizeLine; decide, fun w3 hw3 => ⟨by show 3 ≤ sizeLine; decide, fun w4 hw4 => ⟨by show 3 ≤ sizeLine; decide, fun w5 hw5 => ⟨by show 3 ≤ sizeLine; decide, fun w6 hw6 => ⟨by show 3 ≤ sizeLine; decide, fun w7 hw7 => ⟨by show 7 ≤ sizeLine; decide, fun du hdu => ?_⟩⟩⟩⟩⟩⟩
    -- the greatest text
    have lrep : (List.replicate ((12 : Int) - (m : Int)).toNat [V.str "0", V.str "1"]).flatten.length = 2 * (12 - m) := by simp; omega
    refine ⟨rfl, rfl, _, rfl, by show 2 ≤ sizeLine; decide, fun l1 g1 => ⟨_, rfl, _, _, rfl, rfl, l1, _, _, rfl, rfl, upd_same, (by omega), (by omega), (by show 2 * _ ≤ _; omega), fun l2 g2 => ?_⟩⟩
    dsimp only at g2 ⊢
    refine ⟨it, l2, _, _, rfl, rfl, (at_new (at_new (at_new (at_new (at_new (at_new (at_new (at_new (at_new (at_new hitE hw1) hw2) hw3) hw4) hw5) hw6) hw7) hdu) g1) g2), upd_same, (by rw [lrep, lIV]; omega), fun l3 g3 => ?_⟩
    have lM : (fl (more m)).length = 24 := by rw [fl_len, more_len m3 m12]
    have bM := fl_below m3 m12 (more_below m3 m12)
    have wk : (wd m :: ":" :: ((fl (more m)).map wd ++ [])).all Wok = true := by
      rw [List.all_cons, List.all_cons, List.append_nil, wok_wd (by omega), wok_wds fun x hx => Nat.le_of_lt (Nat.lt_of_lt_of_le (bM x hx) (by omega))]
      decide +kernel
    have lk : (wd m :: ":" :: ((fl (more m)).map wd ++ [])).length ≤ 30 := by
      rw [List.append_nil, List.length_cons, List.length_cons, List.length_map, lM]
      decide
    refine ⟨_, l3, wd m :: ":" :: ((fl (more m)).map wd ++ []), rfl, rfl, .inl (SqL.of (by rw [upd_same, catM m3 m12])), (wok_text wk lk).2.2, ?_⟩
    unfold tNil
    refine read_text wk lk (.inr ⟨m, by omega, by omega, .inr ⟨_, [], rfl, bM, by omega, .inr (.inr (.inr ⟨more m, rfl, rfl, by rw [more_len m3 m12]; exact Nat.le_refl _, more_below m3 m12, fun _ y H6 s6 hy => ?_, fun z => ?_⟩))⟩⟩)
    rotate_left
    · rw [more_hang m3 m12] at z
      cases z
    refine ⟨_, rfl, _, rfl, by show 3 ≤ sizeLine; decide, fun w8 hw8 => ⟨by show 3 ≤ sizeLine; decide, fun w9 hw9 => ⟨by show 2 ≤ sizeLine; decide, fun m1 hm1 => ⟨du, m1, _, _, rfl, rfl, (at_new (at_new (at_new (s6 _ _ (at_new (at_new (at_new upd_same g1) g2) g3)) hw8) hw9) hm1), upd_same, by show 7 + 2 ≤ sizeLine; decide, fun m2 hm2 => ?_⟩⟩⟩⟩
    refine eq_heard (hh9.on (Same.new (Same.new (Same.new (Same.new ((Same.new (Same.new (Same.new (Same.new (Same.new (Same.new (Same.new (Same.new (Same.new (Same.new (Same.new (fun _ _ h => h) hw1) hw2) hw3) hw4) hw5) hw6) hw7) hdu) g1) g2) g3).trans s6) hw8) hw9) hm1) hm2)) upd_same (.cons ⟨_, rfl, (at_new (at_new (at_new (at_new (s6 _ _ (at_new (at_new (at_new (at_new (at_new (at_new (at_new (at_new (at_new (at_new upd_same hw2) hw3) hw4) hw5) hw6) hw7) hdu) g1) g2) g3)) hw8) hw9) hm1) hm2)⟩ (.cons ⟨_, rfl, (at_new (at_new (at_new (at_new (s6 _ _ (at_new (at_new (at_new (at_new (at_new (at_new (at_new (at_new (at_new upd_same hw3) hw4) hw5) hw6) hw7) hdu) g1) g2) g3)) hw8) hw9) hm1) hm2)⟩ (.cons ⟨_, rfl, (at_new (at_new (at_new (at_new (s6 _ _ (at_new (at_new (at_new (at_new (at_new (at_new (at_new (at_new upd_same hw4) hw5) hw6) hw7) hdu) g1) g2) g3)) hw8) hw9) hm1) hm2)⟩ (.cons ⟨_, rfl, (at_new (at_new (at_new (at_new (s6 _ _ (at_new (at_new (at_new (at_new (at_new (at_new (at_new upd_same hw5) hw6) hw7) hdu) g1) g2) g3)) hw8) hw9) hm1) hm2)⟩ (.cons ⟨_, rfl, (at_new (at_new (at_new (at_new (s6 _ _ (at_new (at_new (at_new (at_new (at_new (at_new upd_same hw6) hw7) hdu) g1) g2) g3)) hw8) hw9) hm1) hm2)⟩ (.cons ⟨_, rfl, (at_new (at_new (at_new (at_new (s6 _ _ (at_new (at_new (at_new (at_new (at_new upd_same hw7) hdu) g1) g2) g3)) hw8) hw9) hm1) hm2)⟩ (.cons ⟨_, rfl, (at_new (at_new (at_new (at_new (s6 _ _ (at_new (at_new (at_new (at_new upd_same hdu) g1) g2) g3)) hw8) hw9) hm1) hm2)⟩ (.cons ⟨_, rfl, (at_new (at_new (at_new upd_same hw9) hm1) hm2)⟩ (.cons ⟨_, rfl, (at_new (at_new upd_same hm1) hm2)⟩ (.nil)))))))))) (by rfl) (shaped_items _ ?_) (eqv_list_items _) ?_
    · have ks : PyData.strOk "text" = true := by decide +kernel
      simp only [List.cons_append, List.nil_append, List.all_cons, List.all_nil, okI, okS, ks, Bool.and_self]
    refine ⟨true, rfl, iteT ?_⟩
    have hyF := hy.keep (Same.new (o := .lst ([V.ref w1, V.ref w2, V.ref w3, V.ref w4, V.ref w5, V.ref w6, V.ref w7] ++ [V.ref w8, V.ref w9])) (Same.new (Same.new (Same.new (fun _ _ h => h : Same H6 H6) hw8) hw9) hm1) hm2)
    have hitF := (at_new (u := .lst ([V.ref w1, V.ref w2, V.ref w3, V.ref w4, V.ref w5, V.ref w6, V.ref w7] ++ [V.ref w8, V.ref w9])) (at_new (at_new (at_new (s6 _ _ (at_new (at_new (at_new (at_new (at_new (at_new (at_new (at_new (at_new (at_new (at_new hitE hw1) hw2) hw3) hw4) hw5) hw6) hw7) hdu) g1) g2) g3)) hw8) hw9) hm1) hm2)
    have bgF := hh9.bg.keep (Same.new (o := .lst ([V.ref w1, V.ref w2, V.ref w3, V.ref w4, V.ref w5, V.ref w6, V.ref w7] ++ [V.ref w8, V.ref w9])) (Same.new (Same.new (Same.new ((Same.new (Same.new (Same.new (Same.new (Same.new (Same.new (Same.new (Same.new (Same.new (Same.new (Same.new (fun _ _ h => h) hw1) hw2) hw3) hw4) hw5) hw6) hw7) hdu) g1) g2) g3).trans s6) hw8) hw9) hm1) hm2)
    have tbF := hh9.tb.ext (Same.new (o := .lst ([V.ref w1, V.ref w2, V.ref w3, V.ref w4, V.ref w5, V.ref w6, V.ref w7] ++ [V.ref w8, V.ref w9])) (Same.new (Same.new (Same.new ((Same.new (Same.new (Same.new (Same.new (Same.new (Same.new (Same.new (Same.new (Same.new (Same.new (Same.new (fun _ _ h => h) hw1) hw2) hw3) hw4) hw5) hw6) hw7) hdu) g1) g2) g3).trans s6) hw8) hw9) hm1) hm2)
    generalize upd (upd (upd (upd H6 w8 (.tup [.str "text", .int 0, .int 1])) w9 (.tup [.str "text", .int 0, .int 0])) m1 (.lst [.ref w8, .ref w9])) m2 (.lst ([V.ref w1, V.ref w2, V.ref w3, V.ref w4, V.ref w5, V.ref w6, V.ref w7] ++ [V.ref w8, V.ref w9])) = F at hyF hitF bgF tbF ⊢
    obtain ⟨dx, q, xs, z1, z2, z3⟩ := id hyF
    have lx : xs.length = 12 := (Paired.length z3).trans (more_len m3 m12)
    refine ⟨_, rfl, y, A.c_Web, dx, _, _, rfl, z1, T.K_Web, T.N_Web_ties, rfl, q, xs, rfl, .inr (SqT.of z2), rfl, _, rfl, ?_⟩
    rw [decide_eq_true (show V.int ((xs.length : Nat) : Int) = V.int 12 by rw [lx]; rfl)]
    have tw := wok_text (ws := words m (more m)) (List.all_eq_true.mpr fun z hz => by
      have q := words_mem (by omega) (more_below m3 m12) hz
      unfold Wok
      rw [decide_eq_true q.2, decide_eq_true (by omega)]
      rfl) (by rw [words_len, more_len m3 m12]; decide)
    refine iteT ⟨_, rfl, str_web hyF (by omega) (by rw [more_len m3 m12]; exact Nat.le_refl _) (more_below m3 m12) fun H8 s8 => ⟨rfl, _, _, rfl, rfl, rfl, ?_, fun q1 hq1 => ?_⟩⟩
    · exact tw.2.1
    · have es : Txt.split (text m (more m)) " " = words m (more m) := TL.split_join (s := 32) (S := []) (by rfl) (by decide +kernel) (List.cons_ne_nil _ _) tw.1
      rw [es]
      have hit8 := at_new (u := .lst ((words m (more m)).map V.str)) (s8 _ _ hitF) hq1
      refine ⟨_, rfl, it, _, rfl, .inl (SqL.of hit8), _, rfl, q1, _, rfl, SqL.of upd_same, fun q2 hq2 => ⟨_, rfl, ?_⟩⟩
      rw [List.length_map, back_cut m3 m12]
      refine eq_strs upd_same (at_new hit8 hq2) (it_ok m3 m12) ?_
      exact k _ ((bgF.keep (s8.trans (Same.new (fun _ _ h => h) hq1))).new hq2) ((tbF.ext (s8.trans (Same.new (fun _ _ h => h) hq1))).ext (Same.new (fun _ _ h => h) hq2))
/-! ### the law -/
def sp_law (A : Ad) (K : PySem.W.Frag) : Sp := fun vs H Q _ => ∃ (a : Addr) (ns : List Int), vs = [.ref a] ∧ SqL K H a (ns.map V.int) ∧ ns.length ≤ 63 ∧ Tabs (tabs A) H ∧ ∀ H', Q (.bl true) H'
theorem G_law (T : Txt P K mg A) (TB1 : TabB base mg A.k__law_made_right A.t__law_made_right) (TB2 : TabB base mg A.k__law_ends_right A.t__law_ends_right) (TB3 : TabB base mg A.k__law_functions_right A.t__law_functions_right) (TB4 : TabB base mg A.k__law_turned_right A.t__law_turned_right) (TB5 : TabB base mg A.k__law_texts_right A.t__law_texts_right) (ne : NE A) : FnG P w K mg base CX0 17 A.a_law A.d_law P_law (sp_law A K) := by
  refine okG T.F_law sc_law (fun vs H Q E h => ?_) (fun cdv A0 outer s H vs Q E hr h => ?_)
  · obtain ⟨a, ns, rfl, _⟩ := h
    rfl
  obtain ⟨a, ns, rfl, hS, hl, tb, k⟩ := h
  refine ⟨_, (pss_cons (ps_set (i := 1) sc_law.nd rfl (Or.inl rfl) (pe_callG (G__law_gate T) (hr.mono (by decide)) rfl T.g__law_gate T.F__law_gate.kp T.b__law_gate .nil pass0 (pa_cons (pv 0) pa_nil)))
      (pss_cons (ps_for PassesOwn.never rfl (pi_range1 (by rfl) T.n_range (pa_cons pe_int pa_nil)) (pg_name (i := 2) sc_law.nd rfl (Or.inl rfl)) (pss_cons (ps_if (PW.pt (pw_or (pt_not (pt_val (pe_callG (G__law_made_right T TB1 ne) (hr.mono (by decide)) rfl T.g__law_made_right T.F__law_made_right.kp T.b__law_made_right .nil pass0 (pa_cons (pv 1) pa_nil)))) (pw_or (pt_not (pt_val (pe_callG (G__law_ends_right T TB2 ne) (hr.mono (by decide)) rfl T.g__law_ends_right T.F__law_ends_right.kp T.b__law_ends_right .nil pass0 (pa_cons (pv 1) pa_nil)))) (pw_or1 (pt_not (pt_val (pe_callG (G__law_functions_right T TB3 ne) (hr.mono (by decide)) rfl T.g__law_functions_right T.F__law_functions_right.kp T.b__law_functions_right .nil pass0 (pa_cons (pv 1) pa_nil)))))))) (pss_one (ps_ret pe_bl)) pss_nil)
      (pss_one (ps_if (PW.pt (pw_or (pt_not (pt_val (pe_callG (G__law_turned_right T TB4 ne) (hr.mono (by decide)) rfl T.g__law_turned_right T.F__law_turned_right.kp T.b__law_turned_right .nil pass0 (pa_cons (pv 1) pa_nil)))) (pw_or1 (pt_not (pt_val (pe_callG (G__law_texts_right T TB5 ne) (hr.mono (by decide)) rfl T.g__law_texts_right T.F__law_texts_right.kp T.b__law_texts_right .nil pass0 (pa_cons (pv 1) pa_nil))))))) (pss_one (ps_ret pe_bl)) pss_nil))))
      (pss_one (ps_ret pe_bl)))), ?_⟩
  refine ⟨_, rfl, a, ns, rfl, hS, hl, fun p c H1 s1 hp hc bg => ?_⟩
  have tb1 := tb.ext s1
  refine ⟨_, rfl, by decide, by decide, ?_⟩
  rw [show (3 : Int).toNat = 3 from rfl]
  refine for_range (lo := 0) (n := 3) (fun i σ' H' => (∃ u : Option V, σ' = [some (.ref a), some (.ref p), u]) ∧ Bg H' p c (58 * i) ∧ Tabs (tabs A) H') ⟨⟨_, rfl⟩, bg, tb1⟩ ?_ ?_
  · rintro i σ' H2 hi ⟨⟨u, rfl⟩, bg2, tb2⟩
    have h3 : 58 * i ≤ 80000 := by omega
    refine ⟨_, rfl, p, c, _, rfl, bg2, by omega, tb2, fun H3 bg3 tb3 => ⟨_, rfl, iteF ?_⟩⟩
    refine ⟨_, rfl, p, c, _, rfl, bg3, by omega, tb3, fun H4 bg4 tb4 => ⟨_, rfl, iteF ?_⟩⟩
    refine ⟨_, rfl, p, c, _, rfl, bg4, by omega, tb4, fun H5 bg5 tb5 => ⟨_, rfl, iteF ?_⟩⟩
    refine ⟨_, rfl, p, c, _, rfl, bg5, by omega, tb5, fun H6 bg6 tb6 => ⟨_, rfl, iteF ?_⟩⟩
    refine ⟨_, rfl, p, c, _, rfl, bg6, by omega, tb6, fun H7 bg7 tb7 => ⟨_, rfl, iteF ?_⟩⟩
    exact ⟨⟨_, rfl⟩, bg7.le (by omega), tb7⟩
  · rintro σ' H2 ⟨⟨u, rfl⟩, bg2, tb2⟩
    exact k _
end
theorem all_mk {q : Program} {l : PySem.W.OpenLaw} {w : World} {K : PySem.W.Frag} {h : Heap} {mg : Str → Option Value} {fa : Addr} (X : K.In h) (GN : h.Ns mainGlobals mg) (hfa : mg "law" = some (.ref fa)) (TO : TabOf q K h)
    {f0 f1 f2 f3 f4 f5 f6 f7 f8 f9 f10 f11 f12 f13 f14 f15 f16 f17 f18 f19 f20 f21 f22 f23 f24 f25 f26 f27 f28 f29 f30 f31 f32 f33 f34 f35 f36 f37 f38 f39 f40 f41 f42 f43 f44 f45 f46 f47 f48 : Addr} {od0 an0 od1 an1 od2 an2 od3 an3 od4 an4 od5 an5 od6 an6 od7 an7 od8 an8 od9 an9 od10 an10 od11 an11 od12 an12 od13 an13 od14 an14 od15 an15 od16 an16 od17 an17 od18 an18 od19 an19 od20 an20 od21 an21 od22 an22 od23 an23 od24 an24 od25 an25 od26 an26 od27 an27 od28 an28 od29 an29 od30 an30 od31 an31 od32 an32 od33 an33 od34 an34 od35 an35 od36 an36 od37 an37 od38 an38 od39 an39 od40 an40 od41 an41 od42 an42 od43 an43 od44 an44 od45 an45 od46 an46 od47 an47 od48 an48 : Option Addr} {sl0 sl1 sl2 sl3 sl4 sl5 sl6 sl7 sl8 sl9 sl10 sl11 sl12 sl13 sl14 sl15 sl16 sl17 sl18 sl19 sl20 sl21 sl22 sl23 sl24 sl25 sl26 sl27 sl28 sl29 sl30 sl31 sl32 sl33 sl34 sl35 sl36 sl37 sl38 sl39 sl40 sl41 sl42 sl43 sl44 sl45 sl46 sl47 sl48 : Array (Option Value)} {oc0 kV0 dc0 pm0 ct0 cd0 oc1 kV1 dc1 pm1 ct1 cd1 oc2 kV2 dc2 pm2 ct2 cd2 oc3 kV3 dc3 pm3 ct3 cd3 oc4 kV4 dc4 pm4 ct4 cd4 oc5 kV5 dc5 pm5 ct5 cd5 oc6 kV6 dc6 pm6 ct6 cd6 oc7 kV7 dc7 pm7 ct7 cd7 oc8 kV8 dc8 pm8 ct8 cd8 oc9 kV9 dc9 pm9 ct9 cd9 oc10 kV10 dc10 pm10 ct10 cd10 oc11 kV11 dc11 pm11 ct11 cd11 oc12 kV12 dc12 pm12 ct12 cd12 oc13 kV13 dc13 pm13 ct13 cd13 oc14 kV14 dc14 pm14 ct14 cd14 oc15 kV15 dc15 pm15 ct15 cd15 oc16 kV16 dc16 pm16 ct16 cd16 oc17 kV17 dc17 pm17 ct17 cd17 oc18 kV18 dc18 pm18 ct18 cd18 oc19 kV19 dc19 pm19 ct19 cd19 oc20 kV20 dc20 pm20 ct20 cd20 oc21 kV21 dc21 pm21 ct21 cd21 oc22 kV22 dc22 pm22 ct22 cd22 oc23 kV23 dc23 pm23 ct23 cd23 oc24 kV24 dc24 pm24 ct24 cd24 oc25 kV25 dc25 pm25 ct25 cd25 oc26 kV26 dc26 pm26 ct26 cd26 oc27 kV27 dc27 pm27 ct27 cd27 oc28 kV28 dc28 pm28 ct28 cd28 oc29 kV29 dc29 pm29 ct29 cd29 oc30 kV30 dc30 pm30 ct30 cd30 oc31 kV31 dc31 pm31 ct31 cd31 oc32 kV32 dc32 pm32 ct32 cd32 oc33 kV33 dc33 pm33 ct33 cd33 oc34 kV34 dc34 pm34 ct34 cd34 oc35 kV35 dc35 pm35 ct35 cd35 oc36 kV36 dc36 pm36 ct36 cd36 oc37 kV37 dc37 pm37 ct37 cd37 oc38 kV38 dc38 pm38 ct38 cd38 oc39 kV39 dc39 pm39 ct39 cd39 oc40 kV40 dc40 pm40 ct40 cd40 oc41 kV41 dc41 pm41 ct41 cd41 oc42 kV42 dc42 pm42 ct42 cd42 oc43 kV43 dc43 pm43 ct43 oc44 kV44 dc44 pm44 ct44 oc45 kV45 dc45 pm45 ct45 oc46 kV46 dc46 pm46 ct46 oc47 kV47 dc47 pm47 ct47 oc48 kV48 dc48 pm48 ct48 cd48 : Value}
    {kk43 kp43 : Addr} {ko43 : Value} {kod43 : Option Addr} {kvs43 : Array Value} {ksl43 : Array (Option Value)} {ke43 : DefRec}
    {kk44 kp44 : Addr} {ko44 : Value} {kod44 : Option Addr} {kvs44 : Array Value} {ksl44 : Array (Option Value)} {ke44 : DefRec}
    {kk45 kp45 : Addr} {ko45 : Value} {kod45 : Option Addr} {kvs45 : Array Value} {ksl45 : Array (Option Value)} {ke45 : DefRec}
    {kk46 kp46 : Addr} {ko46 : Value} {kod46 : Option Addr} {kvs46 : Array Value} {ksl46 : Array (Option Value)} {ke46 : DefRec}
    {kk47 kp47 : Addr} {ko47 : Value} {kod47 : Option Addr} {kvs47 : Array Value} {ksl47 : Array (Option Value)} {ke47 : DefRec}
    {CO pR : Addr} {u0 u1 u2 u3 : Addr} {uod0 uan0 uod1 uan1 uod2 uan2 uod3 uan3 : Option Addr} {usl0 usl1 usl2 usl3 : Array (Option Value)} {uoc0 ukV0 udc0 upm0 ucd0 uct0 uoc1 ukV1 udc1 upm1 ucd1 uct1 uoc2 ukV2 udc2 upm2 ucd2 uct2 uoc3 ukV3 udc3 upm3 ucd3 uct3 : Value}
    {oq : Str} {oN : Addr} {obs osb : List Value} {ohd : Bool} {osn : List Str} {oab : Bool} {oco : Option Bool} {odd : Option Addr} {oma omb omc omd ome : Option Value} {oid : String} {rest : List Value}
    {C0 : Addr} {q_0 : Str} {N0 : Addr} {bs0 sb0 : List Value} {sn0 : List Str} {ab0 : Bool} {co0 : Option Bool} {dd0 : Option Addr} {m0a m0b m0c m0d m0e : Option Value}
    {C1 : Addr} {q_1 : Str} {N1 : Addr} {bs1 sb1 : List Value} {sn1 : List Str} {ab1 : Bool} {co1 : Option Bool} {dd1 : Option Addr} {m1a m1b m1c m1d m1e : Option Value}
    {g1 : Addr} {goc1 gkV1 gdc1 gpm1 gcd1 gct1 : Value} {god1 gan1 : Option Addr} {gsl1 : Array (Option Value)}
    {C2 : Addr} {q_2 : Str} {N2 : Addr} {bs2 sb2 : List Value} {sn2 : List Str} {ab2 : Bool} {co2 : Option Bool} {dd2 : Option Addr} {m2a m2b m2c m2d m2e : Option Value}
    {g2 : Addr} {goc2 gkV2 gdc2 gpm2 gcd2 gct2 : Value} {god2 gan2 : Option Addr} {gsl2 : Array (Option Value)}
    {C3 : Addr} {q_3 : Str} {N3 : Addr} {bs3 sb3 : List Value} {sn3 : List Str} {ab3 : Bool} {co3 : Option Bool} {dd3 : Option Addr} {m3a m3b m3c m3d m3e : Option Value}
    {g3 : Addr} {goc3 gkV3 gdc3 gpm3 gcd3 gct3 : Value} {god3 gan3 : Option Addr} {gsl3 : Array (Option Value)}
    {C4 : Addr} {q_4 : Str} {N4 : Addr} {bs4 sb4 : List Value} {sn4 : List Str} {ab4 : Bool} {co4 : Option Bool} {dd4 : Option Addr} {m4a m4b m4c m4d m4e : Option Value}
    {g4 : Addr} {goc4 gkV4 gdc4 gpm4 gcd4 gct4 : Value} {god4 gan4 : Option Addr} {gsl4 : Array (Option Value)}
    {C5 : Addr} {q_5 : Str} {N5 : Addr} {bs5 sb5 : List Value} {sn5 : List Str} {ab5 : Bool} {co5 : Option Bool} {dd5 : Option Addr} {m5a m5b m5c m5d m5e : Option Value}
    {g5 : Addr} {goc5 gkV5 gdc5 gpm5 gct5 : Value} {god5 gan5 : Option Addr} {gsl5 : Array (Option Value)}
    {cda5 cc5 : Addr} {ccl5 cl5 : Value} {cdd5 cld5 : Option Addr} {vs5 : Array Value} {ccs5 csl5 : Array (Option Value)} {file5 : Str} {tf5 : Tok}
    {C6 : Addr} {q_6 : Str} {N6 : Addr} {bs6 sb6 : List Value} {sn6 : List Str} {ab6 : Bool} {co6 : Option Bool} {dd6 : Option Addr} {m6a m6b m6c m6d m6e : Option Value}
    {g6 : Addr} {goc6 gkV6 gdc6 gpm6 gct6 : Value} {god6 gan6 : Option Addr} {gsl6 : Array (Option Value)}
    {cda6 cc6 : Addr} {ccl6 cl6 : Value} {cdd6 cld6 : Option Addr} {vs6 : Array Value} {ccs6 csl6 : Array (Option Value)} {file6 : Str} {tf6 : Tok}
    {C7 : Addr} {q_7 : Str} {N7 : Addr} {bs7 sb7 : List Value} {sn7 : List Str} {ab7 : Bool} {co7 : Option Bool} {dd7 : Option Addr} {m7a m7b m7c m7d m7e : Option Value}
    {g7 : Addr} {goc7 gkV7 gdc7 gpm7 gcd7 gct7 : Value} {god7 gan7 : Option Addr} {gsl7 : Array (Option Value)}
    {C8 : Addr} {q_8 : Str} {N8 : Addr} {bs8 sb8 : List Value} {sn8 : List Str} {ab8 : Bool} {co8 : Option Bool} {dd8 : Option Addr} {m8a m8b m8c m8d m8e : Option Value}
    {g8 : Addr} {goc8 gkV8 gdc8 gpm8 gcd8 gct8 : Value} {god8 gan8 : Option Addr} {gsl8 : Array (Option Value)}
    {tk_MOST_DIGITS tk_MOST_PLACES tk_MOST_TIES : Tok}
    (a0 : PySem.W.nsIn K mainGlobals "is_integer" = some (some (.ref f0)))
    (l0 : K.lookup f0 = some ⟨oc0, od0, .func (PySem.W.fnOf "is_integer" "is_integer" (defArgs s_is_integer) (defBody s_is_integer) (defScope s_is_integer) .none kV0 dc0 pm0 an0 cd0 ct0), sl0⟩)
    (c0 : PySem.W.codeIn K cd0 "is_integer" = true)
    (k0 : PySem.W.keepIn K (.ref f0) = true)
    (a1 : PySem.W.nsIn K mainGlobals "is_within" = some (some (.ref f1)))
    (l1 : K.lookup f1 = some ⟨oc1, od1, .func (PySem.W.fnOf "is_within" "is_within" (defArgs s_is_within) (defBody s_is_within) (defScope s_is_within) .none kV1 dc1 pm1 an1 cd1 ct1), sl1⟩)
    (c1 : PySem.W.codeIn K cd1 "is_within" = true)
    (k1 : PySem.W.keepIn K (.ref f1) = true)
    (a2 : PySem.W.nsIn K mainGlobals "are_integers" = some (some (.ref f2)))
    (l2 : K.lookup f2 = some ⟨oc2, od2, .func (PySem.W.fnOf "are_integers" "are_integers" (defArgs s_are_integers) (defBody s_are_integers) (defScope s_are_integers) .none kV2 dc2 pm2 an2 cd2 ct2), sl2⟩)
    (c2 : PySem.W.codeIn K cd2 "are_integers" = true)
    (k2 : PySem.W.keepIn K (.ref f2) = true)
    (a3 : PySem.W.nsIn K mainGlobals "first_twice" = some (some (.ref f3)))
    (l3 : K.lookup f3 = some ⟨oc3, od3, .func (PySem.W.fnOf "first_twice" "first_twice" (defArgs s_first_twice) (defBody s_first_twice) (defScope s_first_twice) .none kV3 dc3 pm3 an3 cd3 ct3), sl3⟩)
    (c3 : PySem.W.codeIn K cd3 "first_twice" = true)
    (k3 : PySem.W.keepIn K (.ref f3) = true)
    (a4 : PySem.W.nsIn K mainGlobals "own_names" = some (some (.ref f4)))
    (l4 : K.lookup f4 = some ⟨oc4, od4, .func (PySem.W.fnOf "own_names" "own_names" (defArgs s_own_names) (defBody s_own_names) (defScope s_own_names) .none kV4 dc4 pm4 an4 cd4 ct4), sl4⟩)
    (c4 : PySem.W.codeIn K cd4 "own_names" = true)
    (k4 : PySem.W.keepIn K (.ref f4) = true)
    (a5 : PySem.W.nsIn K mainGlobals "joined" = some (some (.ref f5)))
    (l5 : K.lookup f5 = some ⟨oc5, od5, .func (PySem.W.fnOf "joined" "joined" (defArgs s_joined) (defBody s_joined) (defScope s_joined) .none kV5 dc5 pm5 an5 cd5 ct5), sl5⟩)
    (c5 : PySem.W.codeIn K cd5 "joined" = true)
    (k5 : PySem.W.keepIn K (.ref f5) = true)
    (a6 : PySem.W.nsIn K mainGlobals "names_of" = some (some (.ref f6)))
    (l6 : K.lookup f6 = some ⟨oc6, od6, .func (PySem.W.fnOf "names_of" "names_of" (defArgs s_names_of) (defBody s_names_of) (defScope s_names_of) .none kV6 dc6 pm6 an6 cd6 ct6), sl6⟩)
    (c6 : PySem.W.codeIn K cd6 "names_of" = true)
    (k6 : PySem.W.keepIn K (.ref f6) = true)
    (a7 : PySem.W.nsIn K mainGlobals "names_in" = some (some (.ref f7)))
    (l7 : K.lookup f7 = some ⟨oc7, od7, .func (PySem.W.fnOf "names_in" "names_in" (defArgs s_names_in) (defBody s_names_in) (defScope s_names_in) .none kV7 dc7 pm7 an7 cd7 ct7), sl7⟩)
    (c7 : PySem.W.codeIn K cd7 "names_in" = true)
    (k7 : PySem.W.keepIn K (.ref f7) = true)
    (a8 : PySem.W.nsIn K mainGlobals "fixed" = some (some (.ref f8)))
    (l8 : K.lookup f8 = some ⟨oc8, od8, .func (PySem.W.fnOf "fixed" "fixed" (defArgs s_fixed) (defBody s_fixed) (defScope s_fixed) .none kV8 dc8 pm8 an8 cd8 ct8), sl8⟩)
    (c8 : PySem.W.codeIn K cd8 "fixed" = true)
    (k8 : PySem.W.keepIn K (.ref f8) = true)
    (a9 : PySem.W.nsIn K mainGlobals "items_of" = some (some (.ref f9)))
    (l9 : K.lookup f9 = some ⟨oc9, od9, .func (PySem.W.fnOf "items_of" "items_of" (defArgs s_items_of) (defBody s_items_of) (defScope s_items_of) .none kV9 dc9 pm9 an9 cd9 ct9), sl9⟩)
    (c9 : PySem.W.codeIn K cd9 "items_of" = true)
    (k9 : PySem.W.keepIn K (.ref f9) = true)
    (a10 : PySem.W.nsIn K mainGlobals "number_of" = some (some (.ref f10)))
    (l10 : K.lookup f10 = some ⟨oc10, od10, .func (PySem.W.fnOf "number_of" "number_of" (defArgs s_number_of) (defBody s_number_of) (defScope s_number_of) .none kV10 dc10 pm10 an10 cd10 ct10), sl10⟩)
    (c10 : PySem.W.codeIn K cd10 "number_of" = true)
    (k10 : PySem.W.keepIn K (.ref f10) = true)
    (a11 : PySem.W.nsIn K mainGlobals "item_at" = some (some (.ref f11)))
    (l11 : K.lookup f11 = some ⟨oc11, od11, .func (PySem.W.fnOf "item_at" "item_at" (defArgs s_item_at) (defBody s_item_at) (defScope s_item_at) .none kV11 dc11 pm11 an11 cd11 ct11), sl11⟩)
    (c11 : PySem.W.codeIn K cd11 "item_at" = true)
    (k11 : PySem.W.keepIn K (.ref f11) = true)
    (a12 : PySem.W.nsIn K mainGlobals "number_at" = some (some (.ref f12)))
    (l12 : K.lookup f12 = some ⟨oc12, od12, .func (PySem.W.fnOf "number_at" "number_at" (defArgs s_number_at) (defBody s_number_at) (defScope s_number_at) .none kV12 dc12 pm12 an12 cd12 ct12), sl12⟩)
    (c12 : PySem.W.codeIn K cd12 "number_at" = true)
    (k12 : PySem.W.keepIn K (.ref f12) = true)
    (a13 : PySem.W.nsIn K mainGlobals "read_colon" = some (some (.ref f13)))
    (l13 : K.lookup f13 = some ⟨oc13, od13, .func (PySem.W.fnOf "read_colon" "read_colon" (defArgs s_read_colon) (defBody s_read_colon) (defScope s_read_colon) .none kV13 dc13 pm13 an13 cd13 ct13), sl13⟩)
    (c13 : PySem.W.codeIn K cd13 "read_colon" = true)
    (k13 : PySem.W.keepIn K (.ref f13) = true)
    (a14 : PySem.W.nsIn K mainGlobals "read_end" = some (some (.ref f14)))
    (l14 : K.lookup f14 = some ⟨oc14, od14, .func (PySem.W.fnOf "read_end" "read_end" (defArgs s_read_end) (defBody s_read_end) (defScope s_read_end) .none kV14 dc14 pm14 an14 cd14 ct14), sl14⟩)
    (c14 : PySem.W.codeIn K cd14 "read_end" = true)
    (k14 : PySem.W.keepIn K (.ref f14) = true)
    (a15 : PySem.W.nsIn K mainGlobals "are_ties" = some (some (.ref f15)))
    (l15 : K.lookup f15 = some ⟨oc15, od15, .func (PySem.W.fnOf "are_ties" "are_ties" (defArgs s_are_ties) (defBody s_are_ties) (defScope s_are_ties) .none kV15 dc15 pm15 an15 cd15 ct15), sl15⟩)
    (c15 : PySem.W.codeIn K cd15 "are_ties" = true)
    (k15 : PySem.W.keepIn K (.ref f15) = true)
    (a16 : PySem.W.nsIn K mainGlobals "is_pair" = some (some (.ref f16)))
    (l16 : K.lookup f16 = some ⟨oc16, od16, .func (PySem.W.fnOf "is_pair" "is_pair" (defArgs s_is_pair) (defBody s_is_pair) (defScope s_is_pair) .none kV16 dc16 pm16 an16 cd16 ct16), sl16⟩)
    (c16 : PySem.W.codeIn K cd16 "is_pair" = true)
    (k16 : PySem.W.keepIn K (.ref f16) = true)
    (a17 : PySem.W.nsIn K mainGlobals "hang_together" = some (some (.ref f17)))
    (l17 : K.lookup f17 = some ⟨oc17, od17, .func (PySem.W.fnOf "hang_together" "hang_together" (defArgs s_hang_together) (defBody s_hang_together) (defScope s_hang_together) .none kV17 dc17 pm17 an17 cd17 ct17), sl17⟩)
    (c17 : PySem.W.codeIn K cd17 "hang_together" = true)
    (k17 : PySem.W.keepIn K (.ref f17) = true)
    (a18 : PySem.W.nsIn K mainGlobals "need_web" = some (some (.ref f18)))
    (l18 : K.lookup f18 = some ⟨oc18, od18, .func (PySem.W.fnOf "need_web" "need_web" (defArgs s_need_web) (defBody s_need_web) (defScope s_need_web) .none kV18 dc18 pm18 an18 cd18 ct18), sl18⟩)
    (c18 : PySem.W.codeIn K cd18 "need_web" = true)
    (k18 : PySem.W.keepIn K (.ref f18) = true)
    (a19 : PySem.W.nsIn K mainGlobals "rounds" = some (some (.ref f19)))
    (l19 : K.lookup f19 = some ⟨oc19, od19, .func (PySem.W.fnOf "rounds" "rounds" (defArgs s_rounds) (defBody s_rounds) (defScope s_rounds) .none kV19 dc19 pm19 an19 cd19 ct19), sl19⟩)
    (c19 : PySem.W.codeIn K cd19 "rounds" = true)
    (k19 : PySem.W.keepIn K (.ref f19) = true)
    (a20 : PySem.W.nsIn K mainGlobals "steps_from" = some (some (.ref f20)))
    (l20 : K.lookup f20 = some ⟨oc20, od20, .func (PySem.W.fnOf "steps_from" "steps_from" (defArgs s_steps_from) (defBody s_steps_from) (defScope s_steps_from) .none kV20 dc20 pm20 an20 cd20 ct20), sl20⟩)
    (c20 : PySem.W.codeIn K cd20 "steps_from" = true)
    (k20 : PySem.W.keepIn K (.ref f20) = true)
    (a21 : PySem.W.nsIn K mainGlobals "rounds_from" = some (some (.ref f21)))
    (l21 : K.lookup f21 = some ⟨oc21, od21, .func (PySem.W.fnOf "rounds_from" "rounds_from" (defArgs s_rounds_from) (defBody s_rounds_from) (defScope s_rounds_from) .none kV21 dc21 pm21 an21 cd21 ct21), sl21⟩)
    (c21 : PySem.W.codeIn K cd21 "rounds_from" = true)
    (k21 : PySem.W.keepIn K (.ref f21) = true)
    (a22 : PySem.W.nsIn K mainGlobals "bonds" = some (some (.ref f22)))
    (l22 : K.lookup f22 = some ⟨oc22, od22, .func (PySem.W.fnOf "bonds" "bonds" (defArgs s_bonds) (defBody s_bonds) (defScope s_bonds) .none kV22 dc22 pm22 an22 cd22 ct22), sl22⟩)
    (c22 : PySem.W.codeIn K cd22 "bonds" = true)
    (k22 : PySem.W.keepIn K (.ref f22) = true)
    (a23 : PySem.W.nsIn K mainGlobals "near_places" = some (some (.ref f23)))
    (l23 : K.lookup f23 = some ⟨oc23, od23, .func (PySem.W.fnOf "near_places" "near_places" (defArgs s_near_places) (defBody s_near_places) (defScope s_near_places) .none kV23 dc23 pm23 an23 cd23 ct23), sl23⟩)
    (c23 : PySem.W.codeIn K cd23 "near_places" = true)
    (k23 : PySem.W.keepIn K (.ref f23) = true)
    (a24 : PySem.W.nsIn K mainGlobals "is_whole" = some (some (.ref f24)))
    (l24 : K.lookup f24 = some ⟨oc24, od24, .func (PySem.W.fnOf "is_whole" "is_whole" (defArgs s_is_whole) (defBody s_is_whole) (defScope s_is_whole) .none kV24 dc24 pm24 an24 cd24 ct24), sl24⟩)
    (c24 : PySem.W.codeIn K cd24 "is_whole" = true)
    (k24 : PySem.W.keepIn K (.ref f24) = true)
    (a25 : PySem.W.nsIn K mainGlobals "ties_between" = some (some (.ref f25)))
    (l25 : K.lookup f25 = some ⟨oc25, od25, .func (PySem.W.fnOf "ties_between" "ties_between" (defArgs s_ties_between) (defBody s_ties_between) (defScope s_ties_between) .none kV25 dc25 pm25 an25 cd25 ct25), sl25⟩)
    (c25 : PySem.W.codeIn K cd25 "ties_between" = true)
    (k25 : PySem.W.keepIn K (.ref f25) = true)
    (a26 : PySem.W.nsIn K mainGlobals "bridges" = some (some (.ref f26)))
    (l26 : K.lookup f26 = some ⟨oc26, od26, .func (PySem.W.fnOf "bridges" "bridges" (defArgs s_bridges) (defBody s_bridges) (defScope s_bridges) .none kV26 dc26 pm26 an26 cd26 ct26), sl26⟩)
    (c26 : PySem.W.codeIn K cd26 "bridges" = true)
    (k26 : PySem.W.keepIn K (.ref f26) = true)
    (a27 : PySem.W.nsIn K mainGlobals "is_bridge" = some (some (.ref f27)))
    (l27 : K.lookup f27 = some ⟨oc27, od27, .func (PySem.W.fnOf "is_bridge" "is_bridge" (defArgs s_is_bridge) (defBody s_is_bridge) (defScope s_is_bridge) .none kV27 dc27 pm27 an27 cd27 ct27), sl27⟩)
    (c27 : PySem.W.codeIn K cd27 "is_bridge" = true)
    (k27 : PySem.W.keepIn K (.ref f27) = true)
    (a28 : PySem.W.nsIn K mainGlobals "pieces" = some (some (.ref f28)))
    (l28 : K.lookup f28 = some ⟨oc28, od28, .func (PySem.W.fnOf "pieces" "pieces" (defArgs s_pieces) (defBody s_pieces) (defScope s_pieces) .none kV28 dc28 pm28 an28 cd28 ct28), sl28⟩)
    (c28 : PySem.W.codeIn K cd28 "pieces" = true)
    (k28 : PySem.W.keepIn K (.ref f28) = true)
    (a29 : PySem.W.nsIn K mainGlobals "piece_names" = some (some (.ref f29)))
    (l29 : K.lookup f29 = some ⟨oc29, od29, .func (PySem.W.fnOf "piece_names" "piece_names" (defArgs s_piece_names) (defBody s_piece_names) (defScope s_piece_names) .none kV29 dc29 pm29 an29 cd29 ct29), sl29⟩)
    (c29 : PySem.W.codeIn K cd29 "piece_names" = true)
    (k29 : PySem.W.keepIn K (.ref f29) = true)
    (a30 : PySem.W.nsIn K mainGlobals "together" = some (some (.ref f30)))
    (l30 : K.lookup f30 = some ⟨oc30, od30, .func (PySem.W.fnOf "together" "together" (defArgs s_together) (defBody s_together) (defScope s_together) .none kV30 dc30 pm30 an30 cd30 ct30), sl30⟩)
    (c30 : PySem.W.codeIn K cd30 "together" = true)
    (k30 : PySem.W.keepIn K (.ref f30) = true)
    (a31 : PySem.W.nsIn K mainGlobals "parting_places" = some (some (.ref f31)))
    (l31 : K.lookup f31 = some ⟨oc31, od31, .func (PySem.W.fnOf "parting_places" "parting_places" (defArgs s_parting_places) (defBody s_parting_places) (defScope s_parting_places) .none kV31 dc31 pm31 an31 cd31 ct31), sl31⟩)
    (c31 : PySem.W.codeIn K cd31 "parting_places" = true)
    (k31 : PySem.W.keepIn K (.ref f31) = true)
    (a32 : PySem.W.nsIn K mainGlobals "is_parting" = some (some (.ref f32)))
    (l32 : K.lookup f32 = some ⟨oc32, od32, .func (PySem.W.fnOf "is_parting" "is_parting" (defArgs s_is_parting) (defBody s_is_parting) (defScope s_is_parting) .none kV32 dc32 pm32 an32 cd32 ct32), sl32⟩)
    (c32 : PySem.W.codeIn K cd32 "is_parting" = true)
    (k32 : PySem.W.keepIn K (.ref f32) = true)
    (a33 : PySem.W.nsIn K mainGlobals "in_a_row" = some (some (.ref f33)))
    (l33 : K.lookup f33 = some ⟨oc33, od33, .func (PySem.W.fnOf "in_a_row" "in_a_row" (defArgs s_in_a_row) (defBody s_in_a_row) (defScope s_in_a_row) .none kV33 dc33 pm33 an33 cd33 ct33), sl33⟩)
    (c33 : PySem.W.codeIn K cd33 "in_a_row" = true)
    (k33 : PySem.W.keepIn K (.ref f33) = true)
    (a34 : PySem.W.nsIn K mainGlobals "beside" = some (some (.ref f34)))
    (l34 : K.lookup f34 = some ⟨oc34, od34, .func (PySem.W.fnOf "beside" "beside" (defArgs s_beside) (defBody s_beside) (defScope s_beside) .none kV34 dc34 pm34 an34 cd34 ct34), sl34⟩)
    (c34 : PySem.W.codeIn K cd34 "beside" = true)
    (k34 : PySem.W.keepIn K (.ref f34) = true)
    (a35 : PySem.W.nsIn K mainGlobals "turned" = some (some (.ref f35)))
    (l35 : K.lookup f35 = some ⟨oc35, od35, .func (PySem.W.fnOf "turned" "turned" (defArgs s_turned) (defBody s_turned) (defScope s_turned) .none kV35 dc35 pm35 an35 cd35 ct35), sl35⟩)
    (c35 : PySem.W.codeIn K cd35 "turned" = true)
    (k35 : PySem.W.keepIn K (.ref f35) = true)
    (a36 : PySem.W.nsIn K mainGlobals "need_place" = some (some (.ref f36)))
    (l36 : K.lookup f36 = some ⟨oc36, od36, .func (PySem.W.fnOf "need_place" "need_place" (defArgs s_need_place) (defBody s_need_place) (defScope s_need_place) .none kV36 dc36 pm36 an36 cd36 ct36), sl36⟩)
    (c36 : PySem.W.codeIn K cd36 "need_place" = true)
    (k36 : PySem.W.keepIn K (.ref f36) = true)
    (a37 : PySem.W.nsIn K mainGlobals "need_ties" = some (some (.ref f37)))
    (l37 : K.lookup f37 = some ⟨oc37, od37, .func (PySem.W.fnOf "need_ties" "need_ties" (defArgs s_need_ties) (defBody s_need_ties) (defScope s_need_ties) .none kV37 dc37 pm37 an37 cd37 ct37), sl37⟩)
    (c37 : PySem.W.codeIn K cd37 "need_ties" = true)
    (k37 : PySem.W.keepIn K (.ref f37) = true)
    (a38 : PySem.W.nsIn K mainGlobals "third_places" = some (some (.ref f38)))
    (l38 : K.lookup f38 = some ⟨oc38, od38, .func (PySem.W.fnOf "third_places" "third_places" (defArgs s_third_places) (defBody s_third_places) (defScope s_third_places) .none kV38 dc38 pm38 an38 cd38 ct38), sl38⟩)
    (c38 : PySem.W.codeIn K cd38 "third_places" = true)
    (k38 : PySem.W.keepIn K (.ref f38) = true)
    (a39 : PySem.W.nsIn K mainGlobals "_law_gate" = some (some (.ref f39)))
    (l39 : K.lookup f39 = some ⟨oc39, od39, .func (PySem.W.fnOf "_law_gate" "_law_gate" (defArgs s__law_gate) (defBody s__law_gate) (defScope s__law_gate) .none kV39 dc39 pm39 an39 cd39 ct39), sl39⟩)
    (c39 : PySem.W.codeIn K cd39 "_law_gate" = true)
    (k39 : PySem.W.keepIn K (.ref f39) = true)
    (a40 : PySem.W.nsIn K mainGlobals "_law_push" = some (some (.ref f40)))
    (l40 : K.lookup f40 = some ⟨oc40, od40, .func (PySem.W.fnOf "_law_push" "_law_push" (defArgs s__law_push) (defBody s__law_push) (defScope s__law_push) .none kV40 dc40 pm40 an40 cd40 ct40), sl40⟩)
    (c40 : PySem.W.codeIn K cd40 "_law_push" = true)
    (k40 : PySem.W.keepIn K (.ref f40) = true)
    (a41 : PySem.W.nsIn K mainGlobals "_law_any" = some (some (.ref f41)))
    (l41 : K.lookup f41 = some ⟨oc41, od41, .func (PySem.W.fnOf "_law_any" "_law_any" (defArgs s__law_any) (defBody s__law_any) (defScope s__law_any) .none kV41 dc41 pm41 an41 cd41 ct41), sl41⟩)
    (c41 : PySem.W.codeIn K cd41 "_law_any" = true)
    (k41 : PySem.W.keepIn K (.ref f41) = true)
    (a42 : PySem.W.nsIn K mainGlobals "_law_heard" = some (some (.ref f42)))
    (l42 : K.lookup f42 = some ⟨oc42, od42, .func (PySem.W.fnOf "_law_heard" "_law_heard" (defArgs s__law_heard) (defBody s__law_heard) (defScope s__law_heard) .none kV42 dc42 pm42 an42 cd42 ct42), sl42⟩)
    (c42 : PySem.W.codeIn K cd42 "_law_heard" = true)
    (k42 : PySem.W.keepIn K (.ref f42) = true)
    (a43 : PySem.W.nsIn K mainGlobals "_law_made_right" = some (some (.ref f43)))
    (l43 : K.lookup f43 = some ⟨oc43, od43, .func (PySem.W.fnOf "_law_made_right" "_law_made_right" (defArgs s__law_made_right) (defBody s__law_made_right) (defScope s__law_made_right) .none kV43 dc43 pm43 an43 (.ref kk43) ct43), sl43⟩)
    (c43 : PySem.W.codeIn K (.ref kk43) "_law_made_right" = true)
    (k43 : PySem.W.keepIn K (.ref f43) = true)
    (a44 : PySem.W.nsIn K mainGlobals "_law_ends_right" = some (some (.ref f44)))
    (l44 : K.lookup f44 = some ⟨oc44, od44, .func (PySem.W.fnOf "_law_ends_right" "_law_ends_right" (defArgs s__law_ends_right) (defBody s__law_ends_right) (defScope s__law_ends_right) .none kV44 dc44 pm44 an44 (.ref kk44) ct44), sl44⟩)
    (c44 : PySem.W.codeIn K (.ref kk44) "_law_ends_right" = true)
    (k44 : PySem.W.keepIn K (.ref f44) = true)
    (a45 : PySem.W.nsIn K mainGlobals "_law_functions_right" = some (some (.ref f45)))
    (l45 : K.lookup f45 = some ⟨oc45, od45, .func (PySem.W.fnOf "_law_functions_right" "_law_functions_right" (defArgs s__law_functions_right) (defBody s__law_functions_right) (defScope s__law_functions_right) .none kV45 dc45 pm45 an45 (.ref kk45) ct45), sl45⟩)
    (c45 : PySem.W.codeIn K (.ref kk45) "_law_functions_right" = true)
    (k45 : PySem.W.keepIn K (.ref f45) = true)
    (a46 : PySem.W.nsIn K mainGlobals "_law_turned_right" = some (some (.ref f46)))
    (l46 : K.lookup f46 = some ⟨oc46, od46, .func (PySem.W.fnOf "_law_turned_right" "_law_turned_right" (defArgs s__law_turned_right) (defBody s__law_turned_right) (defScope s__law_turned_right) .none kV46 dc46 pm46 an46 (.ref kk46) ct46), sl46⟩)
    (c46 : PySem.W.codeIn K (.ref kk46) "_law_turned_right" = true)
    (k46 : PySem.W.keepIn K (.ref f46) = true)
    (a47 : PySem.W.nsIn K mainGlobals "_law_texts_right" = some (some (.ref f47)))
    (l47 : K.lookup f47 = some ⟨oc47, od47, .func (PySem.W.fnOf "_law_texts_right" "_law_texts_right" (defArgs s__law_texts_right) (defBody s__law_texts_right) (defScope s__law_texts_right) .none kV47 dc47 pm47 an47 (.ref kk47) ct47), sl47⟩)
    (c47 : PySem.W.codeIn K (.ref kk47) "_law_texts_right" = true)
    (k47 : PySem.W.keepIn K (.ref f47) = true)
    (a48 : PySem.W.nsIn K mainGlobals "law" = some (some (.ref f48)))
    (l48 : K.lookup f48 = some ⟨oc48, od48, .func (PySem.W.fnOf "law" "law" (defArgs s_law) (defBody s_law) (defScope s_law) .none kV48 dc48 pm48 an48 cd48 ct48), sl48⟩)
    (c48 : PySem.W.codeIn K cd48 "law" = true)
    (k48 : PySem.W.keepIn K (.ref f48) = true)
    (kl43 : K.lookup kk43 = some ⟨ko43, kod43, .fields kvs43, ksl43⟩)
    (kv43 : kvs43[11]? = some (.ref kp43))
    (kt43 : PySem.W.tabIn K "_law_made_right" = some (kk43, kp43))
    (kn43 : K.lookup kp43 = none)
    (kr43 : (recsOf q).find? (fun e => e.name == ("_law_made_right" : Str)) = some ke43)
    (kl44 : K.lookup kk44 = some ⟨ko44, kod44, .fields kvs44, ksl44⟩)
    (kv44 : kvs44[11]? = some (.ref kp44))
    (kt44 : PySem.W.tabIn K "_law_ends_right" = some (kk44, kp44))
    (kn44 : K.lookup kp44 = none)
    (kr44 : (recsOf q).find? (fun e => e.name == ("_law_ends_right" : Str)) = some ke44)
    (kl45 : K.lookup kk45 = some ⟨ko45, kod45, .fields kvs45, ksl45⟩)
    (kv45 : kvs45[11]? = some (.ref kp45))
    (kt45 : PySem.W.tabIn K "_law_functions_right" = some (kk45, kp45))
    (kn45 : K.lookup kp45 = none)
    (kr45 : (recsOf q).find? (fun e => e.name == ("_law_functions_right" : Str)) = some ke45)
    (kl46 : K.lookup kk46 = some ⟨ko46, kod46, .fields kvs46, ksl46⟩)
    (kv46 : kvs46[11]? = some (.ref kp46))
    (kt46 : PySem.W.tabIn K "_law_turned_right" = some (kk46, kp46))
    (kn46 : K.lookup kp46 = none)
    (kr46 : (recsOf q).find? (fun e => e.name == ("_law_turned_right" : Str)) = some ke46)
    (kl47 : K.lookup kk47 = some ⟨ko47, kod47, .fields kvs47, ksl47⟩)
    (kv47 : kvs47[11]? = some (.ref kp47))
    (kt47 : PySem.W.tabIn K "_law_texts_right" = some (kk47, kp47))
    (kn47 : K.lookup kp47 = none)
    (kr47 : (recsOf q).find? (fun e => e.name == ("_law_texts_right" : Str)) = some ke47)
    (kne : ([kp43, kp44, kp45, kp46, kp47] : List Addr).Nodup)
    (oa : PySem.W.nsIn K mainGlobals "Web" = some (some (.ref CO)))
    (ol : K.lookup CO = some (excClassObj "Web" oq CO oN obs [.type "object"] ohd osn osb oab oco odd oma omb omc omd ome oid))
    (omk : PySem.W.makesIn K CO = true)
    (uf0 : PySem.W.findIn K (.ref CO) "__init__" = some (some (.ref u0)))
    (ul0 : K.lookup u0 = some ⟨uoc0, uod0, .func (PySem.W.fnOf "__init__" "Web.__init__" (defArgs s_Web___init__) (defBody s_Web___init__) (defScope s_Web___init__) .none ukV0 udc0 upm0 uan0 ucd0 uct0), usl0⟩)
    (uc0 : PySem.W.codeIn K ucd0 "Web.__init__" = true)
    (uk0 : PySem.W.keepIn K (.ref u0) = true)
    (ufn0 : PySem.W.isFn K (.ref u0) = true)
    (uf1 : PySem.W.findIn K (.ref CO) "__eq__" = some (some (.ref u1)))
    (ul1 : K.lookup u1 = some ⟨uoc1, uod1, .func (PySem.W.fnOf "__eq__" "Web.__eq__" (defArgs s_Web___eq__) (defBody s_Web___eq__) (defScope s_Web___eq__) .none ukV1 udc1 upm1 uan1 ucd1 uct1), usl1⟩)
    (uc1 : PySem.W.codeIn K ucd1 "Web.__eq__" = true)
    (uk1 : PySem.W.keepIn K (.ref u1) = true)
    (ufn1 : PySem.W.isFn K (.ref u1) = true)
    (uf2 : PySem.W.findIn K (.ref CO) "__str__" = some (some (.ref u2)))
    (ul2 : K.lookup u2 = some ⟨uoc2, uod2, .func (PySem.W.fnOf "__str__" "Web.__str__" (defArgs s_Web___str__) (defBody s_Web___str__) (defScope s_Web___str__) .none ukV2 udc2 upm2 uan2 ucd2 uct2), usl2⟩)
    (uc2 : PySem.W.codeIn K ucd2 "Web.__str__" = true)
    (uk2 : PySem.W.keepIn K (.ref u2) = true)
    (ufn2 : PySem.W.isFn K (.ref u2) = true)
    (srd : PySem.W.readsIn K CO (.type "type") = true)
    (sga : PySem.W.specialIn K (.ref CO) "__getattribute__" = some (some (.builtin "type.__getattribute__")))
    (sat : PySem.W.findCls K (.ref CO) (.type "type") "read" = some (.get (.builtin "staticmethod.__get__") (.ref pR) .none (.ref CO)))
    (src : PySem.W.recIn K pR "staticmethod" = some (.ref u3 :: rest))
    (ul3 : K.lookup u3 = some ⟨uoc3, uod3, .func (PySem.W.fnOf "read" "Web.read" (defArgs s_Web_read) (defBody s_Web_read) (defScope s_Web_read) .none ukV3 udc3 upm3 uan3 ucd3 uct3), usl3⟩)
    (uc3 : PySem.W.codeIn K ucd3 "Web.read" = true)
    (uk3 : PySem.W.keepIn K (.ref u3) = true)
    (okp : PySem.W.keepIn K (.ref CO) = true)
    (opg : PySem.W.plainGet K CO Str.empty = true)
    (ohd_ : PySem.W.hasDictIn K CO = true)
    (opo : PySem.W.plainOver K CO = true)
    (osa : PySem.W.findIn K (.ref CO) "__setattr__" = some (some (.builtin "object.__setattr__")))
    (oca : PySem.W.findIn K (.ref CO) "__class__" = some (some (.builtin "object.__class__")))
    (ocm : PySem.W.mroIn K CO (.type "object") = some true)
    (on_places : PySem.W.findIn K (.ref CO) "places" = some none)
    (on_ties : PySem.W.findIn K (.ref CO) "ties" = some none)
    (one : PySem.W.findIn K (.ref CO) "__ne__" = some (some (.builtin "object.__ne__")))
    (onl : PySem.W.notFirst K CO (.type "list") = true)
    (ont : PySem.W.notFirst K CO (.type "tuple") = true)
    (oz_NoneType : PySem.W.kitOne K (.type "NoneType") (.ref CO) = some false)
    (oz_bool : PySem.W.kitOne K (.type "bool") (.ref CO) = some false)
    (oz_int : PySem.W.kitOne K (.type "int") (.ref CO) = some false)
    (oz_str : PySem.W.kitOne K (.type "str") (.ref CO) = some false)
    (oz_list : PySem.W.kitOne K (.type "list") (.ref CO) = some false)
    (oz_tuple : PySem.W.kitOne K (.type "tuple") (.ref CO) = some false)
    (oz_dict : PySem.W.kitOne K (.type "dict") (.ref CO) = some false)
    (hcn : PySem.W.specialIn K (.builtin "object.__class__") "__get__" = some (some (.builtin "getset_descriptor.__get__")))
    (hct : PySem.W.takesIn K (.builtin "object.__class__") = some true)
    (xa0 : PySem.W.nsIn K mainGlobals "NetError" = some (some (.ref C0)))
    (xl0 : K.lookup C0 = some (excClassObj "NetError" q_0 C0 N0 bs0 [.type "ValueError", .type "Exception", .type "BaseException", .type "object"] true sn0 sb0 ab0 co0 dd0 m0a m0b m0c m0d m0e "ValueError.__new__"))
    (xa1 : PySem.W.nsIn K mainGlobals "BadNumber" = some (some (.ref C1)))
    (xl1 : K.lookup C1 = some (excClassObj "BadNumber" q_1 C1 N1 bs1 [.ref C0, .type "ValueError", .type "Exception", .type "BaseException", .type "object"] true sn1 sb1 ab1 co1 dd1 m1a m1b m1c m1d m1e "ValueError.__new__"))
    (xs1 : PySem.W.findIn K (.ref C1) "__setattr__" = some (some (.builtin "object.__setattr__")))
    (xg1 : PySem.W.findIn K (.ref C1) "__getattribute__" = some (some (.builtin "BaseException.__getattribute__")))
    (xh1 : PySem.W.findIn K (.ref C1) "__getattr__" = some none)
    (xc1 : PySem.W.findIn K (.ref C1) "__class__" = some (some (.builtin "object.__class__")))
    (xi1 : PySem.W.findIn K (.ref C1) "__init__" = some (some (.ref g1)))
    (xt1 : PySem.W.typeIn K (.ref g1) = some (.type "function"))
    (xk1 : PySem.W.keepIn K (.ref C1) = true)
    (xn1_0 : PySem.W.findIn K (.ref C1) "part" = some none)
    (gl1 : K.lookup g1 = some ⟨goc1, god1, .func (PySem.W.fnOf "__init__" "BadNumber.__init__" (defArgs s_init_BadNumber) (defBody s_init_BadNumber) (defScope s_init_BadNumber) .none gkV1 gdc1 gpm1 gan1 gcd1 gct1), gsl1⟩)
    (gc1 : PySem.W.codeIn K gcd1 "BadNumber.__init__" = true)
    (gk1 : PySem.W.keepIn K (.ref g1) = true)
    (xa2 : PySem.W.nsIn K mainGlobals "BadWeb" = some (some (.ref C2)))
    (xl2 : K.lookup C2 = some (excClassObj "BadWeb" q_2 C2 N2 bs2 [.ref C0, .type "ValueError", .type "Exception", .type "BaseException", .type "object"] true sn2 sb2 ab2 co2 dd2 m2a m2b m2c m2d m2e "ValueError.__new__"))
    (xs2 : PySem.W.findIn K (.ref C2) "__setattr__" = some (some (.builtin "object.__setattr__")))
    (xg2 : PySem.W.findIn K (.ref C2) "__getattribute__" = some (some (.builtin "BaseException.__getattribute__")))
    (xh2 : PySem.W.findIn K (.ref C2) "__getattr__" = some none)
    (xc2 : PySem.W.findIn K (.ref C2) "__class__" = some (some (.builtin "object.__class__")))
    (xi2 : PySem.W.findIn K (.ref C2) "__init__" = some (some (.ref g2)))
    (xt2 : PySem.W.typeIn K (.ref g2) = some (.type "function"))
    (xk2 : PySem.W.keepIn K (.ref C2) = true)
    (xn2_0 : PySem.W.findIn K (.ref C2) "part" = some none)
    (gl2 : K.lookup g2 = some ⟨goc2, god2, .func (PySem.W.fnOf "__init__" "BadWeb.__init__" (defArgs s_init_BadWeb) (defBody s_init_BadWeb) (defScope s_init_BadWeb) .none gkV2 gdc2 gpm2 gan2 gcd2 gct2), gsl2⟩)
    (gc2 : PySem.W.codeIn K gcd2 "BadWeb.__init__" = true)
    (gk2 : PySem.W.keepIn K (.ref g2) = true)
    (xa3 : PySem.W.nsIn K mainGlobals "Misfit" = some (some (.ref C3)))
    (xl3 : K.lookup C3 = some (excClassObj "Misfit" q_3 C3 N3 bs3 [.ref C0, .type "ValueError", .type "Exception", .type "BaseException", .type "object"] true sn3 sb3 ab3 co3 dd3 m3a m3b m3c m3d m3e "ValueError.__new__"))
    (xs3 : PySem.W.findIn K (.ref C3) "__setattr__" = some (some (.builtin "object.__setattr__")))
    (xg3 : PySem.W.findIn K (.ref C3) "__getattribute__" = some (some (.builtin "BaseException.__getattribute__")))
    (xh3 : PySem.W.findIn K (.ref C3) "__getattr__" = some none)
    (xc3 : PySem.W.findIn K (.ref C3) "__class__" = some (some (.builtin "object.__class__")))
    (xi3 : PySem.W.findIn K (.ref C3) "__init__" = some (some (.ref g3)))
    (xt3 : PySem.W.typeIn K (.ref g3) = some (.type "function"))
    (xk3 : PySem.W.keepIn K (.ref C3) = true)
    (xn3_0 : PySem.W.findIn K (.ref C3) "part" = some none)
    (gl3 : K.lookup g3 = some ⟨goc3, god3, .func (PySem.W.fnOf "__init__" "Misfit.__init__" (defArgs s_init_Misfit) (defBody s_init_Misfit) (defScope s_init_Misfit) .none gkV3 gdc3 gpm3 gan3 gcd3 gct3), gsl3⟩)
    (gc3 : PySem.W.codeIn K gcd3 "Misfit.__init__" = true)
    (gk3 : PySem.W.keepIn K (.ref g3) = true)
    (xa4 : PySem.W.nsIn K mainGlobals "Missing" = some (some (.ref C4)))
    (xl4 : K.lookup C4 = some (excClassObj "Missing" q_4 C4 N4 bs4 [.ref C0, .type "ValueError", .type "Exception", .type "BaseException", .type "object"] true sn4 sb4 ab4 co4 dd4 m4a m4b m4c m4d m4e "ValueError.__new__"))
    (xs4 : PySem.W.findIn K (.ref C4) "__setattr__" = some (some (.builtin "object.__setattr__")))
    (xg4 : PySem.W.findIn K (.ref C4) "__getattribute__" = some (some (.builtin "BaseException.__getattribute__")))
    (xh4 : PySem.W.findIn K (.ref C4) "__getattr__" = some none)
    (xc4 : PySem.W.findIn K (.ref C4) "__class__" = some (some (.builtin "object.__class__")))
    (xi4 : PySem.W.findIn K (.ref C4) "__init__" = some (some (.ref g4)))
    (xt4 : PySem.W.typeIn K (.ref g4) = some (.type "function"))
    (xk4 : PySem.W.keepIn K (.ref C4) = true)
    (xn4_0 : PySem.W.findIn K (.ref C4) "value" = some none)
    (gl4 : K.lookup g4 = some ⟨goc4, god4, .func (PySem.W.fnOf "__init__" "Missing.__init__" (defArgs s_init_Missing) (defBody s_init_Missing) (defScope s_init_Missing) .none gkV4 gdc4 gpm4 gan4 gcd4 gct4), gsl4⟩)
    (gc4 : PySem.W.codeIn K gcd4 "Missing.__init__" = true)
    (gk4 : PySem.W.keepIn K (.ref g4) = true)
    (gx4 : PySem.W.fnIn K g4 = true)
    (xa5 : PySem.W.nsIn K mainGlobals "NoPlace" = some (some (.ref C5)))
    (xl5 : K.lookup C5 = some (excClassObj "NoPlace" q_5 C5 N5 bs5 [.ref C4, .ref C0, .type "ValueError", .type "Exception", .type "BaseException", .type "object"] true sn5 sb5 ab5 co5 dd5 m5a m5b m5c m5d m5e "ValueError.__new__"))
    (xs5 : PySem.W.findIn K (.ref C5) "__setattr__" = some (some (.builtin "object.__setattr__")))
    (xg5 : PySem.W.findIn K (.ref C5) "__getattribute__" = some (some (.builtin "BaseException.__getattribute__")))
    (xh5 : PySem.W.findIn K (.ref C5) "__getattr__" = some none)
    (xc5 : PySem.W.findIn K (.ref C5) "__class__" = some (some (.builtin "object.__class__")))
    (xi5 : PySem.W.findIn K (.ref C5) "__init__" = some (some (.ref g5)))
    (xt5 : PySem.W.typeIn K (.ref g5) = some (.type "function"))
    (xk5 : PySem.W.keepIn K (.ref C5) = true)
    (xn5_0 : PySem.W.findIn K (.ref C5) "value" = some none)
    (gl5 : K.lookup g5 = some ⟨goc5, god5, .func (PySem.W.ksFn "__init__" "NoPlace.__init__" (supA (SPos.q1 ⟨⟨40, 17, 40, 21⟩, ⟨40, 23, 40, 28⟩, ⟨41, 8, 41, 13⟩, ⟨41, 8, 41, 15⟩, ⟨41, 8, 41, 24⟩, ⟨41, 25, 41, 30⟩, ⟨41, 8, 41, 31⟩, ⟨41, 8, 41, 31⟩⟩) (SPos.q2 ⟨⟨40, 17, 40, 21⟩, ⟨40, 23, 40, 28⟩, ⟨41, 8, 41, 13⟩, ⟨41, 8, 41, 15⟩, ⟨41, 8, 41, 24⟩, ⟨41, 25, 41, 30⟩, ⟨41, 8, 41, 31⟩, ⟨41, 8, 41, 31⟩⟩)) (supB (SPos.p0 ⟨⟨40, 17, 40, 21⟩, ⟨40, 23, 40, 28⟩, ⟨41, 8, 41, 13⟩, ⟨41, 8, 41, 15⟩, ⟨41, 8, 41, 24⟩, ⟨41, 25, 41, 30⟩, ⟨41, 8, 41, 31⟩, ⟨41, 8, 41, 31⟩⟩) (SPos.p1 ⟨⟨40, 17, 40, 21⟩, ⟨40, 23, 40, 28⟩, ⟨41, 8, 41, 13⟩, ⟨41, 8, 41, 15⟩, ⟨41, 8, 41, 24⟩, ⟨41, 25, 41, 30⟩, ⟨41, 8, 41, 31⟩, ⟨41, 8, 41, 31⟩⟩) (SPos.p2 ⟨⟨40, 17, 40, 21⟩, ⟨40, 23, 40, 28⟩, ⟨41, 8, 41, 13⟩, ⟨41, 8, 41, 15⟩, ⟨41, 8, 41, 24⟩, ⟨41, 25, 41, 30⟩, ⟨41, 8, 41, 31⟩, ⟨41, 8, 41, 31⟩⟩) (SPos.p3 ⟨⟨40, 17, 40, 21⟩, ⟨40, 23, 40, 28⟩, ⟨41, 8, 41, 13⟩, ⟨41, 8, 41, 15⟩, ⟨41, 8, 41, 24⟩, ⟨41, 25, 41, 30⟩, ⟨41, 8, 41, 31⟩, ⟨41, 8, 41, 31⟩⟩) (SPos.p4 ⟨⟨40, 17, 40, 21⟩, ⟨40, 23, 40, 28⟩, ⟨41, 8, 41, 13⟩, ⟨41, 8, 41, 15⟩, ⟨41, 8, 41, 24⟩, ⟨41, 25, 41, 30⟩, ⟨41, 8, 41, 31⟩, ⟨41, 8, 41, 31⟩⟩) (SPos.p5 ⟨⟨40, 17, 40, 21⟩, ⟨40, 23, 40, 28⟩, ⟨41, 8, 41, 13⟩, ⟨41, 8, 41, 15⟩, ⟨41, 8, 41, 24⟩, ⟨41, 25, 41, 30⟩, ⟨41, 8, 41, 31⟩, ⟨41, 8, 41, 31⟩⟩)) supS .none gkV5 gdc5 gpm5 gan5 (.ref cda5) gct5 cc5), gsl5⟩)
    (gc5 : PySem.W.codeIn K (.ref cda5) "NoPlace.__init__" = true)
    (gd5 : K.lookup cda5 = some ⟨ccl5, cdd5, .fields vs5, ccs5⟩)
    (gv5 : vs5[2]? = some (.str file5 tf5))
    (gf5 : ((l.prog.main.file : Str) == file5) = true)
    (ge5 : K.lookup cc5 = some ⟨cl5, cld5, .cell (some (.ref C5)), csl5⟩)
    (xa6 : PySem.W.nsIn K mainGlobals "NoTie" = some (some (.ref C6)))
    (xl6 : K.lookup C6 = some (excClassObj "NoTie" q_6 C6 N6 bs6 [.ref C4, .ref C0, .type "ValueError", .type "Exception", .type "BaseException", .type "object"] true sn6 sb6 ab6 co6 dd6 m6a m6b m6c m6d m6e "ValueError.__new__"))
    (xs6 : PySem.W.findIn K (.ref C6) "__setattr__" = some (some (.builtin "object.__setattr__")))
    (xg6 : PySem.W.findIn K (.ref C6) "__getattribute__" = some (some (.builtin "BaseException.__getattribute__")))
    (xh6 : PySem.W.findIn K (.ref C6) "__getattr__" = some none)
    (xc6 : PySem.W.findIn K (.ref C6) "__class__" = some (some (.builtin "object.__class__")))
    (xi6 : PySem.W.findIn K (.ref C6) "__init__" = some (some (.ref g6)))
    (xt6 : PySem.W.typeIn K (.ref g6) = some (.type "function"))
    (xk6 : PySem.W.keepIn K (.ref C6) = true)
    (xn6_0 : PySem.W.findIn K (.ref C6) "value" = some none)
    (gl6 : K.lookup g6 = some ⟨goc6, god6, .func (PySem.W.ksFn "__init__" "NoTie.__init__" (supA (SPos.q1 ⟨⟨44, 17, 44, 21⟩, ⟨44, 23, 44, 28⟩, ⟨45, 8, 45, 13⟩, ⟨45, 8, 45, 15⟩, ⟨45, 8, 45, 24⟩, ⟨45, 25, 45, 30⟩, ⟨45, 8, 45, 31⟩, ⟨45, 8, 45, 31⟩⟩) (SPos.q2 ⟨⟨44, 17, 44, 21⟩, ⟨44, 23, 44, 28⟩, ⟨45, 8, 45, 13⟩, ⟨45, 8, 45, 15⟩, ⟨45, 8, 45, 24⟩, ⟨45, 25, 45, 30⟩, ⟨45, 8, 45, 31⟩, ⟨45, 8, 45, 31⟩⟩)) (supB (SPos.p0 ⟨⟨44, 17, 44, 21⟩, ⟨44, 23, 44, 28⟩, ⟨45, 8, 45, 13⟩, ⟨45, 8, 45, 15⟩, ⟨45, 8, 45, 24⟩, ⟨45, 25, 45, 30⟩, ⟨45, 8, 45, 31⟩, ⟨45, 8, 45, 31⟩⟩) (SPos.p1 ⟨⟨44, 17, 44, 21⟩, ⟨44, 23, 44, 28⟩, ⟨45, 8, 45, 13⟩, ⟨45, 8, 45, 15⟩, ⟨45, 8, 45, 24⟩, ⟨45, 25, 45, 30⟩, ⟨45, 8, 45, 31⟩, ⟨45, 8, 45, 31⟩⟩) (SPos.p2 ⟨⟨44, 17, 44, 21⟩, ⟨44, 23, 44, 28⟩, ⟨45, 8, 45, 13⟩, ⟨45, 8, 45, 15⟩, ⟨45, 8, 45, 24⟩, ⟨45, 25, 45, 30⟩, ⟨45, 8, 45, 31⟩, ⟨45, 8, 45, 31⟩⟩) (SPos.p3 ⟨⟨44, 17, 44, 21⟩, ⟨44, 23, 44, 28⟩, ⟨45, 8, 45, 13⟩, ⟨45, 8, 45, 15⟩, ⟨45, 8, 45, 24⟩, ⟨45, 25, 45, 30⟩, ⟨45, 8, 45, 31⟩, ⟨45, 8, 45, 31⟩⟩) (SPos.p4 ⟨⟨44, 17, 44, 21⟩, ⟨44, 23, 44, 28⟩, ⟨45, 8, 45, 13⟩, ⟨45, 8, 45, 15⟩, ⟨45, 8, 45, 24⟩, ⟨45, 25, 45, 30⟩, ⟨45, 8, 45, 31⟩, ⟨45, 8, 45, 31⟩⟩) (SPos.p5 ⟨⟨44, 17, 44, 21⟩, ⟨44, 23, 44, 28⟩, ⟨45, 8, 45, 13⟩, ⟨45, 8, 45, 15⟩, ⟨45, 8, 45, 24⟩, ⟨45, 25, 45, 30⟩, ⟨45, 8, 45, 31⟩, ⟨45, 8, 45, 31⟩⟩)) supS .none gkV6 gdc6 gpm6 gan6 (.ref cda6) gct6 cc6), gsl6⟩)
    (gc6 : PySem.W.codeIn K (.ref cda6) "NoTie.__init__" = true)
    (gd6 : K.lookup cda6 = some ⟨ccl6, cdd6, .fields vs6, ccs6⟩)
    (gv6 : vs6[2]? = some (.str file6 tf6))
    (gf6 : ((l.prog.main.file : Str) == file6) = true)
    (ge6 : K.lookup cc6 = some ⟨cl6, cld6, .cell (some (.ref C6)), csl6⟩)
    (xa7 : PySem.W.nsIn K mainGlobals "Twice" = some (some (.ref C7)))
    (xl7 : K.lookup C7 = some (excClassObj "Twice" q_7 C7 N7 bs7 [.ref C0, .type "ValueError", .type "Exception", .type "BaseException", .type "object"] true sn7 sb7 ab7 co7 dd7 m7a m7b m7c m7d m7e "ValueError.__new__"))
    (xs7 : PySem.W.findIn K (.ref C7) "__setattr__" = some (some (.builtin "object.__setattr__")))
    (xg7 : PySem.W.findIn K (.ref C7) "__getattribute__" = some (some (.builtin "BaseException.__getattribute__")))
    (xh7 : PySem.W.findIn K (.ref C7) "__getattr__" = some none)
    (xc7 : PySem.W.findIn K (.ref C7) "__class__" = some (some (.builtin "object.__class__")))
    (xi7 : PySem.W.findIn K (.ref C7) "__init__" = some (some (.ref g7)))
    (xt7 : PySem.W.typeIn K (.ref g7) = some (.type "function"))
    (xk7 : PySem.W.keepIn K (.ref C7) = true)
    (xn7_0 : PySem.W.findIn K (.ref C7) "value" = some none)
    (gl7 : K.lookup g7 = some ⟨goc7, god7, .func (PySem.W.fnOf "__init__" "Twice.__init__" (defArgs s_init_Twice) (defBody s_init_Twice) (defScope s_init_Twice) .none gkV7 gdc7 gpm7 gan7 gcd7 gct7), gsl7⟩)
    (gc7 : PySem.W.codeIn K gcd7 "Twice.__init__" = true)
    (gk7 : PySem.W.keepIn K (.ref g7) = true)
    (xa8 : PySem.W.nsIn K mainGlobals "BadText" = some (some (.ref C8)))
    (xl8 : K.lookup C8 = some (excClassObj "BadText" q_8 C8 N8 bs8 [.ref C0, .type "ValueError", .type "Exception", .type "BaseException", .type "object"] true sn8 sb8 ab8 co8 dd8 m8a m8b m8c m8d m8e "ValueError.__new__"))
    (xs8 : PySem.W.findIn K (.ref C8) "__setattr__" = some (some (.builtin "object.__setattr__")))
    (xg8 : PySem.W.findIn K (.ref C8) "__getattribute__" = some (some (.builtin "BaseException.__getattribute__")))
    (xh8 : PySem.W.findIn K (.ref C8) "__getattr__" = some none)
    (xc8 : PySem.W.findIn K (.ref C8) "__class__" = some (some (.builtin "object.__class__")))
    (xi8 : PySem.W.findIn K (.ref C8) "__init__" = some (some (.ref g8)))
    (xt8 : PySem.W.typeIn K (.ref g8) = some (.type "function"))
    (xk8 : PySem.W.keepIn K (.ref C8) = true)
    (xn8_0 : PySem.W.findIn K (.ref C8) "line" = some none)
    (xn8_1 : PySem.W.findIn K (.ref C8) "item" = some none)
    (gl8 : K.lookup g8 = some ⟨goc8, god8, .func (PySem.W.fnOf "__init__" "BadText.__init__" (defArgs s_init_BadText) (defBody s_init_BadText) (defScope s_init_BadText) .none gkV8 gdc8 gpm8 gan8 gcd8 gct8), gsl8⟩)
    (gc8 : PySem.W.codeIn K gcd8 "BadText.__init__" = true)
    (gk8 : PySem.W.keepIn K (.ref g8) = true)
    (e1 : PySem.W.subIn K (.ref C0) (.type "BaseException") = some true)
    (e2 : PySem.W.hasDictIn K C0 = true)
    (e3 : PySem.W.typeIn K (.ref C0) = some (.type "type"))
    (es1 : PySem.W.subIn K (.ref C1) (.ref C0) = some true)
    (es2 : PySem.W.subIn K (.ref C2) (.ref C0) = some true)
    (es3 : PySem.W.subIn K (.ref C3) (.ref C0) = some true)
    (es4 : PySem.W.subIn K (.ref C4) (.ref C0) = some true)
    (es5 : PySem.W.subIn K (.ref C5) (.ref C0) = some true)
    (es6 : PySem.W.subIn K (.ref C6) (.ref C0) = some true)
    (es7 : PySem.W.subIn K (.ref C7) (.ref C0) = some true)
    (es8 : PySem.W.subIn K (.ref C8) (.ref C0) = some true)
    (ey0 : PySem.W.kitOne K (.type "NoneType") (.ref C0) = some false)
    (ey1 : PySem.W.kitOne K (.type "NoneType") (.ref C1) = some false)
    (ey2 : PySem.W.kitOne K (.type "NoneType") (.ref C2) = some false)
    (ey3 : PySem.W.kitOne K (.type "NoneType") (.ref C3) = some false)
    (ey4 : PySem.W.kitOne K (.type "NoneType") (.ref C4) = some false)
    (ey5 : PySem.W.kitOne K (.type "NoneType") (.ref C5) = some false)
    (ey6 : PySem.W.kitOne K (.type "NoneType") (.ref C6) = some false)
    (ey7 : PySem.W.kitOne K (.type "NoneType") (.ref C7) = some false)
    (ey8 : PySem.W.kitOne K (.type "NoneType") (.ref C8) = some false)
    (mc_MOST_DIGITS : PySem.W.nsIn K mainGlobals "MOST_DIGITS" = some (some (.int 60 tk_MOST_DIGITS)))
    (mc_MOST_PLACES : PySem.W.nsIn K mainGlobals "MOST_PLACES" = some (some (.int 13 tk_MOST_PLACES)))
    (mc_MOST_TIES : PySem.W.nsIn K mainGlobals "MOST_TIES" = some (some (.int 12 tk_MOST_TIES)))
    (hop : PySem.W.nsIn K cStatics "thirdparty.any" = some none)
    (htop : (l.prog.main.scope.names.lookup ("super" : Str)).isSome = false)
    (zs : PySem.W.nsIn K mainGlobals "super" = some none)
    (z0 : PySem.W.nsIn K mainGlobals "abs" = some none)
    (z1 : PySem.W.nsIn K mainGlobals "all" = some none)
    (z2 : PySem.W.nsIn K mainGlobals "any" = some none)
    (z3 : PySem.W.nsIn K mainGlobals "bool" = some none)
    (z4 : PySem.W.nsIn K mainGlobals "enumerate" = some none)
    (z5 : PySem.W.nsIn K mainGlobals "int" = some none)
    (z6 : PySem.W.nsIn K mainGlobals "isinstance" = some none)
    (z7 : PySem.W.nsIn K mainGlobals "len" = some none)
    (z8 : PySem.W.nsIn K mainGlobals "list" = some none)
    (z9 : PySem.W.nsIn K mainGlobals "max" = some none)
    (z10 : PySem.W.nsIn K mainGlobals "min" = some none)
    (z11 : PySem.W.nsIn K mainGlobals "range" = some none)
    (z12 : PySem.W.nsIn K mainGlobals "repr" = some none)
    (z13 : PySem.W.nsIn K mainGlobals "set" = some none)
    (z14 : PySem.W.nsIn K mainGlobals "str" = some none)
    (z15 : PySem.W.nsIn K mainGlobals "tuple" = some none)
    (z16 : PySem.W.nsIn K mainGlobals "type" = some none)
    (z17 : PySem.W.nsIn K mainGlobals "zip" = some none)
    : LawAtG l w K CX0 17 63 "script" mg fa h := by
  have e := hfa.symm.trans (PySem.W.mg_of X GN a48)
  cases e
  have F0 := fun_mk (st := s_is_integer) l0 c0 k0
  have b0 := F0.binds (ps := P_is_integer) fun _ _ _ _ _ _ us hl => match us, hl with | [_], _ => rfl
  have F1 := fun_mk (st := s_is_within) l1 c1 k1
  have b1 := F1.binds (ps := P_is_within) fun _ _ _ _ _ _ us hl => match us, hl with | [_, _, _], _ => rfl
  have F2 := fun_mk (st := s_are_integers) l2 c2 k2
  have b2 := F2.binds (ps := P_are_integers) fun _ _ _ _ _ _ us hl => match us, hl with | [_], _ => rfl
  have F3 := fun_mk (st := s_first_twice) l3 c3 k3
  have b3 := F3.binds (ps := P_first_twice) fun _ _ _ _ _ _ us hl => match us, hl with | [_], _ => rfl
  have F4 := fun_mk (st := s_own_names) l4 c4 k4
  have b4 := F4.binds (ps := P_own_names) fun _ _ _ _ _ _ us hl => match us, hl with | [_], _ => rfl
  have F5 := fun_mk (st := s_joined) l5 c5 k5
  have b5 := F5.binds (ps := P_joined) fun _ _ _ _ _ _ us hl => match us, hl with | [_, _, _], _ => rfl
  have F6 := fun_mk (st := s_names_of) l6 c6 k6
  have b6 := F6.binds (ps := P_names_of) fun _ _ _ _ _ _ us hl => match us, hl with | [_, _], _ => rfl
  have F7 := fun_mk (st := s_names_in) l7 c7 k7
  have b7 := F7.binds (ps := P_names_in) fun _ _ _ _ _ _ us hl => match us, hl with | [_, _], _ => rfl
  have F8 := fun_mk (st := s_fixed) l8 c8 k8
  have b8 := F8.binds (ps := P_fixed) fun _ _ _ _ _ _ us hl => match us, hl with | [_], _ => rfl
  have F9 := fun_mk (st := s_items_of) l9 c9 k9
  have b9 := F9.binds (ps := P_items_of) fun _ _ _ _ _ _ us hl => match us, hl with | [_], _ => rfl
  have F10 := fun_mk (st := s_number_of) l10 c10 k10
  have b10 := F10.binds (ps := P_number_of) fun _ _ _ _ _ _ us hl => match us, hl with | [_], _ => rfl
  have F11 := fun_mk (st := s_item_at) l11 c11 k11
  have b11 := F11.binds (ps := P_item_at) fun _ _ _ _ _ _ us hl => match us, hl with | [_, _], _ => rfl
  have F12 := fun_mk (st := s_number_at) l12 c12 k12
  have b12 := F12.binds (ps := P_number_at) fun _ _ _ _ _ _ us hl => match us, hl with | [_, _, _, _], _ => rfl
  have F13 := fun_mk (st := s_read_colon) l13 c13 k13
  have b13 := F13.binds (ps := P_read_colon) fun _ _ _ _ _ _ us hl => match us, hl with | [_, _], _ => rfl
  have F14 := fun_mk (st := s_read_end) l14 c14 k14
  have b14 := F14.binds (ps := P_read_end) fun _ _ _ _ _ _ us hl => match us, hl with | [_, _], _ => rfl
  have F15 := fun_mk (st := s_are_ties) l15 c15 k15
  have b15 := F15.binds (ps := P_are_ties) fun _ _ _ _ _ _ us hl => match us, hl with | [_, _], _ => rfl
  have F16 := fun_mk (st := s_is_pair) l16 c16 k16
  have b16 := F16.binds (ps := P_is_pair) fun _ _ _ _ _ _ us hl => match us, hl with | [_, _], _ => rfl
  have F17 := fun_mk (st := s_hang_together) l17 c17 k17
  have b17 := F17.binds (ps := P_hang_together) fun _ _ _ _ _ _ us hl => match us, hl with | [_, _], _ => rfl
  have F18 := fun_mk (st := s_need_web) l18 c18 k18
  have b18 := F18.binds (ps := P_need_web) fun _ _ _ _ _ _ us hl => match us, hl with | [_, _], _ => rfl
  have F19 := fun_mk (st := s_rounds) l19 c19 k19
  have b19 := F19.binds (ps := P_rounds) fun _ _ _ _ _ _ us hl => match us, hl with | [_], _ => rfl
  have F20 := fun_mk (st := s_steps_from) l20 c20 k20
  have b20 := F20.binds (ps := P_steps_from) fun _ _ _ _ _ _ us hl => match us, hl with | [_], _ => rfl
  have F21 := fun_mk (st := s_rounds_from) l21 c21 k21
  have b21 := F21.binds (ps := P_rounds_from) fun _ _ _ _ _ _ us hl => match us, hl with | [_, _, _], _ => rfl
  have F22 := fun_mk (st := s_bonds) l22 c22 k22
  have b22 := F22.binds (ps := P_bonds) fun _ _ _ _ _ _ us hl => match us, hl with | [_], _ => rfl
  have F23 := fun_mk (st := s_near_places) l23 c23 k23
  have b23 := F23.binds (ps := P_near_places) fun _ _ _ _ _ _ us hl => match us, hl with | [_], _ => rfl
  have F24 := fun_mk (st := s_is_whole) l24 c24 k24
  have b24 := F24.binds (ps := P_is_whole) fun _ _ _ _ _ _ us hl => match us, hl with | [_, _], _ => rfl
  have F25 := fun_mk (st := s_ties_between) l25 c25 k25
  have b25 := F25.binds (ps := P_ties_between) fun _ _ _ _ _ _ us hl => match us, hl with | [_, _], _ => rfl
  have F26 := fun_mk (st := s_bridges) l26 c26 k26
  have b26 := F26.binds (ps := P_bridges) fun _ _ _ _ _ _ us hl => match us, hl with | [_], _ => rfl
  have F27 := fun_mk (st := s_is_bridge) l27 c27 k27
  have b27 := F27.binds (ps := P_is_bridge) fun _ _ _ _ _ _ us hl => match us, hl with | [_, _], _ => rfl
  have F28 := fun_mk (st := s_pieces) l28 c28 k28
  have b28 := F28.binds (ps := P_pieces) fun _ _ _ _ _ _ us hl => match us, hl with | [_], _ => rfl
  have F29 := fun_mk (st := s_piece_names) l29 c29 k29
  have b29 := F29.binds (ps := P_piece_names) fun _ _ _ _ _ _ us hl => match us, hl with | [_], _ => rfl
  have F30 := fun_mk (st := s_together) l30 c30 k30
  have b30 := F30.binds (ps := P_together) fun _ _ _ _ _ _ us hl => match us, hl with | [_], _ => rfl
  have F31 := fun_mk (st := s_parting_places) l31 c31 k31
  have b31 := F31.binds (ps := P_parting_places) fun _ _ _ _ _ _ us hl => match us, hl with | [_], _ => rfl
  have F32 := fun_mk (st := s_is_parting) l32 c32 k32
  have b32 := F32.binds (ps := P_is_parting) fun _ _ _ _ _ _ us hl => match us, hl with | [_, _, _], _ => rfl
  have F33 := fun_mk (st := s_in_a_row) l33 c33 k33
  have b33 := F33.binds (ps := P_in_a_row) fun _ _ _ _ _ _ us hl => match us, hl with | [_], _ => rfl
  have F34 := fun_mk (st := s_beside) l34 c34 k34
  have b34 := F34.binds (ps := P_beside) fun _ _ _ _ _ _ us hl => match us, hl with | [_], _ => rfl
  have F35 := fun_mk (st := s_turned) l35 c35 k35
  have b35 := F35.binds (ps := P_turned) fun _ _ _ _ _ _ us hl => match us, hl with | [_, _, _, _], _ => rfl
  have F36 := fun_mk (st := s_need_place) l36 c36 k36
  have b36 := F36.binds (ps := P_need_place) fun _ _ _ _ _ _ us hl => match us, hl with | [_, _], _ => rfl
  have F37 := fun_mk (st := s_need_ties) l37 c37 k37
  have b37 := F37.binds (ps := P_need_ties) fun _ _ _ _ _ _ us hl => match us, hl with | [_, _], _ => rfl
  have F38 := fun_mk (st := s_third_places) l38 c38 k38
  have b38 := F38.binds (ps := P_third_places) fun _ _ _ _ _ _ us hl => match us, hl with | [_, _, _, _], _ => rfl
  have F39 := fun_mk (st := s__law_gate) l39 c39 k39
  have b39 := F39.binds (ps := P__law_gate) fun _ _ _ _ _ _ us hl => match us, hl with | [_], _ => rfl
  have F40 := fun_mk (st := s__law_push) l40 c40 k40
  have b40 := F40.binds (ps := P__law_push) fun _ _ _ _ _ _ us hl => match us, hl with | [_, _], _ => rfl
  have F41 := fun_mk (st := s__law_any) l41 c41 k41
  have b41 := F41.binds (ps := P__law_any) fun _ _ _ _ _ _ us hl => match us, hl with | [_, _], _ => rfl
  have F42 := fun_mk (st := s__law_heard) l42 c42 k42
  have b42 := F42.binds (ps := P__law_heard) fun _ _ _ _ _ _ us hl => match us, hl with | [_], _ => rfl
  have F43 : FunC K "_law_made_right" "_law_made_right" s__law_made_right f43 (PySem.W.fnOf "_law_made_right" "_law_made_right" (defArgs s__law_made_right) (defBody s__law_made_right) (defScope s__law_made_right) .none kV43 dc43 pm43 an43 (.ref kk43) ct43) kk43 := ⟨⟨_, _, _, _, _, _, _, _, rfl, l43, c43⟩, k43⟩
  have b43 := F43.fun_.binds (ps := P__law_made_right) fun _ _ _ _ _ _ us hl => match us, hl with | [_], _ => rfl
  have F44 : FunC K "_law_ends_right" "_law_ends_right" s__law_ends_right f44 (PySem.W.fnOf "_law_ends_right" "_law_ends_right" (defArgs s__law_ends_right) (defBody s__law_ends_right) (defScope s__law_ends_right) .none kV44 dc44 pm44 an44 (.ref kk44) ct44) kk44 := ⟨⟨_, _, _, _, _, _, _, _, rfl, l44, c44⟩, k44⟩
  have b44 := F44.fun_.binds (ps := P__law_ends_right) fun _ _ _ _ _ _ us hl => match us, hl with | [_], _ => rfl
  have F45 : FunC K "_law_functions_right" "_law_functions_right" s__law_functions_right f45 (PySem.W.fnOf "_law_functions_right" "_law_functions_right" (defArgs s__law_functions_right) (defBody s__law_functions_right) (defScope s__law_functions_right) .none kV45 dc45 pm45 an45 (.ref kk45) ct45) kk45 := ⟨⟨_, _, _, _, _, _, _, _, rfl, l45, c45⟩, k45⟩
  have b45 := F45.fun_.binds (ps := P__law_functions_right) fun _ _ _ _ _ _ us hl => match us, hl with | [_], _ => rfl
  have F46 : FunC K "_law_turned_right" "_law_turned_right" s__law_turned_right f46 (PySem.W.fnOf "_law_turned_right" "_law_turned_right" (defArgs s__law_turned_right) (defBody s__law_turned_right) (defScope s__law_turned_right) .none kV46 dc46 pm46 an46 (.ref kk46) ct46) kk46 := ⟨⟨_, _, _, _, _, _, _, _, rfl, l46, c46⟩, k46⟩
  have b46 := F46.fun_.binds (ps := P__law_turned_right) fun _ _ _ _ _ _ us hl => match us, hl with | [_], _ => rfl
  have F47 : FunC K "_law_texts_right" "_law_texts_right" s__law_texts_right f47 (PySem.W.fnOf "_law_texts_right" "_law_texts_right" (defArgs s__law_texts_right) (defBody s__law_texts_right) (defScope s__law_texts_right) .none kV47 dc47 pm47 an47 (.ref kk47) ct47) kk47 := ⟨⟨_, _, _, _, _, _, _, _, rfl, l47, c47⟩, k47⟩
  have b47 := F47.fun_.binds (ps := P__law_texts_right) fun _ _ _ _ _ _ us hl => match us, hl with | [_], _ => rfl
  have F48 := fun_mk (st := s_law) l48 c48 k48
  have b48 := F48.binds (ps := P_law) fun _ _ _ _ _ _ us hl => match us, hl with | [_], _ => rfl
  have UF0 := fun_mk (st := s_Web___init__) ul0 uc0 uk0
  have ub0 := UF0.binds (ps := P_Web___init__) fun _ _ _ _ _ _ us hl => match us, hl with | [_, _, _], _ => rfl
  have UF1 := fun_mk (st := s_Web___eq__) ul1 uc1 uk1
  have ub1 := UF1.binds (ps := P_Web___eq__) fun _ _ _ _ _ _ us hl => match us, hl with | [_, _], _ => rfl
  have UF2 := fun_mk (st := s_Web___str__) ul2 uc2 uk2
  have ub2 := UF2.binds (ps := P_Web___str__) fun _ _ _ _ _ _ us hl => match us, hl with | [_], _ => rfl
  have UF3 := fun_mk (st := s_Web_read) ul3 uc3 uk3
  have ub3 := UF3.binds (ps := P_Web_read) fun _ _ _ _ _ _ us hl => match us, hl with | [_], _ => rfl
  have n0 : Cn K mg C0 "NetError" := ⟨PySem.W.mg_of X GN xa0, _, _, _, _, _, _, _, _, _, _, _, _, _, _, xl0⟩
  have n1 : Cn K mg C1 "BadNumber" := ⟨PySem.W.mg_of X GN xa1, _, _, _, _, _, _, _, _, _, _, _, _, _, _, xl1⟩
  have n2 : Cn K mg C2 "BadWeb" := ⟨PySem.W.mg_of X GN xa2, _, _, _, _, _, _, _, _, _, _, _, _, _, _, xl2⟩
  have n3 : Cn K mg C3 "Misfit" := ⟨PySem.W.mg_of X GN xa3, _, _, _, _, _, _, _, _, _, _, _, _, _, _, xl3⟩
  have n4 : Cn K mg C4 "Missing" := ⟨PySem.W.mg_of X GN xa4, _, _, _, _, _, _, _, _, _, _, _, _, _, _, xl4⟩
  have n5 : Cn K mg C5 "NoPlace" := ⟨PySem.W.mg_of X GN xa5, _, _, _, _, _, _, _, _, _, _, _, _, _, _, xl5⟩
  have n6 : Cn K mg C6 "NoTie" := ⟨PySem.W.mg_of X GN xa6, _, _, _, _, _, _, _, _, _, _, _, _, _, _, xl6⟩
  have n7 : Cn K mg C7 "Twice" := ⟨PySem.W.mg_of X GN xa7, _, _, _, _, _, _, _, _, _, _, _, _, _, _, xl7⟩
  have n8 : Cn K mg C8 "BadText" := ⟨PySem.W.mg_of X GN xa8, _, _, _, _, _, _, _, _, _, _, _, _, _, _, xl8⟩
  have X1 : XT K mg "BadNumber" C1 g1 [C0] ["NetError"] ["part"] := ⟨PySem.W.mg_of X GN xa1, ⟨_, _, _, _, _, _, _, _, _, _, _, _, _, xl1⟩, (.cons n0 .nil), xs1, xg1, xh1, xc1, hcn, hct, xi1, xt1, xk1, fun f hf => by
    rcases List.mem_cons.mp hf with rfl | hf
    · exact xn1_0
    cases hf⟩
  have GF1 := fun_mk (st := s_init_BadNumber) gl1 gc1 gk1
  have gb1 := GF1.binds (ps := P_init_BadNumber) fun _ _ _ _ _ _ us hl => match us, hl with | [_, _], _ => rfl
  have X2 : XT K mg "BadWeb" C2 g2 [C0] ["NetError"] ["part"] := ⟨PySem.W.mg_of X GN xa2, ⟨_, _, _, _, _, _, _, _, _, _, _, _, _, xl2⟩, (.cons n0 .nil), xs2, xg2, xh2, xc2, hcn, hct, xi2, xt2, xk2, fun f hf => by
    rcases List.mem_cons.mp hf with rfl | hf
    · exact xn2_0
    cases hf⟩
  have GF2 := fun_mk (st := s_init_BadWeb) gl2 gc2 gk2
  have gb2 := GF2.binds (ps := P_init_BadWeb) fun _ _ _ _ _ _ us hl => match us, hl with | [_, _], _ => rfl
  have X3 : XT K mg "Misfit" C3 g3 [C0] ["NetError"] ["part"] := ⟨PySem.W.mg_of X GN xa3, ⟨_, _, _, _, _, _, _, _, _, _, _, _, _, xl3⟩, (.cons n0 .nil), xs3, xg3, xh3, xc3, hcn, hct, xi3, xt3, xk3, fun f hf => by
    rcases List.mem_cons.mp hf with rfl | hf
    · exact xn3_0
    cases hf⟩
  have GF3 := fun_mk (st := s_init_Misfit) gl3 gc3 gk3
  have gb3 := GF3.binds (ps := P_init_Misfit) fun _ _ _ _ _ _ us hl => match us, hl with | [_, _], _ => rfl
  have X4 : XT K mg "Missing" C4 g4 [C0] ["NetError"] ["value"] := ⟨PySem.W.mg_of X GN xa4, ⟨_, _, _, _, _, _, _, _, _, _, _, _, _, xl4⟩, (.cons n0 .nil), xs4, xg4, xh4, xc4, hcn, hct, xi4, xt4, xk4, fun f hf => by
    rcases List.mem_cons.mp hf with rfl | hf
    · exact xn4_0
    cases hf⟩
  have GF4 := fun_mk (st := s_init_Missing) gl4 gc4 gk4
  have gb4 := GF4.binds (ps := P_init_Missing) fun _ _ _ _ _ _ us hl => match us, hl with | [_, _], _ => rfl
  have X7 : XT K mg "Twice" C7 g7 [C0] ["NetError"] ["value"] := ⟨PySem.W.mg_of X GN xa7, ⟨_, _, _, _, _, _, _, _, _, _, _, _, _, xl7⟩, (.cons n0 .nil), xs7, xg7, xh7, xc7, hcn, hct, xi7, xt7, xk7, fun f hf => by
    rcases List.mem_cons.mp hf with rfl | hf
    · exact xn7_0
    cases hf⟩
  have GF7 := fun_mk (st := s_init_Twice) gl7 gc7 gk7
  have gb7 := GF7.binds (ps := P_init_Twice) fun _ _ _ _ _ _ us hl => match us, hl with | [_, _], _ => rfl
  have X8 : XT K mg "BadText" C8 g8 [C0] ["NetError"] ["line", "item"] := ⟨PySem.W.mg_of X GN xa8, ⟨_, _, _, _, _, _, _, _, _, _, _, _, _, xl8⟩, (.cons n0 .nil), xs8, xg8, xh8, xc8, hcn, hct, xi8, xt8, xk8, fun f hf => by
    rcases List.mem_cons.mp hf with rfl | hf
    · exact xn8_0
    rcases List.mem_cons.mp hf with rfl | hf
    · exact xn8_1
    cases hf⟩
  have GF8 := fun_mk (st := s_init_BadText) gl8 gc8 gk8
  have gb8 := GF8.binds (ps := P_init_BadText) fun _ _ _ _ _ _ us hl => match us, hl with | [_, _, _], _ => rfl
  have X5 : XT K mg "NoPlace" C5 g5 [C4, C0] ["Missing", "NetError"] ["value"] := ⟨PySem.W.mg_of X GN xa5, ⟨_, _, _, _, _, _, _, _, _, _, _, _, _, xl5⟩, (.cons n4 (.cons n0 .nil)), xs5, xg5, xh5, xc5, hcn, hct, xi5, xt5, xk5, fun f hf => by
    rcases List.mem_cons.mp hf with rfl | hf
    · exact xn5_0
    cases hf⟩
  have S5 : SFun l.prog K ⟨⟨40, 17, 40, 21⟩, ⟨40, 23, 40, 28⟩, ⟨41, 8, 41, 13⟩, ⟨41, 8, 41, 15⟩, ⟨41, 8, 41, 24⟩, ⟨41, 25, 41, 30⟩, ⟨41, 8, 41, 31⟩, ⟨41, 8, 41, 31⟩⟩ "NoPlace.__init__" g5 C5 cc5 cda5 (PySem.W.ksFn "__init__" "NoPlace.__init__" (supA (SPos.q1 ⟨⟨40, 17, 40, 21⟩, ⟨40, 23, 40, 28⟩, ⟨41, 8, 41, 13⟩, ⟨41, 8, 41, 15⟩, ⟨41, 8, 41, 24⟩, ⟨41, 25, 41, 30⟩, ⟨41, 8, 41, 31⟩, ⟨41, 8, 41, 31⟩⟩) (SPos.q2 ⟨⟨40, 17, 40, 21⟩, ⟨40, 23, 40, 28⟩, ⟨41, 8, 41, 13⟩, ⟨41, 8, 41, 15⟩, ⟨41, 8, 41, 24⟩, ⟨41, 25, 41, 30⟩, ⟨41, 8, 41, 31⟩, ⟨41, 8, 41, 31⟩⟩)) (supB (SPos.p0 ⟨⟨40, 17, 40, 21⟩, ⟨40, 23, 40, 28⟩, ⟨41, 8, 41, 13⟩, ⟨41, 8, 41, 15⟩, ⟨41, 8, 41, 24⟩, ⟨41, 25, 41, 30⟩, ⟨41, 8, 41, 31⟩, ⟨41, 8, 41, 31⟩⟩) (SPos.p1 ⟨⟨40, 17, 40, 21⟩, ⟨40, 23, 40, 28⟩, ⟨41, 8, 41, 13⟩, ⟨41, 8, 41, 15⟩, ⟨41, 8, 41, 24⟩, ⟨41, 25, 41, 30⟩, ⟨41, 8, 41, 31⟩, ⟨41, 8, 41, 31⟩⟩) (SPos.p2 ⟨⟨40, 17, 40, 21⟩, ⟨40, 23, 40, 28⟩, ⟨41, 8, 41, 13⟩, ⟨41, 8, 41, 15⟩, ⟨41, 8, 41, 24⟩, ⟨41, 25, 41, 30⟩, ⟨41, 8, 41, 31⟩, ⟨41, 8, 41, 31⟩⟩) (SPos.p3 ⟨⟨40, 17, 40, 21⟩, ⟨40, 23, 40, 28⟩, ⟨41, 8, 41, 13⟩, ⟨41, 8, 41, 15⟩, ⟨41, 8, 41, 24⟩, ⟨41, 25, 41, 30⟩, ⟨41, 8, 41, 31⟩, ⟨41, 8, 41, 31⟩⟩) (SPos.p4 ⟨⟨40, 17, 40, 21⟩, ⟨40, 23, 40, 28⟩, ⟨41, 8, 41, 13⟩, ⟨41, 8, 41, 15⟩, ⟨41, 8, 41, 24⟩, ⟨41, 25, 41, 30⟩, ⟨41, 8, 41, 31⟩, ⟨41, 8, 41, 31⟩⟩) (SPos.p5 ⟨⟨40, 17, 40, 21⟩, ⟨40, 23, 40, 28⟩, ⟨41, 8, 41, 13⟩, ⟨41, 8, 41, 15⟩, ⟨41, 8, 41, 24⟩, ⟨41, 25, 41, 30⟩, ⟨41, 8, 41, 31⟩, ⟨41, 8, 41, 31⟩⟩)) supS .none gkV5 gdc5 gpm5 gan5 (.ref cda5) gct5 cc5) := ⟨⟨_, _, _, _, _, _, _, _, rfl, gl5, gc5⟩, ⟨_, _, _, _, _, _, gd5, gv5, gf5⟩, ⟨_, _, _, ge5⟩, htop, hop⟩
  have U5 : SupC K C5 C5 g4 := X5.supc X4 gx4
  have gb5 : Binds K (PySem.W.ksFn "__init__" "NoPlace.__init__" (supA (SPos.q1 ⟨⟨40, 17, 40, 21⟩, ⟨40, 23, 40, 28⟩, ⟨41, 8, 41, 13⟩, ⟨41, 8, 41, 15⟩, ⟨41, 8, 41, 24⟩, ⟨41, 25, 41, 30⟩, ⟨41, 8, 41, 31⟩, ⟨41, 8, 41, 31⟩⟩) (SPos.q2 ⟨⟨40, 17, 40, 21⟩, ⟨40, 23, 40, 28⟩, ⟨41, 8, 41, 13⟩, ⟨41, 8, 41, 15⟩, ⟨41, 8, 41, 24⟩, ⟨41, 25, 41, 30⟩, ⟨41, 8, 41, 31⟩, ⟨41, 8, 41, 31⟩⟩)) (supB (SPos.p0 ⟨⟨40, 17, 40, 21⟩, ⟨40, 23, 40, 28⟩, ⟨41, 8, 41, 13⟩, ⟨41, 8, 41, 15⟩, ⟨41, 8, 41, 24⟩, ⟨41, 25, 41, 30⟩, ⟨41, 8, 41, 31⟩, ⟨41, 8, 41, 31⟩⟩) (SPos.p1 ⟨⟨40, 17, 40, 21⟩, ⟨40, 23, 40, 28⟩, ⟨41, 8, 41, 13⟩, ⟨41, 8, 41, 15⟩, ⟨41, 8, 41, 24⟩, ⟨41, 25, 41, 30⟩, ⟨41, 8, 41, 31⟩, ⟨41, 8, 41, 31⟩⟩) (SPos.p2 ⟨⟨40, 17, 40, 21⟩, ⟨40, 23, 40, 28⟩, ⟨41, 8, 41, 13⟩, ⟨41, 8, 41, 15⟩, ⟨41, 8, 41, 24⟩, ⟨41, 25, 41, 30⟩, ⟨41, 8, 41, 31⟩, ⟨41, 8, 41, 31⟩⟩) (SPos.p3 ⟨⟨40, 17, 40, 21⟩, ⟨40, 23, 40, 28⟩, ⟨41, 8, 41, 13⟩, ⟨41, 8, 41, 15⟩, ⟨41, 8, 41, 24⟩, ⟨41, 25, 41, 30⟩, ⟨41, 8, 41, 31⟩, ⟨41, 8, 41, 31⟩⟩) (SPos.p4 ⟨⟨40, 17, 40, 21⟩, ⟨40, 23, 40, 28⟩, ⟨41, 8, 41, 13⟩, ⟨41, 8, 41, 15⟩, ⟨41, 8, 41, 24⟩, ⟨41, 25, 41, 30⟩, ⟨41, 8, 41, 31⟩, ⟨41, 8, 41, 31⟩⟩) (SPos.p5 ⟨⟨40, 17, 40, 21⟩, ⟨40, 23, 40, 28⟩, ⟨41, 8, 41, 13⟩, ⟨41, 8, 41, 15⟩, ⟨41, 8, 41, 24⟩, ⟨41, 25, 41, 30⟩, ⟨41, 8, 41, 31⟩, ⟨41, 8, 41, 31⟩⟩)) supS .none gkV5 gdc5 gpm5 gan5 (.ref cda5) gct5 cc5) P_init_NoPlace [] := binds_sup
  have X6 : XT K mg "NoTie" C6 g6 [C4, C0] ["Missing", "NetError"] ["value"] := ⟨PySem.W.mg_of X GN xa6, ⟨_, _, _, _, _, _, _, _, _, _, _, _, _, xl6⟩, (.cons n4 (.cons n0 .nil)), xs6, xg6, xh6, xc6, hcn, hct, xi6, xt6, xk6, fun f hf => by
    rcases List.mem_cons.mp hf with rfl | hf
    · exact xn6_0
    cases hf⟩
  have S6 : SFun l.prog K ⟨⟨44, 17, 44, 21⟩, ⟨44, 23, 44, 28⟩, ⟨45, 8, 45, 13⟩, ⟨45, 8, 45, 15⟩, ⟨45, 8, 45, 24⟩, ⟨45, 25, 45, 30⟩, ⟨45, 8, 45, 31⟩, ⟨45, 8, 45, 31⟩⟩ "NoTie.__init__" g6 C6 cc6 cda6 (PySem.W.ksFn "__init__" "NoTie.__init__" (supA (SPos.q1 ⟨⟨44, 17, 44, 21⟩, ⟨44, 23, 44, 28⟩, ⟨45, 8, 45, 13⟩, ⟨45, 8, 45, 15⟩, ⟨45, 8, 45, 24⟩, ⟨45, 25, 45, 30⟩, ⟨45, 8, 45, 31⟩, ⟨45, 8, 45, 31⟩⟩) (SPos.q2 ⟨⟨44, 17, 44, 21⟩, ⟨44, 23, 44, 28⟩, ⟨45, 8, 45, 13⟩, ⟨45, 8, 45, 15⟩, ⟨45, 8, 45, 24⟩, ⟨45, 25, 45, 30⟩, ⟨45, 8, 45, 31⟩, ⟨45, 8, 45, 31⟩⟩)) (supB (SPos.p0 ⟨⟨44, 17, 44, 21⟩, ⟨44, 23, 44, 28⟩, ⟨45, 8, 45, 13⟩, ⟨45, 8, 45, 15⟩, ⟨45, 8, 45, 24⟩, ⟨45, 25, 45, 30⟩, ⟨45, 8, 45, 31⟩, ⟨45, 8, 45, 31⟩⟩) (SPos.p1 ⟨⟨44, 17, 44, 21⟩, ⟨44, 23, 44, 28⟩, ⟨45, 8, 45, 13⟩, ⟨45, 8, 45, 15⟩, ⟨45, 8, 45, 24⟩, ⟨45, 25, 45, 30⟩, ⟨45, 8, 45, 31⟩, ⟨45, 8, 45, 31⟩⟩) (SPos.p2 ⟨⟨44, 17, 44, 21⟩, ⟨44, 23, 44, 28⟩, ⟨45, 8, 45, 13⟩, ⟨45, 8, 45, 15⟩, ⟨45, 8, 45, 24⟩, ⟨45, 25, 45, 30⟩, ⟨45, 8, 45, 31⟩, ⟨45, 8, 45, 31⟩⟩) (SPos.p3 ⟨⟨44, 17, 44, 21⟩, ⟨44, 23, 44, 28⟩, ⟨45, 8, 45, 13⟩, ⟨45, 8, 45, 15⟩, ⟨45, 8, 45, 24⟩, ⟨45, 25, 45, 30⟩, ⟨45, 8, 45, 31⟩, ⟨45, 8, 45, 31⟩⟩) (SPos.p4 ⟨⟨44, 17, 44, 21⟩, ⟨44, 23, 44, 28⟩, ⟨45, 8, 45, 13⟩, ⟨45, 8, 45, 15⟩, ⟨45, 8, 45, 24⟩, ⟨45, 25, 45, 30⟩, ⟨45, 8, 45, 31⟩, ⟨45, 8, 45, 31⟩⟩) (SPos.p5 ⟨⟨44, 17, 44, 21⟩, ⟨44, 23, 44, 28⟩, ⟨45, 8, 45, 13⟩, ⟨45, 8, 45, 15⟩, ⟨45, 8, 45, 24⟩, ⟨45, 25, 45, 30⟩, ⟨45, 8, 45, 31⟩, ⟨45, 8, 45, 31⟩⟩)) supS .none gkV6 gdc6 gpm6 gan6 (.ref cda6) gct6 cc6) := ⟨⟨_, _, _, _, _, _, _, _, rfl, gl6, gc6⟩, ⟨_, _, _, _, _, _, gd6, gv6, gf6⟩, ⟨_, _, _, ge6⟩, htop, hop⟩
  have U6 : SupC K C6 C6 g4 := X6.supc X4 gx4
  have gb6 : Binds K (PySem.W.ksFn "__init__" "NoTie.__init__" (supA (SPos.q1 ⟨⟨44, 17, 44, 21⟩, ⟨44, 23, 44, 28⟩, ⟨45, 8, 45, 13⟩, ⟨45, 8, 45, 15⟩, ⟨45, 8, 45, 24⟩, ⟨45, 25, 45, 30⟩, ⟨45, 8, 45, 31⟩, ⟨45, 8, 45, 31⟩⟩) (SPos.q2 ⟨⟨44, 17, 44, 21⟩, ⟨44, 23, 44, 28⟩, ⟨45, 8, 45, 13⟩, ⟨45, 8, 45, 15⟩, ⟨45, 8, 45, 24⟩, ⟨45, 25, 45, 30⟩, ⟨45, 8, 45, 31⟩, ⟨45, 8, 45, 31⟩⟩)) (supB (SPos.p0 ⟨⟨44, 17, 44, 21⟩, ⟨44, 23, 44, 28⟩, ⟨45, 8, 45, 13⟩, ⟨45, 8, 45, 15⟩, ⟨45, 8, 45, 24⟩, ⟨45, 25, 45, 30⟩, ⟨45, 8, 45, 31⟩, ⟨45, 8, 45, 31⟩⟩) (SPos.p1 ⟨⟨44, 17, 44, 21⟩, ⟨44, 23, 44, 28⟩, ⟨45, 8, 45, 13⟩, ⟨45, 8, 45, 15⟩, ⟨45, 8, 45, 24⟩, ⟨45, 25, 45, 30⟩, ⟨45, 8, 45, 31⟩, ⟨45, 8, 45, 31⟩⟩) (SPos.p2 ⟨⟨44, 17, 44, 21⟩, ⟨44, 23, 44, 28⟩, ⟨45, 8, 45, 13⟩, ⟨45, 8, 45, 15⟩, ⟨45, 8, 45, 24⟩, ⟨45, 25, 45, 30⟩, ⟨45, 8, 45, 31⟩, ⟨45, 8, 45, 31⟩⟩) (SPos.p3 ⟨⟨44, 17, 44, 21⟩, ⟨44, 23, 44, 28⟩, ⟨45, 8, 45, 13⟩, ⟨45, 8, 45, 15⟩, ⟨45, 8, 45, 24⟩, ⟨45, 25, 45, 30⟩, ⟨45, 8, 45, 31⟩, ⟨45, 8, 45, 31⟩⟩) (SPos.p4 ⟨⟨44, 17, 44, 21⟩, ⟨44, 23, 44, 28⟩, ⟨45, 8, 45, 13⟩, ⟨45, 8, 45, 15⟩, ⟨45, 8, 45, 24⟩, ⟨45, 25, 45, 30⟩, ⟨45, 8, 45, 31⟩, ⟨45, 8, 45, 31⟩⟩) (SPos.p5 ⟨⟨44, 17, 44, 21⟩, ⟨44, 23, 44, 28⟩, ⟨45, 8, 45, 13⟩, ⟨45, 8, 45, 15⟩, ⟨45, 8, 45, 24⟩, ⟨45, 25, 45, 30⟩, ⟨45, 8, 45, 31⟩, ⟨45, 8, 45, 31⟩⟩)) supS .none gkV6 gdc6 gpm6 gan6 (.ref cda6) gct6 cc6) P_init_NoTie [] := binds_sup
  let A : Ad := { p_read := pR, k__law_made_right := kk43, t__law_made_right := kp43, k__law_ends_right := kk44, t__law_ends_right := kp44, k__law_functions_right := kk45, t__law_functions_right := kp45, k__law_turned_right := kk46, t__law_turned_right := kp46, k__law_texts_right := kk47, t__law_texts_right := kp47, c_Web := CO, a_is_integer := f0, d_is_integer := (PySem.W.fnOf "is_integer" "is_integer" (defArgs s_is_integer) (defBody s_is_integer) (defScope s_is_integer) .none kV0 dc0 pm0 an0 cd0 ct0), a_is_within := f1, d_is_within := (PySem.W.fnOf "is_within" "is_within" (defArgs s_is_within) (defBody s_is_within) (defScope s_is_within) .none kV1 dc1 pm1 an1 cd1 ct1), a_are_integers := f2, d_are_integers := (PySem.W.fnOf "are_integers" "are_integers" (defArgs s_are_integers) (defBody s_are_integers) (defScope s_are_integers) .none kV2 dc2 pm2 an2 cd2 ct2), a_first_twice := f3, d_first_twice := (PySem.W.fnOf "first_twice" "first_twice" (defArgs s_first_twice) (defBody s_first_twice) (defScope s_first_twice) .none kV3 dc3 pm3 an3 cd3 ct3), a_own_names := f4, d_own_names := (PySem.W.fnOf "own_names" "own_names" (defArgs s_own_names) (defBody s_own_names) (defScope s_own_names) .none kV4 dc4 pm4 an4 cd4 ct4), a_joined := f5, d_joined := (PySem.W.fnOf "joined" "joined" (defArgs s_joined) (defBody s_joined) (defScope s_joined) .none kV5 dc5 pm5 an5 cd5 ct5), a_names_of := f6, d_names_of := (PySem.W.fnOf "names_of" "names_of" (defArgs s_names_of) (defBody s_names_of) (defScope s_names_of) .none kV6 dc6 pm6 an6 cd6 ct6), a_names_in := f7, d_names_in := (PySem.W.fnOf "names_in" "names_in" (defArgs s_names_in) (defBody s_names_in) (defScope s_names_in) .none kV7 dc7 pm7 an7 cd7 ct7), a_fixed := f8, d_fixed := (PySem.W.fnOf "fixed" "fixed" (defArgs s_fixed) (defBody s_fixed) (defScope s_fixed) .none kV8 dc8 pm8 an8 cd8 ct8), a_items_of := f9, d_items_of := (PySem.W.fnOf "items_of" "items_of" (defArgs s_items_of) (defBody s_items_of) (defScope s_items_of) .none kV9 dc9 pm9 an9 cd9 ct9), a_number_of := f10, d_number_of := (PySem.W.fnOf "number_of" "number_of" (defArgs s_number_of) (defBody s_number_of) (defScope s_number_of) .none kV10 dc10 pm10 an10 cd10 ct10), a_item_at := f11, d_item_at := (PySem.W.fnOf "item_at" "item_at" (defArgs s_item_at) (defBody s_item_at) (defScope s_item_at) .none kV11 dc11 pm11 an11 cd11 ct11), a_number_at := f12, d_number_at := (PySem.W.fnOf "number_at" "number_at" (defArgs s_number_at) (defBody s_number_at) (defScope s_number_at) .none kV12 dc12 pm12 an12 cd12 ct12), a_read_colon := f13, d_read_colon := (PySem.W.fnOf "read_colon" "read_colon" (defArgs s_read_colon) (defBody s_read_colon) (defScope s_read_colon) .none kV13 dc13 pm13 an13 cd13 ct13), a_read_end := f14, d_read_end := (PySem.W.fnOf "read_end" "read_end" (defArgs s_read_end) (defBody s_read_end) (defScope s_read_end) .none kV14 dc14 pm14 an14 cd14 ct14), a_are_ties := f15, d_are_ties := (PySem.W.fnOf "are_ties" "are_ties" (defArgs s_are_ties) (defBody s_are_ties) (defScope s_are_ties) .none kV15 dc15 pm15 an15 cd15 ct15), a_is_pair := f16, d_is_pair := (PySem.W.fnOf "is_pair" "is_pair" (defArgs s_is_pair) (defBody s_is_pair) (defScope s_is_pair) .none kV16 dc16 pm16 an16 cd16 ct16), a_hang_together := f17, d_hang_together := (PySem.W.fnOf "hang_together" "hang_together" (defArgs s_hang_together) (defBody s_hang_together) (defScope s_hang_together) .none kV17 dc17 pm17 an17 cd17 ct17), a_need_web := f18, d_need_web := (PySem.W.fnOf "need_web" "need_web" (defArgs s_need_web) (defBody s_need_web) (defScope s_need_web) .none kV18 dc18 pm18 an18 cd18 ct18), a_rounds := f19, d_rounds := (PySem.W.fnOf "rounds" "rounds" (defArgs s_rounds) (defBody s_rounds) (defScope s_rounds) .none kV19 dc19 pm19 an19 cd19 ct19), a_steps_from := f20, d_steps_from := (PySem.W.fnOf "steps_from" "steps_from" (defArgs s_steps_from) (defBody s_steps_from) (defScope s_steps_from) .none kV20 dc20 pm20 an20 cd20 ct20), a_rounds_from := f21, d_rounds_from := (PySem.W.fnOf "rounds_from" "rounds_from" (defArgs s_rounds_from) (defBody s_rounds_from) (defScope s_rounds_from) .none kV21 dc21 pm21 an21 cd21 ct21), a_bonds := f22, d_bonds := (PySem.W.fnOf "bonds" "bonds" (defArgs s_bonds) (defBody s_bonds) (defScope s_bonds) .none kV22 dc22 pm22 an22 cd22 ct22), a_near_places := f23, d_near_places := (PySem.W.fnOf "near_places" "near_places" (defArgs s_near_places) (defBody s_near_places) (defScope s_near_places) .none kV23 dc23 pm23 an23 cd23 ct23), a_is_whole := f24, d_is_whole := (PySem.W.fnOf "is_whole" "is_whole" (defArgs s_is_whole) (defBody s_is_whole) (defScope s_is_whole) .none kV24 dc24 pm24 an24 cd24 ct24), a_ties_between := f25, d_ties_between := (PySem.W.fnOf "ties_between" "ties_between" (defArgs s_ties_between) (defBody s_ties_between) (defScope s_ties_between) .none kV25 dc25 pm25 an25 cd25 ct25), a_bridges := f26, d_bridges := (PySem.W.fnOf "bridges" "bridges" (defArgs s_bridges) (defBody s_bridges) (defScope s_bridges) .none kV26 dc26 pm26 an26 cd26 ct26), a_is_bridge := f27, d_is_bridge := (PySem.W.fnOf "is_bridge" "is_bridge" (defArgs s_is_bridge) (defBody s_is_bridge) (defScope s_is_bridge) .none kV27 dc27 pm27 an27 cd27 ct27), a_pieces := f28, d_pieces := (PySem.W.fnOf "pieces" "pieces" (defArgs s_pieces) (defBody s_pieces) (defScope s_pieces) .none kV28 dc28 pm28 an28 cd28 ct28), a_piece_names := f29, d_piece_names := (PySem.W.fnOf "piece_names" "piece_names" (defArgs s_piece_names) (defBody s_piece_names) (defScope s_piece_names) .none kV29 dc29 pm29 an29 cd29 ct29), a_together := f30, d_together := (PySem.W.fnOf "together" "together" (defArgs s_together) (defBody s_together) (defScope s_together) .none kV30 dc30 pm30 an30 cd30 ct30), a_parting_places := f31, d_parting_places := (PySem.W.fnOf "parting_places" "parting_places" (defArgs s_parting_places) (defBody s_parting_places) (defScope s_parting_places) .none kV31 dc31 pm31 an31 cd31 ct31), a_is_parting := f32, d_is_parting := (PySem.W.fnOf "is_parting" "is_parting" (defArgs s_is_parting) (defBody s_is_parting) (defScope s_is_parting) .none kV32 dc32 pm32 an32 cd32 ct32), a_in_a_row := f33, d_in_a_row := (PySem.W.fnOf "in_a_row" "in_a_row" (defArgs s_in_a_row) (defBody s_in_a_row) (defScope s_in_a_row) .none kV33 dc33 pm33 an33 cd33 ct33), a_beside := f34, d_beside := (PySem.W.fnOf "beside" "beside" (defArgs s_beside) (defBody s_beside) (defScope s_beside) .none kV34 dc34 pm34 an34 cd34 ct34), a_turned := f35, d_turned := (PySem.W.fnOf "turned" "turned" (defArgs s_turned) (defBody s_turned) (defScope s_turned) .none kV35 dc35 pm35 an35 cd35 ct35), a_need_place := f36, d_need_place := (PySem.W.fnOf "need_place" "need_place" (defArgs s_need_place) (defBody s_need_place) (defScope s_need_place) .none kV36 dc36 pm36 an36 cd36 ct36), a_need_ties := f37, d_need_ties := (PySem.W.fnOf "need_ties" "need_ties" (defArgs s_need_ties) (defBody s_need_ties) (defScope s_need_ties) .none kV37 dc37 pm37 an37 cd37 ct37), a_third_places := f38, d_third_places := (PySem.W.fnOf "third_places" "third_places" (defArgs s_third_places) (defBody s_third_places) (defScope s_third_places) .none kV38 dc38 pm38 an38 cd38 ct38), a__law_gate := f39, d__law_gate := (PySem.W.fnOf "_law_gate" "_law_gate" (defArgs s__law_gate) (defBody s__law_gate) (defScope s__law_gate) .none kV39 dc39 pm39 an39 cd39 ct39), a__law_push := f40, d__law_push := (PySem.W.fnOf "_law_push" "_law_push" (defArgs s__law_push) (defBody s__law_push) (defScope s__law_push) .none kV40 dc40 pm40 an40 cd40 ct40), a__law_any := f41, d__law_any := (PySem.W.fnOf "_law_any" "_law_any" (defArgs s__law_any) (defBody s__law_any) (defScope s__law_any) .none kV41 dc41 pm41 an41 cd41 ct41), a__law_heard := f42, d__law_heard := (PySem.W.fnOf "_law_heard" "_law_heard" (defArgs s__law_heard) (defBody s__law_heard) (defScope s__law_heard) .none kV42 dc42 pm42 an42 cd42 ct42), a__law_made_right := f43, d__law_made_right := (PySem.W.fnOf "_law_made_right" "_law_made_right" (defArgs s__law_made_right) (defBody s__law_made_right) (defScope s__law_made_right) .none kV43 dc43 pm43 an43 (.ref kk43) ct43), a__law_ends_right := f44, d__law_ends_right := (PySem.W.fnOf "_law_ends_right" "_law_ends_right" (defArgs s__law_ends_right) (defBody s__law_ends_right) (defScope s__law_ends_right) .none kV44 dc44 pm44 an44 (.ref kk44) ct44), a__law_functions_right := f45, d__law_functions_right := (PySem.W.fnOf "_law_functions_right" "_law_functions_right" (defArgs s__law_functions_right) (defBody s__law_functions_right) (defScope s__law_functions_right) .none kV45 dc45 pm45 an45 (.ref kk45) ct45), a__law_turned_right := f46, d__law_turned_right := (PySem.W.fnOf "_law_turned_right" "_law_turned_right" (defArgs s__law_turned_right) (defBody s__law_turned_right) (defScope s__law_turned_right) .none kV46 dc46 pm46 an46 (.ref kk46) ct46), a__law_texts_right := f47, d__law_texts_right := (PySem.W.fnOf "_law_texts_right" "_law_texts_right" (defArgs s__law_texts_right) (defBody s__law_texts_right) (defScope s__law_texts_right) .none kV47 dc47 pm47 an47 (.ref kk47) ct47), a_law := fa, d_law := (PySem.W.fnOf "law" "law" (defArgs s_law) (defBody s_law) (defScope s_law) .none kV48 dc48 pm48 an48 cd48 ct48), a_Web___init__ := u0, d_Web___init__ := (PySem.W.fnOf "__init__" "Web.__init__" (defArgs s_Web___init__) (defBody s_Web___init__) (defScope s_Web___init__) .none ukV0 udc0 upm0 uan0 ucd0 uct0), a_Web___eq__ := u1, d_Web___eq__ := (PySem.W.fnOf "__eq__" "Web.__eq__" (defArgs s_Web___eq__) (defBody s_Web___eq__) (defScope s_Web___eq__) .none ukV1 udc1 upm1 uan1 ucd1 uct1), a_Web___str__ := u2, d_Web___str__ := (PySem.W.fnOf "__str__" "Web.__str__" (defArgs s_Web___str__) (defBody s_Web___str__) (defScope s_Web___str__) .none ukV2 udc2 upm2 uan2 ucd2 uct2), a_Web_read := u3, d_Web_read := (PySem.W.fnOf "read" "Web.read" (defArgs s_Web_read) (defBody s_Web_read) (defScope s_Web_read) .none ukV3 udc3 upm3 uan3 ucd3 uct3), c_NetError := C0, c_BadNumber := C1, c_BadWeb := C2, c_Misfit := C3, c_Missing := C4, c_NoPlace := C5, c_NoTie := C6, c_Twice := C7, c_BadText := C8, i_BadNumber := g1, d_init_BadNumber := (PySem.W.fnOf "__init__" "BadNumber.__init__" (defArgs s_init_BadNumber) (defBody s_init_BadNumber) (defScope s_init_BadNumber) .none gkV1 gdc1 gpm1 gan1 gcd1 gct1), i_BadWeb := g2, d_init_BadWeb := (PySem.W.fnOf "__init__" "BadWeb.__init__" (defArgs s_init_BadWeb) (defBody s_init_BadWeb) (defScope s_init_BadWeb) .none gkV2 gdc2 gpm2 gan2 gcd2 gct2), i_Misfit := g3, d_init_Misfit := (PySem.W.fnOf "__init__" "Misfit.__init__" (defArgs s_init_Misfit) (defBody s_init_Misfit) (defScope s_init_Misfit) .none gkV3 gdc3 gpm3 gan3 gcd3 gct3), i_Missing := g4, d_init_Missing := (PySem.W.fnOf "__init__" "Missing.__init__" (defArgs s_init_Missing) (defBody s_init_Missing) (defScope s_init_Missing) .none gkV4 gdc4 gpm4 gan4 gcd4 gct4), i_NoPlace := g5, d_init_NoPlace := (PySem.W.ksFn "__init__" "NoPlace.__init__" (supA (SPos.q1 ⟨⟨40, 17, 40, 21⟩, ⟨40, 23, 40, 28⟩, ⟨41, 8, 41, 13⟩, ⟨41, 8, 41, 15⟩, ⟨41, 8, 41, 24⟩, ⟨41, 25, 41, 30⟩, ⟨41, 8, 41, 31⟩, ⟨41, 8, 41, 31⟩⟩) (SPos.q2 ⟨⟨40, 17, 40, 21⟩, ⟨40, 23, 40, 28⟩, ⟨41, 8, 41, 13⟩, ⟨41, 8, 41, 15⟩, ⟨41, 8, 41, 24⟩, ⟨41, 25, 41, 30⟩, ⟨41, 8, 41, 31⟩, ⟨41, 8, 41, 31⟩⟩)) (supB (SPos.p0 ⟨⟨40, 17, 40, 21⟩, ⟨40, 23, 40, 28⟩, ⟨41, 8, 41, 13⟩, ⟨41, 8, 41, 15⟩, ⟨41, 8, 41, 24⟩, ⟨41, 25, 41, 30⟩, ⟨41, 8, 41, 31⟩, ⟨41, 8, 41, 31⟩⟩) (SPos.p1 ⟨⟨40, 17, 40, 21⟩, ⟨40, 23, 40, 28⟩, ⟨41, 8, 41, 13⟩, ⟨41, 8, 41, 15⟩, ⟨41, 8, 41, 24⟩, ⟨41, 25, 41, 30⟩, ⟨41, 8, 41, 31⟩, ⟨41, 8, 41, 31⟩⟩) (SPos.p2 ⟨⟨40, 17, 40, 21⟩, ⟨40, 23, 40, 28⟩, ⟨41, 8, 41, 13⟩, ⟨41, 8, 41, 15⟩, ⟨41, 8, 41, 24⟩, ⟨41, 25, 41, 30⟩, ⟨41, 8, 41, 31⟩, ⟨41, 8, 41, 31⟩⟩) (SPos.p3 ⟨⟨40, 17, 40, 21⟩, ⟨40, 23, 40, 28⟩, ⟨41, 8, 41, 13⟩, ⟨41, 8, 41, 15⟩, ⟨41, 8, 41, 24⟩, ⟨41, 25, 41, 30⟩, ⟨41, 8, 41, 31⟩, ⟨41, 8, 41, 31⟩⟩) (SPos.p4 ⟨⟨40, 17, 40, 21⟩, ⟨40, 23, 40, 28⟩, ⟨41, 8, 41, 13⟩, ⟨41, 8, 41, 15⟩, ⟨41, 8, 41, 24⟩, ⟨41, 25, 41, 30⟩, ⟨41, 8, 41, 31⟩, ⟨41, 8, 41, 31⟩⟩) (SPos.p5 ⟨⟨40, 17, 40, 21⟩, ⟨40, 23, 40, 28⟩, ⟨41, 8, 41, 13⟩, ⟨41, 8, 41, 15⟩, ⟨41, 8, 41, 24⟩, ⟨41, 25, 41, 30⟩, ⟨41, 8, 41, 31⟩, ⟨41, 8, 41, 31⟩⟩)) supS .none gkV5 gdc5 gpm5 gan5 (.ref cda5) gct5 cc5), i_NoTie := g6, d_init_NoTie := (PySem.W.ksFn "__init__" "NoTie.__init__" (supA (SPos.q1 ⟨⟨44, 17, 44, 21⟩, ⟨44, 23, 44, 28⟩, ⟨45, 8, 45, 13⟩, ⟨45, 8, 45, 15⟩, ⟨45, 8, 45, 24⟩, ⟨45, 25, 45, 30⟩, ⟨45, 8, 45, 31⟩, ⟨45, 8, 45, 31⟩⟩) (SPos.q2 ⟨⟨44, 17, 44, 21⟩, ⟨44, 23, 44, 28⟩, ⟨45, 8, 45, 13⟩, ⟨45, 8, 45, 15⟩, ⟨45, 8, 45, 24⟩, ⟨45, 25, 45, 30⟩, ⟨45, 8, 45, 31⟩, ⟨45, 8, 45, 31⟩⟩)) (supB (SPos.p0 ⟨⟨44, 17, 44, 21⟩, ⟨44, 23, 44, 28⟩, ⟨45, 8, 45, 13⟩, ⟨45, 8, 45, 15⟩, ⟨45, 8, 45, 24⟩, ⟨45, 25, 45, 30⟩, ⟨45, 8, 45, 31⟩, ⟨45, 8, 45, 31⟩⟩) (SPos.p1 ⟨⟨44, 17, 44, 21⟩, ⟨44, 23, 44, 28⟩, ⟨45, 8, 45, 13⟩, ⟨45, 8, 45, 15⟩, ⟨45, 8, 45, 24⟩, ⟨45, 25, 45, 30⟩, ⟨45, 8, 45, 31⟩, ⟨45, 8, 45, 31⟩⟩) (SPos.p2 ⟨⟨44, 17, 44, 21⟩, ⟨44, 23, 44, 28⟩, ⟨45, 8, 45, 13⟩, ⟨45, 8, 45, 15⟩, ⟨45, 8, 45, 24⟩, ⟨45, 25, 45, 30⟩, ⟨45, 8, 45, 31⟩, ⟨45, 8, 45, 31⟩⟩) (SPos.p3 ⟨⟨44, 17, 44, 21⟩, ⟨44, 23, 44, 28⟩, ⟨45, 8, 45, 13⟩, ⟨45, 8, 45, 15⟩, ⟨45, 8, 45, 24⟩, ⟨45, 25, 45, 30⟩, ⟨45, 8, 45, 31⟩, ⟨45, 8, 45, 31⟩⟩) (SPos.p4 ⟨⟨44, 17, 44, 21⟩, ⟨44, 23, 44, 28⟩, ⟨45, 8, 45, 13⟩, ⟨45, 8, 45, 15⟩, ⟨45, 8, 45, 24⟩, ⟨45, 25, 45, 30⟩, ⟨45, 8, 45, 31⟩, ⟨45, 8, 45, 31⟩⟩) (SPos.p5 ⟨⟨44, 17, 44, 21⟩, ⟨44, 23, 44, 28⟩, ⟨45, 8, 45, 13⟩, ⟨45, 8, 45, 15⟩, ⟨45, 8, 45, 24⟩, ⟨45, 25, 45, 30⟩, ⟨45, 8, 45, 31⟩, ⟨45, 8, 45, 31⟩⟩)) supS .none gkV6 gdc6 gpm6 gan6 (.ref cda6) gct6 cc6), i_Twice := g7, d_init_Twice := (PySem.W.fnOf "__init__" "Twice.__init__" (defArgs s_init_Twice) (defBody s_init_Twice) (defScope s_init_Twice) .none gkV7 gdc7 gpm7 gan7 gcd7 gct7), i_BadText := g8, d_init_BadText := (PySem.W.fnOf "__init__" "BadText.__init__" (defArgs s_init_BadText) (defBody s_init_BadText) (defScope s_init_BadText) .none gkV8 gdc8 gpm8 gan8 gcd8 gct8), cc_NoPlace := cc5, cda_NoPlace := cda5, cc_NoTie := cc6, cda_NoTie := cda6, t_MOST_DIGITS := tk_MOST_DIGITS, t_MOST_PLACES := tk_MOST_PLACES, t_MOST_TIES := tk_MOST_TIES }
  have T : Txt l.prog K mg A := { g_is_integer := PySem.W.mg_of X GN a0, F_is_integer := F0, b_is_integer := b0, g_is_within := PySem.W.mg_of X GN a1, F_is_within := F1, b_is_within := b1, g_are_integers := PySem.W.mg_of X GN a2, F_are_integers := F2, b_are_integers := b2, g_first_twice := PySem.W.mg_of X GN a3, F_first_twice := F3, b_first_twice := b3, g_own_names := PySem.W.mg_of X GN a4, F_own_names := F4, b_own_names := b4, g_joined := PySem.W.mg_of X GN a5, F_joined := F5, b_joined := b5, g_names_of := PySem.W.mg_of X GN a6, F_names_of := F6, b_names_of := b6, g_names_in := PySem.W.mg_of X GN a7, F_names_in := F7, b_names_in := b7, g_fixed := PySem.W.mg_of X GN a8, F_fixed := F8, b_fixed := b8, g_items_of := PySem.W.mg_of X GN a9, F_items_of := F9, b_items_of := b9, g_number_of := PySem.W.mg_of X GN a10, F_number_of := F10, b_number_of := b10, g_item_at := PySem.W.mg_of X GN a11, F_item_at := F11, b_item_at := b11, g_number_at := PySem.W.mg_of X GN a12, F_number_at := F12, b_number_at := b12, g_read_colon := PySem.W.mg_of X GN a13, F_read_colon := F13, b_read_colon := b13, g_read_end := PySem.W.mg_of X GN a14, F_read_end := F14, b_read_end := b14, g_are_ties := PySem.W.mg_of X GN a15, F_are_ties := F15, b_are_ties := b15, g_is_pair := PySem.W.mg_of X GN a16, F_is_pair := F16, b_is_pair := b16, g_hang_together := PySem.W.mg_of X GN a17, F_hang_together := F17, b_hang_together := b17, g_need_web := PySem.W.mg_of X GN a18, F_need_web := F18, b_need_web := b18, g_rounds := PySem.W.mg_of X GN a19, F_rounds := F19, b_rounds := b19, g_steps_from := PySem.W.mg_of X GN a20, F_steps_from := F20, b_steps_from := b20, g_rounds_from := PySem.W.mg_of X GN a21, F_rounds_from := F21, b_rounds_from := b21, g_bonds := PySem.W.mg_of X GN a22, F_bonds := F22, b_bonds := b22, g_near_places := PySem.W.mg_of X GN a23, F_near_places := F23, b_near_places := b23, g_is_whole := PySem.W.mg_of X GN a24, F_is_whole := F24, b_is_whole := b24, g_ties_between := PySem.W.mg_of X GN a25, F_ties_between := F25, b_ties_between := b25, g_bridges := PySem.W.mg_of X GN a26, F_bridges := F26, b_bridges := b26, g_is_bridge := PySem.W.mg_of X GN a27, F_is_bridge := F27, b_is_bridge := b27, g_pieces := PySem.W.mg_of X GN a28, F_pieces := F28, b_pieces := b28, g_piece_names := PySem.W.mg_of X GN a29, F_piece_names := F29, b_piece_names := b29, g_together := PySem.W.mg_of X GN a30, F_together := F30, b_together := b30, g_parting_places := PySem.W.mg_of X GN a31, F_parting_places := F31, b_parting_places := b31, g_is_parting := PySem.W.mg_of X GN a32, F_is_parting := F32, b_is_parting := b32, g_in_a_row := PySem.W.mg_of X GN a33, F_in_a_row := F33, b_in_a_row := b33, g_beside := PySem.W.mg_of X GN a34, F_beside := F34, b_beside := b34, g_turned := PySem.W.mg_of X GN a35, F_turned := F35, b_turned := b35, g_need_place := PySem.W.mg_of X GN a36, F_need_place := F36, b_need_place := b36, g_need_ties := PySem.W.mg_of X GN a37, F_need_ties := F37, b_need_ties := b37, g_third_places := PySem.W.mg_of X GN a38, F_third_places := F38, b_third_places := b38, g__law_gate := PySem.W.mg_of X GN a39, F__law_gate := F39, b__law_gate := b39, g__law_push := PySem.W.mg_of X GN a40, F__law_push := F40, b__law_push := b40, g__law_any := PySem.W.mg_of X GN a41, F__law_any := F41, b__law_any := b41, g__law_heard := PySem.W.mg_of X GN a42, F__law_heard := F42, b__law_heard := b42, g__law_made_right := PySem.W.mg_of X GN a43, F__law_made_right := F43, b__law_made_right := b43, g__law_ends_right := PySem.W.mg_of X GN a44, F__law_ends_right := F44, b__law_ends_right := b44, g__law_functions_right := PySem.W.mg_of X GN a45, F__law_functions_right := F45, b__law_functions_right := b45, g__law_turned_right := PySem.W.mg_of X GN a46, F__law_turned_right := F46, b__law_turned_right := b46, g__law_texts_right := PySem.W.mg_of X GN a47, F__law_texts_right := F47, b__law_texts_right := b47, g_law := PySem.W.mg_of X GN a48, F_law := F48, b_law := b48, g_Web := PySem.W.mg_of X GN oa, M_Web := ⟨omk, uf0, ufn0, okp⟩, K_Web := ⟨opg, ohd_, opo, osa⟩, I_Web := ⟨oca, hcn, hct, ocm⟩, N_Web_places := on_places, N_Web_ties := on_ties, F_Web___init__ := UF0, b_Web___init__ := ub0, F_Web___eq__ := UF1, b_Web___eq__ := ub1, F_Web___str__ := UF2, b_Web___str__ := ub2, F_Web_read := UF3, b_Web_read := ub3, C_NetError := n0, X_BadNumber := X1, F_init_BadNumber := GF1, b_init_BadNumber := gb1, X_BadWeb := X2, F_init_BadWeb := GF2, b_init_BadWeb := gb2, X_Misfit := X3, F_init_Misfit := GF3, b_init_Misfit := gb3, X_Missing := X4, F_init_Missing := GF4, b_init_Missing := gb4, X_NoPlace := X5, S_NoPlace := S5, U_NoPlace := U5, b_init_NoPlace := gb5, X_NoTie := X6, S_NoTie := S6, U_NoTie := U6, b_init_NoTie := gb6, X_Twice := X7, F_init_Twice := GF7, b_init_Twice := gb7, X_BadText := X8, F_init_BadText := GF8, b_init_BadText := gb8, m_MOST_DIGITS := PySem.W.mg_of X GN mc_MOST_DIGITS, m_MOST_PLACES := PySem.W.mg_of X GN mc_MOST_PLACES, m_MOST_TIES := PySem.W.mg_of X GN mc_MOST_TIES, n_super := PySem.W.mg_none_of X GN zs, n_abs := PySem.W.mg_none_of X GN z0, n_all := PySem.W.mg_none_of X GN z1, n_any := PySem.W.mg_none_of X GN z2, n_bool := PySem.W.mg_none_of X GN z3, n_enumerate := PySem.W.mg_none_of X GN z4, n_int := PySem.W.mg_none_of X GN z5, n_isinstance := PySem.W.mg_none_of X GN z6, n_len := PySem.W.mg_none_of X GN z7, n_list := PySem.W.mg_none_of X GN z8, n_max := PySem.W.mg_none_of X GN z9, n_min := PySem.W.mg_none_of X GN z10, n_range := PySem.W.mg_none_of X GN z11, n_repr := PySem.W.mg_none_of X GN z12, n_set := PySem.W.mg_none_of X GN z13, n_str := PySem.W.mg_none_of X GN z14, n_tuple := PySem.W.mg_none_of X GN z15, n_type := PySem.W.mg_none_of X GN z16, n_zip := PySem.W.mg_none_of X GN z17, S_read := ⟨srd, sga, sat, Or.inr ⟨_, src⟩⟩, O_eq := ⟨⟨_, _, _, _, _, _, _, _, _, _, _, _, _, _, _, _, ol⟩, uf1, ufn1, one⟩, O_l := onl, O_t := ont, O_s := uf2, O_f := ufn2, E_1 := e1, E_2 := e2, E_3 := e3, Z_NoneType := oz_NoneType, Z_bool := oz_bool, Z_int := oz_int, Z_str := oz_str, Z_list := oz_list, Z_tuple := oz_tuple, Z_dict := oz_dict, X_sBadNumber := es1, X_sBadWeb := es2, X_sMisfit := es3, X_sMissing := es4, X_sNoPlace := es5, X_sNoTie := es6, X_sTwice := es7, X_sBadText := es8, Y_NetError_n := ey0, Y_BadNumber_n := ey1, Y_BadWeb_n := ey2, Y_Misfit_n := ey3, Y_Missing_n := ey4, Y_NoPlace_n := ey5, Y_NoTie_n := ey6, Y_Twice_n := ey7, Y_BadText_n := ey8 }
  obtain ⟨o0, p0⟩ := TO _ _ _ _ kr43 kt43
  obtain ⟨o1, p1⟩ := TO _ _ _ _ kr44 kt44
  obtain ⟨o2, p2⟩ := TO _ _ _ _ kr45 kt45
  obtain ⟨o3, p3⟩ := TO _ _ _ _ kr46 kt46
  obtain ⟨o4, p4⟩ := TO _ _ _ _ kr47 kt47
  have all : ∀ {R : Addr × Addr → Prop}, R (kk43, kp43) → R (kk44, kp44) → R (kk45, kp45) → R (kk46, kp46) → R (kk47, kp47) → ∀ p ∈ ([(kk43, kp43), (kk44, kp44), (kk45, kp45), (kk46, kp46), (kk47, kp47)] : List (Addr × Addr)), R p := fun r0 r1 r2 r3 r4 p hp => by
    simp only [List.mem_cons, List.not_mem_nil, or_false] at hp
    rcases hp with rfl | rfl | rfl | rfl | rfl
    · exact r0
    · exact r1
    · exact r2
    · exact r3
    · exact r4
  refine ⟨(PySem.W.fnOf "law" "law" (defArgs s_law) (defBody s_law) (defScope s_law) .none kV48 dc48 pm48 an48 cd48 ct48), [(kk43, kp43), (kk44, kp44), (kk45, kp45), (kk46, kp46), (kk47, kp47)], sp_law A K, all p0 p1 p2 p3 p4, all kn43 kn44 kn45 kn46 kn47, all o0 o1 o2 o3 o4, fun s v => .of_eq rfl, fun H a ns hl hH hS => ⟨a, ns, rfl, hS, hl, fun p hp => ?_, fun _ => rfl⟩, fun base _ _ hb => G_law T (hb _ List.mem_cons_self) (hb _ (List.mem_cons_of_mem _ List.mem_cons_self)) (hb _ (List.mem_cons_of_mem _ (List.mem_cons_of_mem _ List.mem_cons_self))) (hb _ (List.mem_cons_of_mem _ (List.mem_cons_of_mem _ (List.mem_cons_of_mem _ List.mem_cons_self)))) (hb _ (List.mem_cons_of_mem _ (List.mem_cons_of_mem _ (List.mem_cons_of_mem _ (List.mem_cons_of_mem _ List.mem_cons_self))))) kne⟩
  have hp' : p ∈ [(kp43, lqn "_law_made_right"), (kp44, lqn "_law_ends_right"), (kp45, lqn "_law_functions_right"), (kp46, lqn "_law_turned_right"), (kp47, lqn "_law_texts_right")] := hp
  simp only [List.mem_cons, List.not_mem_nil, or_false] at hp'
  rcases hp' with rfl | rfl | rfl | rfl | rfl
  · exact TabS.nil (hH _ List.mem_cons_self)
  · exact TabS.nil (hH _ (List.mem_cons_of_mem _ List.mem_cons_self))
  · exact TabS.nil (hH _ (List.mem_cons_of_mem _ (List.mem_cons_of_mem _ List.mem_cons_self)))
  · exact TabS.nil (hH _ (List.mem_cons_of_mem _ (List.mem_cons_of_mem _ (List.mem_cons_of_mem _ List.mem_cons_self))))
  · exact TabS.nil (hH _ (List.mem_cons_of_mem _ (List.mem_cons_of_mem _ (List.mem_cons_of_mem _ (List.mem_cons_of_mem _ List.mem_cons_self)))))
theorem walk {l : PySem.W.OpenLaw} {q : Program} {loose : List Str} {XP : (Str → Option Value) → Heap → Prop} {YP : World → Heap → Prop} {d : DefRec} {K : Params → PySem.W.Frag} (hn : l.most = some 63) (hdf : d.params.defaults = [])
    (hY : ∀ (w : World) (h : Heap), YP w h → (K w.params).In h)
    (F : ∀ (w : World) (mg : Str → Option Value) (fa : Addr) (h : Heap), (K w.params).In h → h.Ns mainGlobals mg → mg d.name = some (.ref fa) → TabOf q (K w.params) h → LawAtG l w (K w.params) CX0 17 63 "script" mg fa h) :
    PySem.W.WalkO q loose XP YP l.row.toRowW d [] (fun f vs => PySem.call f vs) :=
  walk_ofTG (n := 63) (k := 17) (x := "script") (CX := fun _ => CX0) hn (by decide) hdf ⟨⟨rfl, by decide, by decide⟩, rfl⟩ hY F fun _ _ _ _ _ z => z
end K09
open PySem PySem.W PyProof.Rows
set_option maxRecDepth 100000 in
set_option maxHeartbeats 0 in
theorem PySem.Challenge.cw_flowtells_k09_webs_and_turns_refused_holds : PySem.Challenge.rw_flowtells_k09_webs_and_turns_refused.Holds := by
  w_on; o_law; k_head; (case hw => w_witness2)
  k_fill
  refine K09.walk (l := PySem.Challenge.rw_flowtells_k09_webs_and_turns_refused) rfl rfl (fun w h Y => PySem.W.km_in_of Y) ?F
  case F =>
    intro w mg fa h KX GN hmg TO
    refine' K09.all_mk KX GN hmg TO ?a0 ?l0 ?c0 ?k0 ?a1 ?l1 ?c1 ?k1 ?a2 ?l2 ?c2 ?k2 ?a3 ?l3 ?c3 ?k3 ?a4 ?l4 ?c4 ?k4 ?a5 ?l5 ?c5 ?k5 ?a6 ?l6 ?c6 ?k6 ?a7 ?l7 ?c7 ?k7 ?a8 ?l8 ?c8 ?k8 ?a9 ?l9 ?c9 ?k9 ?a10 ?l10 ?c10 ?k10 ?a11 ?l11 ?c11 ?k11 ?a12 ?l12 ?c12 ?k12 ?a13 ?l13 ?c13 ?k13 ?a14 ?l14 ?c14 ?k14 ?a15 ?l15 ?c15 ?k15 ?a16 ?l16 ?c16 ?k16 ?a17 ?l17 ?c17 ?k17 ?a18 ?l18 ?c18 ?k18 ?a19 ?l19 ?c19 ?k19 ?a20 ?l20 ?c20 ?k20 ?a21 ?l21 ?c21 ?k21 ?a22 ?l22 ?c22 ?k22 ?a23 ?l23 ?c23 ?k23 ?a24 ?l24 ?c24 ?k24 ?a25 ?l25 ?c25 ?k25 ?a26 ?l26 ?c26 ?k26 ?a27 ?l27 ?c27 ?k27 ?a28 ?l28 ?c28 ?k28 ?a29 ?l29 ?c29 ?k29 ?a30 ?l30 ?c30 ?k30 ?a31 ?l31 ?c31 ?k31 ?a32 ?l32 ?c32 ?k32 ?a33 ?l33 ?c33 ?k33 ?a34 ?l34 ?c34 ?k34 ?a35 ?l35 ?c35 ?k35 ?a36 ?l36 ?c36 ?k36 ?a37 ?l37 ?c37 ?k37 ?a38 ?l38 ?c38 ?k38 ?a39 ?l39 ?c39 ?k39 ?a40 ?l40 ?c40 ?k40 ?a41 ?l41 ?c41 ?k41 ?a42 ?l42 ?c42 ?k42 ?a43 ?l43 ?c43 ?k43 ?a44 ?l44 ?c44 ?k44 ?a45 ?l45 ?c45 ?k45 ?a46 ?l46 ?c46 ?k46 ?a47 ?l47 ?c47 ?k47 ?a48 ?l48 ?c48 ?k48 ?kl43 ?kv43 ?kt43 ?kn43 ?kr43 ?kl44 ?kv44 ?kt44 ?kn44 ?kr44 ?kl45 ?kv45 ?kt45 ?kn45 ?kr45 ?kl46 ?kv46 ?kt46 ?kn46 ?kr46 ?kl47 ?kv47 ?kt47 ?kn47 ?kr47 ?kne ?oa ?ol ?omk ?uf0 ?ul0 ?uc0 ?uk0 ?ufn0 ?uf1 ?ul1 ?uc1 ?uk1 ?ufn1 ?uf2 ?ul2 ?uc2 ?uk2 ?ufn2 ?srd ?sga ?sat ?src ?ul3 ?uc3 ?uk3 ?okp ?opg ?ohd_ ?opo ?osa ?oca ?ocm ?on_places ?on_ties ?one ?onl ?ont ?oz_NoneType ?oz_bool ?oz_int ?oz_str ?oz_list ?oz_tuple ?oz_dict ?hcn ?hct ?xa0 ?xl0 ?xa1 ?xl1 ?xs1 ?xg1 ?xh1 ?xc1 ?xi1 ?xt1 ?xk1 ?xn1_0 ?gl1 ?gc1 ?gk1 ?xa2 ?xl2 ?xs2 ?xg2 ?xh2 ?xc2 ?xi2 ?xt2 ?xk2 ?xn2_0 ?gl2 ?gc2 ?gk2 ?xa3 ?xl3 ?xs3 ?xg3 ?xh3 ?xc3 ?xi3 ?xt3 ?xk3 ?xn3_0 ?gl3 ?gc3 ?gk3 ?xa4 ?xl4 ?xs4 ?xg4 ?xh4 ?xc4 ?xi4 ?xt4 ?xk4 ?xn4_0 ?gl4 ?gc4 ?gk4 ?gx4 ?xa5 ?xl5 ?xs5 ?xg5 ?xh5 ?xc5 ?xi5 ?xt5 ?xk5 ?xn5_0 ?gl5 ?gc5 ?gd5 ?gv5 ?gf5 ?ge5 ?xa6 ?xl6 ?xs6 ?xg6 ?xh6 ?xc6 ?xi6 ?xt6 ?xk6 ?xn6_0 ?gl6 ?gc6 ?gd6 ?gv6 ?gf6 ?ge6 ?xa7 ?xl7 ?xs7 ?xg7 ?xh7 ?xc7 ?xi7 ?xt7 ?xk7 ?xn7_0 ?gl7 ?gc7 ?gk7 ?xa8 ?xl8 ?xs8 ?xg8 ?xh8 ?xc8 ?xi8 ?xt8 ?xk8 ?xn8_0 ?xn8_1 ?gl8 ?gc8 ?gk8 ?e1 ?e2 ?e3 ?es1 ?es2 ?es3 ?es4 ?es5 ?es6 ?es7 ?es8 ?ey0 ?ey1 ?ey2 ?ey3 ?ey4 ?ey5 ?ey6 ?ey7 ?ey8 ?mc_MOST_DIGITS ?mc_MOST_PLACES ?mc_MOST_TIES ?hop ?htop ?zs ?z0 ?z1 ?z2 ?z3 ?z4 ?z5 ?z6 ?z7 ?z8 ?z9 ?z10 ?z11 ?z12 ?z13 ?z14 ?z15 ?z16 ?z17
    (case a0 => k_is)
    (case l0 => k_is)
    (case c0 => k_is)
    (case k0 => k_is)
    (case a1 => k_is)
    (case l1 => k_is)
    (case c1 => k_is)
    (case k1 => k_is)
    (case a2 => k_is)
    (case l2 => k_is)
    (case c2 => k_is)
    (case k2 => k_is)
    (case a3 => k_is)
    (case l3 => k_is)
    (case c3 => k_is)
    (case k3 => k_is)
    (case a4 => k_is)
    (case l4 => k_is)
    (case c4 => k_is)
    (case k4 => k_is)
    (case a5 => k_is)
    (case l5 => k_is)
    (case c5 => k_is)
    (case k5 => k_is)
    (case a6 => k_is)
    (case l6 => k_is)
    (case c6 => k_is)
    (case k6 => k_is)
    (case a7 => k_is)
    (case l7 => k_is)
    (case c7 => k_is)
    (case k7 => k_is)
    (case a8 => k_is)
    (case l8 => k_is)
    (case c8 => k_is)
    (case k8 => k_is)
    (case a9 => k_is)
    (case l9 => k_is)
    (case c9 => k_is)
    (case k9 => k_is)
    (case a10 => k_is)
    (case l10 => k_is)
    (case c10 => k_is)
    (case k10 => k_is)
    (case a11 => k_is)
    (case l11 => k_is)
    (case c11 => k_is)
    (case k11 => k_is)
    (case a12 => k_is)
    (case l12 => k_is)
    (case c12 => k_is)
    (case k12 => k_is)
    (case a13 => k_is)
    (case l13 => k_is)
    (case c13 => k_is)
    (case k13 => k_is)
    (case a14 => k_is)
    (case l14 => k_is)
    (case c14 => k_is)
    (case k14 => k_is)
    (case a15 => k_is)
    (case l15 => k_is)
    (case c15 => k_is)
    (case k15 => k_is)
    (case a16 => k_is)
    (case l16 => k_is)
    (case c16 => k_is)
    (case k16 => k_is)
    (case a17 => k_is)
    (case l17 => k_is)
    (case c17 => k_is)
    (case k17 => k_is)
    (case a18 => k_is)
    (case l18 => k_is)
    (case c18 => k_is)
    (case k18 => k_is)
    (case a19 => k_is)
    (case l19 => k_is)
    (case c19 => k_is)
    (case k19 => k_is)
    (case a20 => k_is)
    (case l20 => k_is)
    (case c20 => k_is)
    (case k20 => k_is)
    (case a21 => k_is)
    (case l21 => k_is)
    (case c21 => k_is)
    (case k21 => k_is)
    (case a22 => k_is)
    (case l22 => k_is)
    (case c22 => k_is)
    (case k22 => k_is)
    (case a23 => k_is)
    (case l23 => k_is)
    (case c23 => k_is)
    (case k23 => k_is)
    (case a24 => k_is)
    (case l24 => k_is)
    (case c24 => k_is)
    (case k24 => k_is)
    (case a25 => k_is)
    (case l25 => k_is)
    (case c25 => k_is)
    (case k25 => k_is)
    (case a26 => k_is)
    (case l26 => k_is)
    (case c26 => k_is)
    (case k26 => k_is)
    (case a27 => k_is)
    (case l27 => k_is)
    (case c27 => k_is)
    (case k27 => k_is)
    (case a28 => k_is)
    (case l28 => k_is)
    (case c28 => k_is)
    (case k28 => k_is)
    (case a29 => k_is)
    (case l29 => k_is)
    (case c29 => k_is)
    (case k29 => k_is)
    (case a30 => k_is)
    (case l30 => k_is)
    (case c30 => k_is)
    (case k30 => k_is)
    (case a31 => k_is)
    (case l31 => k_is)
    (case c31 => k_is)
    (case k31 => k_is)
    (case a32 => k_is)
    (case l32 => k_is)
    (case c32 => k_is)
    (case k32 => k_is)
    (case a33 => k_is)
    (case l33 => k_is)
    (case c33 => k_is)
    (case k33 => k_is)
    (case a34 => k_is)
    (case l34 => k_is)
    (case c34 => k_is)
    (case k34 => k_is)
    (case a35 => k_is)
    (case l35 => k_is)
    (case c35 => k_is)
    (case k35 => k_is)
    (case a36 => k_is)
    (case l36 => k_is)
    (case c36 => k_is)
    (case k36 => k_is)
    (case a37 => k_is)
    (case l37 => k_is)
    (case c37 => k_is)
    (case k37 => k_is)
    (case a38 => k_is)
    (case l38 => k_is)
    (case c38 => k_is)
    (case k38 => k_is)
    (case a39 => k_is)
    (case l39 => k_is)
    (case c39 => k_is)
    (case k39 => k_is)
    (case a40 => k_is)
    (case l40 => k_is)
    (case c40 => k_is)
    (case k40 => k_is)
    (case a41 => k_is)
    (case l41 => k_is)
    (case c41 => k_is)
    (case k41 => k_is)
    (case a42 => k_is)
    (case l42 => k_is)
    (case c42 => k_is)
    (case k42 => k_is)
    (case a43 => k_is)
    (case l43 => k_is)
    (case c43 => k_is)
    (case k43 => k_is)
    (case a44 => k_is)
    (case l44 => k_is)
    (case c44 => k_is)
    (case k44 => k_is)
    (case a45 => k_is)
    (case l45 => k_is)
    (case c45 => k_is)
    (case k45 => k_is)
    (case a46 => k_is)
    (case l46 => k_is)
    (case c46 => k_is)
    (case k46 => k_is)
    (case a47 => k_is)
    (case l47 => k_is)
    (case c47 => k_is)
    (case k47 => k_is)
    (case a48 => k_is)
    (case l48 => k_is)
    (case c48 => k_is)
    (case k48 => k_is)
    (case kl43 => k_is)
    (case kv43 => rfl)
    (case kt43 => kernel_rfl)
    (case kn43 => kernel_rfl)
    (case kr43 => rfl)
    (case kl44 => k_is)
    (case kv44 => rfl)
    (case kt44 => kernel_rfl)
    (case kn44 => kernel_rfl)
    (case kr44 => rfl)
    (case kl45 => k_is)
    (case kv45 => rfl)
    (case kt45 => kernel_rfl)
    (case kn45 => kernel_rfl)
    (case kr45 => rfl)
    (case kl46 => k_is)
    (case kv46 => rfl)
    (case kt46 => kernel_rfl)
    (case kn46 => kernel_rfl)
    (case kr46 => rfl)
    (case kl47 => k_is)
    (case kv47 => rfl)
    (case kt47 => kernel_rfl)
    (case kn47 => kernel_rfl)
    (case kr47 => rfl)
    (case kne => decide)
    (case oa => k_is)
    (case ol => k_is)
    (case omk => k_is)
    (case uf0 => k_is)
    (case ul0 => k_is)
    (case uc0 => k_is)
    (case uk0 => k_is)
    (case ufn0 => k_is)
    (case uf1 => k_is)
    (case ul1 => k_is)
    (case uc1 => k_is)
    (case uk1 => k_is)
    (case ufn1 => k_is)
    (case uf2 => k_is)
    (case ul2 => k_is)
    (case uc2 => k_is)
    (case uk2 => k_is)
    (case ufn2 => k_is)
    (case srd => k_is)
    (case sga => k_is)
    (case sat => k_is)
    (case src => k_is)
    (case ul3 => k_is)
    (case uc3 => k_is)
    (case uk3 => k_is)
    (case okp => k_is)
    (case opg => k_is)
    (case ohd_ => k_is)
    (case opo => k_is)
    (case osa => k_is)
    (case oca => k_is)
    (case ocm => k_is)
    (case on_places => k_is)
    (case on_ties => k_is)
    (case one => k_is)
    (case onl => k_is)
    (case ont => k_is)
    (case oz_NoneType => kernel_rfl)
    (case oz_bool => kernel_rfl)
    (case oz_int => kernel_rfl)
    (case oz_str => kernel_rfl)
    (case oz_list => kernel_rfl)
    (case oz_tuple => kernel_rfl)
    (case oz_dict => kernel_rfl)
    (case hcn => k_is)
    (case hct => k_is)
    (case xa0 => k_is)
    (case xl0 => k_is)
    (case xa1 => k_is)
    (case xl1 => k_is)
    (case xs1 => k_is)
    (case xg1 => k_is)
    (case xh1 => k_is)
    (case xc1 => k_is)
    (case xi1 => k_is)
    (case xt1 => k_is)
    (case xk1 => k_is)
    (case xn1_0 => k_is)
    (case gl1 => k_is)
    (case gc1 => k_is)
    (case gk1 => k_is)
    (case xa2 => k_is)
    (case xl2 => k_is)
    (case xs2 => k_is)
    (case xg2 => k_is)
    (case xh2 => k_is)
    (case xc2 => k_is)
    (case xi2 => k_is)
    (case xt2 => k_is)
    (case xk2 => k_is)
    (case xn2_0 => k_is)
    (case gl2 => k_is)
    (case gc2 => k_is)
    (case gk2 => k_is)
    (case xa3 => k_is)
    (case xl3 => k_is)
    (case xs3 => k_is)
    (case xg3 => k_is)
    (case xh3 => k_is)
    (case xc3 => k_is)
    (case xi3 => k_is)
    (case xt3 => k_is)
    (case xk3 => k_is)
    (case xn3_0 => k_is)
    (case gl3 => k_is)
    (case gc3 => k_is)
    (case gk3 => k_is)
    (case xa4 => k_is)
    (case xl4 => k_is)
    (case xs4 => k_is)
    (case xg4 => k_is)
    (case xh4 => k_is)
    (case xc4 => k_is)
    (case xi4 => k_is)
    (case xt4 => k_is)
    (case xk4 => k_is)
    (case xn4_0 => k_is)
    (case gl4 => k_is)
    (case gc4 => k_is)
    (case gk4 => k_is)
    (case gx4 => k_is)
    (case xa5 => k_is)
    (case xl5 => k_is)
    (case xs5 => k_is)
    (case xg5 => k_is)
    (case xh5 => k_is)
    (case xc5 => k_is)
    (case xi5 => k_is)
    (case xt5 => k_is)
    (case xk5 => k_is)
    (case xn5_0 => k_is)
    (case gl5 => k_is)
    (case gc5 => k_is)
    (case gd5 => k_is)
    (case gv5 => first | rfl | decide +kernel | k_is)
    (case gf5 => first | rfl | decide +kernel | k_is)
    (case ge5 => k_is)
    (case xa6 => k_is)
    (case xl6 => k_is)
    (case xs6 => k_is)
    (case xg6 => k_is)
    (case xh6 => k_is)
    (case xc6 => k_is)
    (case xi6 => k_is)
    (case xt6 => k_is)
    (case xk6 => k_is)
    (case xn6_0 => k_is)
    (case gl6 => k_is)
    (case gc6 => k_is)
    (case gd6 => k_is)
    (case gv6 => first | rfl | decide +kernel | k_is)
    (case gf6 => first | rfl | decide +kernel | k_is)
    (case ge6 => k_is)
    (case xa7 => k_is)
    (case xl7 => k_is)
    (case xs7 => k_is)
    (case xg7 => k_is)
    (case xh7 => k_is)
    (case xc7 => k_is)
    (case xi7 => k_is)
    (case xt7 => k_is)
    (case xk7 => k_is)
    (case xn7_0 => k_is)
    (case gl7 => k_is)
    (case gc7 => k_is)
    (case gk7 => k_is)
    (case xa8 => k_is)
    (case xl8 => k_is)
    (case xs8 => k_is)
    (case xg8 => k_is)
    (case xh8 => k_is)
    (case xc8 => k_is)
    (case xi8 => k_is)
    (case xt8 => k_is)
    (case xk8 => k_is)
    (case xn8_0 => k_is)
    (case xn8_1 => k_is)
    (case gl8 => k_is)
    (case gc8 => k_is)
    (case gk8 => k_is)
    (case e1 => k_is)
    (case e2 => k_is)
    (case e3 => k_is)
    (case es1 => k_is)
    (case es2 => k_is)
    (case es3 => k_is)
    (case es4 => k_is)
    (case es5 => k_is)
    (case es6 => k_is)
    (case es7 => k_is)
    (case es8 => k_is)
    (case ey0 => kernel_rfl)
    (case ey1 => kernel_rfl)
    (case ey2 => kernel_rfl)
    (case ey3 => kernel_rfl)
    (case ey4 => kernel_rfl)
    (case ey5 => kernel_rfl)
    (case ey6 => kernel_rfl)
    (case ey7 => kernel_rfl)
    (case ey8 => kernel_rfl)
    (case mc_MOST_DIGITS => k_is)
    (case mc_MOST_PLACES => k_is)
    (case mc_MOST_TIES => k_is)
    (case hop => k_is)
    (case htop => first | rfl | decide +kernel | k_is)
    (case zs => k_is)
    (case z0 => k_is)
    (case z1 => k_is)
    (case z2 => k_is)
    (case z3 => k_is)
    (case z4 => k_is)
    (case z5 => k_is)
    (case z6 => k_is)
    (case z7 => k_is)
    (case z8 => k_is)
    (case z9 => k_is)
    (case z10 => k_is)
    (case z11 => k_is)
    (case z12 => k_is)
    (case z13 => k_is)
    (case z14 => k_is)
    (case z15 => k_is)
    (case z16 => k_is)
    (case z17 => k_is)
