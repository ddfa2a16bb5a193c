import PyProof.Rows.All
import Wide.All
import OpenK.AllK
import Wide.FinOn
import HandS.ForMost
import HandS.ForExc
import HandS.IsInst
import HandS.Strs
import HandS.Flow
import PyProof.ReprRoads
import HandS.Walk
import HandS.Style
import HandS.ExcInit
import HandS.ExcField
import KE.KExcIs
import KE.KSuper
import KE.KEqNest
import HandS.DictComp
import HandS.More
import PyProof.Rows.EqNone
import PyProof.Rows.EqBoolInt
import HandS.Conv
import HandS.TryOnly
import HandS.ExcOwn
import HandS.TupAny
import HandS.Lambda
import HandS.EndTab
import HandS.OwnEq
import PyProof.InstNe
import HandS.ClsMeth
import KE.KCallOwn
import HandS.StrMore
import HandS.Zip
import KE.KItemsList
import HandS.ListItems
import KE.KTypeOf
import HandS.ExcIs
import HandS.TupMul
import HandS.ExcValue
import KE.GoesEnum
import HandS.Iter
import HandS.ExcInitHot
import HandS.SuiteRaise
import HandS.RaiseFrom
import KE.KUnpackStar
import HandS.Deep
import PyProof.P3In
import PyProof.StrOps2
import KE.KDflt
import HandS.Wide
import PySem.Challenge.RW_flowtells_k03_texts_bent_anywhere
set_option Elab.async false
set_option linter.all false
set_option maxRecDepth 100000
set_option maxHeartbeats 4000000
/-! Room with the guards told: defs that may ask for the repr of a list -/
namespace FT
open PySem PySem.Spec PyProof.Rows L2

structure RG (k : Nat) (A : Around) : Prop where
  room : Room k A
  gd : A.guards = some []
theorem RG.mono {j k : Nat} {A : Around} (r : RG k A) (h : j ≤ k) : RG j A := ⟨r.room.mono h, r.gd⟩
theorem RG.deeper {k : Nat} {A : Around} (r : RG (k + 1) A) (env : Env) : RG k (A.deeper env) := ⟨r.room.deeper env, r.gd⟩
theorem RG.make {k : Nat} {A : Around} (r : RG (k + 1) A) (C : Addr) (us : List Value) (kw : List (Str × Value)) :
    RG k (A.under (.builtin "type.__call__" ⟨.ref C :: us, kw⟩)) := by
  refine ⟨r.room.make C us kw, ?_⟩
  have e := r.gd
  first
    | exact e
    | simpa [Around.under, Code.guards, Code.isGuard, guardIds, pushGuards] using e

section
variable (P : Program) (w : World) (K : PySem.W.Frag) (mg : Str → Option Value) (base : Heap) (CX : CXT)
/-- what a def keeps, where the guards are told -/
structure FnG (k : Nat) (f : Addr) (fd : FuncData) (ps : List Str) (sp : Sp) : Prop where
  arity : ∀ vs H Q E, sp vs H Q E → vs.length = ps.length
  goes : ∀ {A : Around} {outer : List Env} {s : Shared} {H : Hp} {args : Args} {us : List Value} {vs : List V} {Q : VK} {E : XK},
    RG k A → Env0 P w K mg base A outer s H → BindsTo s fd args (ps.zip us) → Vals vs us → sp vs H Q E →
      codeAny (model P w) A (.call (.ref f) args) (CR CX outer P w H s Q E) s
end
section
variable {P : Program} {w : World} {K : PySem.W.Frag} {mg : Str → Option Value} {base : Heap} {CX : CXT} {j k : Nat} {f : Addr} {fd : FuncData} {ps : List Str} {sp : Sp}
theorem FnG.of (F : FnOk P w K mg base CX k f fd ps sp) : FnG P w K mg base CX k f fd ps sp :=
  ⟨F.len, fun {A outer s H args us vs Q E} r e b v h => F.run A outer s H args us vs Q E r.room e b v h⟩
theorem FnG.mono (F : FnG P w K mg base CX j f fd ps sp) (h : j ≤ k) : FnG P w K mg base CX k f fd ps sp :=
  ⟨F.arity, fun r e b v q => F.goes (r.mono h) e b v q⟩
end

section
variable {X : Cx} {CX : CXT} {k : Nat} {f : Addr} {fd : FuncData} {ps ks : List Str} {sp : Sp} {dvs : List V} {ds : List Value} {E : XK} {x : Str} {p pos : Pos} {e : Expr} {es : List Expr} {t tk : TA}
  {kws : List Keyword} {g : List Value → List Value → List Value} {gV : List V → List V → List V}

theorem run_args {pins : List (Addr × Obj)} {σ : L2.St} {H : Hp} {s : Shared} {Q : VK} {args : List Value} {kw : List (Str × Value)} {us : List Value} {vs : List V}
    (F : FnG X.prog X.w X.K X.mg X.base CX k f fd ps sp) (hr : RG k X.A) (hx : Passes CX X E) (I : Inv X pins σ H s)
    (hb : BindsTo s fd ⟨args, kw⟩ (ps.zip us)) (r : Vals vs us) (h : sp vs H Q E) :
    wpAny (model X.prog X.w) X.A (call (.ref f) args kw) (EP X pins σ Q) X.xe s := by
  refine wpAny_call ?_
  refine codeAny_mono (F.goes hr I.env0 hb r h) ?_
  intro z s' q
  match z, q with
  | .error z, q => exact hx pins σ H s z s' I q
  | .ok (.ret u), q => exact I.after q
/-- f(a, b, ..) -/
theorem pe_callG (F : FnG X.prog X.w X.K X.mg X.base CX k f fd ps sp) (hr : RG k X.A) (hg : Gl X x) (hm : X.mg x = some (.ref f))
    (hk : PySem.W.keepIn X.K (.ref f) = true) (hb : Binds X.K fd ps ds) (hd : Vals dvs ds) (hx : Passes CX X E) (ha : PA X (e :: es) t)
    (hdb : (x == ("__debug__" : Str)) = false := by decide)
    (he : starEach (e :: es) X.env = (false, eval e X.env) :: starEach es X.env := by rfl)
    (hpl : (backTo pos (starEach es X.env)).any (·.1) = false := by rfl) :
    PE X (.Call (.Name x p) (e :: es) [] pos) (tCall sp dvs E t) := by
  constructor
  intro pins s σ H Q I h
  refine wpAny_Call_Name_kw (ld_glob I hg hm ?_ hdb)
  refine PySem.W.callWith_K (h₀ := X.base) I.ok.mod.kin hk ?_ he hpl
  refine thn (ha.run pos pins s σ H _ I h) ?_
  rintro us s1 ⟨vs, H1, I1, r, q⟩
  have r2 := r.append hd
  have hl : (us ++ ds).length = ps.length := r2.length.symm.trans (F.arity _ _ _ _ q)
  exact ⟨I1.kIn, run_args F hr hx I1 (hb s1 us I1.kIn hl) r2 q⟩
/-- f() -/
theorem pe_callG0 (F : FnG X.prog X.w X.K X.mg X.base CX k f fd ps sp) (hr : RG k X.A) (hg : Gl X x) (hm : X.mg x = some (.ref f))
    (hk : PySem.W.keepIn X.K (.ref f) = true) (hb : Binds X.K fd ps ds) (hd : Vals dvs ds) (hx : Passes CX X E)
    (hdb : (x == ("__debug__" : Str)) = false := by decide) : PE X (.Call (.Name x p) [] [] pos) (tCall sp dvs E tNil) := by
  constructor
  intro pins s σ H Q I h
  refine wpAny_Call_Name_kw (ld_glob I hg hm ?_ hdb)
  have hl : ([] ++ ds).length = ps.length := hd.length.symm.trans (F.arity _ _ _ _ h)
  exact PySem.W.callWith_K0 I.kIn hk (run_args (us := [] ++ ds) F hr hx I (hb s [] I.kIn hl) hd h)
/-- f(a, .., k = v, ..) -/
theorem pe_callGK (F : FnG X.prog X.w X.K X.mg X.base CX k f fd ps sp) (hr : RG k X.A) (hg : Gl X x) (hm : X.mg x = some (.ref f))
    (hk : PySem.W.keepIn X.K (.ref f) = true) (hb : KBinds X.K fd ps ks g gV) (hx : Passes CX X E) (ha : PA X (e :: es) t) (hkw : PK X kws tk)
    (hall : (backToKw pos (keywordEach kws X.env)).all (·.1.isSome) = true := by rfl)
    (hks : (backToKw pos (keywordEach kws X.env)).filterMap (·.1) = ks := by rfl)
    (hdb : (x == ("__debug__" : Str)) = false := by decide)
    (he : starEach (e :: es) X.env = (false, eval e X.env) :: starEach es X.env := by rfl)
    (hpl : ((backTo pos (starEach (e :: es) X.env)).any (·.1) || (backToKw pos (keywordEach kws X.env)).any (·.1.isNone)) = false := by rfl) :
    PE X (.Call (.Name x p) (e :: es) kws pos) (tCallK sp gV E t tk) := by
  constructor
  intro pins s σ H Q I h
  refine wpAny_Call_Name_kw (ld_glob I hg hm ?_ hdb)
  refine PySem.W.callWith_KW (h₀ := X.base) I.ok.mod.kin hk hall (thn (ha.run pos pins s σ H _ I h) ?_) hpl he
  rintro us s1 ⟨vs, H1, I1, r, q⟩
  refine thn (hkw.run pos pins s1 σ H1 _ I1 q) ?_
  rintro ws s2 ⟨zs, H2, I2, rz, q2⟩
  refine ⟨I2.kIn, ?_⟩
  rw [hks]
  have r3 := hb.rel r rz
  exact run_args F hr hx I2 (hb.to s2 us ws I2.kIn (r3.length.symm.trans (F.arity _ _ _ _ q2))) r3 q2
/-- f(k = v, ..) -/
theorem pe_callGK0 (F : FnG X.prog X.w X.K X.mg X.base CX k f fd ps sp) (hr : RG k X.A) (hg : Gl X x) (hm : X.mg x = some (.ref f))
    (hk : PySem.W.keepIn X.K (.ref f) = true) (hb : KBinds X.K fd ps ks g gV) (hx : Passes CX X E) (hkw : PK X kws tk)
    (hall : (backToKw pos (keywordEach kws X.env)).all (·.1.isSome) = true := by rfl)
    (hks : (backToKw pos (keywordEach kws X.env)).filterMap (·.1) = ks := by rfl)
    (hdb : (x == ("__debug__" : Str)) = false := by decide)
    (hpl : ((backTo pos (starEach [] X.env)).any (·.1) || (backToKw pos (keywordEach kws X.env)).any (·.1.isNone)) = false := by rfl) :
    PE X (.Call (.Name x p) [] kws pos) (tCallK sp gV E tNil tk) := by
  constructor
  intro pins s σ H Q I h
  refine wpAny_Call_Name_kw (ld_glob I hg hm ?_ hdb)
  refine PySem.W.callWith_KW0 (h₀ := X.base) I.ok.mod.kin hk hall ?_ hpl
  refine thn (hkw.run pos pins s σ H _ I h) ?_
  rintro ws s2 ⟨zs, H2, I2, rz, q2⟩
  refine ⟨I2.kIn, ?_⟩
  rw [hks]
  have r3 := hb.rel (.nil : Vals [] []) rz
  exact run_args F hr hx I2 (hb.to s2 [] ws I2.kIn (r3.length.symm.trans (F.arity _ _ _ _ q2))) r3 q2
end

section
variable {P : Program} {w : World} {K : PySem.W.Frag} {mg : Str → Option Value} {base : Heap} {CX : CXT}
/-- a def's body: the guards are told in it; it may let an error out -/
theorem okGX {x qual : Str} {st : Stmt} {f : Addr} {fd : FuncData} {N ps : List Str} {k : Nat} {sp : Sp} (F : Fun K x qual st f fd) (S : FnScope N ps (defScope st))
    (arity : ∀ vs H Q E, sp vs H Q E → vs.length = ps.length)
    (hbody : ∀ (cdv : Value) (A : Around) (outer : List Env) (s : Shared) (H : Hp) (vs : List V) (Q : VK) (E : XK),
      RG k (A.deeper (envOfC qual (defScope st) s.heap.objs.size f cdv)) → sp vs H Q E →
        ∃ t, PSs (cxOf CX P w K mg base N qual (defScope st) f cdv A outer s H E) (defBody st) t ∧ t { nx := fun _ H' => Q .non H', rt := Q } (start N vs) H) :
    FnG P w K mg base CX (k + 1) f fd ps sp := by
  obtain ⟨oc, od, kV, doc, pm, an, cdv, ct, osl, rfl, lk, hcd⟩ := F.ex
  refine ⟨arity, ?_⟩
  intro A outer s H args us vs Q E hr e0 hb r hsp
  -- the same def's own rule at this one place: a promise that holds here alone
  have KX : K.In s.heap := e0.mod.kin.keeps fun b o q => (e0.bs b o q).1
  have lim : s.heap.NoLimit := e0.mod.nolimit.keeps fun b o q => (e0.bs b o q).1
  have hl := arity _ _ _ _ hsp
  obtain ⟨t, ht, hq⟩ := hbody cdv A outer s H vs Q E (hr.deeper _) hsp
  refine codeAny_call_function hr.room.depth (KX _ _ lk) rfl S.co S.gen rfl (PySem.W.codeRec_of KX hcd) (hb _ _ _ _ ?_)
  refine wpAny_newFunctionEnv_cells S.kind ?_ ?_
  · rintro ⟨n, v⟩ hy
    cases S.par n (List.of_mem_zip hy).1 with
    | inl q => exact .inl q
    | inr q => exact .inr ⟨q, PySem.W.cellsFrom_some _ _ _ (.inl q)⟩
  · intro env he s1 hin
    subst he
    refine ⟨lim.keeps hin.toInCall.keep, codeAny_func ?_⟩
    have I := inv_start (CX := CX) (P := P) (w := w) (qual := qual) (f := f) (cd := cdv) (E := E) S hr.room.hd e0 hl r hin
    refine wpAny_mono (ht.run [] s1 (start N vs) H _ I hq) ?_ (fun _ _ q => q)
    intro fl s' hs
    match fl, hs with
    | .ret u, ⟨v, σ', H', J, rv, q⟩ => exact ⟨v, H', J.os, J.bare, J.base, J.hok, rv, q⟩
    | .next, ⟨σ', H', J, q⟩ => exact ⟨.non, H', J.os, J.bare, J.base, J.hok, rfl, q⟩
    | .brk, ⟨_, _, _, q⟩ => exact q.elim
    | .cont, ⟨_, _, _, q⟩ => exact q.elim
/-- the same, nothing leaves it -/
theorem okG {x qual : Str} {st : Stmt} {f : Addr} {fd : FuncData} {N ps : List Str} {k : Nat} {sp : Sp} (F : Fun K x qual st f fd) (S : FnScope N ps (defScope st))
    (arity : ∀ vs H Q E, sp vs H Q E → vs.length = ps.length)
    (hbody : ∀ (cdv : Value) (A : Around) (outer : List Env) (s : Shared) (H : Hp) (vs : List V) (Q : VK) (E : XK),
      RG k (A.deeper (envOfC qual (defScope st) s.heap.objs.size f cdv)) → sp vs H Q E →
        ∃ t, PSs (cxOf CX P w K mg base N qual (defScope st) f cdv A outer s H E).nox (defBody st) t ∧ t { nx := fun _ H' => Q .non H', rt := Q } (start N vs) H) :
    FnG P w K mg base CX (k + 1) f fd ps sp := by
  refine okGX F S arity ?_
  intro cdv A outer s H vs Q E hr h
  obtain ⟨t, h1, h2⟩ := hbody cdv A outer s H vs Q E hr h
  exact ⟨t, h1.nox, h2⟩
end
end FT

/-! the law's own call, where the guards are told -/
namespace FT
open PySem PySem.Spec PyProof.Rows L2

section
variable {P : Program} {w : World} {K : PySem.W.Frag} {mg mb : Str → Option Value} {CX : CXT} {k : Nat} {fa a : Addr} {fd : FuncData} {x : Str} {sp : Sp} {s : Shared} {vs : List Value} {ns : List Int}
/-- the script as the one thing that is tracked, or none where the module holds it -/
theorem script_heap (KX : K.In s.heap) (ha : s.heap.get? a = some { cls := .type "list", data := .seq vs.toArray }) (hi : IntsAre vs ns) (hl : ns.length ≤ sizeLine) :
    ∃ H : Hp, Only H ∧ SqL K H a (ns.map V.int) ∧ HOk P w H s.heap ∧ ∀ b u, H b = some u → b = a ∧ K.lookup a = none := by
  have rv := vals_ints hi
  by_cases hk : K.lookup a = none
  · refine ⟨fun b => if b = a then some (.frz { cls := .type "list", data := .seq vs.toArray } (.lst (ns.map V.int))) else none, ?_, ?_, ?_, ?_⟩
    · intro b
      by_cases hb : b = a
      · right
        exact ⟨_, _, if_pos hb⟩
      · left
        exact if_neg hb
    · left
      right
      exact ⟨_, if_pos rfl⟩
    · intro b u z
      by_cases hb : b = a
      · subst hb
        obtain rfl := Option.some.inj ((if_pos rfl).symm.trans z)
        exact ⟨ha, by rw [List.length_map]; exact hl, vs, _, rv, ha⟩
      · cases (if_neg hb).symm.trans z
    · intro b u z
      refine ⟨?_, hk⟩
      by_cases hb : b = a
      · exact hb
      · cases (if_neg hb).symm.trans z
  · obtain ⟨o, ho⟩ := Option.ne_none_iff_exists'.mp hk
    have e := (KX a o ho).symm.trans ha
    obtain rfl := Option.some.inj e
    have nope : ∀ {u : HO}, ¬ (none : Option HO) = some u := fun z => by cases z
    refine ⟨fun _ => none, fun _ => .inl rfl, .inr ?_, fun b u z => (nope z).elim, fun b u z => (nope z).elim⟩
    refine ⟨_, vs.toArray, _, ho, rfl, rfl, rfl, ?_, by simpa using rv⟩
    rw [List.size_toArray, hi.length]
    exact hl
theorem law_callG (KX : K.In s.heap) (hns : s.heap.Ns mainGlobals mg) (hb : s.heap.Ns builtinsNs mb) (hbb : ∀ x : Str, x ≠ "__name__" → mb x = bootBuiltins x)
    (hlim : s.heap.NoLimit) (hg : s.gens = #[]) (ha : s.heap.get? a = some { cls := .type "list", data := .seq vs.toArray }) (hi : IntsAre vs ns) (hl : ns.length ≤ sizeLine)
    (hr : RG k callerA) (F : ∀ base : Heap, K.In base → base.Ns mainGlobals mg → FnG P w K mg base CX k fa fd [x] sp)
    (hbind : ∀ (s : Shared) (u : Value), BindsTo s fd ⟨[u], []⟩ [(x, u)])
    (hsp : ∀ H : Hp, Only H → SqL K H a (ns.map V.int) → sp [.ref a] H (fun v _ => v = .bl true) fun _ _ _ => False)
    (hCX : ∀ H e s', CX [] H s (fun _ _ _ => False) e s' → False) :
    codeAny (model P w) callerA (.call (.ref fa) ⟨[.ref a], []⟩)
      (fun r s' => r = .ok (.ret (.bool true)) ∧ OldK s.heap s'.heap ∧ s'.os = s.os ∧ AllBare s'.gens) s := by
  obtain ⟨H, hO, hS, hok, hA⟩ := script_heap (P := P) (w := w) KX ha hi hl
  have hid : ∀ {b : Addr} {o : Obj}, s.heap.get? b = some o → H b = none → (hidT s.heap H).get? b = some o := fun e n => hidT_get e n
  have dictFree : ∀ {b : Addr} {o : Obj} {es : Array DictEntry} {n : Nat}, s.heap.get? b = some o → o.data = .dict es n → H b = none := by
    intro b o es n e d
    cases q : H b with
    | none => rfl
    | some u =>
      obtain ⟨rfl, _⟩ := hA b u q
      obtain rfl := Option.some.inj (ha.symm.trans e)
      cases d
  have nsB : ∀ {b : Addr} {m : Str → Option Value}, s.heap.Ns b m → (hidT s.heap H).Ns b m := by
    rintro b m ⟨o, es, n, e, d, r⟩
    exact ⟨o, es, n, hid e (dictFree e d), d, r⟩
  have kB : K.In (hidT s.heap H) := by
    intro b o e
    refine hid (KX b o e) ?_
    cases q : H b with
    | none => rfl
    | some u =>
      obtain ⟨rfl, z⟩ := hA b u q
      cases z.symm.trans e
  obtain ⟨mc, c1, c2⟩ := hlim
  have M : Mod K mg (hidT s.heap H) := ⟨kB, nsB hns, ⟨mb, nsB hb, hbb⟩, ⟨mc, nsB c1, c2⟩⟩
  have none_in : ∀ b : Addr, ¬ b ∈ ([] : List Addr) := fun b => List.not_mem_nil
  have e0 : Env0 P w K mg (hidT s.heap H) callerA [] s H :=
    { frames := rfl, mod := M, bs := fun b o e => of_hidT e, bsz := Nat.le_of_eq (hidT_size _ _), funs := trivial, frf := fun b hb => absurd hb (none_in b), hok := hok, bare := .of_eq hg }
  have run := (F _ kB (nsB hns)).goes hr e0 (us := [.ref a]) (vs := [.ref a]) (hbind s (.ref a)) (Paired.cons (show RelV (V.ref a) (Value.ref a) from rfl) Paired.nil) (hsp H hO hS)
  refine codeAny_mono run ?_
  intro r s' q
  match r, q with
  | .error e, q => exact (hCX H e s' q).elim
  | .ok (.ret u), ⟨v, H', os, bare, un, hok', rv, hv⟩ =>
    obtain rfl : v = .bl true := hv
    obtain rfl : u = Value.bool true := rv
    refine ⟨rfl, OldK.of_keep ?_, os, bare⟩
    intro b o e
    cases q : H b with
    | none => exact un.keep b o e q (none_in b) (none_in b)
    | some t =>
      obtain ⟨ob, xs, z⟩ := (hO b).resolve_left (by rw [q]; exact fun c => by cases c)
      have e1 := (hok b _ z).1
      have e2 := (hok' b _ (un.frzs b ob _ z)).1
      obtain rfl := Option.some.inj (e.symm.trans e1)
      exact e2
end
/-- the goal that k_head leaves -/
theorem walk_ofG {l : PySem.W.OpenLaw} {n k : Nat} {q : Program} {loose : List Str} {XP : (Str → Option Value) → Heap → Prop} {YP : World → Heap → Prop} {d : DefRec} {K : Params → PySem.W.Frag} {CX : World → CXT} {sp : World → Sp} {x : Str}
    (hn : l.most = some n) (hn2 : n ≤ sizeLine) (hdf : d.params.defaults = []) (hr : RG k callerA) (hY : ∀ (w : World) (h : Heap), YP w h → (K w.params).In h)
    (F : ∀ (w : World) (mg : Str → Option Value) (fa : Addr) (h : Heap), (K w.params).In h → h.Ns mainGlobals mg → mg d.name = some (.ref fa) →
      ∃ fd : FuncData, (∀ (s : Shared) (u : Value), BindsTo s fd ⟨[u], []⟩ [(x, u)]) ∧
        ∀ base : Heap, (K w.params).In base → base.Ns mainGlobals mg → FnG l.prog w (K w.params) mg base (CX w) k fa fd [x] (sp w))
    (hsp : ∀ (w : World) (H : Hp) (a : Addr) (ns : List Int), ns.length ≤ n → Only H → SqL (K w.params) H a (ns.map V.int) → sp w [.ref a] H (fun v _ => v = .bl true) fun _ _ _ => False)
    (hCX : ∀ (w : World) (H : Hp) (s : Shared) (e : Value) (s' : Shared), CX w [] H s (fun _ _ _ => False) e s' → False) :
    PySem.W.WalkO q loose XP YP l.row.toRowW d [] (fun f vs => PySem.call f vs) := by
  apply Att.attach_call hn hdf
  intro w s₀ s₁ mg mb fa o pm cd doc a vs ns G Y ho hd hcd hmg hobj hints hlen hg
  have KX := hY w _ Y
  obtain ⟨fd, hb, hF⟩ := F w mg fa _ KX G.T.g hmg
  have hsz := Nat.le_trans hlen hn2
  refine law_callG (mb := mb) (sp := sp w) (CX := CX w) KX G.T.g G.T.b G.T.builtins G.T.nolimit hg hobj hints hsz hr hF hb ?_ (hCX w · s₁)
  intro H hO hS
  exact hsp w H a ns hlen hO hS
end FT

/-! repr of plain data, of a flat dict -/
namespace FT
open PySem PySem.Spec PyProof.Rows L2

mutual
theorem noD {K : PySem.W.Frag} {H : Hp} : ∀ (d : PyData) (v : V), Dp K H v d → d.hasDict = false
  | .none, _, _ => by simp only [PyData.hasDict]
  | .bool _, _, _ => by simp only [PyData.hasDict]
  | .int _, _, _ => by simp only [PyData.hasDict]
  | .str _, _, _ => by simp only [PyData.hasDict]
  | .list ds, _, h => by
    cases h with
    | lst _ a =>
      simp only [PyData.hasDict]
      exact noDs ds _ a
  | .tuple ds, _, h => by
    cases h with
    | tup _ a =>
      simp only [PyData.hasDict]
      exact noDs ds _ a
  | .dict _, _, h => by cases h
theorem noDs {K : PySem.W.Frag} {H : Hp} : ∀ (ds : List PyData) (vs : List V), DpAll K H vs ds → PyData.hasDictAll ds = false
  | [], _, _ => by simp only [PyData.hasDictAll]
  | d :: ds, _, h => by
    cases h with
    | cons a b =>
      simp only [PyData.hasDictAll]
      rw [noD d _ a, noDs ds _ b]
      rfl
end
/-- a flat value's data -/
def flatD : V → Option PyData
  | .non => some .none
  | .bl b => some (.bool b)
  | .int i => some (.int i)
  | .str x => some (.str x)
  | _ => none
def keyD : Key → PyData
  | .inl i => .int i
  | .inr x => .str x
theorem flat_reads {h : Heap} {v : V} {u : Value} {d : PyData} (e : flatD v = some d) (r : RelV v u) : Reads h u d [] := by
  cases v with
  | non => cases e; cases r; exact .none
  | bl b => cases e; cases r; exact .bool b
  | int i => cases e; obtain ⟨t, rfl⟩ := r; exact .int i t
  | str x => cases e; obtain ⟨t, rfl⟩ := r; exact .str x t
  | byt _ => cases e
  | flt _ => cases e
  | ref _ => cases e
  | ty _ => cases e
theorem key_reads {h : Heap} {k : Key} {u : Value} (e : keyIs k u = true) : Reads h u (keyD k) [] := by
  rcases keyIs_shape e with ⟨i, t, rfl, rfl⟩ | ⟨x, t, rfl, rfl⟩
  · exact .int i t
  · exact .str x t
/-- the data of a flat dict, entry by entry -/
inductive FlatKv : List (Key × V) → List (PyData × PyData) → Prop
  | nil : FlatKv [] []
  | cons {k : Key} {v : V} {d : PyData} {kvs : List (Key × V)} {ds : List (PyData × PyData)} : flatD v = some d → FlatKv kvs ds → FlatKv ((k, v) :: kvs) ((keyD k, d) :: ds)
theorem flatkv_reads {P : Program} {w : World} {h : Heap} : ∀ {kvs : List (Key × V)} {ds : List (PyData × PyData)} {es : List DictEntry} {vs : List (Key × Value)}, FlatKv kvs ds → KV kvs vs → Pairs (mixKind P w) es vs →
    ReadsAll h (es.map (·.key)) (ds.map (·.1)) [] ∧ ReadsAll h (es.map (·.val)) (ds.map (·.2)) []
  | _, _, _, _, .nil, .nil, .nil => ⟨.nil, .nil⟩
  | _, _, _, _, .cons e f, .cons r q, .cons p1 p2 p3 => by
    obtain ⟨a, b⟩ := flatkv_reads f q p3
    obtain ⟨r1, r2⟩ := r
    refine ⟨?_, ?_⟩
    · have e1 := key_reads (h := h) (show keyIs _ _ = true from (mixKind_is P w _ _).symm.trans p1)
      rw [← r1] at e1
      exact ReadsAll.cons e1 a
    · rw [← p2] at r2
      exact ReadsAll.cons (flat_reads e r2) b

section
variable {X : Cx}
/-- repr(v), v plain data -/
def rRepr (K : PySem.W.Frag) : List V → Hp → VK → Prop := fun xs H Q => ∃ v d, xs = [v] ∧ Dp K H v d ∧ d.showable = true ∧ d.depth ≤ 60 ∧ d.shown.length ≤ sizeLine ∧ Q (.str d.shown) H
theorem call_repr (hg : X.A.guards = some []) (hu : X.A.units + 64 < cLine) : CallR X (.builtin "repr") (rRepr X.K) := by
  rintro pins s σ H xs us Q I r ⟨v, d, rfl, hd, hs, hdep, hsz, q⟩
  obtain ⟨u, rfl, r1⟩ := vals1 r
  have hno := noD d v hd
  have key : ∀ {a : Addr}, u = .ref a → wpAny (model X.prog X.w) X.A (call (.builtin "repr") [u]) (EP X pins σ Q) X.xe s := by
    rintro a rfl
    obtain ⟨as, rd⟩ := Dp.reads I d v _ hd r1
    refine repr_of_reads' rd hs (PyData.noDict_hsm hno) hg (by omega) (fun _ _ e => e) ?_ hsz
    intro h' t tk hk
    exact ⟨.str d.shown, H, I.kept hk, ⟨_, rfl⟩, q⟩
  cases hd with
  | non => cases r1; exact PySem.P.repr_of_none ⟨.str _, H, I.tok _, ⟨_, rfl⟩, by simpa only [PyData.shown] using q⟩
  | bl b => cases r1; exact PySem.P.repr_of_bool ⟨.str _, H, I.tok _, ⟨_, rfl⟩, by simpa only [PyData.shown] using q⟩
  | int i =>
    obtain ⟨t, rfl⟩ := r1
    have z : i.natAbs.log2 < 1920 := by simpa only [PyData.showable, decide_eq_true_eq] using hs
    exact PySem.P.repr_of_int z ⟨.str _, H, I.tok _, ⟨_, rfl⟩, by simpa only [PyData.shown] using q⟩
  | str x =>
    obtain ⟨t, rfl⟩ := r1
    have z : (reprText x).length ≤ sizeLine := by simpa only [PyData.shown] using hsz
    exact PySem.P.repr_of_str ⟨.str _, H, I.tok _, ⟨_, rfl⟩, by simpa only [PyData.shown] using q⟩ z
  | lst _ _ => exact key r1
  | tup _ _ => exact key r1
/-- repr(d), d a dict of flat values -/
def rReprD : List V → Hp → VK → Prop := fun xs H Q => ∃ (a : Addr) (kvs : List (Key × V)) (ds : List (PyData × PyData)), xs = [.ref a] ∧ H a = some (.dK kvs) ∧ FlatKv kvs ds ∧ (PyData.dict ds).showable = true ∧
  (PyData.dict ds).depth ≤ 60 ∧ (PyData.dict ds).shown.length ≤ sizeLine ∧ Q (.str (PyData.dict ds).shown) H
theorem call_reprD (hg : X.A.guards = some []) (hu : X.A.units + 64 < cLine) : CallR X (.builtin "repr") rReprD := by
  rintro pins s σ H xs us Q I r ⟨a, kvs, ds, rfl, ha, hf, hs, hdep, hsz, q⟩
  obtain ⟨u, rfl, r1⟩ := vals1 r
  obtain rfl : u = .ref a := r1
  obtain ⟨_, hsys, vs, kv, o, es, ep, h1, h2, h3, _, h5, _⟩ := (show ObjOk X.prog X.w H s.heap a (.dK kvs) from I.hok a _ ha)
  obtain ⟨ra, rb⟩ := flatkv_reads (h := s.heap) hf kv h5
  have rd : Reads s.heap (.ref a) (.dict ds) (a :: [] ++ []) := .dict h1 h2.1 h3 ra rb
  refine repr_of_reads' rd hs ?_ hg (by omega) (fun _ _ e => e) ?_ hsz
  · intro _ hm
    have e : sysModules = a := by simpa using hm
    rw [e] at hsys
    simp at hsys
  · intro h' t tk hk
    exact ⟨.str _, H, I.kept hk, ⟨_, rfl⟩, q⟩
theorem call_repr2 (hg : X.A.guards = some []) (hu : X.A.units + 64 < cLine) : CallR X (.builtin "repr") (fun xs H Q => rRepr X.K xs H Q ∨ rReprD xs H Q) := CallR.or (call_repr hg hu) (call_reprD hg hu)
end
end FT

/-! small words: heaps but for one place, lists of ints as data, a cut between two statements -/
namespace FT
open PySem PySem.Spec PyProof.Rows L2

/-- all but p stands as it stood -/
def Kp (p : Addr) (H H' : Hp) : Prop := ∀ b o, b ≠ p → H b = some o → H' b = some o
theorem Kp.refl (p : Addr) (H : Hp) : Kp p H H := fun _ _ _ h => h
theorem Kp.trans {p : Addr} {H H1 H2 : Hp} (a : Kp p H H1) (b : Kp p H1 H2) : Kp p H H2 := fun c o n h => b c o n (a c o n h)
theorem Kp.put {p : Addr} {H H' : Hp} {o : HO} (a : Kp p H H') : Kp p H (upd H' p o) := fun c u n h => by rw [upd_ne n]; exact a c u n h
theorem Kp.new {p q : Addr} {H H' : Hp} {o : HO} (a : Kp p H H') (hq : H' q = none) : Kp p H (upd H' q o) := fun c u n h => by
  have e := a c u n h
  rw [upd_ne (ne_of_none e hq)]
  exact e
theorem Kp.of_same {p : Addr} {H H' : Hp} (a : Same H H') : Kp p H H' := fun c o _ h => a c o h
theorem Same.new {H H' : Hp} {q : Addr} {o : HO} (a : Same H H') (hq : H' q = none) : Same H (upd H' q o) := fun c u h => by
  have e := a c u h
  rw [upd_ne (ne_of_none e hq)]
  exact e
theorem at_new {H : Hp} {p q : Addr} {o u : HO} (h : H p = some o) (hq : H q = none) : upd H q u p = some o := by rw [upd_ne (ne_of_none h hq)]; exact h
theorem at_oth {H : Hp} {p q : Addr} {o u : HO} (h : H p = some o) (n : p ≠ q) : upd H q u p = some o := by rw [upd_ne n]; exact h
theorem ne_lst {H : Hp} {p q : Addr} {xs ys : List V} (h : H p = some (.lst xs)) (g : H q = some (.lst ys)) (n : xs ≠ ys) : p ≠ q := ne_of h g fun e => n (HO.lst.inj e)

/-- a cut: whatever stands behind, W is what the first statement must reach -/
theorem seq_cut {t u : TS} {D : Ends} {σ : L2.St} {H : Hp} (W : L2.St → Hp → Prop) (h1 : ∀ N : L2.St → Hp → Prop, (∀ σ' H', W σ' H' → N σ' H') → t { D with nx := N } σ H)
    (h2 : ∀ σ' H', W σ' H' → u D σ' H') : tSeq t u D σ H := h1 (u D) h2

theorem dp_ints {K : PySem.W.Frag} {H : Hp} : ∀ ns : List Int, DpAll K H (ns.map V.int) (ns.map PyData.int)
  | [] => .nil
  | n :: r => .cons (.int n) (dp_ints r)
theorem dp_bools {K : PySem.W.Frag} {H : Hp} : ∀ ns : List Bool, DpAll K H (ns.map V.bl) (ns.map PyData.bool)
  | [] => .nil
  | n :: r => .cons (.bl n) (dp_bools r)
theorem depthAll_ints : ∀ ns : List Int, PyData.depthAll (ns.map PyData.int) = 0
  | [] => by simp only [List.map_nil, PyData.depthAll]
  | n :: r => by
    simp only [List.map_cons, PyData.depthAll, PyData.depth]
    rw [depthAll_ints r]
    rfl
theorem layAll_ints : ∀ ns : List Int, PyData.canLayAll0 (ns.map PyData.int) = true
  | [] => by simp only [List.map_nil, PyData.canLayAll0]
  | n :: r => by
    simp only [List.map_cons, PyData.canLayAll0, PyData.canLay0]
    rw [layAll_ints r]
    rfl
theorem shaped_ints (ns : List Int) : SeqAt.shaped (.list (ns.map PyData.int)) = true := by
  unfold SeqAt.shaped
  simp only [PyData.canLay0, PyData.depth, layAll_ints, depthAll_ints]
  rfl
theorem eqv_ints : ∀ ns ms : List Int, PyData.eqvAll (ns.map PyData.int) (ms.map PyData.int) = decide (ns = ms)
  | [], [] => by simp [PyData.eqvAll]
  | [], m :: r => by simp [PyData.eqvAll]
  | n :: r, [] => by simp [PyData.eqvAll]
  | n :: r, m :: q => by
    simp only [List.map_cons, PyData.eqvAll, PyData.eqv, eqv_ints r q]
    by_cases h1 : n = m <;> by_cases h2 : r = q <;> simp [h1, h2]
theorem eqv_list (ns ms : List Int) : PyData.eqv (.list (ns.map PyData.int)) (.list (ms.map PyData.int)) = decide (ns = ms) := by
  simp only [PyData.eqv, eqv_ints]
theorem mod_fits {i m : Int} (h1 : 1 ≤ m) : 0 ≤ i.fmod m ∧ i.fmod m < m := ⟨Int.fmod_nonneg_of_pos _ (by omega), Int.fmod_lt_of_pos _ (by omega)⟩
/-- an item at a rest of the length -/
theorem at_mod {ns : List Int} (t : Int) (h : ns ≠ []) : ∃ x, atI (ns.map V.int) (t.fmod (ns.length : Int)) = some (.int x) := by
  have hl : 0 < ns.length := List.length_pos_iff.mpr h
  obtain ⟨h0, h1⟩ := mod_fits (i := t) (m := (ns.length : Int)) (by omega)
  obtain ⟨j, hj⟩ : ∃ j : Nat, t.fmod (ns.length : Int) = (j : Int) := ⟨(t.fmod (ns.length : Int)).toNat, by omega⟩
  have hlt : j < ns.length := by omega
  refine ⟨ns[j], ?_⟩
  rw [hj]
  exact atI_nat (by rw [List.getElem?_map, List.getElem?_eq_getElem hlt]; rfl)
end FT

/-! the bag of draws; a list or a tuple walked; kinds of values -/
namespace FT
open PySem PySem.Spec PyProof.Rows L2

/-- the bag at p, its ints at c, after n draws at most -/
structure Bg (H : Hp) (p c : Addr) (n : Nat) : Prop where
  ne : c ≠ p
  at_ : ∃ (ms : List Int) (t l : Int), H p = some (.lst [.ref c, .int t, .int l]) ∧ H c = some (.lst (ms.map V.int)) ∧ ms.length ≤ 63 ∧ 0 ≤ t ∧ t ≤ (n : Int)
section
variable {H H' : Hp} {p c q : Addr} {n m : Nat} {o : HO}
theorem Bg.same (b : Bg H p c n) (h1 : H' p = H p) (h2 : H' c = H c) : Bg H' p c n := by
  obtain ⟨e, ms, t, l, a1, a2, a3⟩ := b
  exact ⟨e, ms, t, l, h1.trans a1, h2.trans a2, a3⟩
theorem Bg.has (b : Bg H p c n) : (∃ o, H p = some o) ∧ ∃ o, H c = some o := by
  obtain ⟨e, ms, t, l, a1, a2, a3⟩ := b
  exact ⟨⟨_, a1⟩, ⟨_, a2⟩⟩
theorem Bg.keep (b : Bg H p c n) (s : Same H H') : Bg H' p c n := by
  obtain ⟨e, ms, t, l, a1, a2, a3⟩ := b
  exact ⟨e, ms, t, l, s _ _ a1, s _ _ a2, a3⟩
theorem Bg.new (b : Bg H p c n) (hq : H q = none) : Bg (upd H q o) p c n := b.keep (Same.new (fun _ _ h => h) hq)
theorem Bg.oth (b : Bg H p c n) (h1 : p ≠ q) (h2 : c ≠ q) : Bg (upd H q o) p c n := b.same (upd_ne h1) (upd_ne h2)
theorem Bg.le (b : Bg H p c n) (h : n ≤ m) : Bg H p c m := by
  obtain ⟨e, ms, t, l, a1, a2, a3, a4, a5⟩ := b
  exact ⟨e, ms, t, l, a1, a2, a3, a4, by omega⟩
end

/-- an int, as the package takes it -/
def isI : V → Bool
  | .int _ => true
  | _ => false
def isB : V → Bool
  | .bl _ => true
  | _ => false
/-- values whose kind is known -/
def OkV (H : Hp) : V → Prop
  | .non => True
  | .bl _ => True
  | .int _ => True
  | .str _ => True
  | .ref a => (∃ xs, H a = some (.lst xs)) ∨ (∃ xs, H a = some (.tup xs)) ∨ ∃ kvs, H a = some (.dK kvs)
  | _ => False
theorem OkV.mono {H H' : Hp} {v : V} (h : OkV H v) (s : ∀ a o, v = .ref a → H a = some o → H' a = some o) : OkV H' v := by
  cases v with
  | ref a =>
    rcases h with ⟨xs, e⟩ | ⟨xs, e⟩ | ⟨xs, e⟩
    · exact .inl ⟨xs, s _ _ rfl e⟩
    · exact .inr (.inl ⟨xs, s _ _ rfl e⟩)
    · exact .inr (.inr ⟨xs, s _ _ rfl e⟩)
  | non => exact h
  | bl _ => exact h
  | int _ => exact h
  | str _ => exact h
  | byt _ => exact h
  | flt _ => exact h
  | ty _ => exact h
def isLT (H : Hp) : V → Bool
  | .ref a => match H a with
    | some (.lst _) => true
    | some (.tup _) => true
    | _ => false
  | _ => false
/-- its class, and what isinstance says -/
theorem kindV {K : PySem.W.Frag} {H : Hp} {v : V} (h : OkV H v) : ∃ T : String, TyX K H v (.type T) ∧ kitB T "int" = some (isI v || isB v) ∧ kitB T "bool" = some (isB v) ∧
    PySem.W.kitAny K (.type T) [.type "list", .type "tuple"] = some (isLT H v) := by
  have any2 : ∀ {T : String} {a b : Bool}, kitB T "list" = some a → kitB T "tuple" = some b → PySem.W.kitAny K (.type T) [.type "list", .type "tuple"] = some (a || b) := by
    intro T a b h1 h2
    refine kitAny_cons (kit_ty h1) (fun e => ?_) (fun e => by rw [e]; rfl)
    subst e
    refine kitAny_cons (kit_ty h2) (fun e => by subst e; exact kitAny_nil) (fun e => by rw [e]; rfl)
  cases v with
  | non => exact ⟨"NoneType", .base .non, (show kitB "NoneType" "int" = some false by decide +kernel), (show kitB "NoneType" "bool" = some false by decide +kernel), any2 (a := false) (b := false) (by decide +kernel) (by decide +kernel)⟩
  | bl b => exact ⟨"bool", .base (.bl b), (show kitB "bool" "int" = some true by decide +kernel), (show kitB "bool" "bool" = some true by decide +kernel), any2 (a := false) (b := false) (by decide +kernel) (by decide +kernel)⟩
  | int b => exact ⟨"int", .base (.int b), (show kitB "int" "int" = some true by decide +kernel), (show kitB "int" "bool" = some false by decide +kernel), any2 (a := false) (b := false) (by decide +kernel) (by decide +kernel)⟩
  | str b => exact ⟨"str", .base (.str b), (show kitB "str" "int" = some false by decide +kernel), (show kitB "str" "bool" = some false by decide +kernel), any2 (a := false) (b := false) (by decide +kernel) (by decide +kernel)⟩
  | ref a =>
    rcases h with ⟨xs, e⟩ | ⟨xs, e⟩ | ⟨xs, e⟩
    · refine ⟨"list", .base (.lst e), (show kitB "list" "int" = some false by decide +kernel), (show kitB "list" "bool" = some false by decide +kernel), ?_⟩
      have z : isLT H (.ref a) = (true || false) := by simp only [isLT, e]; rfl
      rw [z]
      exact any2 (by decide +kernel) (by decide +kernel)
    · refine ⟨"tuple", .base (.tup e), (show kitB "tuple" "int" = some false by decide +kernel), (show kitB "tuple" "bool" = some false by decide +kernel), ?_⟩
      have z : isLT H (.ref a) = (false || true) := by simp only [isLT, e]; rfl
      rw [z]
      exact any2 (by decide +kernel) (by decide +kernel)
    · refine ⟨"dict", .base (.dK e), (show kitB "dict" "int" = some false by decide +kernel), (show kitB "dict" "bool" = some false by decide +kernel), ?_⟩
      have z : isLT H (.ref a) = (false || false) := by simp only [isLT, e]; rfl
      rw [z]
      exact any2 (by decide +kernel) (by decide +kernel)
  | byt _ => exact h.elim
  | flt _ => exact h.elim
  | ty _ => exact h.elim

/-! a name that holds a list or a tuple, walked -/
def SeqR (K : PySem.W.Frag) (H : Hp) (a : Addr) (R : It → Hp → Prop) : Prop := ((∃ xs, SqL K H a xs) ∧ R (Itl K a) H) ∨ ((∃ xs, SqT K H a xs) ∧ R (Itt K a) H)
def iSeq (K : PySem.W.Frag) (tl : TE) : TI := fun σ H R => tl σ H fun x H1 => ∃ a, x = .ref a ∧ SeqR K H1 a R
theorem pi_seqV {X : Cx} {tg l : Expr} {i : Nat} (hl : PE X l (tVar i)) : PI X tg l (iSeq X.K (tVar i)) := by
  constructor
  rintro pins s σ H R I ⟨v, e, a, rfl, h⟩
  rcases h with ⟨hx, r⟩ | ⟨hx, r⟩
  · exact (pi_list hl).run pins s σ H R I ⟨_, e, a, rfl, hx, r⟩
  · exact (pi_tup hl).run pins s σ H R I ⟨_, e, a, rfl, hx, r⟩
/-- a list or a tuple of xs stands at a -/
def SqA (K : PySem.W.Frag) (H : Hp) (a : Addr) (xs : List V) : Prop := SqL K H a xs ∨ SqT K H a xs
theorem sqL_at {K : PySem.W.Frag} {H H' : Hp} {a : Addr} {xs : List V} (h : SqL K H a xs) (s : ∀ o, H a = some o → H' a = some o) : SqL K H' a xs := by
  rcases h with (h | ⟨o, h⟩) | h
  · exact .inl (.inl (s _ h))
  · exact .inl (.inr ⟨o, s _ h⟩)
  · exact .inr h
theorem sqT_at {K : PySem.W.Frag} {H H' : Hp} {a : Addr} {xs : List V} (h : SqT K H a xs) (s : ∀ o, H a = some o → H' a = some o) : SqT K H' a xs := by
  rcases h with (h | ⟨o, h⟩) | h
  · exact .inl (.inl (s _ h))
  · exact .inl (.inr ⟨o, s _ h⟩)
  · exact .inr h
theorem seq_by {K : PySem.W.Frag} {H : Hp} {a : Addr} {xs : List V} {R : It → Hp → Prop} (h : SqA K H a xs)
    (r : ∀ (J : It) (G : Hp → Prop), Walk J xs.length G (YAt xs) → (∀ H', (∀ o, H a = some o → H' a = some o) → G H') → R J H) :
    SeqR K H a R := by
  rcases h with h | h
  · exact .inl ⟨⟨_, h⟩, r _ _ walk_list fun H' s => sqL_at h s⟩
  · exact .inr ⟨⟨_, h⟩, r _ _ walk_tup fun H' s => sqT_at h s⟩
end FT
namespace FT
open PySem PySem.Spec PyProof.Rows L2
theorem kbindsF {K : PySem.W.Frag} {x qual : Str} {st : Stmt} {f : Addr} {fd : FuncData} {ps ks : List Str} {g : List Value → List Value → List Value} {gV : List V → List V → List V} (F : Fun K x qual st f fd)
    (rel : ∀ {vs : List V} {us : List Value} {zs : List V} {ws : List Value}, Vals vs us → Vals zs ws → Vals (gV vs zs) (g us ws))
    (h : ∀ (kV doc pm : Value) (an : Option Addr) (cdv ct : Value) (us ws : List Value), (g us ws).length = ps.length →
      bindArgs (PySem.W.fnOf x qual (defArgs st) (defBody st) (defScope st) .none kV doc pm an cdv ct) ⟨us, ks.zip ws⟩ = pure (ps.zip (g us ws))) : KBinds K fd ps ks g gV := by
  obtain ⟨oc, od, kV, doc, pm, an, cdv, ct, osl, rfl, _, _⟩ := F.ex
  exact ⟨fun s us ws _ hl => .of_eq (h kV doc pm an cdv ct us ws hl), rel⟩
end FT
namespace FT
open PySem PySem.Spec PyProof.Rows L2
theorem tYes_of {σ : L2.St} {H : Hp} {Q : Bool → Hp → Prop} (h : Q true H) : tYes σ H Q := h
end FT
namespace FT
open PySem PySem.Spec PyProof.Rows L2
theorem textFrom_le {m : Nat} : ∀ (ts : List Str) (k : Nat) (acc : Str), (∀ t ∈ ts, t.length ≤ m) → (textFrom k acc ts).length ≤ acc.length + ts.length * (m + 2)
  | [], k, acc, _ => by
    show acc.length ≤ _
    exact Nat.le_add_right _ _
  | t :: r, k, acc, h => by
    have ih := textFrom_le r (k + 1) (acc ++ (if k > 0 then ", " else "" : String) ++ t) fun u hu => h u (List.mem_cons_of_mem _ hu)
    have h1 := h t List.mem_cons_self
    have e : (acc ++ (if k > 0 then ", " else "" : String) ++ t).length ≤ acc.length + 2 + t.length := by
      rw [strLen_append, strLen_append]
      split <;> (simp only [Nat.add_le_add_iff_right]; show acc.length + _ ≤ acc.length + 2; exact Nat.add_le_add_left (by decide) _)
    show (textFrom (k + 1) _ r).length ≤ _
    rw [List.length_cons, Nat.succ_mul]
    omega
theorem listText_le {m : Nat} {ts : List Str} (h : ∀ t ∈ ts, t.length ≤ m) : (listText ts).length ≤ 2 + ts.length * (m + 2) := by
  have q := textFrom_le ts 0 "[" h
  unfold listText
  rw [strLen_append]
  have e1 : ((("[" : String) : Str)).length = 1 := rfl
  have e2 : ((("]" : String) : Str)).length = 1 := rfl
  rw [e1] at q
  rw [e2]
  omega
theorem shownAll_map : ∀ ds : List PyData, PyData.shownAll ds = ds.map PyData.shown
  | [] => by simp only [PyData.shownAll, List.map_nil]
  | d :: r => by simp only [PyData.shownAll, List.map_cons, shownAll_map r]
/-- the repr of a list, as a word -/
@[irreducible] def showL (ds : List PyData) : Str := (PyData.list ds).shown
theorem showL_eq (ds : List PyData) : showL ds = (PyData.list ds).shown := by unfold showL; rfl
/-- repr of a list of short things -/
theorem rep_list {K : PySem.W.Frag} {H : Hp} {q : Addr} {vs : List V} {ds : List PyData} {Q : VK} (h : SqL K H q vs) (dp : DpAll K H vs ds) (sh : PyData.showableAll ds = true) (dep : PyData.depthAll ds ≤ 50)
    (hl : ∀ d ∈ ds, d.shown.length ≤ 100) (hn : ds.length ≤ 100) (k : Q (.str (showL ds)) H) : rRepr K [.ref q] H Q ∨ rReprD [.ref q] H Q := by
  rw [showL_eq] at k
  refine .inl ⟨_, .list ds, rfl, .lst h dp, by simp only [PyData.showable, sh], by simp only [PyData.depth]; omega, ?_, k⟩
  simp only [PyData.shown, shownAll_map]
  have q := listText_le (m := 100) (ts := ds.map PyData.shown) fun t ht => by
    obtain ⟨d, hd, rfl⟩ := List.mem_map.mp ht
    exact hl d hd
  rw [List.length_map] at q
  have : ds.length * (100 + 2) ≤ 100 * 102 := Nat.mul_le_mul_right _ hn
  have z : (10300 : Nat) ≤ sizeLine := by decide
  omega
theorem showAll_bools : ∀ bs : List Bool, PyData.showableAll (bs.map PyData.bool) = true
  | [] => by simp only [List.map_nil, PyData.showableAll]
  | b :: r => by simp only [List.map_cons, PyData.showableAll, PyData.showable, showAll_bools r, Bool.and_true]
theorem depthAll_bools : ∀ bs : List Bool, PyData.depthAll (bs.map PyData.bool) = 0
  | [] => by simp only [List.map_nil, PyData.depthAll]
  | b :: r => by simp only [List.map_cons, PyData.depthAll, PyData.depth, depthAll_bools r, Nat.max_self]
theorem rep_bools {K : PySem.W.Frag} {H : Hp} {q : Addr} {bs : List Bool} {Q : VK} (h : SqL K H q (bs.map V.bl)) (hn : bs.length ≤ 100) (k : Q (.str (showL (bs.map PyData.bool))) H) : rRepr K [.ref q] H Q ∨ rReprD [.ref q] H Q := by
  refine rep_list h (dp_bools bs) (showAll_bools bs) (by rw [depthAll_bools]; decide) (fun d hd => ?_) (by rw [List.length_map]; exact hn) k
  obtain ⟨b, _, rfl⟩ := List.mem_map.mp hd
  simp only [PyData.shown]
  cases b <;> decide
end FT

/-! own exceptions as values: made by place and by name, their fields, their kind -/
namespace PySem
namespace HandSPX
open PySem.W PySem.Calls PyProof.Rows
section
variable {M : Model} {A : Around} {E : Value → Shared → Prop} {h : Heap} {g : Array GenState} {d : Drawn} {t : Nat} {os : OsState}
variable {nm q : Str} {C N : Addr} {bs bm bmB : List Value} {hdct : Bool} {sn : List Str} {sub : List Value} {ab : Bool} {col : Option Bool} {dd : Option Addr} {k0 k1 k2 k3 k5 : Option Value} {B newId initId : String}
theorem kw_check_new (F : ExcBaseFacts B newId initId bmB) (hT : ∀ X : String, bm.contains (.type X) = bmB.contains (.type X)) {rest : List Value} {kw : List (Str × Value)} {Q : Unit → Shared → Prop}
    (hC : h.get? C = some (excClassObj nm q C N bs bm hdct sn sub ab col dd k0 k1 k2 k3 k5 newId)) (hq : Q () ⟨h, g, d, t, os⟩) : wpAny M A (checkBuiltinCall newId ⟨.ref C :: rest, kw⟩) Q E ⟨h, g, d, t, os⟩ := by
  have hcont : (Value.ref C :: bm).contains (.type B) = true := by rw [List.contains_cons, hT, F.hasB, Bool.or_true]
  have hstar := F.noStar
  simp only [checkBuiltinCall, F.newKind, F.newSplit, F.newRow]
  repeat (first | refine wpAny_loadPart_at hC ?_ | (refine wpAny_isSubtype_exc hC ?_; rw [hcont]) | refine wpAny_staticBase_exc hC ?_ | refine wpAny_madeBy_exc hC ?_ | simp only [bne_self_eq_false, Bool.false_eq_true, if_false] | wp_step)
  exact hq
theorem kw_check_tc {rest : List Value} {kw : List (Str × Value)} {Q : Unit → Shared → Prop} (hC : h.get? C = some (excClassObj nm q C N bs bm hdct sn sub ab col dd k0 k1 k2 k3 k5 newId))
    (hq : Q () ⟨h, g, d, t, os⟩) : wpAny M A (checkBuiltinCall "type.__call__" ⟨.ref C :: rest, kw⟩) Q E ⟨h, g, d, t, os⟩ := by
  have f3 := tc_sub
  have hT : (⟨h, g, d, t, os⟩ : Shared).TypeIs (.ref C) "type" := ⟨_, hC, rfl⟩
  simp only [checkBuiltinCall, tc_kind, tc_split]
  repeat (any_goals (first | assumption | with_reducible refine wpAny_loadPart_at hC ?_ | with_reducible refine wpAny_onRaise ?_ | with_reducible refine wpAny_map ?_ | wp_step))
end
section
variable {prog : Program} {w : World} {A : Around} {E : Value → Shared → Prop} {R : Result → Shared → Prop} {h : Heap} {g : Array GenState} {d : Drawn} {t : Nat} {os : OsState}
variable {nm q : Str} {C N : Addr} {bs bm bmB : List Value} {hdct : Bool} {sn : List Str} {sub : List Value} {ab : Bool} {col : Option Bool} {dd : Option Addr} {k0 k1 k2 k3 k5 : Option Value} {B newId initId : String}
theorem kw_new_own (F : ExcBaseFacts B newId initId bmB) (hT : ∀ X : String, bm.contains (.type X) = bmB.contains (.type X)) {rest : List Value} {kw : List (Str × Value)}
    (hC : h.get? C = some (excClassObj nm q C N bs bm hdct sn sub ab col dd k0 k1 k2 k3 k5 newId))
    (hq : R (.ok (.ret (.ref (h.objs.size + 1)))) ⟨(h.push { cls := .type "tuple", data := .seq rest.toArray }).push
      { cls := .ref C, data := .fields #[.ref h.objs.size, .none, .none, .none, .bool false, .none] }, g, d, t, os⟩) (hrest : rest.length ≤ sizeLine) :
    codeAny (model prog w) A (.builtin newId ⟨.ref C :: rest, kw⟩) R ⟨h, g, d, t, os⟩ := by
  have hends := F.ends
  have hcB : (Value.ref C :: bm).contains (.type B) = true := by rw [List.contains_cons, hT, F.hasB, Bool.or_true]
  have hcA : (Value.ref C :: bm).contains (.type "AttributeError") = false := by rw [List.contains_cons, hT, F.noAttr]; rfl
  have hcN : (Value.ref C :: bm).contains (.type "NameError") = false := by rw [List.contains_cons, hT, F.noName]; rfl
  refine codeAny_builtinAt F.entry ?_
  unfold Builtin.«BaseException.__new__»
  refine wpAt_bind ?_
  show wpAt _ _ _ (stack >>= _) _ _ _
  refine wpAt_bind (wpAt_stack fun p below => wpAt_of_wpAny ?_)
  wp_walk
  refine wpAt_of_wpAny ?_
  rw [F.owner]
  repeat (first | with_reducible refine wpAny_madeHere_exc F.canon hC ?_ | with_reducible refine wpAny_loadPart_at hC ?_ | (with_reducible refine wpAny_isSubtype_exc hC ?_; first | rw [hcB] | rw [hcA] | rw [hcN]) | wp_step)
  show R _ _
  rw [Heap.size_push]
  exact hq
theorem kw_type_call (F : ExcBaseFacts B newId initId bmB) (hT : ∀ X : String, bm.contains (.type X) = bmB.contains (.type X)) {rest : List Value} {kw : List (Str × Value)} {fI : Addr} {Q : Fin → Shared → Prop}
    (hC : h.get? C = some (excClassObj nm q C N bs bm hdct sn sub ab col dd k0 k1 k2 k3 k5 newId))
    (hi : W.Looks (model prog w) h (typeLookup (.ref C) "__init__") (some (.ref fI))) (hb : ∀ self, W.Looks (model prog w) h (bindSpecial (.ref fI) self) (.ref fI, [self])) (hrest : rest.length ≤ sizeLine)
    (hq : codeAny (model prog w) A (.call (.ref fI) ⟨.ref (h.objs.size + 1) :: rest, kw⟩)
      (fun r s' => match r with | .ok (.ret v) => v = .none ∧ Q (.done (.ret (.ref (h.objs.size + 1)))) s' | .ok _ => False | .error e => E e s')
      ⟨(h.push (W.kdv_tup rest)).push (excO C h.objs.size), g, d, t, os⟩) :
    wpAny (model prog w) A (Builtin.«type.__call__» ⟨.ref C :: rest, kw⟩) Q E ⟨h, g, d, t, os⟩ := by
  repeat (first | with_reducible refine wpAny_loadPart_at hC ?_ | with_reducible refine wpAny_madeBy_exc hC ?_ | wp_step)
  refine codeAny_call_builtin_code (Code.quiet_builtin _ F.quiet) (kw_check_new F hT hC ?_)
  refine kw_new_own F hT hC ?_ hrest
  show wpAny _ _ _ _ _ _
  have k : ∀ b o, h.get? b = some o → ((h.push (W.kdv_tup rest)).push (excO C h.objs.size)).get? b = some o := fun b o e => Heap.get?_push_of_some _ (Heap.get?_push_of_some _ e)
  have hC₁ := k _ _ hC
  have hget : ((h.push (W.kdv_tup rest)).push (excO C h.objs.size)).get? (h.objs.size + 1) = some (excO C h.objs.size) := by heap_get
  have hcC : (Value.ref C :: bm).contains (.ref C) = true := by simp
  have i1 := hi.keeps k
  have b1 := (hb (.ref (h.objs.size + 1))).keeps k
  unfold isInstance
  repeat (first | with_reducible refine wpAny_loadPart_at hget ?_ | (with_reducible refine wpAny_isSubtype_exc hC₁ ?_; rw [hcC]) | wp_step)
  show wpAny _ _ (typeLookup (.ref C) _) _ _ _
  refine i1.at ?_
  refine wpAny_holding (wpAny_bind (b1.at ?_))
  refine wpAny_bind (wpAny_call (codeAny_mono hq fun r s' z => ?_))
  rcases r with e | (v | _ | _ | _) <;> first | exact z | exact z.elim | skip
  obtain ⟨rfl, z⟩ := z
  first
    | exact wpAny_pure (wpAny_pure z)
    | (wp_walk; exact z)
theorem kw_call_own (F : ExcBaseFacts B newId initId bmB) (hT : ∀ X : String, bm.contains (.type X) = bmB.contains (.type X)) {rest : List Value} {kw : List (Str × Value)} {fI : Addr}
    (hC : h.get? C = some (excClassObj nm q C N bs bm hdct sn sub ab col dd k0 k1 k2 k3 k5 newId))
    (hi : W.Looks (model prog w) h (typeLookup (.ref C) "__init__") (some (.ref fI))) (hb : ∀ self, W.Looks (model prog w) h (bindSpecial (.ref fI) self) (.ref fI, [self])) (hrest : rest.length ≤ sizeLine)
    (hq : codeAny (model prog w) (A.under (.builtin "type.__call__" ⟨.ref C :: rest, kw⟩)) (.call (.ref fI) ⟨.ref (h.objs.size + 1) :: rest, kw⟩) (W.InitBack (h.objs.size + 1) R)
      ⟨(h.push (W.kdv_tup rest)).push (excO C h.objs.size), g, d, t, os⟩) :
    codeAny (model prog w) A (.call (.ref C) ⟨rest, kw⟩) R ⟨h, g, d, t, os⟩ := by
  have f1 := tc_lookup
  have f2 := tc_bind (.ref C)
  have hTy : (⟨h, g, d, t, os⟩ : Shared).TypeIs (.ref C) "type" := ⟨_, hC, rfl⟩
  refine codeAny_of_tree ?_
  show wpAny _ _ (callAny (.ref C) _) _ _ _
  repeat (any_goals (first | assumption | with_reducible refine wpAny_loadPart_at hC ?_ | wp_step))
  refine ⟨rfl, ?_⟩
  refine codeAny_call_builtin_at (Code.quiet_builtin _ (by decide +kernel)) entry_typeCall (kw_check_tc hC (kw_type_call F hT hC hi hb hrest ?_))
  refine codeAny_mono hq fun r s' z => ?_
  rcases r with e | (v | _ | _ | _) <;> exact z
end
end HandSPX
end PySem

namespace FT
open PySem PySem.Spec PyProof.Rows L2

/-- C(..) as a value, C's own __init__ keeping sp -/
@[irreducible] def rMkX (C : Addr) (sp : Sp) (vs : List V) (H1 : Hp) (Q : VK) : Prop := vs.length ≤ 1000 ∧ ∀ a, H1 a = none → sp (.ref a :: vs) (upd H1 a (exo a C none)) (fun v H2 => v = .non ∧ Q (.ref a) H2) (fun _ _ _ => False)
def tMkX (C : Addr) (sp : Sp) (ta : TA) : TE := fun σ H Q => ta σ H fun vs H1 => rMkX C sp vs H1 Q
@[irreducible] def rMkXK (C : Addr) (sp : Sp) (gV : List V → List V → List V) (vs zs : List V) (H2 : Hp) (Q : VK) : Prop := vs.length ≤ 1000 ∧ ∀ a, H2 a = none → sp (gV (.ref a :: vs) zs) (upd H2 a (exo a C none)) (fun v H3 => v = .non ∧ Q (.ref a) H3) (fun _ _ _ => False)
def tMkXK (C : Addr) (sp : Sp) (gV : List V → List V → List V) (ta tk : TA) : TE := fun σ H Q => ta σ H fun vs H1 => tk σ H1 fun zs H2 => rMkXK C sp gV vs zs H2 Q
section
variable {X : Cx} {CX : CXT} {k : Nat} {fI C : Addr} {fd : FuncData} {ps ks : List Str} {sp : Sp} {x : Str} {p pos : Pos} {e : Expr} {es : List Expr} {t tk : TA} {kws : List Keyword} {g : List Value → List Value → List Value} {gV : List V → List V → List V}
/-- the making itself: args are there -/
theorem run_mkx {pins : List (Addr × Obj)} {σ : L2.St} {H : Hp} {s : Shared} {Q : VK} {us : List Value} {kw : List (Str × Value)} {all : Value → List Value} {allV : V → List V} (T : OexC X.K C) (iC : PySem.W.findIn X.K (.ref C) "__init__" = some (some (.ref fI))) (tI : PySem.W.typeIn X.K (.ref fI) = some (.type "function"))
    (F : FnG X.prog X.w X.K X.mg X.base CX k fI fd ps sp) (hr : RG (k + 1) X.A) (hx : Passes CX X (fun _ _ _ => False)) (I : Inv X pins σ H s) (hus : us.length ≤ sizeLine)
    (hb : ∀ (a : Addr) (s' : Shared), X.K.In s'.heap → (all (.ref a)).length = ps.length → BindsTo s' fd ⟨.ref a :: us, kw⟩ (ps.zip (all (.ref a)))) (r : ∀ a : Addr, Vals (allV (.ref a)) (all (.ref a)))
    (h : ∀ a, H a = none → sp (allV (.ref a)) (upd H a (exo a C none)) (fun v H2 => v = .non ∧ Q (.ref a) H2) (fun _ _ _ => False)) :
    wpAny (model X.prog X.w) X.A (call (.ref C) us kw) (EP X pins σ Q) X.xe s := by
  obtain ⟨nm, q, N, bs, bm, sn, sub, ab, col, dd, k0, k1, k2, k3, k5, hC, hbm⟩ := T.cls
  obtain ⟨hp, gg, dr, tk, os⟩ := s
  have hsz : hp.objs.size ≤ hp.objs.size + 1 := Nat.le_succ _
  have hn : H (hp.objs.size + 1) = none := I.hok.fresh hsz
  have hq := h (hp.objs.size + 1) hn
  have kk : ∀ b o, hp.get? b = some o → ((hp.push (PySem.W.kdv_tup us)).push (PySem.HandSPX.excO C hp.objs.size)).get? b = some o := fun b o e => Heap.get?_push_of_some _ (Heap.get?_push_of_some _ e)
  have hget : ((hp.push (PySem.W.kdv_tup us)).push (PySem.HandSPX.excO C hp.objs.size)).get? (hp.objs.size + 1) = some (PySem.HandSPX.excO C hp.objs.size) := by heap_get
  have I2 : Inv X pins σ (upd H (hp.objs.size + 1) (exo (hp.objs.size + 1) C none)) ⟨(hp.push (PySem.W.kdv_tup us)).push (PySem.HandSPX.excO C hp.objs.size), gg, dr, tk, os⟩ :=
    I.laid (t' := tk) (a := hp.objs.size + 1) (o := exo (hp.objs.size + 1) C none) (h' := (hp.push (PySem.W.kdv_tup us)).push (PySem.HandSPX.excO C hp.objs.size)) kk hsz (exo_ok hget)
  have hl : (all (.ref (hp.objs.size + 1))).length = ps.length := (r _).length.symm.trans (F.arity _ _ _ _ hq)
  refine wpAny_call (PySem.HandSPX.kw_call_own PySem.F.excBase_ValueError (fun Y => PySem.HandSPX.refsVE_contains Y bm hbm) (I.kIn _ _ hC) (PySem.W.looks_findIn I.kIn iC) (fun self => PySem.W.bind_fn I.kIn self tI) hus
    (codeAny_mono (F.goes (hr.make C us kw) (I2.env0.make C us kw) (hb _ _ I2.kIn hl) (r _) hq) fun rr s' hq' => ?_))
  cases rr with
  | error er => exact hx pins σ _ _ er s' I2 hq'
  | ok fl =>
    cases fl with
    | ret u =>
      obtain ⟨v, H2, os2, bare2, un2, hok2, rv, ev, q2⟩ := hq'
      subst ev
      obtain rfl : u = Value.none := rv
      exact ⟨rfl, .ref (hp.objs.size + 1), H2, I2.call' (ch := []) os2 un2 hok2 bare2 (fun b z => absurd z (by simp)), rfl, q2⟩
    | next => exact False.elim hq'
    | brk => exact False.elim hq'
    | cont => exact False.elim hq'
theorem pe_mkX (T : OexC X.K C) (iC : PySem.W.findIn X.K (.ref C) "__init__" = some (some (.ref fI))) (tI : PySem.W.typeIn X.K (.ref fI) = some (.type "function"))
    (F : FnG X.prog X.w X.K X.mg X.base CX k fI fd ps sp) (hr : RG (k + 1) X.A) (hg : Gl X x) (hm : X.mg x = some (.ref C)) (hb : Binds X.K fd ps []) (hx : Passes CX X (fun _ _ _ => False)) (ha : PA X (e :: es) t)
    (hdb : (x == ("__debug__" : Str)) = false := by decide) (he : starEach (e :: es) X.env = (false, eval e X.env) :: starEach es X.env := by rfl) (hpl : (backTo pos (starEach es X.env)).any (·.1) = false := by rfl) :
    PE X (.Call (.Name x p) (e :: es) [] pos) (tMkX C sp t) := by
  constructor
  intro pins s σ H Q I h
  refine wpAny_Call_Name_kw (ld_glob I hg hm ?_ hdb)
  refine PySem.W.callWith_K (h₀ := X.base) I.ok.mod.kin T.kC (thn (ha.run pos pins s σ H _ I h) ?_) he hpl
  rintro us s1 ⟨vs, H1, I1, r1, q⟩
  unfold rMkX at q
  obtain ⟨hz, q1⟩ := q
  have hus : us.length ≤ sizeLine := by
    rw [← Paired.length r1, sizeLine_eq]
    omega
  refine ⟨I1.kIn, run_mkx (all := fun a => a :: us) (allV := fun a => a :: vs) T iC tI F hr hx I1 hus (fun a s' ki hl => ?_) (fun a => .cons rfl r1) q1⟩
  have q := hb s' (.ref a :: us) ki (by simpa using hl)
  rw [List.append_nil] at q
  exact q
theorem pe_mkXK0 (T : OexC X.K C) (iC : PySem.W.findIn X.K (.ref C) "__init__" = some (some (.ref fI))) (tI : PySem.W.typeIn X.K (.ref fI) = some (.type "function"))
    (F : FnG X.prog X.w X.K X.mg X.base CX k fI fd ps sp) (hr : RG (k + 1) X.A) (hg : Gl X x) (hm : X.mg x = some (.ref C)) (hb : KBinds X.K fd ps ks g gV) (hx : Passes CX X (fun _ _ _ => False)) (hkw : PK X kws tk)
    (hall : (backToKw pos (keywordEach kws X.env)).all (·.1.isSome) = true := by rfl)
    (hks : (backToKw pos (keywordEach kws X.env)).filterMap (·.1) = ks := by rfl)
    (hdb : (x == ("__debug__" : Str)) = false := by decide)
    (hpl : ((backTo pos (starEach [] X.env)).any (·.1) || (backToKw pos (keywordEach kws X.env)).any (·.1.isNone)) = false := by rfl) :
    PE X (.Call (.Name x p) [] kws pos) (tMkXK C sp gV tNil tk) := by
  constructor
  intro pins s σ H Q I h
  refine wpAny_Call_Name_kw (ld_glob I hg hm ?_ hdb)
  refine PySem.W.callWith_KW0 (h₀ := X.base) I.ok.mod.kin T.kC hall ?_ hpl
  refine thn (hkw.run pos pins s σ H _ I h) ?_
  rintro ws s1 ⟨zs, H1, I1, r1, q⟩
  unfold rMkXK at q
  obtain ⟨hz, q1⟩ := q
  refine ⟨I1.kIn, ?_⟩
  rw [hks]
  have rr : ∀ a : Addr, Vals (gV [.ref a] zs) (g [.ref a] ws) := fun a => hb.rel (.cons rfl .nil) r1
  exact run_mkx (us := []) (all := fun a => g [a] ws) (allV := fun a => gV [a] zs) T iC tI F hr hx I1 (Nat.zero_le _) (fun a s' ki hl => hb.to s' [.ref a] ws ki hl) rr q1
end
end FT

namespace FT
open PySem PySem.Spec PyProof.Rows L2

/-- the class of the name y stands at D -/
structure Cn (K : PySem.W.Frag) (mg : Str → Option Value) (D : Addr) (y : Str) : Prop where
  g : mg y = some (.ref D)
  ex : ∃ q N bs bm sn sub ab col dd k0 k1 k2 k3 k5, K.lookup D = some (excClassObj y q D N bs bm true sn sub ab col dd k0 k1 k2 k3 k5 "ValueError.__new__")
theorem Cn.name {K : PySem.W.Frag} {mg : Str → Option Value} {D : Addr} {x y : Str} (a : Cn K mg D x) (b : Cn K mg D y) : x = y := by
  obtain ⟨_, _, _, _, _, _, _, _, _, _, _, _, _, _, _, h1⟩ := a
  obtain ⟨_, _, _, _, _, _, _, _, _, _, _, _, _, _, _, h2⟩ := b
  have e := Option.some.inj (h1.symm.trans h2)
  simp only [Obj.mk.injEq, Data.cls.injEq, ClassData.mk.injEq] at e
  exact e.2.2.1.1
theorem Cn.cls {K : PySem.W.Frag} {mg : Str → Option Value} {D : Addr} {y : Str} (a : Cn K mg D y) : ((PySem.W.clsIn K D).isSome && PySem.W.typeIn K (.ref D) == some (.type "type")) = true := by
  obtain ⟨_, _, _, _, _, _, _, _, _, _, _, _, _, _, _, h⟩ := a
  have e1 : (PySem.W.clsIn K D).isSome = true := by
    unfold PySem.W.clsIn
    rw [h]
    rfl
  have e2 : PySem.W.typeIn K (.ref D) = some (.type "type") := by
    show (K.lookup D).map (·.cls) = _
    rw [h]
    rfl
  rw [e1, e2]
  decide
/-- an own error class: its name x, at C, its __init__ at fI, the classes above it (up, of the names ns), its fields fs -/
structure XT (K : PySem.W.Frag) (mg : Str → Option Value) (x : Str) (C fI : Addr) (up : List Addr) (ns fs : List Str) : Prop where
  gC : mg x = some (.ref C)
  cls : ∃ q N bs sn sub ab col dd k0 k1 k2 k3 k5, K.lookup C = some (excClassObj x q C N bs (up.map Value.ref ++ PySem.HandSPX.veTail) true sn sub ab col dd k0 k1 k2 k3 k5 "ValueError.__new__")
  ups : Paired (fun a n => Cn K mg a n) up ns
  sa : PySem.W.findIn K (.ref C) "__setattr__" = some (some (.builtin "object.__setattr__"))
  ga : PySem.W.findIn K (.ref C) "__getattribute__" = some (some (.builtin "BaseException.__getattribute__"))
  gg : PySem.W.findIn K (.ref C) "__getattr__" = some none
  ca : PySem.W.findIn K (.ref C) "__class__" = some (some (.builtin "object.__class__"))
  cn : PySem.W.specialIn K (.builtin "object.__class__") "__get__" = some (some (.builtin "getset_descriptor.__get__"))
  ct : PySem.W.takesIn K (.builtin "object.__class__") = some true
  iC : PySem.W.findIn K (.ref C) "__init__" = some (some (.ref fI))
  tI : PySem.W.typeIn K (.ref fI) = some (.type "function")
  kC : PySem.W.keepIn K (.ref C) = true
  no : ∀ f ∈ fs, PySem.W.findIn K (.ref C) f = some none
theorem ve_refs : ∀ up : List Addr, PySem.HandSPX.refsVE (up.map Value.ref ++ PySem.HandSPX.veTail) = true
  | [] => by decide +kernel
  | a :: r => ve_refs r
section
variable {K : PySem.W.Frag} {mg : Str → Option Value} {x y f : Str} {C D fI : Addr} {up : List Addr} {ns fs : List Str}
theorem XT.mro (T : XT K mg x C fI up ns fs) (b : Value) : PySem.W.mroIn K C b = some ((Value.ref C :: (up.map Value.ref ++ PySem.HandSPX.veTail)).contains b) := by
  obtain ⟨_, _, _, _, _, _, _, _, _, _, _, _, _, h⟩ := T.cls
  unfold PySem.W.mroIn PySem.W.clsIn
  rw [h]
  rfl
theorem ve_has (b : String) : ∀ up : List Addr, (up.map Value.ref ++ PySem.HandSPX.veTail).contains (.type b) = PySem.HandSPX.veTail.contains (.type b)
  | [] => rfl
  | a :: r => by
    rw [List.map_cons, List.cons_append, List.contains_cons, ve_has b r]
    rfl
theorem XT.mroT (T : XT K mg x C fI up ns fs) (b : String) : PySem.W.mroIn K C (.type b) = some (PySem.HandSPX.veTail.contains (.type b)) := by
  rw [T.mro, List.contains_cons, ve_has]
  rfl
theorem XT.oex (T : XT K mg x C fI up ns fs) : OexC K C := by
  have m := T.mroT "BaseException"
  obtain ⟨q, N, bs, sn, sub, ab, col, dd, k0, k1, k2, k3, k5, h⟩ := T.cls
  refine ⟨⟨x, q, N, bs, _, sn, sub, ab, col, dd, k0, k1, k2, k3, k5, h, ve_refs up⟩, T.sa, m.trans (by decide +kernel), ?_, T.kC⟩
  show (K.lookup C).map (·.cls) = _
  rw [h]
  rfl
theorem XT.cnm (T : XT K mg x C fI up ns fs) : Cn K mg C x := by
  obtain ⟨q, N, bs, sn, sub, ab, col, dd, k0, k1, k2, k3, k5, h⟩ := T.cls
  exact ⟨T.gC, q, N, bs, _, sn, sub, ab, col, dd, k0, k1, k2, k3, k5, h⟩
theorem XT.hd (T : XT K mg x C fI up ns fs) : PySem.W.hasDictIn K C = true := by
  obtain ⟨q, N, bs, sn, sub, ab, col, dd, k0, k1, k2, k3, k5, h⟩ := T.cls
  unfold PySem.W.hasDictIn PySem.W.clsIn
  rw [h]
  rfl
theorem XT.xf (T : XT K mg x C fI up ns fs) : XfC K C := ⟨T.ga, T.gg, T.oex.exC, T.hd⟩
theorem cn_beq {a : Addr} {n : Str} (h : Cn K mg a n) (c : Cn K mg D y) : (Value.ref D == Value.ref a) = (y == n) := by
  by_cases e : D = a
  · subst e
    rw [c.name h]
    simp
  · have e2 : y ≠ n := fun z => by
      subst z
      exact e (Value.ref.inj (Option.some.inj (c.g.symm.trans h.g)))
    have e3 : (Value.ref D == Value.ref a) = false := by
      rw [beq_eq_false_iff_ne]
      exact fun z => e (Value.ref.inj z)
    have e4 : (y == n) = false := by
      rw [beq_eq_false_iff_ne]
      exact e2
    rw [e3, e4]
theorem has_refs : ∀ {up : List Addr} {ns : List Str}, Paired (fun a n => Cn K mg a n) up ns → Cn K mg D y → (up.map Value.ref ++ PySem.HandSPX.veTail).contains (.ref D) = ns.contains y
  | _, _, .nil, _ => by rfl
  | _, _, .cons h p, c => by
    rw [List.map_cons, List.cons_append, List.contains_cons, has_refs p c, List.contains_cons, cn_beq h c]
/-- isinstance of such an error, by the names -/
theorem XT.kit (T : XT K mg x C fI up ns fs) (c : Cn K mg D y) : PySem.W.kitOne K (.ref C) (.ref D) = some ((x :: ns).contains y) := by
  have e : (Value.ref C :: (up.map Value.ref ++ PySem.HandSPX.veTail)).contains (.ref D) = (x :: ns).contains y := by
    rw [List.contains_cons, List.contains_cons, has_refs T.ups c, cn_beq T.cnm c]
  unfold PySem.W.kitOne
  split
  · rename_i h
    have z : C = D := Value.ref.inj (beq_iff_eq.mp h)
    subst z
    rw [T.cnm.name c]
    simp
  · show (if ((PySem.W.clsIn K D).isSome && PySem.W.typeIn K (.ref D) == some (.type "type")) = true then PySem.W.mroIn K C (.ref D) else none) = _
    rw [if_pos c.cls, T.mro, e]
theorem XT.kitT (T : XT K mg x C fI up ns fs) (t : String) (h : PySem.W.kitMeta t = true) : PySem.W.kitOne K (.ref C) (.type t) = some (PySem.HandSPX.veTail.contains (.type t)) := by
  unfold PySem.W.kitOne
  split
  · rename_i z
    cases beq_iff_eq.mp z
  · show (if PySem.W.kitMeta t = true then PySem.W.mroIn K C (.type t) else none) = _
    rw [if_pos h, T.mroT]
/-- such an error stands at a, its fields gs -/
def ExV (H : Hp) (a C : Addr) (gs : List (Str × V)) : Prop := ∃ dd, H a = some (exo a C (some dd)) ∧ H dd = some (exd dd gs)
theorem ExV.mono {H H' : Hp} {a : Addr} {gs : List (Str × V)} (e : ExV H a C gs) (s : ∀ b o, H b = some o → (∀ xs, o ≠ .lst xs) → H' b = some o) : ExV H' a C gs := by
  obtain ⟨dd, h1, h2⟩ := e
  refine ⟨dd, s _ _ h1 fun xs z => ?_, s _ _ h2 fun xs z => ?_⟩
  · have z' : HO.ext _ = HO.lst xs := z
    cases z'
  · have z' : HO.ext _ = HO.lst xs := z
    cases z'
theorem ExV.keep {H H' : Hp} {a : Addr} {gs : List (Str × V)} (e : ExV H a C gs) (s : Same H H') : ExV H' a C gs := e.mono fun b o h _ => s b o h
theorem exv_inst {X : Cx} {pins : List (Addr × Obj)} {σ : L2.St} {H : Hp} {s : Shared} {a : Addr} {gs : List (Str × V)} (I : Inv X pins σ H s) (e : ExV H a C gs) :
    ∃ ox od, PySem.W.InstAt s.heap a ox C (some od) ∧ ∀ n v, gs.lookup n = some v → ∃ u, RelV v u ∧ PySem.W.lookIn n od = some (some u) := by
  obtain ⟨dd, h1, h2⟩ := e
  obtain ⟨t1, ho⟩ := exo_at I.hok h1
  obtain ⟨mA, hns, rel⟩ := exd_at I.hok h2
  obtain ⟨od, hd, hl⟩ := lookIn_ns hns
  refine ⟨_, od, ⟨ho, rfl, rfl, hd⟩, fun n v l => ?_⟩
  obtain ⟨u, hu, ru⟩ := RelO.some_of (v := v) (o := mA n) (by rw [← l]; exact rel n)
  exact ⟨u, ru, by rw [hl, hu]⟩
/-- e.f of such an error -/
@[irreducible] def rXg (K : PySem.W.Frag) (f : Str) (x : V) (H1 : Hp) (Q : VK) : Prop := ∃ (a C : Addr) (gs : List (Str × V)) (v : V), x = .ref a ∧ XfC K C ∧ PySem.W.findIn K (.ref C) f = some none ∧ ExV H1 a C gs ∧ gs.lookup f = some v ∧ Q v H1
def tXg (K : PySem.W.Frag) (f : Str) (te : TE) : TE := fun σ H Q => te σ H fun x H1 => rXg K f x H1 Q
theorem pe_xg {X : Cx} {e : Expr} {te : TE} {pos : Pos} {n : Str} (he : PE X e te) (hb : attributeBase e n X.env (eval e X.env) = eval e X.env := by rfl) : PE X (.Attribute e n pos) (tXg X.K n te) := by
  refine ⟨fun pins s σ H Q I h => ?_⟩
  refine attr_of hb (thn (he.run pins s σ H _ I h) fun u s1 hh => ?_)
  obtain ⟨x, H1, I1, rx, hh⟩ := hh
  unfold rXg at hh
  obtain ⟨a, C, gs, v, ex, T, hno, ev, l, q⟩ := hh
  subst ex
  obtain rfl : u = Value.ref a := rx
  obtain ⟨ox, od, J, hl⟩ := exv_inst I1 ev
  obtain ⟨u, ru, hu⟩ := hl n v l
  exact HandSPX.exc_get I1.kIn J T.ga T.gg T.exC (PySem.W.findObj_own T.hdC hno rfl hu) (handed_of ru) ⟨v, H1, I1.tok _, ru, q⟩
/-- isinstance(error, c) -/
@[irreducible] def rIsiE (K : PySem.W.Frag) (mg : Str → Option Value) : List V → Hp → VK → Prop := fun xs H Q => ∃ (a C fI : Addr) (gs : List (Str × V)) (x : Str) (up : List Addr) (ns fs : List Str) (c : V) (u : Value) (b : Bool), xs = [.ref a, c] ∧ ExV H a C gs ∧ XT K mg x C fI up ns fs ∧ ClsV c u ∧ PySem.W.kitOne K (.ref C) u = some b ∧ Q (.bl b) H
@[irreducible] def rIsiTE (K : PySem.W.Frag) (mg : Str → Option Value) : List V → Hp → VK → Prop := fun xs H Q => ∃ (a C fI : Addr) (gs : List (Str × V)) (x : Str) (up : List Addr) (ns fs : List Str) (tp : Addr) (cs : List V) (us : List Value) (b : Bool), xs = [.ref a, .ref tp] ∧ ExV H a C gs ∧ XT K mg x C fI up ns fs ∧ H tp = some (.tup cs) ∧ Paired ClsV cs us ∧ PySem.W.kitAny K (.ref C) us = some b ∧ Q (.bl b) H
theorem XT.kitx {a : Addr} {ox od : Obj} (T : XT K mg x C fI up ns fs) : PySem.W.KitX K (.ref a) (.ref C) (fun h => PySem.W.InstAt h a ox C (some od)) := by
  refine PySem.W.kitx_exc (gt := none) ?_ T.ga T.gg T.oex.exC T.ca T.cn T.ct ?_
  · have := T.cnm.cls
    rw [Bool.and_eq_true] at this
    exact this.1
  · rw [T.mroT]
    decide +kernel
theorem call_isiE {X : Cx} : CallR X (.builtin "isinstance") (rIsiE X.K X.mg) := by
  intro pins s σ H xs us Q I r h
  unfold rIsiE at h
  obtain ⟨a, C, fI, gs, x, up, ns, fs, c, u, b, rfl, ev, T, k, e, q⟩ := h
  obtain ⟨u1, u2, rfl, r1, r2⟩ := vals2 r
  have e2 := k.eq r2
  subst e2
  cases (show u1 = Value.ref a from r1)
  obtain ⟨ox, od, J, _⟩ := exv_inst I ev
  exact PySem.W.kia_one (T.kitx (ox := ox) (od := od)) I.kIn J e (fun z => nomatch z) fun tk => ⟨.bl b, H, I.tok tk, rfl, q⟩
theorem call_isiTE {X : Cx} : CallR X (.builtin "isinstance") (rIsiTE X.K X.mg) := by
  intro pins s σ H xs us Q I r h
  unfold rIsiTE at h
  obtain ⟨a, C, fI, gs, x, up, ns, fs, tp, cs, ws, b, rfl, ev, T, hT, k, e, q⟩ := h
  obtain ⟨u1, u2, rfl, r1, r2⟩ := vals2 r
  cases (show u1 = Value.ref a from r1)
  cases (show u2 = Value.ref tp from r2)
  obtain ⟨ox, od, J, _⟩ := exv_inst I ev
  obtain ⟨_, its, rv, o, h1, h2, n, h3⟩ := (show ObjOk X.prog X.w H s.heap tp (.tup cs) from I.hok tp _ hT)
  have e3 := ClsV.all k rv
  subst e3
  obtain ⟨oc, od, dt, sl⟩ := o
  simp only at h2 h3
  subst h2 h3
  exact PySem.W.kia_tup (T.kitx (ox := ox) (od := _)) I.kIn J h1 e (fun z => nomatch z) fun tk => ⟨.bl b, H, I.tok tk, rfl, q⟩
end
end FT

namespace FT
open PySem PySem.Spec PyProof.Rows L2
abbrev supA (q1 q2 : Pos) : Arguments := { posonlyargs := [], args := [{ arg := "self", annotation := none, pos := q1 }, { arg := "value", annotation := none, pos := q2 }], vararg := none, kwonlyargs := [], kw_defaults := [], kwarg := none, defaults := [] }
abbrev supB (p0 p1 p2 p3 p4 p5 : Pos) : List Stmt := [.Expr (.Call (.Attribute (.Call (.Name "super" p0) [] [] p1) "__init__" p2) [.Name "value" p3] [] p4) p5]
abbrev supS : Scope := { kind := .function, names := [(PySem.Str.ofString "self", .local), (PySem.Str.ofString "value", .local), (PySem.Str.ofString "__class__", .free), (PySem.Str.ofString "super", .globalImplicit)], isGenerator := false, isCoroutine := false, more := [] }
structure SPos where
  (q1 q2 p0 p1 p2 p3 p4 p5 : Pos)
abbrev supE (p : SPos) : Expr := .Call (.Attribute (.Call (.Name "super" p.p0) [] [] p.p1) "__init__" p.p2) [.Name "value" p.p3] [] p.p4
/-- a method that says super() -/
structure SFun (P : Program) (K : PySem.W.Frag) (p : SPos) (qual : Str) (f D cc cda : Addr) (fd : FuncData) : Prop where
  ex : ∃ (oc : Value) (od : Option Addr) (kV doc pm : Value) (an : Option Addr) (ct : Value) (osl : Array (Option Value)),
    fd = PySem.W.ksFn "__init__" qual (supA p.q1 p.q2) (supB p.p0 p.p1 p.p2 p.p3 p.p4 p.p5) supS .none kV doc pm an (.ref cda) ct cc ∧ K.lookup f = some ⟨oc, od, .func fd, osl⟩ ∧ PySem.W.codeIn K (.ref cda) qual = true
  code : ∃ (ccl : Value) (cdd : Option Addr) (vs : Array Value) (ccs : Array (Option Value)) (file : Str) (tf : Tok), K.lookup cda = some ⟨ccl, cdd, .fields vs, ccs⟩ ∧ vs[2]? = some (.str file tf) ∧ ((P.main.file : Str) == file) = true
  cell : ∃ (cl : Value) (cld : Option Addr) (csl : Array (Option Value)), K.lookup cc = some ⟨cl, cld, .cell (some (.ref D)), csl⟩
  top : (P.main.scope.names.lookup ("super" : Str)).isSome = false
  opq : PySem.W.nsIn K cStatics "thirdparty.any" = some none
/-- what the class C, whose method this is, and D above it must have -/
structure SupC (K : PySem.W.Frag) (C D f2 : Addr) : Prop where
  sub : PySem.W.mroIn K C (.ref D) = some true
  sup : PySem.W.ks_superIn K C D "__init__" = some (some (.ref f2))
  tf : PySem.W.typeIn K (.ref f2) = some (.type "function")
  fn : PySem.W.fnIn K f2 = true
def spSup (K : PySem.W.Frag) (D f2 : Addr) (sp : Sp) : Sp := fun vs H Q _ => ∃ a C v, vs = [.ref a, v] ∧ H a = some (exo a C none) ∧ SupC K C D f2 ∧ sp vs H (fun _ H' => Q .non H') (fun _ _ _ => False)
theorem un_frame {fs ex : List Addr} {H H' : Hp} {h h1 h2 : Heap} {L : Addr} (hL : h.objs.size ≤ L) (k : ∀ b o, h.get? b = some o → h1.get? b = some o) (u : Un (L :: fs) ex H H' h1 h2) : Un fs ex H H' h h2 where
  keep := fun b o q n hf hx => u.keep b o (k b o q) n (fun z => by
    rcases List.mem_cons.mp z with rfl | z
    · exact absurd (Heap.lt_size q) (Nat.not_lt.mpr hL)
    · exact hf z) hx
  slot := fun b o q n hf hx => u.slot b o (k b o q) n (List.mem_cons_of_mem _ hf) hx
  free := fun b o q n hx => u.free b o (k b o q) n hx
  there := fun b o q hx => u.there b o (k b o q) hx
  tups := u.tups
  frzs := u.frzs
  tbls := u.tbls
theorem super_init {P : Program} {w : World} {K : PySem.W.Frag} {mg : Str → Option Value} {base : Heap} {qual : Str} {f f2 D cc cda : Addr} {fd fd2 : FuncData} {k : Nat} {sp : Sp} {yD : Str} {p : SPos} {pl : Sem Bool}
    (SF : SFun P K p qual f D cc cda fd) (cD : Cn K mg D yD) (hs : mg "super" = none)
    (he : ∀ env : Env, eval (supE p) env = (do
      let ov ← attributeBase (.Call (.Name "super" p.p0) [] [] p.p1) "__init__" env (eval (.Call (.Name "super" p.p0) [] [] p.p1) env)
      standAt p.p2.atName
      let (f, first) ← holding [ov] (getMethod ov "__init__" pl)
      callWith p.p4 f first (backTo p.p4 (starEach [.Name "value" p.p3] env)) []))
    (F2 : FnG P w K mg base CX0 k f2 fd2 ["self", "value"] sp) (b2 : Binds K fd2 ["self", "value"] []) :
    FnG P w K mg base CX0 (k + 1) f fd ["self", "value"] (spSup K D f2 sp) := by
  obtain ⟨oc, od, kV, doc, pm, an, ct, osl, rfl, lk, hcd⟩ := SF.ex
  obtain ⟨ccl, cdd, vs2, ccs, file, tf, lc, hvs2, hfile⟩ := SF.code
  obtain ⟨cl, cld, csl, lcell⟩ := SF.cell
  refine ⟨fun vs H Q E h => by obtain ⟨a, C, v, rfl, _⟩ := h; rfl, ?_⟩
  rintro A outer s H args us vs Q E hr e0 hb r ⟨a, C, v, rfl, ha, SC, hsp⟩
  obtain ⟨u1, u, rfl, r1, ru⟩ := vals2 r
  obtain rfl : u1 = .ref a := r1
  obtain ⟨t1, hoa⟩ := exo_at e0.hok ha
  have kb : ∀ b o, base.get? b = some o → s.heap.get? b = some o := fun b o q => (e0.bs b o q).1
  have KX : K.In s.heap := e0.mod.kin.keeps kb
  have lim : s.heap.NoLimit := e0.mod.nolimit.keeps kb
  refine PySem.ks_codeAny_call_defAt hr.room.depth (KX _ _ lk) rfl lim (PySem.W.codeRec_of KX hcd) rfl hb (fun x hx => by rcases List.mem_cons.mp hx with rfl | hx; (intro z; cases z); rcases List.mem_cons.mp hx with rfl | hx; (intro z; cases z); rcases List.mem_cons.mp hx with rfl | hx; (intro z; cases z); rcases List.mem_cons.mp hx with rfl | hx; (intro z; cases z); cases hx) ?_ (fun h₁ hns hk₁ => ?_) rfl rfl rfl
  · intro x hx
    rcases List.mem_cons.mp hx with rfl | hx
    · rfl
    · rcases List.mem_cons.mp hx with rfl | hx
      · rfl
      · cases hx
  have K1 : K.In h₁ := KX.keeps hk₁
  obtain ⟨mb, nb, hmb⟩ := e0.mod.blt
  obtain ⟨oD, hD1, hD2⟩ : ∃ oD, h₁.get? D = some oD ∧ ∃ cdD, oD.data = .cls cdD := by
    obtain ⟨_, _, _, _, _, _, _, _, _, _, _, _, _, _, hD⟩ := cD.ex
    exact ⟨_, K1 _ _ hD, _, rfl⟩
  obtain ⟨cdD, hD2⟩ := hD2
  refine PySem.ks_wpAt_execs_cons (PySem.ks_wpAt_Expr_any (PySem.ks_wpAt_MethodCall (PySem.ks_wpAt_super_base rfl rfl (by decide) rfl (K1 _ _ lk) rfl rfl rfl (K1 _ _ lc) rfl hvs2 hfile SF.top ?_) (he _)))
  refine PySem.W.ks_loadName_global rfl rfl (PySem.Calls.loadGlobal_builtin ((e0.mod.glob.keeps kb).keeps hk₁) hs ((nb.keeps kb).keeps hk₁) ((hmb _ (by decide +kernel)).trans (show bootBuiltins "super" = some (.type "super") by decide +kernel)) ⟨rfl, ?_⟩)
  refine wpAny_loadName_free rfl rfl rfl ⟨_, K1 _ _ lcell, rfl⟩ ?_
  refine wpAny_loadName_local rfl rfl hns rfl ?_
  refine PySem.ks_wpAny_isType_cls hD1 hD2 ⟨rfl, ?_⟩
  refine PySem.ks_wpAny_call_super hD1 hD2 (hk₁ _ _ hoa) rfl (fun c e => by cases e) (PySem.W.looks_mroIn K1 SC.sub) (fun h2 e2 k2 => ?_)
  have K2 : K.In h2 := K1.keeps k2
  have keep2 : ∀ b o, s.heap.get? b = some o → h2.get? b = some o := fun b o q => k2 _ _ (hk₁ _ _ q)
  have hns2 : h2.Ns s.heap.objs.size (fun x => ([("self", Value.ref a), ("value", u)] : List (Str × Value)).reverse.lookup x) := by
    obtain ⟨o, es, ep, ho, r⟩ := hns
    exact ⟨o, es, ep, k2 _ _ ho, r⟩
  obtain ⟨cd, hcl⟩ : ∃ cd, PySem.W.clsIn K C = some cd := by
    cases q : PySem.W.clsIn K C with
    | some cd => exact ⟨cd, rfl⟩
    | none =>
      have z := SC.sub
      unfold PySem.W.mroIn at z
      rw [q] at z
      cases z
  have hsup : PySem.W.alongIn K "__init__" ((cd.mro.dropWhile (· != .ref D)).drop 1) = some (some (.ref f2)) := by
    have z := SC.sup
    unfold PySem.W.ks_superIn at z
    rw [hcl] at z
    exact z
  obtain ⟨of, hof, hofc⟩ : ∃ of, h2.get? f2 = some of ∧ of.cls = .type "function" := by
    have z : (K.lookup f2).map (·.cls) = some (.type "function") := SC.tf
    cases q : K.lookup f2 with
    | none => rw [q] at z; cases z
    | some of => rw [q] at z; exact ⟨of, K2 _ _ q, Option.some.inj z⟩
  have IA : PySem.W.InstAt s.heap a { cls := .ref C, dict := none, data := .fields #[.ref t1, .none, .none, .none, .bool false, .none] } C none := ⟨hoa, rfl, rfl, trivial⟩
  refine PySem.ks_wpAny_getMethod_super e2 (PySem.W.looks_opaque K2 SF.opq) (l₀ := cd.mro) (fun A Q E s k q => wpAny_bind ((PySem.W.looks_clsIn K2 hcl) A _ E s k (wpAny_pure q))) rfl K2 hsup hof hofc (PySem.W.ks_ne KX IA hcl) (by decide) ?_
  have k3 : ∀ b o, h2.get? b = some o → (h2.push { cls := .type "method", data := .fields #[.ref f2, .ref a] }).get? b = some o := fun b o q => Heap.get?_push_of_some _ q
  have hm : (h2.push { cls := .type "method", data := .fields #[.ref f2, .ref a] }).get? h2.objs.size = some { cls := .type "method", dict := none, data := .fields #[.ref f2, .ref a], slots := #[] } := Heap.get?_push_at rfl rfl
  have hns3 : (h2.push { cls := .type "method", data := .fields #[.ref f2, .ref a] }).Ns s.heap.objs.size (fun x => ([("self", Value.ref a), ("value", u)] : List (Str × Value)).reverse.lookup x) := by
    obtain ⟨o, es, ep, ho, r⟩ := hns2
    exact ⟨o, es, ep, k3 _ _ ho, r⟩
  have keep3 : ∀ b o, s.heap.get? b = some o → (h2.push { cls := .type "method", data := .fields #[.ref f2, .ref a] }).get? b = some o := fun b o q => k3 _ _ (keep2 _ _ q)
  refine PySem.W.callWith_of (P := PySem.W.MethP K h2.objs.size f2 (.ref a)) (by rfl) (PySem.W.keeps_M SC.fn) (PySem.Calls.evalArgs_plain ?_)
  refine spliced_more (wpAny_Name (wpAny_loadName_local rfl rfl hns3 rfl ?_) (by decide)) 
  refine spliced_none ⟨⟨hm, K2.keeps k3⟩, ?_⟩
  refine wpAny_call (PySem.ks_codeAny_call_bound hm ?_)
  have hL : s.heap.objs.size < (h2.push { cls := .type "method", data := .fields #[.ref f2, .ref a] }).objs.size := by
    obtain ⟨o, es, ep, ho, _⟩ := hns3
    exact Heap.lt_size ho
  have e1 : Env0 P w K mg base (A.deeper (callEnv (PySem.W.ksFn "__init__" qual (supA p.q1 p.q2) (supB p.p0 p.p1 p.p2 p.p3 p.p4 p.p5) supS .none kV doc pm an (.ref cda) ct cc) s.heap.objs.size f)) (callEnv (PySem.W.ksFn "__init__" qual (supA p.q1 p.q2) (supB p.p0 p.p1 p.p2 p.p3 p.p4 p.p5) supS .none kV doc pm an (.ref cda) ct cc) s.heap.objs.size f :: outer)
      ⟨h2.push { cls := .type "method", data := .fields #[.ref f2, .ref a] }, s.gens, s.drawn, s.toks + 2 + 1, s.os⟩ H :=
    { frames := Around.frames_deeper e0.frames
      mod := e0.mod
      bs := fun b o q => ⟨keep3 b o (kb b o q), (e0.bs b o q).2⟩
      bsz := Nat.le_of_lt (Nat.lt_of_le_of_lt e0.bsz hL)
      funs := by
        obtain ⟨o, es, ep, ho, hd, _⟩ := hns3
        refine ⟨fun z => (nomatch z), ⟨s.heap.objs.size, o, rfl, ?_, ho, fun vs z => by rw [hd] at z; cases z⟩, e0.funs.of_keeps fun b o q _ => ⟨o, keep3 b o q, rfl⟩⟩
        cases z : base.get? s.heap.objs.size with
        | none => rfl
        | some o => exact absurd (Heap.lt_size (kb _ _ z)) (Nat.lt_irrefl _)
      frf := fun b hb => by
        rcases List.mem_cons.mp hb with rfl | hb
        · exact e0.hok.fresh (Nat.le_refl _)
        · exact e0.frf b hb
      hok := e0.hok.kept keep3
      bare := e0.bare }
  have run := F2.goes (hr.deeper _) e1 (args := ⟨[.ref a, u], []⟩) (us := [.ref a, u] ++ []) (b2 _ [.ref a, u] (K2.keeps k3) rfl) (by rw [List.append_nil]; exact r) hsp
  refine codeAny_mono run ?_
  intro rr s' q
  match rr, q with
  | .error e, q => exact q.elim
  | .ok (.ret u'), ⟨v', H', os, bare, un, hok', rv, q'⟩ =>
    have fin : CE outer P w H s Q .none s' := ⟨.non, H', os, bare, un_frame (Nat.le_refl _) keep3 un, hok', rfl, q'⟩
    first
      | exact wpAt_of_wpAny (wpAny_execs_nil fin)
      | trace_state
end FT
namespace FT
open PySem PySem.Spec PyProof.Rows L2
theorem binds_sup {K : PySem.W.Frag} {qual : Str} {q1 q2 p0 p1 p2 p3 p4 p5 : Pos} {kV doc pm cdv ct : Value} {an : Option Addr} {cc : Addr} : Binds K (PySem.W.ksFn "__init__" qual (supA q1 q2) (supB p0 p1 p2 p3 p4 p5) supS .none kV doc pm an cdv ct cc) ["self", "value"] [] :=
  fun s us _ hl => match us, hl with
    | [_, _], _ => .of_eq rfl
def two {α : Type} : List α → List α → List α
  | [a], [b] => [a, b]
  | _, _ => []
def twoX {α : Type} : List α → List α → List α
  | [a], [b, c] => [a, c, b]
  | _, _ => []
def three {α : Type} : List α → List α → List α
  | [a], [b, c] => [a, b, c]
  | _, _ => []
theorem rel_two {vs : List V} {us : List Value} {zs : List V} {ws : List Value} (r : Vals vs us) (q : Vals zs ws) : Vals (two vs zs) (two us ws) := by
  cases r with
  | nil => exact .nil
  | cons a r =>
    cases r with
    | nil =>
      cases q with
      | nil => exact .nil
      | cons b q =>
        cases q with
        | nil => exact .cons a (.cons b .nil)
        | cons _ _ => exact .nil
    | cons _ _ => exact .nil
theorem rel_twoX {vs : List V} {us : List Value} {zs : List V} {ws : List Value} (r : Vals vs us) (q : Vals zs ws) : Vals (twoX vs zs) (twoX us ws) := by
  cases r with
  | nil => exact .nil
  | cons a r =>
    cases r with
    | nil =>
      cases q with
      | nil => exact .nil
      | cons b q =>
        cases q with
        | nil => exact .nil
        | cons c q =>
          cases q with
          | nil => exact .cons a (.cons c (.cons b .nil))
          | cons _ _ => exact .nil
    | cons _ _ => exact .nil
theorem kbinds_sup {P : Program} {K : PySem.W.Frag} {p : SPos} {qual : Str} {f D cc cda : Addr} {fd : FuncData} (S : SFun P K p qual f D cc cda fd) : KBinds K fd ["self", "value"] ["value"] two two := by
  obtain ⟨oc, od, kV, doc, pm, an, ct, osl, rfl, lk, hcd⟩ := S.ex
  refine ⟨fun s us ws _ hl => ?_, rel_two⟩
  match us, ws, hl with
  | [_], [_], _ => exact .of_eq rfl
theorem XT.supc {K : PySem.W.Frag} {mg : Str → Option Value} {x y : Str} {C D fI f2 : Addr} {up : List Addr} {ns ns2 fs fs2 : List Str} (T : XT K mg x C fI (D :: up) ns fs) (T2 : XT K mg y D f2 up ns2 fs2) (fn : PySem.W.fnIn K f2 = true) : SupC K C C f2 := by
  obtain ⟨q, N, bs, sn, sub, ab, col, dd, k0, k1, k2, k3, k5, h⟩ := T.cls
  obtain ⟨q', N', bs', sn', sub', ab', col', dd', k0', k1', k2', k3', k5', h'⟩ := T2.cls
  refine ⟨by rw [T.mro, List.contains_cons]; simp, ?_, T2.tI, fn⟩
  have e := T2.iC
  unfold PySem.W.findIn at e
  dsimp only at e
  rw [h'] at e
  unfold PySem.W.ks_superIn PySem.W.clsIn
  rw [h]
  show PySem.W.alongIn K "__init__" (((Value.ref C :: ((D :: up).map Value.ref ++ PySem.HandSPX.veTail)).dropWhile (· != .ref C)).drop 1) = _
  have z : ((Value.ref C :: ((D :: up).map Value.ref ++ PySem.HandSPX.veTail)).dropWhile (· != .ref C)).drop 1 = (D :: up).map Value.ref ++ PySem.HandSPX.veTail := by
    simp [List.dropWhile_cons]
  rw [z]
  exact e
end FT

/-! a value beside itself -/
namespace FT
open PySem PySem.Spec PyProof.Rows L2
/-- an item whose equality with itself needs no look inside -/
def easyV : V → Bool
  | .ref _ => true
  | v => flatB v
theorem easy_same {A : Around} {s : Shared} {v : V} {u u' : Value} (r : RelV v u) (r' : RelV v u') (f : easyV v = true) : SeqAt.EqAt A s u u' true := by
  cases v with
  | ref a =>
    cases (show u = Value.ref a from r)
    cases (show u' = Value.ref a from r')
    exact SeqAt.EqAt.same _
  | non => exact eqAt_same r r' f
  | bl _ => exact eqAt_same r r' f
  | int _ => exact eqAt_same r r' f
  | str _ => exact eqAt_same r r' f
  | byt _ => exact eqAt_same r r' f
  | flt _ => cases f
  | ty _ => cases f
theorem easy_items {A : Around} {s : Shared} : ∀ {xs : List V} {us us' : List Value}, Vals xs us → Vals xs us' → (∀ x ∈ xs, easyV x = true) → ∀ j (h1 : j < us.length) (h2 : j < us'.length), SeqAt.EqAt A s us[j] us'[j] true
  | _, _, _, .nil, .nil, _ => fun j h1 _ => absurd h1 (Nat.not_lt_zero j)
  | _, _, _, .cons a r, .cons a' r', f => fun j h1 h2 => match j with
    | 0 => easy_same a a' (f _ List.mem_cons_self)
    | j + 1 => easy_items r r' (fun x hx => f x (List.mem_cons_of_mem _ hx)) j (Nat.lt_of_succ_lt_succ h1) (Nat.lt_of_succ_lt_succ h2)
/-- a value that may stand beside itself -/
def SelfV (H : Hp) : V → Prop
  | .ref a => (∃ xs, H a = some (.lst xs) ∧ ∀ x ∈ xs, easyV x = true) ∨ (∃ xs, H a = some (.tup xs) ∧ ∀ x ∈ xs, easyV x = true) ∨ ∃ kvs, H a = some (.dK kvs) ∧ ∀ p ∈ kvs, valV kvs p.1 = some p.2 ∧ flatB p.2 = true
  | .non => True
  | .bl _ => True
  | .int _ => True
  | .str _ => True
  | _ => False
theorem SelfV.mono {H H' : Hp} {v : V} (h : SelfV H v) (s : ∀ a o, v = .ref a → H a = some o → H' a = some o) : SelfV H' v := by
  cases v with
  | ref a =>
    rcases h with ⟨xs, e, k⟩ | ⟨xs, e, k⟩ | ⟨xs, e, k⟩
    · exact .inl ⟨xs, s _ _ rfl e, k⟩
    · exact .inr (.inl ⟨xs, s _ _ rfl e, k⟩)
    · exact .inr (.inr ⟨xs, s _ _ rfl e, k⟩)
  | non => exact h
  | bl _ => exact h
  | int _ => exact h
  | str _ => exact h
  | byt _ => exact h
  | flt _ => exact h
  | ty _ => exact h
theorem SelfV.easy {H : Hp} {v : V} (h : SelfV H v) : easyV v = true := by
  cases v <;> first | rfl | exact (show False from h).elim
section
variable {X : Cx}
/-- x != x; [x, y] != [x, y] -/
def rNeS (K : PySem.W.Frag) : R2 := fun x y H Q => ((x = y ∧ SelfV H x) ∨ ∃ a b xs, x = .ref a ∧ y = .ref b ∧ H a = some (.lst xs) ∧ H b = some (.lst xs) ∧ ∀ x ∈ xs, easyV x = true) ∧ Q (.bl false) H
theorem ne_lists {pins : List (Addr × Obj)} {σ : L2.St} {H : Hp} {s : Shared} {Q : VK} {a b : Addr} {xs : List V} (hu : X.A.units < cLine) (I : Inv X pins σ H s) (h1 : H a = some (.lst xs)) (h2 : H b = some (.lst xs)) (f : ∀ x ∈ xs, easyV x = true) (q : Q (.bl false) H) :
    wpAny (model X.prog X.w) X.A (compareOp .NotEq (.ref a) (.ref b)) (EP X pins σ Q) X.xe s := by
  obtain ⟨us, r1, p1, _⟩ := I.list (SqL.of h1)
  obtain ⟨us', r2, p2, _⟩ := I.list (SqL.of h2)
  have hsz : us.toArray.size = us'.toArray.size := by
    rw [List.size_toArray, List.size_toArray, ← r1.length, ← r2.length]
  refine PySem.EqBoolInt.of_rcne (SeqAt.RcNeAt.lists (e := fun _ => true) p1.isList p2.isList hsz hu (fun j g1 g2 => ?_)) ?_
  · have k := easy_items (A := X.A.in1) (s := s) r1 r2 f j (by simpa using g1) (by simpa using g2)
    simpa using k
  · rw [show ((List.range us.toArray.size).all fun _ => true) = true from List.all_eq_true.mpr fun _ _ => rfl]
    exact ⟨.bl false, H, I, rfl, q⟩
theorem op_neS (hu : X.A.units + 64 < cLine) : OpR X (compareOp .NotEq) (rNeS X.K) := by
  have hu' : X.A.units < cLine := by omega
  rintro pins s σ H x y v u Q I rx ry ⟨h, q⟩
  rcases h with ⟨rfl, h⟩ | ⟨a, b, xs, rfl, rfl, h1, h2, f⟩
  · cases x with
    | ref a =>
      cases (show v = Value.ref a from rx)
      cases (show u = Value.ref a from ry)
      rcases h with ⟨xs, e, f⟩ | ⟨xs, e, f⟩ | ⟨kvs, e, f⟩
      · exact ne_lists hu' I e e f q
      · obtain ⟨us, r1, p1, _⟩ := I.tuple (SqT.of e)
        refine PySem.EqBoolInt.of_rcne (SeqAt.RcNeAt.tuples (e := fun _ => true) p1 p1 hu' (fun j g1 g2 => ?_)) ?_
        · have k := easy_items (A := X.A.in1) (s := s) r1 r1 f j (by simpa using g1) (by simpa using g2)
          simpa using k
        · have z : ((List.range (min us.toArray.size us.toArray.size)).all fun _ => true) = true := List.all_eq_true.mpr fun _ _ => rfl
          rw [z]
          have z2 : (us.toArray.size == us.toArray.size) = true := beq_self_eq_true _
          rw [z2]
          exact ⟨.bl false, H, I, rfl, q⟩
      · exact op_ne_dictA hu' pins s σ H (.ref a) (.ref a) _ _ Q I rfl rfl ⟨a, a, kvs, kvs, rfl, rfl, e, e, rfl, f, q⟩
    | non =>
      cases (show v = Value.none from rx)
      cases (show u = Value.none from ry)
      exact PySem.EqNone.ne_none_none ⟨.bl false, H, I, rfl, q⟩
    | bl b =>
      cases (show v = Value.bool b from rx)
      cases (show u = Value.bool b from ry)
      refine PyProof.Rows.ne_bool ⟨.bl false, H, I, ?_, q⟩
      show Value.bool (b != b) = Value.bool false
      rw [bne_self_eq_false]
    | int i =>
      obtain ⟨t, rfl⟩ := (show ∃ t, v = Value.int i t from rx)
      obtain ⟨t', rfl⟩ := (show ∃ t, u = Value.int i t from ry)
      refine PyProof.Rows.ne_int ⟨.bl false, H, I, ?_, q⟩
      show Value.bool (i != i) = Value.bool false
      rw [bne_self_eq_false]
    | str i =>
      obtain ⟨t, rfl⟩ := (show ∃ t, v = Value.str i t from rx)
      obtain ⟨t', rfl⟩ := (show ∃ t, u = Value.str i t from ry)
      refine PyProof.Rows.ne_str ⟨.bl false, H, I, ?_, q⟩
      show Value.bool (i != i) = Value.bool false
      rw [bne_self_eq_false]
    | byt _ => exact h.elim
    | flt _ => exact h.elim
    | ty _ => exact h.elim
  · cases (show v = Value.ref a from rx)
    cases (show u = Value.ref b from ry)
    exact ne_lists hu' I h1 h2 f q
end
end FT

/-! names of things that are joined pair by pair: two ways to tell whether all hang together -/
namespace MC
abbrev Pr := List (Nat × Nat)
/-- joined by pairs -/
inductive Con (ps : Pr) : Nat → Nat → Prop
  | refl (x : Nat) : Con ps x x
  | to {a b c : Nat} : (a, b) ∈ ps → Con ps b c → Con ps a c
  | fro {a b c : Nat} : (a, b) ∈ ps → Con ps a c → Con ps b c
theorem Con.trans {ps : Pr} {x y z : Nat} (h : Con ps x y) : Con ps y z → Con ps x z := by
  induction h with
  | refl => exact fun h => h
  | to m _ ih => exact fun h => .to m (ih h)
  | fro m _ ih => exact fun h => .fro m (ih h)
theorem Con.symm {ps : Pr} {x y : Nat} (h : Con ps x y) : Con ps y x := by
  induction h with
  | refl => exact .refl _
  | to m _ ih => exact ih.trans (.fro m (.refl _))
  | fro m _ ih => exact ih.trans (.to m (.refl _))
theorem Con.mono {ps qs : Pr} {x y : Nat} (h : Con ps x y) (s : ∀ p ∈ ps, p ∈ qs) : Con qs x y := by
  induction h with
  | refl => exact .refl _
  | to m _ ih => exact .to (s _ m) ih
  | fro m _ ih => exact .fro (s _ m) ih
theorem con_nil {x y : Nat} (h : Con [] x y) : x = y := by
  cases h with
  | refl => rfl
  | to m _ => cases m
  | fro m _ => cases m
/-- one pair more -/
theorem con_snoc {ps : Pr} {a b x y : Nat} : Con (ps ++ [(a, b)]) x y ↔ Con ps x y ∨ (Con ps x a ∧ Con ps b y) ∨ (Con ps x b ∧ Con ps a y) := by
  constructor
  · intro h
    induction h with
    | refl => exact .inl (.refl _)
    | @to c d e m _ ih =>
      rcases List.mem_append.mp m with m | m
      · rcases ih with h | ⟨h1, h2⟩ | ⟨h1, h2⟩
        · exact .inl (.to m h)
        · exact .inr (.inl ⟨.to m h1, h2⟩)
        · exact .inr (.inr ⟨.to m h1, h2⟩)
      · have e : (c, d) = (a, b) := List.mem_singleton.mp m
        cases e
        rcases ih with h | ⟨h1, h2⟩ | ⟨h1, h2⟩
        · exact .inr (.inl ⟨.refl _, h⟩)
        · exact .inr (.inl ⟨.refl _, h2⟩)
        · exact .inl h2
    | @fro c d e m _ ih =>
      rcases List.mem_append.mp m with m | m
      · rcases ih with h | ⟨h1, h2⟩ | ⟨h1, h2⟩
        · exact .inl (.fro m h)
        · exact .inr (.inl ⟨.fro m h1, h2⟩)
        · exact .inr (.inr ⟨.fro m h1, h2⟩)
      · have e : (c, d) = (a, b) := List.mem_singleton.mp m
        cases e
        rcases ih with h | ⟨h1, h2⟩ | ⟨h1, h2⟩
        · exact .inr (.inr ⟨.refl _, h⟩)
        · exact .inl h2
        · exact .inr (.inr ⟨.refl _, h2⟩)
  · have m : (a, b) ∈ ps ++ [(a, b)] := List.mem_append_right _ List.mem_cons_self
    have s : ∀ p ∈ ps, p ∈ ps ++ [(a, b)] := fun p h => List.mem_append_left _ h
    rintro (h | ⟨h1, h2⟩ | ⟨h1, h2⟩)
    · exact h.mono s
    · exact (h1.mono s).trans (.to m (h2.mono s))
    · exact (h1.mono s).trans (.fro m (h2.mono s))
/-- the higher name of two goes over to the lower -/
def jn (ns : List Nat) (a b : Nat) : List Nat := ns.map fun x => if x = max (ns.getD a 0) (ns.getD b 0) then min (ns.getD a 0) (ns.getD b 0) else x
def names (n : Nat) (ps : Pr) : List Nat := ps.foldl (fun ns p => jn ns p.1 p.2) (List.range n)
/-- pairs below n -/
def Below (n : Nat) (ps : Pr) : Prop := ∀ p ∈ ps, p.1 < n ∧ p.2 < n
structure Nm (n : Nat) (ps : Pr) (ns : List Nat) : Prop where
  len : ns.length = n
  iff : ∀ x y, x < n → y < n → (ns.getD x 0 = ns.getD y 0 ↔ Con ps x y)
  own : ∀ x, x < n → ns.getD x 0 < n ∧ Con ps (ns.getD x 0) x
  low : ∀ x, x < n → ns.getD x 0 ≤ x
theorem getD_jn {ns : List Nat} {a b x : Nat} (h : x < ns.length) : (jn ns a b).getD x 0 = if ns.getD x 0 = max (ns.getD a 0) (ns.getD b 0) then min (ns.getD a 0) (ns.getD b 0) else ns.getD x 0 := by
  unfold jn
  rw [List.getD_eq_getElem?_getD, List.getElem?_map, List.getElem?_eq_getElem h]
  simp only [Option.map_some, Option.getD_some]
  rw [show ns.getD x 0 = ns[x] by rw [List.getD_eq_getElem?_getD, List.getElem?_eq_getElem h]; rfl]
theorem Nm.next {n : Nat} {ps : Pr} {ns : List Nat} {a b : Nat} (h : Nm n ps ns) (ha : a < n) (hb : b < n) : Nm n (ps ++ [(a, b)]) (jn ns a b) := by
  have len : (jn ns a b).length = n := by unfold jn; rw [List.length_map, h.len]
  have g : ∀ x, x < n → (jn ns a b).getD x 0 = if ns.getD x 0 = max (ns.getD a 0) (ns.getD b 0) then min (ns.getD a 0) (ns.getD b 0) else ns.getD x 0 := fun x hx => getD_jn (by rw [h.len]; exact hx)
  have s : ∀ p ∈ ps, p ∈ ps ++ [(a, b)] := fun p h => List.mem_append_left _ h
  have cab : Con (ps ++ [(a, b)]) a b := con_snoc.mpr (.inr (.inl ⟨.refl _, .refl _⟩))
  refine ⟨len, ?_, ?_, ?_⟩
  · intro x y hx hy
    rw [g x hx, g y hy, con_snoc, ← h.iff x y hx hy, ← h.iff x a hx ha, ← h.iff b y hb hy, ← h.iff x b hx hb, ← h.iff a y ha hy]
    generalize ns.getD a 0 = A
    generalize ns.getD b 0 = B
    generalize ns.getD x 0 = U
    generalize ns.getD y 0 = W
    by_cases h1 : U = max A B
    · by_cases h2 : W = max A B
      · rw [if_pos h1, if_pos h2]
        omega
      · rw [if_pos h1, if_neg h2]
        omega
    · by_cases h2 : W = max A B
      · rw [if_neg h1, if_pos h2]
        omega
      · rw [if_neg h1, if_neg h2]
        omega
  · intro x hx
    rw [g x hx]
    obtain ⟨o1, o2⟩ := h.own x hx
    by_cases e : ns.getD x 0 = max (ns.getD a 0) (ns.getD b 0)
    · rw [if_pos e]
      obtain ⟨oa1, oa2⟩ := h.own a ha
      obtain ⟨ob1, ob2⟩ := h.own b hb
      have ca : Con (ps ++ [(a, b)]) (ns.getD a 0) a := oa2.mono s
      have cb : Con (ps ++ [(a, b)]) (ns.getD b 0) b := ob2.mono s
      have cx : Con (ps ++ [(a, b)]) (ns.getD x 0) x := o2.mono s
      by_cases le : ns.getD a 0 ≤ ns.getD b 0
      · rw [Nat.min_eq_left le]
        rw [Nat.max_eq_right le] at e
        rw [e] at cx
        exact ⟨oa1, ca.trans (cab.trans (cb.symm.trans cx))⟩
      · have le' : ns.getD b 0 ≤ ns.getD a 0 := by omega
        rw [Nat.min_eq_right le']
        rw [Nat.max_eq_left le'] at e
        rw [e] at cx
        exact ⟨ob1, cb.trans (cab.symm.trans (ca.symm.trans cx))⟩
    · rw [if_neg e]
      exact ⟨o1, o2.mono s⟩
  · intro x hx
    rw [g x hx]
    have := h.low x hx
    split <;> omega
theorem getD_range {n x : Nat} (h : x < n) : (List.range n).getD x 0 = x := by
  rw [List.getD_eq_getElem?_getD, List.getElem?_range h]
  rfl
theorem Nm.zero (n : Nat) : Nm n [] (List.range n) := by
  refine ⟨List.length_range, ?_, ?_, ?_⟩
  · intro x y hx hy
    rw [getD_range hx, getD_range hy]
    exact ⟨fun e => by rw [e]; exact .refl _, con_nil⟩
  · intro x hx
    rw [getD_range hx]
    exact ⟨hx, .refl _⟩
  · intro x hx
    rw [getD_range hx]
    exact Nat.le_refl _
theorem Nm.fold {n : Nat} : ∀ (qs ps : Pr) (ns : List Nat), Nm n ps ns → Below n qs → Nm n (ps ++ qs) (qs.foldl (fun ns p => jn ns p.1 p.2) ns)
  | [], ps, ns, h, _ => by rw [List.append_nil]; exact h
  | (a, b) :: qs, ps, ns, h, hb => by
    have := Nm.fold qs (ps ++ [(a, b)]) (jn ns a b) (h.next (hb _ List.mem_cons_self).1 (hb _ List.mem_cons_self).2) fun p m => hb p (List.mem_cons_of_mem _ m)
    rw [List.append_assoc] at this
    exact this
theorem names_nm {n : Nat} {ps : Pr} (h : Below n ps) : Nm n ps (names n ps) := Nm.fold ps [] _ (Nm.zero n) h
/-- all hang together -/
def Whole (n : Nat) (ps : Pr) : Prop := ∀ x, x < n → Con ps 0 x
theorem Nm.whole {n : Nat} {ps : Pr} {ns : List Nat} (h : Nm n ps ns) : Whole n ps ↔ ∀ x ∈ ns, x = 0 := by
  constructor
  · intro w x hx
    obtain ⟨i, hi, e⟩ := List.mem_iff_getElem.mp hx
    have hin : i < n := by rw [← h.len]; exact hi
    have h0 : 0 < n := by omega
    have e1 := (h.iff 0 i h0 hin).mpr (w i hin)
    have l := h.low 0 h0
    have e2 : ns.getD i 0 = x := by rw [List.getD_eq_getElem?_getD, List.getElem?_eq_getElem hi, ← e]; rfl
    omega
  · intro z x hx
    have hl : x < ns.length := by rw [h.len]; exact hx
    have e2 : ns.getD x 0 = ns[x] := by rw [List.getD_eq_getElem?_getD, List.getElem?_eq_getElem hl]; rfl
    have c := (h.own x hx).2
    rw [e2, z _ (List.getElem_mem hl)] at c
    exact c
/-- one round: both ends take the lower of their two numbers -/
def rnd1 (ls : List Nat) (p : Nat × Nat) : List Nat := (ls.set p.1 (min (ls.getD p.1 0) (ls.getD p.2 0))).set p.2 (min (ls.getD p.1 0) (ls.getD p.2 0))
def rnd (ps : Pr) (ls : List Nat) : List Nat := ps.foldl rnd1 ls
def rnds (ps : Pr) : Nat → List Nat → List Nat
  | 0, ls => ls
  | k + 1, ls => rnds ps k (rnd ps ls)
theorem len_rnd1 (ls : List Nat) (p : Nat × Nat) : (rnd1 ls p).length = ls.length := by unfold rnd1; rw [List.length_set, List.length_set]
theorem get_rnd1 {ls : List Nat} {p : Nat × Nat} {x : Nat} (h1 : p.1 < ls.length) (h2 : p.2 < ls.length) :
    (rnd1 ls p).getD x 0 = if x = p.1 ∨ x = p.2 then min (ls.getD p.1 0) (ls.getD p.2 0) else ls.getD x 0 := by
  unfold rnd1
  rw [List.getD_eq_getElem?_getD, List.getElem?_set, List.getElem?_set, List.length_set]
  by_cases e2 : p.2 = x
  · rw [if_pos e2, if_pos h2, if_pos (.inr e2.symm)]
    rfl
  · rw [if_neg e2]
    by_cases e1 : p.1 = x
    · rw [if_pos e1, if_pos h1, if_pos (.inl e1.symm)]
      rfl
    · rw [if_neg e1, if_neg (by rintro (z | z); exact e1 z.symm; exact e2 z.symm), ← List.getD_eq_getElem?_getD]
/-- what a round keeps: every number is one of a thing that it hangs together with; none goes up -/
structure Ls (n : Nat) (ps : Pr) (ls : List Nat) : Prop where
  len : ls.length = n
  own : ∀ x, x < n → ls.getD x 0 < n ∧ Con ps (ls.getD x 0) x
theorem Ls.next {n : Nat} {ps : Pr} {ls : List Nat} {p : Nat × Nat} (h : Ls n ps ls) (m : p ∈ ps) (b : Below n ps) : Ls n ps (rnd1 ls p) := by
  obtain ⟨b1, b2⟩ := b p m
  refine ⟨(len_rnd1 ls p).trans h.len, fun x hx => ?_⟩
  rw [get_rnd1 (by rw [h.len]; exact b1) (by rw [h.len]; exact b2)]
  have cp : Con ps p.1 p.2 := .to m (.refl _)
  obtain ⟨o1, o2⟩ := h.own p.1 b1
  obtain ⟨q1, q2⟩ := h.own p.2 b2
  split
  · rename_i e
    have cx : Con ps p.1 x := by
      rcases e with rfl | rfl
      · exact .refl _
      · exact cp
    by_cases le : ls.getD p.1 0 ≤ ls.getD p.2 0
    · rw [Nat.min_eq_left le]
      exact ⟨o1, o2.trans cx⟩
    · rw [Nat.min_eq_right (by omega)]
      exact ⟨q1, q2.trans (cp.symm.trans cx)⟩
  · exact h.own x hx
theorem down1 {ls : List Nat} {p : Nat × Nat} (h1 : p.1 < ls.length) (h2 : p.2 < ls.length) (x : Nat) : (rnd1 ls p).getD x 0 ≤ ls.getD x 0 := by
  rw [get_rnd1 h1 h2]
  split
  · rename_i e
    rcases e with rfl | rfl
    · exact Nat.min_le_left _ _
    · exact Nat.min_le_right _ _
  · exact Nat.le_refl _
theorem fold_down {n : Nat} : ∀ (qs : Pr) (ls : List Nat), ls.length = n → Below n qs → (qs.foldl rnd1 ls).length = n ∧ ∀ x, (qs.foldl rnd1 ls).getD x 0 ≤ ls.getD x 0
  | [], ls, hl, _ => ⟨hl, fun x => Nat.le_refl _⟩
  | p :: qs, ls, hl, b => by
    obtain ⟨b1, b2⟩ := b p List.mem_cons_self
    have r := fold_down qs (rnd1 ls p) ((len_rnd1 ls p).trans hl) fun q m => b q (List.mem_cons_of_mem _ m)
    exact ⟨r.1, fun x => Nat.le_trans (r.2 x) (down1 (by rw [hl]; exact b1) (by rw [hl]; exact b2) x)⟩
theorem Ls.fold {n : Nat} {ps : Pr} (b : Below n ps) : ∀ (qs : Pr) (ls : List Nat), Ls n ps ls → (∀ p ∈ qs, p ∈ ps) → Ls n ps (qs.foldl rnd1 ls)
  | [], ls, h, _ => h
  | p :: qs, ls, h, m => Ls.fold b qs _ (h.next (m _ List.mem_cons_self) b) fun q z => m q (List.mem_cons_of_mem _ z)
/-- a nought at one end of a pair goes over to the other within a round -/
theorem fold_zero {n : Nat} : ∀ (qs : Pr) (ls : List Nat) (p : Nat × Nat), ls.length = n → Below n qs → p ∈ qs → (ls.getD p.1 0 = 0 ∨ ls.getD p.2 0 = 0) → (qs.foldl rnd1 ls).getD p.1 0 = 0 ∧ (qs.foldl rnd1 ls).getD p.2 0 = 0
  | [], ls, p, _, _, m, _ => by cases m
  | q :: qs, ls, p, hl, b, m, z => by
    obtain ⟨b1, b2⟩ := b q List.mem_cons_self
    have hl1 : (rnd1 ls q).length = n := (len_rnd1 ls q).trans hl
    have bq : Below n qs := fun q m => b q (List.mem_cons_of_mem _ m)
    have g1 : q.1 < ls.length := by rw [hl]; exact b1
    have g2 : q.2 < ls.length := by rw [hl]; exact b2
    by_cases e : p = q
    · subst e
      have r := fold_down qs (rnd1 ls p) hl1 bq
      have z0 : min (ls.getD p.1 0) (ls.getD p.2 0) = 0 := by omega
      have r1 := r.2 p.1
      have r2 := r.2 p.2
      rw [get_rnd1 g1 g2, if_pos (.inl rfl), z0] at r1
      rw [get_rnd1 g1 g2, if_pos (.inr rfl), z0] at r2
      exact ⟨Nat.le_zero.mp r1, Nat.le_zero.mp r2⟩
    · have m' : p ∈ qs := (List.mem_cons.mp m).resolve_left e
      have d1 := down1 g1 g2 p.1
      have d2 := down1 g1 g2 p.2
      exact fold_zero qs (rnd1 ls q) p hl1 bq m' (by omega)
/-- how many noughts -/
def zs (n : Nat) (ls : List Nat) : Nat := (List.range n).countP fun x => decide (ls.getD x 0 = 0)
theorem zs_le {n : Nat} {ls ms : List Nat} (h : ∀ x, x < n → ls.getD x 0 = 0 → ms.getD x 0 = 0) : zs n ls ≤ zs n ms := by
  unfold zs
  refine List.countP_mono_left ?_
  intro x hx hz
  exact decide_eq_true (h x (List.mem_range.mp hx) (of_decide_eq_true hz))
theorem countP_lt {p q : Nat → Bool} : ∀ (l : List Nat), (∀ x ∈ l, p x = true → q x = true) → (∃ x ∈ l, p x = false ∧ q x = true) → l.countP p < l.countP q
  | [], _, ⟨x, m, _⟩ => by cases m
  | y :: l, h, ⟨x, m, h1, h2⟩ => by
    have le : l.countP p ≤ l.countP q := List.countP_mono_left fun x hx => h x (List.mem_cons_of_mem _ hx)
    rcases List.mem_cons.mp m with rfl | m
    · rw [List.countP_cons, List.countP_cons, h1, h2]
      simp only [Bool.false_eq_true, if_false, if_true]
      omega
    · have ih := countP_lt l (fun x hx => h x (List.mem_cons_of_mem _ hx)) ⟨x, m, h1, h2⟩
      rw [List.countP_cons, List.countP_cons]
      have := h y List.mem_cons_self
      cases hp : p y with
      | true => rw [this hp]; omega
      | false => cases q y <;> (simp only [Bool.false_eq_true, if_false, if_true]; omega)
theorem zs_all {n : Nat} {ls : List Nat} (h : zs n ls = n) : ∀ x, x < n → ls.getD x 0 = 0 := by
  intro x hx
  cases d : decide (ls.getD x 0 = 0) with
  | true => exact of_decide_eq_true d
  | false =>
    have lt := countP_lt (p := fun x => decide (ls.getD x 0 = 0)) (q := fun _ => true) (List.range n) (fun _ _ _ => rfl) ⟨x, List.mem_range.mpr hx, d, rfl⟩
    have e : (List.range n).countP (fun _ => true) = n := by rw [List.countP_true, List.length_range]
    have h' : (List.range n).countP (fun x => decide (ls.getD x 0 = 0)) = n := h
    rw [e, h'] at lt
    exact absurd lt (Nat.lt_irrefl _)
/-- a round makes a nought more, while there is one to make -/
theorem rnd_more {n : Nat} {ps : Pr} {ls : List Nat} (hl : ls.length = n) (b : Below n ps) (w : Whole n ps) (h0 : ls.getD 0 0 = 0) (lt : zs n ls < n) : zs n ls < zs n (rnd ps ls) := by
  have dn := fold_down ps ls hl b
  by_cases c : ∃ x, x < n ∧ ls.getD x 0 ≠ 0 ∧ (rnd ps ls).getD x 0 = 0
  · obtain ⟨x, hx, h1, h2⟩ := c
    refine countP_lt _ (fun y _ hy => ?_) ⟨x, List.mem_range.mpr hx, decide_eq_false h1, decide_eq_true h2⟩
    have := dn.2 y
    have hy' := of_decide_eq_true hy
    exact decide_eq_true (by rw [hy'] at this; exact Nat.le_zero.mp this)
  · exfalso
    have cl : ∀ x, x < n → (rnd ps ls).getD x 0 = 0 → ls.getD x 0 = 0 := fun x hx hz => Classical.byContradiction fun q => c ⟨x, hx, q, hz⟩
    -- noughts are closed under pairs, so all are noughts
    have key : ∀ x y, Con ps x y → ls.getD x 0 = 0 → ls.getD y 0 = 0 := by
      intro x y h
      induction h with
      | refl => exact fun h => h
      | @to a b' c' m _ ih =>
        intro ha
        have z := fold_zero ps ls (a, b') hl b m (.inl ha)
        exact ih (cl _ (b _ m).2 z.2)
      | @fro a b' c' m _ ih =>
        intro hb
        have z := fold_zero ps ls (a, b') hl b m (.inr hb)
        exact ih (cl _ (b _ m).1 z.1)
    have all : zs n ls = n := by
      unfold zs
      have e : (List.range n).countP (fun x => decide (ls.getD x 0 = 0)) = (List.range n).length := by
        rw [List.countP_eq_length]
        intro x hx
        exact decide_eq_true (key 0 x (w x (List.mem_range.mp hx)) h0)
      rw [e, List.length_range]
    omega
theorem rnds_spec {n : Nat} {ps : Pr} (b : Below n ps) : ∀ (k : Nat) (ls : List Nat), Ls n ps ls → ls.getD 0 0 = 0 → Ls n ps (rnds ps k ls) ∧ (rnds ps k ls).getD 0 0 = 0 ∧ (Whole n ps → min n (zs n ls + k) ≤ zs n (rnds ps k ls))
  | 0, ls, h, h0 => ⟨h, h0, fun _ => by show min n (zs n ls + 0) ≤ zs n ls; omega⟩
  | k + 1, ls, h, h0 => by
    have h1 : Ls n ps (rnd ps ls) := Ls.fold b ps ls h fun _ m => m
    have dn := fold_down ps ls h.len b
    have h01 : (rnd ps ls).getD 0 0 = 0 := by
      have := dn.2 0
      rw [h0] at this
      exact Nat.le_zero.mp this
    obtain ⟨r1, r2, r3⟩ := rnds_spec b k (rnd ps ls) h1 h01
    refine ⟨r1, r2, fun w => ?_⟩
    have q := r3 w
    show min n (zs n ls + (k + 1)) ≤ zs n (rnds ps k (rnd ps ls))
    by_cases lt : zs n ls < n
    · have := rnd_more h.len b w h0 lt
      omega
    · have le := zs_le (n := n) (ls := ls) (ms := rnd ps ls) fun x hx z => by
        have := dn.2 x
        rw [z] at this
        exact Nat.le_zero.mp this
      omega
/-- after n rounds all are noughts just if all hang together -/
theorem rnds_whole {n k : Nat} {ps : Pr} (b : Below n ps) (hk : n ≤ k) (hn : 0 < n) : (∀ x ∈ rnds ps k (List.range n), x = 0) ↔ Whole n ps := by
  have l0 : Ls n ps (List.range n) := ⟨List.length_range, fun x hx => by rw [getD_range hx]; exact ⟨hx, .refl _⟩⟩
  obtain ⟨r1, r2, r3⟩ := rnds_spec b k _ l0 (getD_range hn)
  constructor
  · intro z x hx
    have hl : x < (rnds ps k (List.range n)).length := by rw [r1.len]; exact hx
    have e2 : (rnds ps k (List.range n)).getD x 0 = (rnds ps k (List.range n))[x] := by rw [List.getD_eq_getElem?_getD, List.getElem?_eq_getElem hl]; rfl
    have c := (r1.own x hx).2
    rw [e2, z _ (List.getElem_mem hl)] at c
    exact c
  · intro w x hx
    obtain ⟨i, hi, e⟩ := List.mem_iff_getElem.mp hx
    have q := r3 w
    have le : zs n (rnds ps k (List.range n)) ≤ n := by
      unfold zs
      have := List.countP_le_length (p := fun x => decide ((rnds ps k (List.range n)).getD x 0 = 0)) (l := List.range n)
      rw [List.length_range] at this
      exact this
    have a := zs_all (show zs n (rnds ps k (List.range n)) = n by omega) i (by rw [← r1.len]; exact hi)
    rw [List.getD_eq_getElem?_getD, List.getElem?_eq_getElem hi] at a
    rw [← e]
    exact a
theorem names_rnds {n k : Nat} {ps : Pr} (b : Below n ps) (hk : n ≤ k) (hn : 0 < n) : (∀ x ∈ names n ps, x = 0) ↔ ∀ x ∈ rnds ps k (List.range n), x = 0 :=
  (names_nm b).whole.symm.trans (rnds_whole b hk hn).symm
theorem con_mem {ps qs : Pr} {x y : Nat} (h : ∀ p, p ∈ ps ↔ p ∈ qs) : Con ps x y ↔ Con qs x y := ⟨fun c => c.mono fun p m => (h p).mp m, fun c => c.mono fun p m => (h p).mpr m⟩
/-- with a pair left out all still hang together just if its ends have one name -/
theorem whole_less {n a b : Nat} {ps qs : Pr} (w : Whole n (ps ++ (a, b) :: qs)) (hb : Below n (ps ++ (a, b) :: qs)) : Whole n (ps ++ qs) ↔ (names n (ps ++ qs)).getD a 0 = (names n (ps ++ qs)).getD b 0 := by
  have hab := hb (a, b) (List.mem_append_right _ List.mem_cons_self)
  have bl : Below n (ps ++ qs) := fun p m => hb p (by
    rcases List.mem_append.mp m with m | m
    · exact List.mem_append_left _ m
    · exact List.mem_append_right _ (List.mem_cons_of_mem _ m))
  rw [(names_nm bl).iff a b hab.1 hab.2]
  constructor
  · intro z
    exact (z a hab.1).symm.trans (z b hab.2)
  · intro c x hx
    have q := w x hx
    have e : Con (ps ++ qs ++ [(a, b)]) 0 x := (con_mem fun p => by
      simp only [List.mem_append, List.mem_cons, List.not_mem_nil, or_false]
      constructor
      · rintro ((h | h) | h)
        · exact .inl h
        · exact .inr (.inr h)
        · exact .inr (.inl h)
      · rintro (h | h | h)
        · exact .inl (.inl h)
        · exact .inr h
        · exact .inl (.inr h)).mpr q
    rcases con_snoc.mp e with h | ⟨h1, h2⟩ | ⟨h1, h2⟩
    · exact h
    · exact h1.trans (c.trans h2)
    · exact h1.trans (c.symm.trans h2)
end MC

namespace FT
open PySem PySem.Spec PyProof.Rows L2
/-! any(xs), xs a list of ints -/
theorem truth_ints {prog : Program} {w : World} {A : Around} {ns : List Int} {its : List Value} (e : IntsAre its ns) :
    TruthOf prog w A (fun i v => its.toArray[i]? = some v) (fun i => decide (ns.getD i 0 ≠ 0)) := fun i v s Q E hv hq => by
  have hv' : its[i]? = some v := by simpa using hv
  have key : ∀ {its : List Value} {ns : List Int}, IntsAre its ns → ∀ (i : Nat) (v : Value), its[i]? = some v → ∃ n t, v = .int n t ∧ ns.getD i 0 = n := by
    intro its ns h
    induction h with
    | nil => intro i v h; cases h
    | cons n t h ih =>
      intro i v hv
      cases i with
      | zero => exact ⟨n, t, (Option.some.inj hv).symm, rfl⟩
      | succ i => exact ih i v hv
  obtain ⟨n, t, rfl, en⟩ := key e i v hv'
  have hq' : Q (decide (ns.getD i 0 ≠ 0)) s := hq
  rw [en] at hq'
  have e2 : (n != 0) = decide (n ≠ 0) := by by_cases h : n = 0 <;> simp [h]
  rw [← e2] at hq'
  exact PySem.P.truthy_int hq'
theorem anyI_range : ∀ ns : List Int, (List.range ns.length).any (fun i => decide (ns.getD i 0 ≠ 0)) = ns.any fun n => decide (n ≠ 0)
  | [] => rfl
  | b :: bs => by
    rw [List.length_cons, List.range_succ_eq_map, List.any_cons, List.any_map, List.any_cons, ← anyI_range bs]
    all_goals rfl
section
variable {X : Cx}
def rAnyI (K : PySem.W.Frag) : List V → Hp → VK → Prop := fun vs H Q => ∃ (a : Addr) (ns : List Int), vs = [V.ref a] ∧ SqL K H a (ns.map V.int) ∧ Q (.bl (ns.any fun n => decide (n ≠ 0))) H
theorem cr_anyI (hc : X.calm = true) : CallR X (.builtin "any") (rAnyI X.K) := by
  intro pins s σ H vs us Q I r h
  obtain ⟨a, ns, rfl, hs, q⟩ := h
  obtain ⟨its, rv, hl, _⟩ := I.list hs
  rw [Vals.ref1 r]
  have hb := rv.ints
  refine call_any_walk (iter_any hl.isList fun s₂ e2 st hne => ?_)
  subst e2
  refine ⟨_, _, _, _, _, _, _, rfl, Walks.list (A := X.A.in1) (I.ok.hd hc) _ a hne its.toArray, st, truth_ints hb, fun h' tk hk => ?_⟩
  refine ⟨.bl _, H, I.kept fun b o eo => hk b o (fun hmem => ?_) (Heap.get?_push_of_some _ eo), ?_, q⟩
  · rcases List.mem_cons.mp hmem with e1 | hmem
    · exact absurd (e1 ▸ Heap.lt_size eo) (Nat.lt_irrefl _)
    · cases hmem
  · show Value.bool _ = Value.bool _
    rw [← anyI_range, List.size_toArray]
    have := hb.length
    congr 2
    rw [this]
end
/-- numbers of things, as Python's -/
abbrev nv (ns : List Nat) : List V := ns.map fun (n : Nat) => V.int (n : Int)
theorem nv_ints (ns : List Nat) : nv ns = (ns.map fun (n : Nat) => (n : Int)).map V.int := by simp [nv, List.map_map]
theorem SqA.same {K : PySem.W.Frag} {H H' : Hp} {a : Addr} {xs : List V} (h : SqA K H a xs) (s : Same H H') : SqA K H' a xs := by
  rcases h with h | h
  · exact .inl (sqL_at h fun o e => s _ _ e)
  · exact .inr (sqT_at h fun o e => s _ _ e)
/-- a, b = x: x a list or a tuple -/
def gSq (K : PySem.W.Frag) (n : Nat) (t : TGs) : TG := fun v σ H Q => ∃ a xs, v = .ref a ∧ SqA K H a xs ∧ xs.length = n ∧ t xs σ H Q
theorem pg_sq {X : Cx} {pos : Pos} {es : List Expr} {k : Nat} {t : TGs} {n : Nat} (hc : X.calm = true) (h : PGs X es t)
    (hn : (assignEach es X.env).length = n := by rfl) (hst : (assignEach es X.env).findIdx? (·.1) = none := by rfl) : PG X (.Tuple es k pos) (gSq X.K n t) := by
  constructor
  rintro pins s σ H v u Q I r ⟨a, xs, e1, hq, hl, hw⟩
  rcases hq with hq | hq
  · exact (pg_lst hc h hn hst).run pins s σ H v u Q I r ⟨a, xs, e1, hq, hl, hw⟩
  · exact (pg_tup hc h hn hst).run pins s σ H v u Q I r ⟨a, xs, e1, hq, hl, hw⟩
/-- a list or a tuple of xs that is tracked at a -/
def SqX (H : Hp) (a : Addr) (xs : List V) : Prop := H a = some (.lst xs) ∨ H a = some (.tup xs)
theorem SqX.sq {K : PySem.W.Frag} {H : Hp} {a : Addr} {xs : List V} (h : SqX H a xs) : SqA K H a xs := by
  rcases h with h | h
  · exact .inl (SqL.of h)
  · exact .inr (SqT.of h)
theorem SqX.same {H H' : Hp} {a : Addr} {xs : List V} (h : SqX H a xs) (s : Same H H') : SqX H' a xs := by
  rcases h with h | h
  · exact .inl (s _ _ h)
  · exact .inr (s _ _ h)
theorem SqX.has {H : Hp} {a : Addr} {xs : List V} (h : SqX H a xs) : ∃ o, H a = some o := by
  rcases h with h | h <;> exact ⟨_, h⟩
theorem SqX.ok {H : Hp} {a : Addr} {xs : List V} (h : SqX H a xs) : OkV H (.ref a) := by
  rcases h with h | h
  · exact .inl ⟨_, h⟩
  · exact .inr (.inl ⟨_, h⟩)
theorem SqX.lt {H : Hp} {a : Addr} {xs : List V} (h : SqX H a xs) : isLT H (.ref a) = true := by
  rcases h with h | h <;> simp only [isLT, h]
theorem SqX.inj {H : Hp} {a : Addr} {xs ys : List V} (h : SqX H a xs) (g : SqX H a ys) : xs = ys := by
  rcases h with h | h <;> rcases g with g | g
  · exact HO.lst.inj (Option.some.inj (h.symm.trans g))
  · cases h.symm.trans g
  · cases h.symm.trans g
  · exact HO.tup.inj (Option.some.inj (h.symm.trans g))
/-- a list or a tuple of pairs, each a list or a tuple -/
def PrI (H : Hp) (x : V) (p : Nat × Nat) : Prop := ∃ t, x = .ref t ∧ SqX H t [.int (p.1 : Int), .int (p.2 : Int)]
def PrsA (H : Hp) (a : Addr) (ps : MC.Pr) : Prop := ∃ xs, SqX H a xs ∧ Paired (PrI H) xs ps
theorem PrI.same {H H' : Hp} {x : V} {p : Nat × Nat} (h : PrI H x p) (s : Same H H') : PrI H' x p := by
  obtain ⟨t, e, q⟩ := h
  exact ⟨t, e, q.same s⟩
theorem paired_imp {α β : Type} {R S : α → β → Prop} (f : ∀ x y, R x y → S x y) : ∀ {xs : List α} {ys : List β}, Paired R xs ys → Paired S xs ys
  | _, _, .nil => .nil
  | _, _, .cons h t => .cons (f _ _ h) (paired_imp f t)
theorem PrsA.same {H H' : Hp} {a : Addr} {ps : MC.Pr} (h : PrsA H a ps) (s : Same H H') : PrsA H' a ps := by
  obtain ⟨xs, q, r⟩ := h
  exact ⟨xs, q.same s, paired_imp (fun _ _ z => z.same s) r⟩
theorem nv_at {ns : List Nat} {i : Nat} (h : i < ns.length) : atI (nv ns) (i : Int) = some (.int ((ns.getD i 0 : Nat) : Int)) := by
  refine atI_nat ?_
  rw [List.getElem?_map, List.getElem?_eq_getElem h, List.getD_eq_getElem?_getD, List.getElem?_eq_getElem h]
  rfl
theorem nv_range (n : Nat) : rgV 0 (n : Int) = nv (List.range n) := by
  unfold rgV nv
  have e : ((n : Int) - 0).toNat = n := by omega
  rw [e]
  refine List.map_congr_left fun i _ => ?_
  rw [Int.zero_add]
end FT
namespace FT
open PySem PySem.Spec PyProof.Rows L2
/-- all n things hang together by ps -/
def hang (n : Nat) (ps : MC.Pr) : Bool := (MC.names n ps).all fun x => decide (x = 0)
theorem hang_iff {n : Nat} {ps : MC.Pr} : hang n ps = true ↔ ∀ x ∈ MC.names n ps, x = 0 := by
  unfold hang
  rw [List.all_eq_true]
  exact ⟨fun h x hx => of_decide_eq_true (h x hx), fun h x hx => decide_eq_true (h x hx)⟩
theorem nv_set (ns : List Nat) (i x : Nat) : (nv ns).set i (.int (x : Int)) = nv (ns.set i x) := by
  unfold nv
  rw [List.map_set]
theorem any_names {n : Nat} {ps : MC.Pr} : (((MC.names n ps).map fun (n : Nat) => (n : Int)).any fun n => decide (n ≠ 0)) = !hang n ps := by
  unfold hang
  rw [List.any_map]
  induction MC.names n ps with
  | nil => rfl
  | cons x r ih =>
    rw [List.any_cons, List.all_cons, ih, Bool.not_and]
    congr 1
    by_cases h : x = 0
    · subst h
      rfl
    · have h2 : ¬ ((x : Int) = 0) := by omega
      simp [h]
end FT
namespace FT
open PySem PySem.Spec PyProof.Rows L2
/-! nested lists and tuples, made into tuples -/
inductive Tr
  | leaf (v : V)
  | node (ts : List Tr)
/-- v, nested d deep at most, is the tree t: lists and tuples are its nodes -/
def Src : Nat → Hp → V → Tr → Prop
  | 0, H, v, t => OkV H v ∧ isLT H v = false ∧ t = .leaf v
  | d + 1, H, v, t => (OkV H v ∧ isLT H v = false ∧ t = .leaf v) ∨ ∃ a xs ts, v = .ref a ∧ SqX H a xs ∧ xs.length ≤ 1000 ∧ t = .node ts ∧ Paired (Src d H) xs ts
/-- the same, tuples alone -/
def Dst : Nat → Hp → V → Tr → Prop
  | 0, _, v, t => t = .leaf v
  | d + 1, H, v, t => t = .leaf v ∨ ∃ a ys ts, v = .ref a ∧ H a = some (.tup ys) ∧ t = .node ts ∧ Paired (Dst d H) ys ts
theorem isLT_same {H H' : Hp} {v : V} (ok : OkV H v) (s : Same H H') (h : isLT H v = false) : isLT H' v = false := by
  cases v with
  | ref a =>
    rcases ok with ⟨xs, e⟩ | ⟨xs, e⟩ | ⟨xs, e⟩
    · simp only [isLT, e] at h
      cases h
    · simp only [isLT, e] at h
      cases h
    · simp only [isLT, s _ _ e]
  | _ => rfl
theorem Src.same : ∀ {d : Nat} {H H' : Hp} {v : V} {t : Tr}, Src d H v t → Same H H' → Src d H' v t
  | 0, H, H', v, t, ⟨h1, h2, h3⟩, s => ⟨h1.mono fun a o _ h => s a o h, isLT_same h1 s h2, h3⟩
  | d + 1, H, H', v, t, h, s => by
    rcases h with ⟨h1, h2, h3⟩ | ⟨a, xs, ts, e, hx, hl, et, p⟩
    · exact .inl ⟨h1.mono fun a o _ h => s a o h, isLT_same h1 s h2, h3⟩
    · exact .inr ⟨a, xs, ts, e, hx.same s, hl, et, paired_imp (fun _ _ z => Src.same z s) p⟩
theorem Dst.keep : ∀ {d : Nat} {H H' : Hp} {v : V} {t : Tr}, Dst d H v t → (∀ b xs, H b = some (.tup xs) → H' b = some (.tup xs)) → Dst d H' v t
  | 0, _, _, _, _, h, _ => h
  | d + 1, H, H', v, t, h, s => by
    rcases h with h | ⟨a, ys, ts, e, ha, et, p⟩
    · exact .inl h
    · exact .inr ⟨a, ys, ts, e, s _ _ ha, et, paired_imp (fun _ _ z => Dst.keep z s) p⟩
theorem Dst.same {d : Nat} {H H' : Hp} {v : V} {t : Tr} (h : Dst d H v t) (s : Same H H') : Dst d H' v t := h.keep fun b xs e => s _ _ e
theorem paired_snoc {α β : Type} {R : α → β → Prop} {x : α} {y : β} (h : R x y) : ∀ {xs : List α} {ys : List β}, Paired R xs ys → Paired R (xs ++ [x]) (ys ++ [y])
  | _, _, .nil => .cons h .nil
  | _, _, .cons a r => .cons a (paired_snoc h r)
end FT

/-! own objects and own errors, made by defs whose guards are told -/
namespace FT
open PySem PySem.Spec PyProof.Rows L2
section
variable {X : Cx} {CX : CXT} {k : Nat} {fI f C : Addr} {fd : FuncData} {ps ks : List Str} {sp : Sp} {x : Str} {p pos : Pos} {e : Expr} {es : List Expr} {t tk : TA} {kws : List Keyword} {g : List Value → List Value → List Value} {gV : List V → List V → List V} {E : XK}
/-- raise C(e, ..) -/
theorem pmk_G (T : OexC X.K C) (iC : PySem.W.findIn X.K (.ref C) "__init__" = some (some (.ref fI))) (tI : PySem.W.typeIn X.K (.ref fI) = some (.type "function"))
    (F : FnG X.prog X.w X.K X.mg X.base CX k fI fd ps sp) (hr : RG (k + 1) X.A) (hg : Gl X x) (hm : X.mg x = some (.ref C)) (hb : Binds X.K fd ps []) (hx : Passes CX X (fun _ _ _ => False)) (ha : PA X (e :: es) t)
    (hdb : (x == ("__debug__" : Str)) = false := by decide) (he : starEach (e :: es) X.env = (false, eval e X.env) :: starEach es X.env := by rfl) (hpl : (backTo pos (starEach es X.env)).any (·.1) = false := by rfl) :
    PMk X (.Call (.Name x p) (e :: es) [] pos) (tMkO C sp [] t) := by
  intro pins s σ H Q I h
  obtain ⟨nm, q, N, bs, bm, sn, sub, ab, col, dd, k0, k1, k2, k3, k5, hC, hbm⟩ := T.cls
  refine wpAny_Call_Name_kw (ld_glob I hg hm ?_ hdb)
  refine PySem.W.callWith_K (h₀ := X.base) I.ok.mod.kin T.kC (thn (ha.run pos pins s σ H _ I h) ?_) he hpl
  rintro us s1 ⟨vs, H1, I1, r1, hz, q1⟩
  refine ⟨I1.kIn, ?_⟩
  show wpAny _ _ (call (.ref C) us) _ _ _
  obtain ⟨hp, gg, dr, tk, os⟩ := s1
  have hsz : hp.objs.size ≤ hp.objs.size + 1 := Nat.le_succ _
  have hn : H1 (hp.objs.size + 1) = none := I1.hok.fresh hsz
  have hq := q1 (hp.objs.size + 1) hn
  have kk : ∀ b o, hp.get? b = some o → ((hp.push (PySem.W.kdv_tup us)).push (PySem.HandSPX.excO C hp.objs.size)).get? b = some o := fun b o e => Heap.get?_push_of_some _ (Heap.get?_push_of_some _ e)
  have hget : ((hp.push (PySem.W.kdv_tup us)).push (PySem.HandSPX.excO C hp.objs.size)).get? (hp.objs.size + 1) = some (PySem.HandSPX.excO C hp.objs.size) := by heap_get
  have I2 : Inv X pins σ (upd H1 (hp.objs.size + 1) (exo (hp.objs.size + 1) C none)) ⟨(hp.push (PySem.W.kdv_tup us)).push (PySem.HandSPX.excO C hp.objs.size), gg, dr, tk, os⟩ :=
    I1.laid (t' := tk) (a := hp.objs.size + 1) (o := exo (hp.objs.size + 1) C none) (h' := (hp.push (PySem.W.kdv_tup us)).push (PySem.HandSPX.excO C hp.objs.size)) kk hsz (exo_ok hget)
  have r2 : Vals (V.ref (hp.objs.size + 1) :: (vs ++ [])) (Value.ref (hp.objs.size + 1) :: (us ++ [])) := .cons rfl (r1.append .nil)
  have hl : (Value.ref (hp.objs.size + 1) :: us ++ []).length = ps.length := by
    have e := r2.length
    rw [F.arity _ _ _ _ hq] at e
    exact e.symm
  have hus : us.length ≤ sizeLine := by
    rw [← Paired.length r1, sizeLine_eq]
    omega
  refine wpAny_call (PySem.HandSPX.kw_call_own (kw := []) PySem.F.excBase_ValueError (fun Y => PySem.HandSPX.refsVE_contains Y bm hbm) (I1.kIn _ _ hC) (PySem.W.looks_findIn I1.kIn iC) (fun self => PySem.W.bind_fn I1.kIn self tI) hus
    (codeAny_mono (F.goes (hr.make C us []) (I2.env0.make C us []) (hb _ (Value.ref (hp.objs.size + 1) :: us) I2.kIn hl) r2 hq) fun r s' hq' => ?_))
  cases r with
  | error er => exact hx pins σ _ _ er s' I2 hq'
  | ok fl =>
    cases fl with
    | ret u =>
      obtain ⟨v, H2, os2, bare2, un2, hok2, rv, ev, d, fs, ea, ed, hd1, q2⟩ := hq'
      subst ev
      obtain ⟨h2, g2, d2, t2, os'⟩ := s'
      exact ⟨rv, mk_end (raises_own T.exC T.tyC) I1 hsz kk un2 hok2 os2 bare2 ea ed hd1 q2⟩
    | next => exact False.elim hq'
    | brk => exact False.elim hq'
    | cont => exact False.elim hq'
/-- C(..), C an own class: what stands is told -/
@[irreducible] def rMkG (C : Addr) (sp : Sp) (E : XK) (all : V → List V) (H : Hp) (Q : VK) : Prop := ∀ x dx, H x = none → H dx = none → dx ≠ x → sp (all (.ref x)) (upd (upd H dx (.own x)) x (.ins C dx [])) (fun v H2 => v = .non ∧ Q (.ref x) H2) E
def tMkG (C : Addr) (sp : Sp) (E : XK) (ta : TA) : TE := fun σ H Q => ta σ H fun vs H1 => rMkG C sp E (fun x => x :: vs) H1 Q
def tMkGK (C : Addr) (sp : Sp) (E : XK) (gV : List V → List V → List V) (ta tk : TA) : TE := fun σ H Q => ta σ H fun vs H1 => tk σ H1 fun zs H2 => rMkG C sp E (fun x => gV (x :: vs) zs) H2 Q
theorem run_mkg {pins : List (Addr × Obj)} {σ : L2.St} {H : Hp} {s : Shared} {Q : VK} {us : List Value} {kw : List (Str × Value)} {all : Value → List Value} {allV : V → List V} (M : Mk X.K C f) (F : FnG X.prog X.w X.K X.mg X.base CX k f fd ps sp) (hr : RG (k + 1) X.A)
    (hx : Passes CX X E) (I : Inv X pins σ H s)
    (hb : ∀ (a : Addr) (s' : Shared), X.K.In s'.heap → (all (.ref a)).length = ps.length → BindsTo s' fd ⟨.ref a :: us, kw⟩ (ps.zip (all (.ref a)))) (r : ∀ a : Addr, Vals (allV (.ref a)) (all (.ref a)))
    (h : rMkG C sp E allV H Q) : wpAny (model X.prog X.w) X.A (call (.ref C) us kw) (EP X pins σ Q) X.xe s := by
  unfold rMkG at h
  have hq := h (s.heap.objs.size + 1) s.heap.objs.size (I.hok.fresh (Nat.le_succ _)) (I.hok.fresh (Nat.le_refl _)) (Nat.ne_of_lt (Nat.lt_succ_self _))
  have I2 := Inv.made (C := C) I
  have hl : (all (.ref (s.heap.objs.size + 1))).length = ps.length := (r _).length.symm.trans (F.arity _ _ _ _ hq)
  refine wpAny_call (make_map (f := f) I.kIn M.makes M.init (beq_iff_eq.mp M.fn) (codeAny_mono (F.goes (hr.make C us kw) (I2.env0.make C us kw) (hb _ _ I2.kIn hl) (r _) hq) fun r s' hq' => ?_))
  cases r with
  | error e => exact hx pins σ _ _ e s' I2 hq'
  | ok fl =>
    cases fl with
    | ret u =>
      obtain ⟨v, H', I3, rv, ev, q3⟩ := I2.after hq'
      subst ev
      exact ⟨rv, ⟨V.ref (s.heap.objs.size + 1), H', I3, rfl, q3⟩⟩
    | next => exact False.elim hq'
    | brk => exact False.elim hq'
    | cont => exact False.elim hq'
theorem pe_mkG (M : Mk X.K C f) (F : FnG X.prog X.w X.K X.mg X.base CX k f fd ps sp) (hr : RG (k + 1) X.A) (hg : Gl X x) (hm : X.mg x = some (.ref C)) (hb : Binds X.K fd ps []) (hx : Passes CX X E)
    (ha : PA X (e :: es) t) (hdb : (x == ("__debug__" : Str)) = false := by decide) (he : starEach (e :: es) X.env = (false, eval e X.env) :: starEach es X.env := by rfl) (hpl : (backTo pos (starEach es X.env)).any (·.1) = false := by rfl) :
    PE X (.Call (.Name x p) (e :: es) [] pos) (tMkG C sp E t) := by
  constructor
  intro pins s σ H Q I h
  refine wpAny_Call_Name_kw (ld_glob I hg hm ?_ hdb)
  refine PySem.W.callWith_K (h₀ := X.base) I.ok.mod.kin M.kp (thn (ha.run pos pins s σ H _ I h) ?_) he hpl
  rintro us s1 ⟨vs, H1, I1, r, q⟩
  refine ⟨I1.kIn, run_mkg (all := fun a => a :: us) (allV := fun a => a :: vs) M F hr hx I1 (fun a s' ki hl => ?_) (fun a => .cons rfl r) q⟩
  have z := hb s' (.ref a :: us) ki (by simpa using hl)
  rw [List.append_nil] at z
  exact z
theorem pe_mkGK0 (M : Mk X.K C f) (F : FnG X.prog X.w X.K X.mg X.base CX k f fd ps sp) (hr : RG (k + 1) X.A) (hg : Gl X x) (hm : X.mg x = some (.ref C)) (hb : KBinds X.K fd ps ks g gV) (hx : Passes CX X E) (hkw : PK X kws tk)
    (hall : (backToKw pos (keywordEach kws X.env)).all (·.1.isSome) = true := by rfl)
    (hks : (backToKw pos (keywordEach kws X.env)).filterMap (·.1) = ks := by rfl)
    (hdb : (x == ("__debug__" : Str)) = false := by decide)
    (hpl : ((backTo pos (starEach [] X.env)).any (·.1) || (backToKw pos (keywordEach kws X.env)).any (·.1.isNone)) = false := by rfl) :
    PE X (.Call (.Name x p) [] kws pos) (tMkGK C sp E gV tNil tk) := by
  constructor
  intro pins s σ H Q I h
  refine wpAny_Call_Name_kw (ld_glob I hg hm ?_ hdb)
  refine PySem.W.callWith_KW0 (h₀ := X.base) I.ok.mod.kin M.kp hall ?_ hpl
  refine thn (hkw.run pos pins s σ H _ I h) ?_
  rintro ws s1 ⟨zs, H1, I1, r1, q1⟩
  refine ⟨I1.kIn, ?_⟩
  rw [hks]
  exact run_mkg (us := []) (all := fun a => g [a] ws) (allV := fun a => gV [a] zs) M F hr hx I1 (fun a s' ki hl => hb.to s' [.ref a] ws ki hl) (fun a => hb.rel (.cons rfl .nil) r1) q1
end
end FT
namespace FT
open PySem PySem.Spec PyProof.Rows L2
/-- what isinstance asks of an own class -/
structure IsO (K : PySem.W.Frag) (C : Addr) : Prop where
  ca : PySem.W.findIn K (.ref C) "__class__" = some (some (.builtin "object.__class__"))
  cn : PySem.W.specialIn K (.builtin "object.__class__") "__get__" = some (some (.builtin "getset_descriptor.__get__"))
  ct : PySem.W.takesIn K (.builtin "object.__class__") = some true
  cm : PySem.W.mroIn K C (.type "object") = some true
theorem own_ty {K : PySem.W.Frag} {H : Hp} {a C dx : Addr} {fs : List (Str × V)} (e : H a = some (.ins C dx fs)) (c : Cls K C) (i : IsO K C) : TyX K H (.ref a) (.ref C) := .base (.ins e c i.ca i.cn i.ct i.cm)
theorem kit_self {K : PySem.W.Frag} {C : Addr} : PySem.W.kitOne K (.ref C) (.ref C) = some true := by
  unfold PySem.W.kitOne
  rw [if_pos (beq_self_eq_true _)]
end FT
namespace FT
open PySem PySem.Spec PyProof.Rows L2
theorem cutV_take (xs : List V) (i : Nat) (h : i ≤ xs.length) : cutV xs none (some (i : Int)) = xs.take i := by
  unfold cutV
  rw [HT.sIx_none, HT.sIx_nat, List.drop_zero, Nat.sub_zero, Nat.min_eq_left h]
theorem cutV_drop (xs : List V) (i : Nat) (h : i ≤ xs.length) : cutV xs (some (i : Int)) none = xs.drop i := by
  unfold cutV
  rw [HT.sIx_none, HT.sIx_nat, Nat.min_eq_left h, List.take_of_length_le (by rw [List.length_drop]; exact Nat.le_refl _)]
section
variable {K : PySem.W.Frag} {H : Hp} {q a b : Addr} {xs ys : List V} {i : Nat} {Q : VK}
theorem slA_take (hq : H q = some (.tup xs)) (hi : i ≤ xs.length) (k : ∀ b H', Same H H' → H' b = some (.tup (xs.take i)) → Q (.ref b) H') : rSlA K (.ref q) none (some (i : Int)) H Q := by
  refine ⟨q, xs, rfl, SqT.of hq, fun w => ?_, fun _ p hp => ?_⟩
  · have e : i = xs.length := by
      have := w.2
      rw [HT.sIx_nat] at this
      omega
    exact k q H (fun _ _ h => h) (by rw [e, List.take_length]; exact hq)
  · rw [cutV_take xs i hi]
    exact k p _ (Same.new (fun _ _ h => h) hp) upd_same
theorem slA_drop {j : Int} (hj : j = (i : Int)) (hq : H q = some (.tup xs)) (hi : i ≤ xs.length) (k : ∀ b H', Same H H' → H' b = some (.tup (xs.drop i)) → Q (.ref b) H') : rSlA K (.ref q) (some j) none H Q := by
  subst hj
  refine ⟨q, xs, rfl, SqT.of hq, fun w => ?_, fun _ p hp => ?_⟩
  · have e : i = 0 := by
      have := w.1
      rw [HT.sIx_nat] at this
      omega
    exact k q H (fun _ _ h => h) (by rw [e, List.drop_zero]; exact hq)
  · rw [cutV_drop xs i hi]
    exact k p _ (Same.new (fun _ _ h => h) hp) upd_same
theorem catA_all (ha : H a = some (.tup xs)) (hb : H b = some (.tup ys)) (hl : xs.length + ys.length ≤ sizeLine) (k : ∀ c H', Same H H' → H' c = some (.tup (xs ++ ys)) → Q (.ref c) H') : rCatA K (.ref a) (.ref b) H Q := by
  refine ⟨a, b, xs, ys, rfl, rfl, SqT.of ha, SqT.of hb, hl, fun e => ?_, fun _ e => ?_, fun _ _ p hp => ?_⟩
  · exact k b H (fun _ _ h => h) (by rw [e]; exact hb)
  · exact k a H (fun _ _ h => h) (by rw [e, List.append_nil]; exact ha)
  · exact k p _ (Same.new (fun _ _ h => h) hp) upd_same
end
theorem paired_take {α β : Type} {R : α → β → Prop} : ∀ {xs : List α} {ys : List β}, Paired R xs ys → ∀ i, Paired R (xs.take i) (ys.take i)
  | _, _, .nil, i => by rw [List.take_nil, List.take_nil]; exact .nil
  | _, _, .cons h t, 0 => .nil
  | _, _, .cons h t, i + 1 => .cons h (paired_take t i)
theorem paired_drop {α β : Type} {R : α → β → Prop} : ∀ {xs : List α} {ys : List β}, Paired R xs ys → ∀ i, Paired R (xs.drop i) (ys.drop i)
  | _, _, .nil, i => by rw [List.drop_nil, List.drop_nil]; exact .nil
  | _, _, .cons h t, 0 => .cons h t
  | _, _, .cons h t, i + 1 => paired_drop t i
theorem paired_app {α β : Type} {R : α → β → Prop} {as : List α} {bs : List β} (q : Paired R as bs) : ∀ {xs : List α} {ys : List β}, Paired R xs ys → Paired R (xs ++ as) (ys ++ bs)
  | _, _, .nil => q
  | _, _, .cons h t => .cons h (paired_app q t)
end FT

/-! lambdas handed to defs, where the guards are told; tables of code objects; == and != by an own __eq__ -/
namespace FT
open PySem PySem.Spec PyProof.Rows L2 LamX
section
variable {X : Cx} {pins : List (Addr × Obj)} {σ : L2.St} {H HZ : Hp} {s s1 : Shared}
/-- x(), in the def that got the lambda -/
theorem pe_actG {CXg : CXT} {Eg : XK} {Ng : List Str} {qg : Str} {sg : Scope} {g f c' : Addr} {cdg pm ctv : Value} {params : Arguments} {body : Expr} {scope : Scope} {k i : Nat} {a : Str} {pn : List (Addr × Obj)} {xe : Value → Shared → Prop} {W : WX} {E : XK} {tb : TE} {p1 p2 : Pos}
    (I : Inv X pins σ H s) (L : LamS X.env.scope scope) (hf : s.heap.get? f = some (PySem.W.kla_obj "<lambda>" (X.env.qual ++ "<lambda>") params body scope (cloFrom X.env.cells scope.names []) pm c' ctv)) (hfn : H f = none) (hfr : f ∉ frs X.stack)
    (hbind : bindArgs (PySem.W.kla_fn "<lambda>" (X.env.qual ++ "<lambda>") params body scope (cloFrom X.env.cells scope.names []) pm (.ref c') ctv) ⟨[], []⟩ = pure [])
    (tk : Takes ((cxOf CXg X.prog X.w X.K X.mg X.base Ng qg sg g cdg X.A X.stack s H Eg).tr pn xe) W) (hr : RG (k + 1) (X.A.deeper (envOfC qg sg s.heap.objs.size g cdg)))
    (hbody : ∀ (A : Around) (outer : List Env) (s : Shared) (H : Hp), RG k (A.deeper (lamEnv X scope s.heap.objs.size f c')) → PE (lamCx X A outer s H E scope f c') body tb)
    (hN : Ng[i]? = some a) (hv : Vis sg a) (hd : (a == ("__debug__" : Str)) = false := by decide) (hcd : (a == ("__classdict__" : Str)) = false := by decide) :
    PE ((cxOf CXg X.prog X.w X.K X.mg X.base Ng qg sg g cdg X.A X.stack s H Eg).tr pn xe) (.Call (.Name a p1) [] [] p2)
      (fun σZ HZ Q => (∀ cls d H', E cls d H' → W cls d σZ H') ∧ σZ[i]? = some (some (.ref f)) ∧ HZ c' = some (CodeO c' (X.env.qual ++ "<lambda>")) ∧ tb σ HZ Q) := by
  refine ⟨fun pinsZ sZ σZ HZ Q IZ h => ?_⟩
  obtain ⟨hW, hs, hc, ht⟩ := h
  refine wpAny_Call_Name_kw (thn ((pe_var (pos := p1) (i := i) hN hv hd hcd).run pinsZ sZ σZ HZ (fun v H1 => v = .ref f ∧ H1 = HZ) IZ ⟨.ref f, hs, rfl, rfl⟩) fun u s1 ⟨v, H1, I1, r1, q1⟩ => ?_)
  obtain ⟨ev, eH⟩ := q1
  subst ev
  rw [eH] at I1
  obtain rfl : u = Value.ref f := r1
  have of1 : s1.heap.get? f = some (PySem.W.kla_obj "<lambda>" (X.env.qual ++ "<lambda>") params body scope (cloFrom X.env.cells scope.names []) pm c' ctv) := I1.base.keep f _ hf hfn hfr (fun z => nomatch (show f ∈ ([] : List Addr) from z))
  refine PySem.W.callWith_F0 ⟨_, _, _, _, of1⟩ ?_
  have un : Un (frs X.stack) [] H HZ s.heap s1.heap := I1.base
  obtain ⟨⟨oc, vs, t, hoc, hdc, hvc⟩, _, _⟩ := I1.hok c' _ hc
  have rc : codeAny (model X.prog X.w) (X.A.deeper (envOfC qg sg s.heap.objs.size g cdg)) (.call (.ref f) ⟨[], []⟩) (CR (L2.CX X.prog X.w) (envOfC qg sg s.heap.objs.size g cdg :: X.stack) X.prog X.w HZ s1 Q E) s1 := by
    refine PySem.W.kla_callFunE hr.room.depth of1 rfl L.co L.gen rfl ⟨c', oc, vs, t, rfl, hoc, hdc, hvc⟩ ?_
    rw [hbind]
    refine wpAny_pure (wpAny_newFunctionEnv (fun y hy => (L.own y hy).2) (fun y hy => absurd hy (by simp)) (fun h₁ hns hsb => ⟨I1.nolimit.fresh _ hsb, ?_⟩) L.kind)
    show codeAny _ _ (.expr body (lamEnv X scope s1.heap.objs.size f c')) _ _
    have kp : ∀ b o, s1.heap.get? b = some o → h₁.get? b = some o := fun b o e => hsb.extBut b o (Nat.ne_of_lt (Heap.lt_size e)) (Heap.get?_push_of_some _ e)
    have J : Inv (lamCx X (X.A.deeper (envOfC qg sg s.heap.objs.size g cdg)) (envOfC qg sg s.heap.objs.size g cdg :: X.stack) s1 HZ E scope f c') [] σ HZ { s1 with heap := h₁, toks := s1.toks + ([] : List (Str × Value)).length } :=
      lam_start2 I L I1.env0 hr.room.hd un hns kp
    refine PySem.W.kla_codeExpr (wpAny_mono ((hbody _ _ s1 HZ (hr.deeper _)).run [] _ _ HZ Q J ht) (fun v s' hq => ?_) fun e s' hq => hq)
    obtain ⟨w', H', J', rv, q⟩ := hq
    exact ⟨w', H', J'.os, J'.bare, J'.base, J'.hok, rv, q⟩
  refine wpAny_call (codeAny_mono rc fun r s' hq => ?_)
  cases r with
  | error e => exact tk e s' (XE.of_call I1 (fun cls d H' hE => hW cls d H' hE) hq)
  | ok fl =>
    cases fl with
    | ret u => exact I1.after hq
    | next => exact False.elim hq
    | brk => exact False.elim hq
    | cont => exact False.elim hq
end
/-- a def and the object of its code -/
structure FunC (K : PySem.W.Frag) (x qual : Str) (st : Stmt) (f : Addr) (fd : FuncData) (c : Addr) : Prop where
  ex : ∃ (oc : Value) (od : Option Addr) (kV doc pm : Value) (an : Option Addr) (ct : Value) (osl : Array (Option Value)), fd = PySem.W.fnOf x qual (defArgs st) (defBody st) (defScope st) .none kV doc pm an (.ref c) ct ∧
    K.lookup f = some ⟨oc, od, .func (PySem.W.fnOf x qual (defArgs st) (defBody st) (defScope st) .none kV doc pm an (.ref c) ct), osl⟩ ∧ PySem.W.codeIn K (.ref c) qual = true
  kp : PySem.W.keepIn K (.ref f) = true
section
variable {P : Program} {w : World} {K : PySem.W.Frag} {mg : Str → Option Value} {base : Heap} {CX : CXT}
/-- okG for a def whose code object is told -/
theorem okGC {x qual : Str} {st : Stmt} {f c : Addr} {fd : FuncData} {N ps : List Str} {k : Nat} {sp : Sp} (F : FunC K x qual st f fd c) (S : FnScope N ps (defScope st))
    (arity : ∀ vs H Q E, sp vs H Q E → vs.length = ps.length)
    (hbody : ∀ (A : Around) (outer : List Env) (s : Shared) (H : Hp) (vs : List V) (Q : VK) (E : XK),
      RG k (A.deeper (envOfC qual (defScope st) s.heap.objs.size f (.ref c))) → sp vs H Q E →
        ∃ t, PSs (cxOf CX P w K mg base N qual (defScope st) f (.ref c) A outer s H E).nox (defBody st) t ∧ t { nx := fun _ H' => Q .non H', rt := Q } (start N vs) H) :
    FnG P w K mg base CX (k + 1) f fd ps sp := by
  obtain ⟨oc, od, kV, doc, pm, an, ct, osl, rfl, lk, hcd⟩ := F.ex
  refine ⟨arity, ?_⟩
  intro A outer s H args us vs Q E hr e0 hb r hsp
  have KX : K.In s.heap := e0.mod.kin.keeps fun b o q => (e0.bs b o q).1
  have lim : s.heap.NoLimit := e0.mod.nolimit.keeps fun b o q => (e0.bs b o q).1
  have hl := arity _ _ _ _ hsp
  obtain ⟨t, ht, hq⟩ := hbody A outer s H vs Q E (hr.deeper _) hsp
  have ht := ht.nox
  refine codeAny_call_function hr.room.depth (KX _ _ lk) rfl S.co S.gen rfl (PySem.W.codeRec_of KX hcd) (hb _ _ _ _ ?_)
  refine wpAny_newFunctionEnv_cells S.kind ?_ ?_
  · rintro ⟨n, v⟩ hy
    cases S.par n (List.of_mem_zip hy).1 with
    | inl q => exact .inl q
    | inr q => exact .inr ⟨q, PySem.W.cellsFrom_some _ _ _ (.inl q)⟩
  · intro env he s1 hin
    subst he
    refine ⟨lim.keeps hin.toInCall.keep, codeAny_func ?_⟩
    have I := inv_start (CX := CX) (P := P) (w := w) (qual := qual) (f := f) (cd := .ref c) (E := E) S hr.room.hd e0 hl r hin
    refine wpAny_mono (ht.run [] s1 (start N vs) H _ I hq) ?_ (fun _ _ q => q)
    intro fl s' hs
    match fl, hs with
    | .ret u, ⟨v, σ', H', J, rv, q⟩ => exact ⟨v, H', J.os, J.bare, J.base, J.hok, rv, q⟩
    | .next, ⟨σ', H', J, q⟩ => exact ⟨.non, H', J.os, J.bare, J.base, J.hok, rfl, q⟩
    | .brk, ⟨_, _, _, q⟩ => exact q.elim
    | .cont, ⟨_, _, _, q⟩ => exact q.elim
theorem FunC.fun_ {x qual : Str} {st : Stmt} {f c : Addr} {fd : FuncData} (F : FunC K x qual st f fd c) : Fun K x qual st f fd := by
  obtain ⟨oc, od, kV, doc, pm, an, ct, osl, rfl, lk, hcd⟩ := F.ex
  exact ⟨⟨oc, od, kV, doc, pm, an, .ref c, ct, osl, rfl, lk, hcd⟩, F.kp⟩
/-- the promise told of the very state -/
theorem run_ofG {x qual : Str} {st : Stmt} {f : Addr} {fd : FuncData} {N ps : List Str} {k : Nat} (F : Fun K x qual st f fd) (S : FnScope N ps (defScope st))
    {A : Around} {outer : List Env} {s : Shared} {H : Hp} {args : Args} {us : List Value} {vs : List V} {Q : VK} {E : XK} (hr : RG (k + 1) A) (e0 : Env0 P w K mg base A outer s H) (hb : BindsTo s fd args (ps.zip us)) (r : Vals vs us) (hl : vs.length = ps.length)
    (hbody : ∀ cdv : Value, RG k (A.deeper (envOfC qual (defScope st) s.heap.objs.size f cdv)) → ∃ t, PSs (cxOf CX P w K mg base N qual (defScope st) f cdv A outer s H E) (defBody st) t ∧ t { nx := fun _ H' => Q .non H', rt := Q } (L2.start N vs) H) :
    codeAny (model P w) A (.call (.ref f) args) (CR CX outer P w H s Q E) s := by
  obtain ⟨oc, od, kV, doc, pm, an, cdv, ct, osl, rfl, lk, hcd⟩ := F.ex
  have KX : K.In s.heap := e0.mod.kin.keeps fun b o e => (e0.bs b o e).1
  have lim : s.heap.NoLimit := e0.mod.nolimit.keeps fun b o e => (e0.bs b o e).1
  refine codeAny_call_function hr.room.depth (KX _ _ lk) rfl S.co S.gen rfl (PySem.W.codeRec_of KX hcd) (hb _ _ _ _ ?_)
  refine wpAny_newFunctionEnv_cells S.kind ?_ ?_
  · rintro ⟨n, v⟩ hy
    cases S.par n (List.of_mem_zip hy).1 with
    | inl q => exact .inl q
    | inr q => exact .inr ⟨q, PySem.W.cellsFrom_some _ _ _ (.inl q)⟩
  · intro env he s1 hin
    subst he
    refine ⟨lim.keeps hin.toInCall.keep, codeAny_func ?_⟩
    obtain ⟨t, ht, hq⟩ := hbody cdv (hr.deeper _)
    have I := inv_start (CX := CX) (P := P) (w := w) (qual := qual) (f := f) (cd := cdv) (E := E) S hr.room.hd e0 hl r hin
    refine wpAny_mono (ht.run [] s1 (start N vs) H _ I hq) ?_ (fun _ _ q => q)
    intro fl s' hs
    match fl, hs with
    | .ret u, ⟨v, σ', H', J, rv, q⟩ => exact ⟨v, H', J.os, J.bare, J.base, J.hok, rv, q⟩
    | .next, ⟨σ', H', J, q⟩ => exact ⟨.non, H', J.os, J.bare, J.base, J.hok, rfl, q⟩
    | .brk, ⟨_, _, _, q⟩ => exact q.elim
    | .cont, ⟨_, _, _, q⟩ => exact q.elim
end
/-- the def that calls what it got -/
def GivesG (X : Cx) (Ng : List Str) (k : Nat) (x : Str) (sg : Scope) (g : Addr) (bg : List Stmt) (a : Str) (q : Str) (TT : (XK → Hp → VK → Prop) → Hp → VK → Prop) : Prop :=
  ∀ (cdg : Value) (f c' : Addr) (s : Shared) (H : Hp) (Q : VK) (tl : XK → Hp → VK → Prop), RG k (X.A.deeper (envOfC x sg s.heap.objs.size g cdg)) →
    (∀ (W : WX) (pn : List (Addr × Obj)) (xe : Value → Shared → Prop) (E : XK) (p1 p2 : Pos), Takes ((cxOf CX0 X.prog X.w X.K X.mg X.base Ng x sg g cdg X.A X.stack s H E0).tr pn xe) W →
      PE ((cxOf CX0 X.prog X.w X.K X.mg X.base Ng x sg g cdg X.A X.stack s H E0).tr pn xe) (.Call (.Name a p1) [] [] p2) (fun σZ HZ Q => (∀ cls d H', E cls d H' → W cls d σZ H') ∧ σZ[0]? = some (some (.ref f)) ∧ HZ c' = some (CodeO c' q) ∧ tl E HZ Q)) →
    H c' = some (CodeO c' q) → TT tl H Q →
    ∃ t, PSs (cxOf CX0 X.prog X.w X.K X.mg X.base Ng x sg g cdg X.A X.stack s H E0).nox bg t ∧ t { nx := fun _ H' => Q .non H', rt := Q } (L2.start Ng [.ref f]) H
section
variable {X : Cx}
/-- x(lambda: body) -/
theorem pe_lamG {T : List (Addr × Str)} {TT : (XK → Hp → VK → Prop) → Hp → VK → Prop} {x a : Str} {g c P : Addr} {k : Nat} {sg : Stmt} {fd : FuncData} {Ng : List Str}
    {params : Arguments} {body : Expr} {scope : Scope} {t : XK → TE} {p lpos pos : Pos} (hg : Gl X x) (hm : X.mg x = some (.ref g)) (F : Fun X.K x x sg g fd) (hb : L2.Binds X.K fd [a] []) (Sg : FnScope Ng [a] (defScope sg)) (hNg : Ng[0]? = some a) (hva : Vis (defScope sg) a)
    (hG : GivesG X Ng (k + 1) x (defScope sg) g (defBody sg) a (X.env.qual ++ "<lambda>") TT)
    (TB : TabB X.base X.mg c P) (hcode : X.env.code = .ref c) (hmT : (P, X.env.qual ++ "<lambda>") ∈ T) (hu : ∀ p ∈ T, p.1 = P → p.2 = X.env.qual ++ "<lambda>") (hr : RG (k + 2) X.A) (L : LamS X.env.scope scope) (hdef : defaultsOf params X.env = ([], []))
    (hbind : ∀ (q : Str) (cl : List (Str × Addr)) (pm cv ctv : Value), bindArgs (PySem.W.kla_fn "<lambda>" q params body scope cl pm cv ctv) ⟨[], []⟩ = pure [])
    (hbody : ∀ (A : Around) (outer : List Env) (s : Shared) (H : Hp) (E : XK) (f c' : Addr), RG k (A.deeper (lamEnv X scope s.heap.objs.size f c')) → PE (lamCx X A outer s H E scope f c') body (t E))
    (hdb : (x == ("__debug__" : Str)) = false := by decide) (hd : (a == ("__debug__" : Str)) = false := by decide) (hcd : (a == ("__classdict__" : Str)) = false := by decide) :
    PE X (.Call (.Name x p) [.Lambda params body scope lpos] [] pos) (tLam T TT t) := by
  refine ⟨fun pins s σ H Q I h => ?_⟩
  obtain ⟨hT, h⟩ := h
  refine wpAny_Call_Name_kw (ld_glob I hg hm ?_ hdb)
  refine PySem.W.callWith_K (h₀ := X.base) I.ok.mod.kin F.kp ?_ (by rfl) (by rfl)
  show wpAny _ _ (spliced ((false, eval (.Lambda params body scope lpos) X.env) :: backTo pos (starEach [] X.env))) _ _ s
  refine Calls.spliced_cons (lam_make2 I TB hcode hmT hu hT hdef (L.has I.ok) fun f c' pm' ctv H1 s' I1 eN T1 hf hfn hfr hco => ?_)
  refine Calls.spliced_nil ⟨I1.kIn, ?_⟩
  have rc : codeAny (model X.prog X.w) X.A (.call (.ref g) ⟨[.ref f], []⟩) (CR CX0 X.stack X.prog X.w H1 s' Q E0) s' := by
    refine run_ofG (N := Ng) (ps := [a]) (us := [.ref f]) (vs := [.ref f]) F Sg hr I1.env0 (hb s' [.ref f] I1.kIn rfl) (.cons rfl .nil) rfl fun cdv hr' => ?_
    obtain ⟨t', ht', hq'⟩ := hG cdv f c' s' H1 Q (fun E H' Q' => t E σ H' Q') hr' (fun W pn xe E p1 p2 tk => pe_actG (i := 0) I1 L hf hfn hfr (hbind _ _ _ _ _) tk hr' (fun A outer s H hr2 => hbody A outer s H E f c' hr2) hNg hva hd hcd) hco (h H1 eN T1)
    exact ⟨t', ht'.nox, hq'⟩
  refine wpAny_call (codeAny_mono rc fun r s2 hq => ?_)
  cases r with
  | error e => exact (show False from hq).elim
  | ok fl =>
    cases fl with
    | ret u => exact I1.after hq
    | next => exact False.elim hq
    | brk => exact False.elim hq
    | cont => exact False.elim hq
end
end FT

/-! == and != by an own __eq__ -/
namespace FT
open PySem PySem.Spec PyProof.Rows L2 LamX
theorem RG.in1 {k : Nat} {A : Around} (r : RG (k + 1) A) : RG k A.in1 := ⟨r.room.in1, r.gd⟩
/-- an own class with __eq__ and no __ne__ -/
structure OEq (K : PySem.W.Frag) (C f : Addr) : Prop where
  cls : ∃ nm q N bs hdct sn sub ab col dd k0 k1 k2 k3 k5 newId, K.lookup C = some (excClassObj nm q C N bs [.type "object"] hdct sn sub ab col dd k0 k1 k2 k3 k5 newId)
  fe : PySem.W.findIn K (.ref C) "__eq__" = some (some (.ref f))
  fn : PySem.W.isFn K (.ref f) = true
  ne : PySem.W.findIn K (.ref C) "__ne__" = some (some (.builtin "object.__ne__"))
section
variable {prog : Program} {w : World} {A : Around} {E : Value → Shared → Prop} {h : Heap} {g : Array GenState} {d : Drawn} {t : Nat} {os : OsState} {K : PySem.W.Frag} {C x y f : Addr} {ox : Obj} {od : Option Obj}
theorem ifBound_ne {M : Model} {args : List Value} {Q : Option Value → Shared → Prop} {s : Shared} (X : K.In s.heap) (I : PySem.W.InstAt s.heap x ox C od) (hs : PySem.W.findIn K (.ref C) "__ne__" = some (some (.builtin "object.__ne__")))
    (h : wpAny M A (call (.builtin "object.__ne__") (.ref x :: args)) (fun v => Q (some v)) E s) : wpAny M A (callSpecialIfBound? (.ref x) "__ne__" args) Q E s := by
  have S := PySem.F.cmp_object.ne
  simp only [callSpecialIfBound?, bindSpecialIfBound?]
  refine wpAny_holding (wpAny_bind (wpAny_bind (wpAny_bind (I.type.here ((PySem.W.looks_findIn X hs).here ?_)))))
  simp only [S.bind]
  refine wpAny_bind (wpAny_askSetting (wpAny_ite ?_))
  have fin : wpAny M A (call (.builtin "object.__ne__") ([.ref x] ++ args) >>= fun v => pure (some v)) Q E s := wpAny_bind (wpAny_mono h (fun v s' h' => wpAny_pure h') fun _ _ h' => h')
  split
  · exact wpAny_bind (wpAny_pure (wpAny_pure fin))
  · exact wpAny_tryCatch (wpAny_bind (wpAny_pure (wpAny_pure fin)))
theorem objNe_own (O : OEq K C f) (X : K.In h) (I : PySem.W.InstAt h x ox C od) (hu : A.units < cLine) {Q : Fin → Shared → Prop}
    (hcall : wpAny (model prog w) A (call (.ref f) [.ref x, .ref y]) (fun v s' => ∃ b, v = .bool b ∧ Q (.done (.ret (.bool (!b)))) s') E ⟨h, g, d, t, os⟩) :
    wpAny (model prog w) A (Builtin.«object.__ne__» ⟨[.ref x, .ref y], []⟩) Q E ⟨h, g, d, t, os⟩ := by
  unfold Builtin.«object.__ne__»
  repeat (first
    | with_reducible refine wpAny_cRoomFor hu ?_
    | (refine wpAny_bind (m := callSpecialIfBound? (.ref x) (Str.ofString "__eq__") [.ref y])
        (PySem.W.ifBound_K (s := ⟨h, g, d, t, os⟩) X I O.fe O.fn (wpAny_mono hcall (fun r s' hr => by
          obtain ⟨b, rfl, hq⟩ := hr
          repeat (first | exact hq | exact wpAny_pure hq | exact wpAny_truthy_bool hq | (refine wpAny_bind (m := truthy (.bool _)) (wpAny_truthy_bool ?_)) | wp_step)) fun _ _ e => e)))
    | wp_step)
theorem tryNe_own (O : OEq K C f) (X : K.In h) (I : PySem.W.InstAt h x ox C od) (hu : A.units + 1 < cLine) {Q : Option Value → Shared → Prop}
    (hcall : wpAny (model prog w) A.in1 (call (.ref f) [.ref x, .ref y]) (fun v s' => ∃ b, v = .bool b ∧ Q (some (.bool (!b))) s') E ⟨h, g, d, t, os⟩) :
    wpAny (model prog w) A (tryCompare (.ref x) "__ne__" (.ref y)) Q E ⟨h, g, d, t, os⟩ := by
  obtain ⟨nm, q, N, bs, hdct, sn, sub, ab, col, dd, k0, k1, k2, k3, k5, newId, hC⟩ := O.cls
  have FB := PySem.F.cmp_object
  simp only [tryCompare]
  refine wpAny_bind (ifBound_ne (s := ⟨h, g, d, t, os⟩) X I O.ne (wpAny_call (codeAny_call_builtin FB.ne.plain PySem.F.cmpEntry_ne
    (wpAny_check_slot_inst PySem.F.cmpKind_ne PySem.F.cmpSplit_ne (PySem.F.cmpArgs_ne _ _) FB.hasObject I.at_ I.cls (X _ _ hC)
      (objNe_own (A := A.in1) O X I hu (wpAny_mono hcall (fun v s' hv => ?_) fun _ _ e => e))))))
  obtain ⟨b, rfl, hq⟩ := hv
  first | exact ⟨b, rfl, wpAny_pure hq⟩ | exact ⟨b, rfl, wpAny_pure (wpAny_pure hq)⟩ | exact ⟨b, rfl, hq⟩
theorem compareNe_own (O : OEq K C f) (X : K.In h) (I : PySem.W.InstAt h x ox C od) {oy : Obj} (hy : h.get? y = some oy) (hyc : oy.cls = .ref C) (hu : A.units + 1 < cLine) {Q : Value → Shared → Prop}
    (hcall : wpAny (model prog w) A.in1 (call (.ref f) [.ref x, .ref y]) (fun v s' => ∃ b, v = .bool b ∧ Q (.bool (!b)) s') E ⟨h, g, d, t, os⟩) :
    wpAny (model prog w) A (compareOp .NotEq (.ref x) (.ref y)) Q E ⟨h, g, d, t, os⟩ := by
  unfold compareOp richCompare
  simp only [oneThing_ref]
  refine wpAny_holding ?_
  refine wpAny_bind (wpAny_cRoomFor (Nat.lt_of_succ_lt hu) ?_)
  rw [cmpInfo_NotEq]
  dsimp only
  refine wpAny_bind (wpAny_typeOf_ref I.at_ ?_)
  rw [I.cls]
  refine wpAny_bind (wpAny_typeOf_ref hy ?_)
  rw [hyc]
  rw [show (Value.ref C != Value.ref C) = false from by simp]
  simp only [Bool.false_eq_true, if_false]
  refine wpAny_bind (wpAny_pure ?_)
  simp only [Bool.false_eq_true, if_false]
  refine wpAny_bind (tryNe_own O X I hu (wpAny_mono hcall (fun v s' hv => ?_) fun _ _ e => e))
  obtain ⟨b, rfl, hq⟩ := hv
  first | exact ⟨b, rfl, wpAny_pure hq⟩ | exact ⟨b, rfl, wpAny_pure (wpAny_pure hq)⟩
end
/-- what stands to the right of an own object -/
def RightV (H : Hp) (C : Addr) : V → Prop
  | .ref b => (∃ xs, H b = some (.lst xs)) ∨ (∃ xs, H b = some (.tup xs)) ∨ ∃ dx fs, H b = some (.ins C dx fs)
  | _ => False
@[irreducible] def rEqO (C : Addr) (sp : Sp) (x y : V) (H : Hp) (Q : VK) : Prop := ∃ a dx fs, x = .ref a ∧ H a = some (.ins C dx fs) ∧ RightV H C y ∧ sp [x, y] H (fun v H' => ∃ b, v = .bl b ∧ Q (.bl b) H') (fun _ _ _ => False)
@[irreducible] def rNeO (C : Addr) (sp : Sp) (x y : V) (H : Hp) (Q : VK) : Prop := ∃ a b dx fs dy gs, x = .ref a ∧ y = .ref b ∧ H a = some (.ins C dx fs) ∧ H b = some (.ins C dy gs) ∧ sp [x, y] H (fun v H' => ∃ b, v = .bl b ∧ Q (.bl (!b)) H') (fun _ _ _ => False)
section
variable {X : Cx} {CX : CXT} {k : Nat} {f C : Addr} {fd : FuncData} {ps : List Str} {sp : Sp}
theorem own_run {A : Around} {pins : List (Addr × Obj)} {σ : L2.St} {H : Hp} {s : Shared} {Q : VK} {us : List Value} {vs : List V} (F : FnG X.prog X.w X.K X.mg X.base CX k f fd ps sp) (hr : RG k A) (e0 : Env0 X.prog X.w X.K X.mg X.base A X.stack s H) (hb : Binds X.K fd ps []) (hx : Passes CX X (fun _ _ _ => False)) (I : Inv X pins σ H s)
    (r : Vals vs us) (h : sp vs H Q (fun _ _ _ => False)) : wpAny (model X.prog X.w) A (call (.ref f) us) (EP X pins σ Q) X.xe s := by
  have hl : (us ++ []).length = ps.length := by
    rw [List.append_nil]
    exact r.length.symm.trans (F.arity _ _ _ _ h)
  have hb' := hb s us I.kIn hl
  rw [List.append_nil] at hb'
  refine wpAny_call (codeAny_mono (F.goes hr e0 hb' r h) fun r s' hq => ?_)
  cases r with
  | error e => exact hx pins σ H s e s' I hq
  | ok fl =>
    cases fl with
    | ret u => exact I.after hq
    | next => exact False.elim hq
    | brk => exact False.elim hq
    | cont => exact False.elim hq
theorem op_eqO (O : OEq X.K C f) (F : FnG X.prog X.w X.K X.mg X.base CX k f fd ps sp) (hr : RG k X.A) (hb : Binds X.K fd ps []) (hx : Passes CX X (fun _ _ _ => False))
    (hn1 : PySem.W.notFirst X.K C (.type "list") = true) (hn2 : PySem.W.notFirst X.K C (.type "tuple") = true) : OpR X (compareOp .Eq) (rEqO C sp) := by
  intro pins s σ H x y v u Q I rx ry h
  unfold rEqO at h
  obtain ⟨a, dx, fs, rfl, ha, hy, q⟩ := h
  cases (show v = Value.ref a from rx)
  obtain ⟨mA, J, _⟩ := ins_get I.hok ha
  obtain ⟨od, J, _⟩ := J.look
  obtain ⟨m, hF⟩ := I.fr
  have go : ∀ (tb : Value), (∃ b, y = .ref b) → PySem.W.Looks (model X.prog X.w) s.heap (typeOf u) tb → PySem.W.notFirst X.K C tb = true → wpAny (model X.prog X.w) X.A (compareOp .Eq (.ref a) u) (EP X pins σ Q) X.xe s := fun tb hb2 L hn => by
    show wpAny _ _ (richCompare .Eq (.ref a) u) _ _ _
    refine PySem.W.cmp_K (op := .Eq) (tb := tb) hr.room.units0 hF I.ok.mod.kin J L hn O.fe O.fn ?_
    refine wpAny_mono (own_run (us := [.ref a, u]) (vs := [.ref a, y]) F hr I.env0 hb hx I (.cons rfl (.cons ry .nil)) q) (fun w s' z => ?_) fun _ _ x => x
    obtain ⟨z', H', I', rz, b, eb, qz⟩ := z
    subst eb
    cases (show w = Value.bool b from rz)
    exact ⟨.bl b, H', I', rfl, qz⟩
  cases y with
  | ref b =>
    cases (show u = Value.ref b from ry)
    rcases hy with ⟨xs, hb1⟩ | ⟨xs, hb1⟩ | ⟨dy, gs, hb1⟩
    · obtain ⟨us, r1, p1, _⟩ := I.list (SqL.of hb1)
      obtain ⟨ob, hob, hoc⟩ : ∃ ob, s.heap.get? b = some ob ∧ ob.cls = .type "list" := by
        obtain ⟨o, e, c, _⟩ := p1.isList
        exact ⟨o, e, c⟩
      exact go (.type "list") ⟨b, rfl⟩ (fun A Q E s k q => wpAny_typeOf_ref (k _ _ hob) (by rw [hoc]; exact q)) hn1
    · obtain ⟨us, r1, p1, _⟩ := I.tuple (SqT.of hb1)
      obtain ⟨ob, hob, hoc⟩ : ∃ ob, s.heap.get? b = some ob ∧ ob.cls = .type "tuple" := by
        obtain ⟨o, e, c, _⟩ := p1
        exact ⟨o, e, c⟩
      exact go (.type "tuple") ⟨b, rfl⟩ (fun A Q E s k q => wpAny_typeOf_ref (k _ _ hob) (by rw [hoc]; exact q)) hn2
    · obtain ⟨mB, J', _⟩ := ins_get I.hok hb1
      obtain ⟨od', J', _⟩ := J'.look
      exact go (.ref C) ⟨b, rfl⟩ J'.type (by simp [PySem.W.notFirst])
  | _ => exact hy.elim
theorem op_neO (O : OEq X.K C f) (F : FnG X.prog X.w X.K X.mg X.base CX k f fd ps sp) (hr : RG (k + 1) X.A) (hu : X.A.units + 1 < cLine) (hb : Binds X.K fd ps []) (hx : Passes CX X (fun _ _ _ => False)) : OpR X (compareOp .NotEq) (rNeO C sp) := by
  intro pins s σ H x y v u Q I rx ry h
  unfold rNeO at h
  obtain ⟨a, b, dx, fs, dy, gs, rfl, rfl, ha, hb1, q⟩ := h
  cases (show v = Value.ref a from rx)
  cases (show u = Value.ref b from ry)
  obtain ⟨mA, J, _⟩ := ins_get I.hok ha
  obtain ⟨od, J, _⟩ := J.look
  obtain ⟨mB, J', _⟩ := ins_get I.hok hb1
  obtain ⟨od', J', _⟩ := J'.look
  have z := I.kIn
  have run := own_run (A := X.A.in1) (us := [.ref a, .ref b]) (vs := [.ref a, .ref b]) F hr.in1 I.env0.in1 hb hx I (.cons rfl (.cons rfl .nil)) q
  obtain ⟨hh, g, d, t, os⟩ := s
  refine compareNe_own O z J J'.at_ J'.cls hu (wpAny_mono run (fun w s' z => ?_) fun _ _ x => x)
  obtain ⟨z', H', I', rz, b, eb, qz⟩ := z
  subst eb
  cases (show w = Value.bool b from rz)
  exact ⟨b, rfl, .bl (!b), H', I', rfl, qz⟩
end
end FT

/-! static methods read off their class; str(x) by an own __str__; slices with a step -/
namespace FT
open PySem PySem.Spec PyProof.Rows L2 LamX
/-- C.m is a staticmethod: its record at p, its def at g -/
structure SMet (K : PySem.W.Frag) (C : Addr) (m : Str) (p g : Addr) : Prop where
  rd : PySem.W.readsIn K C (.type "type") = true
  ga : PySem.W.specialIn K (.ref C) "__getattribute__" = some (some (.builtin "type.__getattribute__"))
  at_ : PySem.W.findCls K (.ref C) (.type "type") m = some (.get (.builtin "staticmethod.__get__") (.ref p) .none (.ref C))
  rc : PySem.W.recIn K p "staticmethod" = some [.ref g] ∨ ∃ rest, PySem.W.recIn K p "staticmethod" = some (.ref g :: rest)
def tSM (C : Addr) (sp : Sp) (E : XK) (ta : TE) (t : TA) : TE := fun σ H Q => ta σ H fun x H1 => x = .ref C ∧ t σ H1 fun vs H2 => sp vs H2 Q E
def tSMK (C : Addr) (sp : Sp) (gV : List V → List V → List V) (E : XK) (ta : TE) (tk : TA) : TE := fun σ H Q => ta σ H fun x H1 => x = .ref C ∧ tk σ H1 fun zs H2 => sp (gV [] zs) H2 Q E
section
variable {X : Cx} {CX : CXT} {k : Nat} {C p g : Addr} {fd : FuncData} {ps ks : List Str} {gl : List Value → List Value → List Value} {gV : List V → List V → List V} {sp : Sp} {E : XK} {o e : Expr} {es : List Expr} {kws : List Keyword} {m : Str} {pos apos : Pos} {ta : TE} {t tk : TA} {pl : Sem Bool}
theorem getmethsm_ok {pins : List (Addr × Obj)} {σ : L2.St} {H : Hp} {s : Shared} {A : Around} {E : Value → Shared → Prop} {Q : Value × List Value → Shared → Prop} (I : Inv X pins σ H s) (S : SMet X.K C m p g)
    (h : ∀ s', Inv X pins σ H s' → Q (.ref g, []) s') : wpAny (model X.prog X.w) A (getMethod (.ref C) m pl) Q E s := by
  have ⟨rest, hp⟩ : ∃ rest, PySem.W.recIn X.K p "staticmethod" = some (.ref g :: rest) := by
    rcases S.rc with h | h
    · exact ⟨_, h⟩
    · exact h
  refine PySem.W.method_cls I.kIn S.ga (PySem.W.cls_bind I.kIn S.rd S.at_ (wpAny_call (PySem.W.sm_get (s := { s with toks := s.toks + 1 }) I.kIn hp (PySem.W.handed_on rfl ?_))))
  exact h _ (I.tok _)
theorem pe_smeth (he : PE X o ta) (S : SMet X.K C m p g) (F : FnG X.prog X.w X.K X.mg X.base CX k g fd ps sp) (hr : RG k X.A) (hk : PySem.W.keepIn X.K (.ref g) = true) (hb : Binds X.K fd ps []) (hx : Passes CX X E) (ha : PA X (e :: es) t)
    (hst : starEach (e :: es) X.env = (false, eval e X.env) :: starEach es X.env := by rfl) (hpl : (backTo pos (starEach es X.env)).any (·.1) = false := by rfl)
    (ht : eval (.Call (.Attribute o m apos) (e :: es) [] pos) X.env = (do
      let ov ← eval o X.env
      standAt apos.atName
      let (f, first) ← holding [ov] (getMethod ov m pl)
      callWith pos f first (backTo pos (starEach (e :: es) X.env)) (backToKw pos (keywordEach [] X.env))) := by rfl) :
    PE X (.Call (.Attribute o m apos) (e :: es) [] pos) (tSM C sp E ta t) := by
  refine ⟨fun pins s σ H Q I h => ?_⟩
  refine PySem.W.methodCall_KW (pl := pl) (thn (he.run pins s σ H _ I h) fun u s1 ⟨x, H1, I1, rx, ex, q⟩ => ?_) ht
  subst ex
  obtain rfl : u = Value.ref C := rx
  refine getmethsm_ok I1 S fun s2 I2 => ?_
  refine PySem.W.callWith_K (first := []) (h₀ := X.base) I2.ok.mod.kin hk (thn (ha.run pos pins s2 σ H1 _ I2 q) ?_) hst hpl
  rintro us s3 ⟨vs, H2, I3, r, q2⟩
  refine ⟨I3.kIn, ?_⟩
  have r2 := r.append (.nil : Vals [] [])
  have hl : (us ++ []).length = ps.length := by
    rw [List.append_nil]
    exact r.length.symm.trans (F.arity _ _ _ _ q2)
  have hb' := hb s3 us I3.kIn hl
  rw [List.append_nil] at hb'
  exact run_args (kw := []) F hr hx I3 hb' r q2
theorem pe_smethK0 (he : PE X o ta) (S : SMet X.K C m p g) (F : FnG X.prog X.w X.K X.mg X.base CX k g fd ps sp) (hr : RG k X.A) (hk : PySem.W.keepIn X.K (.ref g) = true) (hb : KBinds X.K fd ps ks gl gV) (hx : Passes CX X E) (hkw : PK X kws tk)
    (hall : (backToKw pos (keywordEach kws X.env)).all (·.1.isSome) = true := by rfl)
    (hks : (backToKw pos (keywordEach kws X.env)).filterMap (·.1) = ks := by rfl)
    (hpl : ((backTo pos (starEach [] X.env)).any (·.1) || (backToKw pos (keywordEach kws X.env)).any (·.1.isNone)) = false := by rfl)
    (ht : eval (.Call (.Attribute o m apos) [] kws pos) X.env = (do
      let ov ← eval o X.env
      standAt apos.atName
      let (f, first) ← holding [ov] (getMethod ov m pl)
      callWith pos f first (backTo pos (starEach [] X.env)) (backToKw pos (keywordEach kws X.env))) := by rfl) :
    PE X (.Call (.Attribute o m apos) [] kws pos) (tSMK C sp gV E ta tk) := by
  refine ⟨fun pins s σ H Q I h => ?_⟩
  refine PySem.W.methodCall_KW (pl := pl) (thn (he.run pins s σ H _ I h) fun u s1 ⟨x, H1, I1, rx, ex, q⟩ => ?_) ht
  subst ex
  obtain rfl : u = Value.ref C := rx
  refine getmethsm_ok I1 S fun s2 I2 => ?_
  refine PySem.W.callWith_KW0 (h₀ := X.base) I2.ok.mod.kin hk hall ?_ hpl
  refine thn (hkw.run pos pins s2 σ H1 _ I2 q) ?_
  rintro ws s3 ⟨zs, H2, I3, rz, q2⟩
  refine ⟨I3.kIn, ?_⟩
  rw [hks]
  have r3 := hb.rel (.nil : Vals [] []) rz
  exact run_args F hr hx I3 (hb.to s3 [] ws I3.kIn (r3.length.symm.trans (F.arity _ _ _ _ q2))) r3 q2
/-- str(x), x an own object with __str__ -/
@[irreducible] def rStrO (C : Addr) (sp : Sp) (xs : List V) (H : Hp) (Q : VK) : Prop := ∃ a dx fs, xs = [V.ref a] ∧ H a = some (.ins C dx fs) ∧ sp [.ref a] H (fun z H' => ∃ t, z = .str t ∧ Q z H') (fun _ _ _ => False)
theorem call_strO {f : Addr} (hs : PySem.W.findIn X.K (.ref C) "__str__" = some (some (.ref f))) (hf : PySem.W.isFn X.K (.ref f) = true) (F : FnG X.prog X.w X.K X.mg X.base CX k f fd ps sp) (hr : RG (k + 2) X.A) (hb : Binds X.K fd ps []) (hx : Passes CX X (fun _ _ _ => False)) : CallR X (.type "str") (rStrO C sp) := by
  intro pins s σ H xs us Q I r h
  unfold rStrO at h
  obtain ⟨a, dx, fs, rfl, ha, q⟩ := h
  obtain ⟨u, rfl, ru⟩ := r.one
  cases (show u = Value.ref a from ru)
  obtain ⟨mA, J, _⟩ := ins_get I.hok ha
  obtain ⟨od, J, _⟩ := J.look
  have hr2 : RG k X.A.in1.in1 := (show RG (k + 1) X.A.in1 from RG.in1 hr).in1
  refine PySem.W.kso_call hr2.room.units0 I.kIn J hs hf (wpAny_mono (own_run (us := [.ref a]) (vs := [.ref a]) F hr2 I.env0.in1.in1 hb hx I (.cons rfl .nil) q) (fun w s' z => ?_) fun _ _ x => x)
  obtain ⟨z', H', I', rz, t, ez, qz⟩ := z
  subst ez
  obtain ⟨tk, e⟩ := (show ∃ tk, w = Value.str t tk from rz)
  cases e
  exact ⟨.str t, H', I', ⟨tk, rfl⟩, qz⟩
/-! xs[a::2] -/
def stpV (lo : Option Int) (xs : List V) : List V := (sliceRange (sliceBounds lo none (some 2) xs.length).1 (sliceBounds lo none (some 2) xs.length).2.1 (sliceBounds lo none (some 2) xs.length).2.2).filterMap (xs[·]?)
theorem vals_pick {xs : List V} {its : List Value} (r : Vals xs its) : ∀ is : List Nat, Vals (is.filterMap (xs[·]?)) (is.filterMap (its[·]?))
  | [] => .nil
  | i :: is => by
    have ih := vals_pick r is
    have hl := r.length
    rw [List.filterMap_cons, List.filterMap_cons]
    by_cases h : i < xs.length
    · have h2 : i < its.length := by omega
      have e2 : its[i]? = some its[i] := List.getElem?_eq_getElem h2
      obtain ⟨x, hx, rx⟩ : ∃ x, xs[i]? = some x ∧ RelV x its[i] := by
        clear ih
        induction r generalizing i with
        | nil => cases h2
        | @cons a b as bs ab rest ih =>
          cases i with
          | zero => exact ⟨a, rfl, ab⟩
          | succ i => exact ih i rest.length (Nat.lt_of_succ_lt_succ h) (Nat.lt_of_succ_lt_succ h2) (List.getElem?_eq_getElem _)
      rw [hx, e2]
      exact .cons rx ih
    · rw [List.getElem?_eq_none (by omega), List.getElem?_eq_none (by omega)]
      exact ih
def tStp (K : PySem.W.Frag) (te : TE) (tl : TO) : TE := fun σ H Q => te σ H fun x H1 => ∃ a xs, x = .ref a ∧ tl σ H1 fun lo H2 => SqL K H2 a xs ∧ ∀ p, H2 p = none → Q (.ref p) (upd H2 p (.lst (stpV lo xs)))
theorem pe_stp {l : Option Expr} {tl : TO} {j : Nat} {p1 p3 : Pos} (he : PE X e ta) (hl : PO X l tl) : PE X (.Subscript e (.Slice l none (some (.Constant (.int 2) j p1)) p3) pos) (tStp X.K ta tl) := by
  refine ⟨fun pins s σ H Q I h => ?_⟩
  refine Subscript_ (thn (he.run pins s σ H _ I h) fun v s1 ⟨x, H1, I1, r1, q1⟩ => ?_)
  obtain ⟨a, xs, ex, q⟩ := q1
  subst ex
  cases r1
  have hst : PO X (some (.Constant (.int 2) j p1)) (tPart (tC (.int 2))) := po_some pe_int
  refine wpAny_Slice (thn (hl.run pins s1 σ H1 _ I1 q) fun vl s2 ⟨lo, H2, I2, pl, hx, q2⟩ => ?_)
  refine thn (po_none.run pins s2 σ H2 (fun o H3 => o = none ∧ H3 = H2) I2 ⟨rfl, rfl⟩) fun vu s3 ⟨u, H3, I3, pu, eu, e3⟩ => ?_
  subst eu e3
  refine thn (hst.run pins s3 σ H3 (fun o H4 => o = some 2 ∧ H4 = H3) I3 ⟨2, rfl, rfl, rfl⟩) fun vs s4 ⟨o, H4, I4, ps, eo, e4⟩ => ?_
  subst eo e4
  have I5 : Inv X pins σ H4 { s4 with heap := s4.heap.push { cls := .type "slice", data := .fields #[vl, vu, vs] } } := I4.kept (t' := s4.toks) fun b ob q => Heap.get?_push_of_some _ q
  obtain ⟨its, r, ht, hz⟩ := I5.list hx
  have hlen := r.length
  show wpAny (model X.prog X.w) X.A (subscriptTail e (.Slice l none (some (.Constant (.int 2) j p1)) p3) (.ref a) (.ref s4.heap.objs.size)) (EP X pins σ Q) X.xe { s4 with heap := s4.heap.push { cls := .type "slice", data := .fields #[vl, vu, vs] } }
  refine tail_any (ops := [.ref a, .ref s4.heap.objs.size]) ht.isList.typeIs (PySem.slot_list_getitem.lookup) ?_ (by with_unfolding_all rfl)
  refine wpAny_getItem_list_slice ht.isList (Heap.IsSliceOf.new _ vl vu vs) pl pu ps (by decide) ?_ (by rw [List.size_toArray]; omega)
  have ez : slicePick its.toArray lo none (some 2) = ((sliceRange (sliceBounds lo none (some 2) xs.length).1 (sliceBounds lo none (some 2) xs.length).2.1 (sliceBounds lo none (some 2) xs.length).2.2).filterMap (its[·]?)).toArray := by
    unfold slicePick
    rw [List.size_toArray, ← hlen]
    simp
  rw [ez]
  have rp := vals_pick r (sliceRange (sliceBounds lo none (some 2) xs.length).1 (sliceBounds lo none (some 2) xs.length).2.1 (sliceBounds lo none (some 2) xs.length).2.2)
  refine ⟨.ref _, _, I5.laid (t' := s4.toks) (o := .lst (stpV lo xs)) (fun b ob q => Heap.get?_push_of_some _ q) (Nat.le_refl _) ?_, rfl, q2 _ (I5.hok.fresh (Nat.le_refl _))⟩
  refine ⟨?_, _, 0, rp, Heap.get?_push_size _ rfl⟩
  refine Nat.le_trans ?_ hz
  refine Nat.le_trans (List.length_filterMap_le _ _) ?_
  refine sliceRange_length_le _ _ _ _ (fun _ => ?_) (fun h => absurd (show (2 : Int) > 0 by decide) h)
  unfold sliceBounds
  cases lo with
  | none => simp
  | some i =>
    simp only [Option.getD_some, show (2 : Int) > 0 by decide, if_true]
    exact ⟨by split <;> omega, Int.le_refl _⟩
end
end FT

/-! the law's own call, with tables of code objects -/
namespace FT
open PySem PySem.Spec PyProof.Rows L2 LamX
/-- law_call with tables: cs, the code objects and their tables -/
theorem law_callTG {P : Program} {w : World} {K : PySem.W.Frag} {mg mb : Str → Option Value} {CX : CXT} {k : Nat} {fa a : Addr} {cs : List (Addr × Addr)} {fd : FuncData} {x : Str} {sp : Sp} {s₁ : Shared} {vs : List Value} {ns : List Int}
    (KX : K.In s₁.heap) (hns : s₁.heap.Ns mainGlobals mg) (hb : s₁.heap.Ns builtinsNs mb) (hbb : ∀ x : Str, x ≠ "__name__" → mb x = bootBuiltins x) (hlim : s₁.heap.NoLimit) (hg : s₁.gens = #[])
    (hT : ∀ p ∈ cs, s₁.heap.get? p.2 = some { cls := .none, data := .fields #[] }) (nT : ∀ p ∈ cs, K.lookup p.2 = none) (C : ∀ p ∈ cs, PySem.W.CodeHd s₁.heap p.1 p.2)
    (hbm : ∃ (bm : Addr) (ob : Obj), mg "__builtins__" = some (.ref bm) ∧ bm ≠ builtinsNs ∧ s₁.heap.get? bm = some ob ∧ ob.cls = .type "module" ∧ ob.dict = some builtinsNs ∧ ob.data = .plain)
    (ha : s₁.heap.get? a = some { cls := .type "list", data := .seq vs.toArray }) (hi : IntsAre vs ns) (hl : ns.length ≤ sizeLine) (hr : RG k callerA)
    (F : ∀ base : Heap, K.In base → base.Ns mainGlobals mg → (∀ p ∈ cs, TabB base mg p.1 p.2) → FnG P w K mg base CX k fa fd [x] sp) (hbind : ∀ (s : Shared) (u : Value), BindsTo s fd ⟨[u], []⟩ [(x, u)])
    (hsp : ∀ H : Hp, (∀ p ∈ cs, H p.2 = some (.tbl #[])) → SqL K H a (ns.map V.int) → sp [.ref a] H (fun v _ => v = .bl true) fun _ _ _ => False)
    (hCX : ∀ H e s', CX [] H s₁ (fun _ _ _ => False) e s' → False) :
    codeAny (model P w) callerA (.call (.ref fa) ⟨[.ref a], []⟩) (fun r s' => r = .ok (.ret (.bool true)) ∧ OldK s₁.heap s'.heap ∧ s'.os = s₁.os ∧ AllBare s'.gens) s₁ := by
  have rv := vals_ints hi
  have lenV := hi.length
  have isT : ∀ b : Addr, b ∈ cs.map (·.2) → s₁.heap.get? b = some { cls := .none, data := .fields #[] } := fun b hb => by
    obtain ⟨p, hp, e⟩ := List.mem_map.mp hb
    rw [← e]
    exact hT p hp
  have aT : a ∉ cs.map (·.2) := fun z => by
    have q := isT a z
    rw [ha] at q
    have z' : Data.seq vs.toArray _ = Data.fields #[] := congrArg Obj.data (Option.some.inj q)
    cases z'
  have memT : ∀ p ∈ cs, p.2 ∈ cs.map (·.2) := fun p hp => List.mem_map.mpr ⟨p, hp, rfl⟩
  -- from an abstract heap in which nothing but the script and the tables may be tracked
  have core : ∀ H : Hp, (∀ p ∈ cs, H p.2 = some (.tbl #[])) → (∀ b, H b = none ∨ b ∈ cs.map (·.2) ∨ ∃ o xs, H b = some (.frz o (.lst xs))) → SqL K H a (ns.map V.int) → HOk P w H s₁.heap → (∀ b, H b ≠ none → b = a ∨ b ∈ cs.map (·.2)) → (H a ≠ none → K.lookup a = none) →
      codeAny (model P w) callerA (.call (.ref fa) ⟨[.ref a], []⟩) (fun r s' => r = .ok (.ret (.bool true)) ∧ OldK s₁.heap s'.heap ∧ s'.os = s₁.os ∧ AllBare s'.gens) s₁ := by
    intro H hH hO hS hok hA hK
    have base_of : ∀ {b : Addr} {o : Obj}, s₁.heap.get? b = some o → H b = none → (hidT s₁.heap H).get? b = some o := fun e n => hidT_get e n
    have noD : ∀ {b : Addr} {o : Obj}, s₁.heap.get? b = some o → (∀ vs n, o.data ≠ .seq vs n) → o.data ≠ .fields #[] → H b = none := fun {b o} e h1 h2 => by
      cases q : H b with
      | none => rfl
      | some u =>
        rcases hA b (by rw [q]; simp) with e' | e'
        · rw [e', ha] at e
          cases e
          exact (h1 _ _ rfl).elim
        · rw [isT b e'] at e
          cases e
          exact (h2 rfl).elim
    have noA : ∀ {b : Addr} {o : Obj} {es : Array DictEntry} {ep : Nat}, s₁.heap.get? b = some o → o.data = .dict es ep → H b = none := fun {b o es ep} e d => by
      refine noD e (fun vs n z => ?_) fun z => ?_
      · rw [d] at z
        cases z
      · rw [d] at z
        cases z
    have nsK : ∀ {b : Addr} {m : Str → Option Value}, s₁.heap.Ns b m → (hidT s₁.heap H).Ns b m := fun {b m} ⟨o, es, ep, e, d, r⟩ => ⟨o, es, ep, base_of e (noA e d), d, r⟩
    have hKb : K.In (hidT s₁.heap H) := fun b o e => base_of (KX b o e) (by
      cases q : H b with
      | none => rfl
      | some u =>
        rcases hA b (by rw [q]; simp) with e' | e'
        · rw [e'] at e q
          rw [hK (by rw [q]; simp)] at e
          cases e
        · obtain ⟨p, hp, ep⟩ := List.mem_map.mp e'
          rw [← ep, nT p hp] at e
          cases e)
    have hM : L2.Mod K mg (hidT s₁.heap H) := ⟨hKb, nsK hns, ⟨mb, nsK hb, hbb⟩, let ⟨mc, h1, h2⟩ := hlim; ⟨mc, nsK h1, h2⟩⟩
    have TB : ∀ p ∈ cs, TabB (hidT s₁.heap H) mg p.1 p.2 := fun p hp => by
      have hTp := hT p hp
      refine ⟨?_, ?_, fun z => ?_⟩
      · obtain ⟨o, us, file, tf, flags, tg, inF, text, tt, e1, r1, r2, r3, r4, r5, r6, r7, r8, hne⟩ := C p hp
        refine ⟨o, us, file, tf, flags, tg, inF, text, tt, base_of e1 (noD e1 (fun vs n z => ?_) fun z => ?_), r1, r2, r3, r4, r5, r6, r7, r8, hne⟩
        · rw [r2] at z
          cases z
        · rw [r2] at z
          cases z
          simp at r3
      · obtain ⟨bm, ob, b1, b2, b3, b4, b5, b6⟩ := hbm
        have nG : bm ≠ mainGlobals := fun q => by
          obtain ⟨o, es, ep, e, hd, _⟩ := hns
          rw [q, e] at b3
          cases b3
          rw [hd] at b6
          cases b6
        have nP : bm ≠ p.2 := fun q => by
          rw [q, hTp] at b3
          cases b3
          cases b6
        refine ⟨bm, ob, b1, b2, nG, nP, base_of b3 (noD b3 (fun vs n z => ?_) fun z => ?_), b4, b5, b6⟩
        · rw [b6] at z
          cases z
        · rw [b6] at z
          cases z
      · obtain ⟨o, es, ep, e, hd, _⟩ := hns
        rw [z, hTp] at e
        cases e
        cases hd
    have e0 : Env0 P w K mg (hidT s₁.heap H) callerA [] s₁ H := ⟨rfl, hM, fun b o e => of_hidT e, Nat.le_of_eq (hidT_size _ _), trivial, fun b hb => absurd (show b ∈ ([] : List Addr) from hb) (by simp), hok, .of_eq hg⟩
    refine codeAny_mono ((F _ hKb (nsK hns) TB).goes hr e0 (us := [.ref a]) (vs := [.ref a]) (hbind s₁ (.ref a)) (.cons rfl .nil) (hsp H hH hS)) fun r s' h => ?_
    cases r with
    | error e => exact (hCX H e s' h).elim
    | ok fl =>
      cases fl with
      | next => exact False.elim h
      | brk => exact False.elim h
      | cont => exact False.elim h
      | ret u =>
        obtain ⟨v, H', os, bare, un, hok', r', q⟩ := h
        have q' : v = .bl true := q
        subst q'
        obtain rfl : u = Value.bool true := r'
        have key : ∀ b o, b ∉ cs.map (·.2) → s₁.heap.get? b = some o → s'.heap.get? b = some o := fun b o nb e => by
          cases q : H b with
          | none => exact un.keep b o e q (by intro z; exact absurd (show b ∈ ([] : List Addr) from z) (by simp)) (by simp)
          | some u =>
            rcases hO b with z | z | ⟨ob, xs, z⟩
            · rw [q] at z; cases z
            · exact absurd z nb
            · have z2 := un.frzs b ob _ z
              obtain ⟨e1, _⟩ := hok b _ z
              obtain ⟨e2, _⟩ := hok' b _ z2
              rw [e] at e1; cases e1
              exact e2
        have grown : ∀ p ∈ cs, ∃ more : Array Value, s'.heap.get? p.2 = some { cls := .none, data := .fields more } := fun p hp => by
          obtain ⟨more, z⟩ := un.tbls p.2 #[] (hH p hp)
          exact ⟨_, hok' p.2 _ z⟩
        refine ⟨rfl, ⟨fun b o e => ?_, fun b o e => ?_⟩, os, bare⟩
        · by_cases hb : b ∈ cs.map (·.2)
          · obtain ⟨p, hp, ep⟩ := List.mem_map.mp hb
            obtain ⟨more, hm⟩ := grown p hp
            rw [← ep] at e ⊢
            rw [hT p hp] at e
            cases e
            exact .inr (.inl ⟨((C p hp).tab (hT p hp)).isCodeTable, rfl, #[], more, rfl, by rw [Array.empty_append]; exact hm⟩)
          · exact .inl (key b o hb e)
        · by_cases hb : b ∈ cs.map (·.2)
          · obtain ⟨p, hp, ep⟩ := List.mem_map.mp hb
            obtain ⟨more, hm⟩ := grown p hp
            rw [← ep]
            exact ⟨_, hm⟩
          · exact ⟨o, key b o hb e⟩
  cases hk : K.lookup a with
  | some o =>
    have e := KX a o hk
    rw [ha] at e
    cases e
    refine core (fun b => if b ∈ cs.map (·.2) then some (.tbl #[]) else none) (fun p hp => if_pos (memT p hp)) (fun b => ?_) (.inr ⟨_, vs.toArray, _, hk, rfl, rfl, rfl, by rw [List.size_toArray, lenV]; exact hl, by simpa using rv⟩) (fun b u z => ?_) (fun b z => ?_) fun z => absurd (show (if a ∈ cs.map (·.2) then some (HO.tbl #[]) else none) = none from if_neg aT) z
    · by_cases hb : b ∈ cs.map (·.2)
      · exact .inr (.inl hb)
      · exact .inl (if_neg hb)
    · by_cases hb : b ∈ cs.map (·.2)
      · have z' := (if_pos hb).symm.trans z
        cases z'
        exact isT b hb
      · have z' := (if_neg hb).symm.trans z
        cases z'
    · by_cases hb : b ∈ cs.map (·.2)
      · exact .inr hb
      · exact absurd (if_neg hb) z
  | none =>
    refine core (fun b => if b = a then some (.frz { cls := .type "list", data := .seq vs.toArray } (.lst (ns.map V.int))) else if b ∈ cs.map (·.2) then some (.tbl #[]) else none) (fun p hp => (if_neg (show ¬ p.2 = a from fun z => aT (by rw [← z]; exact memT p hp))).trans (if_pos (memT p hp))) (fun b => ?_)
      (.inl (.inr ⟨{ cls := .type "list", data := .seq vs.toArray }, if_pos rfl⟩)) (fun b u z => ?_) (fun b z => ?_) fun _ => hk
    · by_cases hb : b = a
      · exact .inr (.inr ⟨_, _, if_pos hb⟩)
      · by_cases hb2 : b ∈ cs.map (·.2)
        · exact .inr (.inl hb2)
        · exact .inl ((if_neg hb).trans (if_neg hb2))
    · by_cases hb : b = a
      · have z' := (if_pos hb).symm.trans z
        cases z'
        rw [hb]
        exact ⟨ha, by rw [List.length_map]; exact hl, vs, _, rv, ha⟩
      · have z1 := (if_neg hb).symm.trans z
        by_cases hb2 : b ∈ cs.map (·.2)
        · have z' := (if_pos hb2).symm.trans z1
          cases z'
          exact isT b hb2
        · have z' := (if_neg hb2).symm.trans z1
          cases z'
    · by_cases hb : b = a
      · exact .inl hb
      · by_cases hb2 : b ∈ cs.map (·.2)
        · exact .inr hb2
        · exact absurd ((if_neg hb).trans (if_neg hb2)) z
/-- what is known of the law's promise at the head's heap h -/
def LawAtG (l : PySem.W.OpenLaw) (w : World) (K : PySem.W.Frag) (CX : CXT) (k n : Nat) (x : Str) (mg : Str → Option Value) (fa : Addr) (h : Heap) : Prop :=
  ∃ (fd : FuncData) (cs : List (Addr × Addr)) (sp : Sp), (∀ p ∈ cs, h.get? p.2 = some { cls := .none, data := .fields #[] }) ∧ (∀ p ∈ cs, K.lookup p.2 = none) ∧ (∀ p ∈ cs, PySem.W.CodeHd h p.1 p.2) ∧ (∀ (s : Shared) (u : Value), BindsTo s fd ⟨[u], []⟩ [(x, u)]) ∧
    (∀ (H : Hp) (a : Addr) (ns : List Int), ns.length ≤ n → (∀ p ∈ cs, H p.2 = some (.tbl #[])) → SqL K H a (ns.map V.int) → sp [.ref a] H (fun v _ => v = .bl true) fun _ _ _ => False) ∧
    ∀ base : Heap, K.In base → base.Ns mainGlobals mg → (∀ p ∈ cs, TabB base mg p.1 p.2) → FnG l.prog w K mg base CX k fa fd [x] sp
/-- the table of the def x, as the head tells it -/
def TabOf (q : Program) (K : PySem.W.Frag) (h : Heap) : Prop := ∀ (x : Str) (e : DefRec) (c P : Addr), (recsOf q).find? (fun e => e.name == x) = some e → PySem.W.tabIn K x = some (c, P) → PySem.W.CodeHd h c P ∧ h.get? P = some { cls := .none, data := .fields #[] }
theorem walk_ofTG {l : PySem.W.OpenLaw} {n k : Nat} {q : Program} {loose : List Str} {XP : (Str → Option Value) → Heap → Prop} {YP : World → Heap → Prop} {d : DefRec} {K : Params → PySem.W.Frag} {CX : World → CXT} {x : Str}
    (hn : l.most = some n) (hn2 : n ≤ sizeLine) (hdf : d.params.defaults = []) (hr : RG k callerA) (hY : ∀ (w : World) (h : Heap), YP w h → (K w.params).In h)
    (F : ∀ (w : World) (mg : Str → Option Value) (fa : Addr) (h : Heap), (K w.params).In h → h.Ns mainGlobals mg → mg d.name = some (.ref fa) → TabOf q (K w.params) h → LawAtG l w (K w.params) (CX w) k n x mg fa h)
    (hCX : ∀ (w : World) (H : Hp) (s : Shared) (e : Value) (s' : Shared), CX w [] H s (fun _ _ _ => False) e s' → False) :
    PySem.W.WalkO q loose XP YP l.row.toRowW d [] (fun f vs => PySem.call f vs) := by
  refine Att.attach_callB hn hdf fun w s₀ s₁ mg mb fa o pm cd doc a vs ns G Y ho hd hcd hmg hobj hints hlen hbits hg => ?_
  have KX := hY w _ Y
  obtain ⟨fd, cs, sp, hT, nT, C, hb, hsp, hF⟩ := F w mg fa _ KX G.T.g hmg (fun x e c P h1 h2 => PySem.W.tab_of G.T KX h1 h2)
  exact law_callTG KX G.T.g G.T.b G.T.builtins G.T.nolimit hg hT nT C G.T.bmain hobj hints (Nat.le_trans hlen hn2) hr hF hb (fun H hH hS => hsp H a ns hlen hH hS) fun H e s' => hCX w H s₁ e s'
theorem upd_kp {H : Hp} {a dx : Addr} {o u : HO} (hd : H dx = none) (hda : dx ≠ a) : Kp a H (upd (upd H dx o) a u) := by
  intro b v n h
  rw [upd_ne n, upd_ne (ne_of_none h hd)]
  exact h
theorem walk_gen {J : It} {n : Nat} {G : Hp → Prop} {Y : Nat → Hp → V → Hp → Prop} (w : Walk J n G Y) {Body : (Hp → Prop) → V → Hp → Prop} {H0 : Hp} {Qd : Hp → Prop} (Pv : Nat → Hp → Prop) (h0 : Pv 0 H0) (hG : ∀ i H, i ≤ n → Pv i H → G H)
    (hs : ∀ i x H H', i < n → Pv i H → Y i H x H' → Body (Pv (i + 1)) x H') (hd : ∀ H, Pv n H → Qd H) :
    ∃ W : Nat → Nat → Hp → Prop, (∃ m, W 0 m H0) ∧ ∀ i m H, W i m H → (J.stop i H ∧ Qd H) ∨ (J.go i H ∧ ∃ Nx : Hp → Prop, (∀ H', Nx H' → ∃ m', m' < m ∧ W (i + 1) m' H') ∧ ∀ x H', J.yld i H x H' → Body Nx x H') := by
  refine ⟨fun i m H => m = n - i ∧ i ≤ n ∧ Pv i H, ⟨n, by simp, Nat.zero_le _, h0⟩, ?_⟩
  rintro i m H ⟨rfl, hi, p⟩
  have q := hG i H hi p
  by_cases hlt : i < n
  · exact .inr ⟨w.goes i H hlt q, Pv (i + 1), fun H' p' => ⟨n - (i + 1), by omega, rfl, hlt, p'⟩, fun x H' y => hs i x H H' hlt p (w.yields i H x H' hlt q y)⟩
  · have e : i = n := by omega
    subst e
    exact .inl ⟨w.stops H q, hd H p⟩
end FT

/-! list(zip(xs, ys)) -/
namespace FT
open PySem PySem.Spec PyProof.Rows L2
abbrev IsZipB (h : Heap) (z TI TO T : Addr) (f : Bool) : Prop :=
  h.get? z = some { cls := .type "zip", dict := none, data := .fields #[rawInt T, .bool f, .bool false, .ref TI, .ref TO], slots := #[] }
section
variable {prog : Program} {w : World} {A : Around} {E : Value → Shared → Prop} {s : Shared}
theorem free_busy {z TI TO T : Addr} {f : Bool} {oT : Obj} {Q : Bool → Shared → Prop} (hz : IsZipB s.heap z TI TO T f) (hT : s.heap.get? T = some oT)
    (hQ : ∀ h₁, IsZipB h₁ z TI TO T true → Heap.ExtBut z s.heap h₁ → h₁.objs.size = s.heap.objs.size → Q false { s with heap := h₁ }) : wpAny (model prog w) A (Builtin.SmallTypes.ownedTupleIsFree (.ref z)) Q E s := by
  unfold Builtin.SmallTypes.ownedTupleIsFree
  refine wpAny_bind (wpAny_field hz rfl (x := rawInt T) rfl ?_)
  show wpAny _ _ (loadIfAlive ((T : Int).toNat) >>= _) _ _ _
  rw [Int.toNat_natCast]
  refine wpAny_bind (PySem.W.kdx_alive hT ?_)
  simp only [Option.isNone_some, Bool.false_eq_true, if_false]
  refine wpAny_bind (wpAny_field hz rfl (x := .bool f) rfl ?_)
  cases f with
  | true =>
    rw [if_neg (by decide)]
    exact wpAny_pure (hQ _ hz (fun b o _ e => e) rfl)
  | false =>
    rw [if_pos (by decide)]
    refine wpAny_bind (wpAny_setField_rec hz (by simp) fun h₁ hz₁ hs₁ => ?_)
    exact wpAny_pure (hQ h₁ hz₁ hs₁.extBut hs₁.1)
theorem zipB_next_item {z TI TO i1 i2 l1 l2 T : Addr} {f : Bool} {oT : Obj} {k1 k2 : Nat} {xs ys : Array Value} {x y : Value} {Q : Value → Shared → Prop} (D : ZipApart z TI TO i1 i2 l1 l2)
    (hz : IsZipB s.heap z TI TO T f) (hT : s.heap.get? T = some oT) (hTI : IsPair s.heap TI (.ref i1) (.ref i2))
    (h1 : s.heap.IsListIter i1 l1 k1) (h2 : s.heap.IsListIter i2 l2 k2) (hl1 : s.heap.IsList l1 xs) (hl2 : s.heap.IsList l2 ys) (hx : xs[k1]? = some x) (hy : ys[k2]? = some y)
    (hQ : ∀ h', IsZipB h' z TI TO T true → h'.IsListIter i1 l1 (k1 + 1) → h'.IsListIter i2 l2 (k2 + 1) → IsPair h' s.heap.objs.size x y → h'.objs.size = s.heap.objs.size + 1 →
      (∀ c o, c ≠ z → c ≠ i1 → c ≠ i2 → s.heap.get? c = some o → h'.get? c = some o) → Q (.ref s.heap.objs.size) { s with heap := h' }) :
    wpAny (model prog w) A (Builtin.«zip.__next__» ⟨[.ref z], []⟩) (fun fin s' => ∃ v, fin = .done (.ret v) ∧ Q v s') E s := by
  show wpAny _ _ (field (.ref z) 2 >>= _) _ _ _
  refine wpAny_bind (wpAny_field hz rfl (x := .bool false) rfl ?_)
  show wpAny _ _ (field (.ref z) 3 >>= _) _ _ _
  refine wpAny_bind (wpAny_field hz rfl (x := .ref TI) rfl ?_)
  refine wpAny_bind (wpAny_seqItems hTI rfl ?_)
  show wpAny _ _ (Builtin.SmallTypes.ownedTupleIsFree (.ref z) >>= _) _ _ _
  refine wpAny_bind (free_busy hz hT fun h₁ hz₁ k₁ sz₁ => ?_)
  simp only [Bool.false_eq_true, if_false]
  rw [← Array.forIn_toList]
  simp only [List.forIn_cons, List.forIn_nil]
  have hl1' := hl1.extBut k₁ D.l1z
  have hl2' := hl2.extBut k₁ D.l2z
  have h1' := h1.extBut k₁ D.i1z
  have h2' := h2.extBut k₁ D.i2z
  refine wpAny_bind (wpAny_bind (wpAny_bind (wpAny_holding ?_)))
  show wpAny _ _ (Builtin.SmallTypes.nextOf (.ref i1) >>= _) _ _ _
  refine wpAny_bind (wpAny_nextOf_list_item h1' hl1' hx fun h₂ h1₂ hs₂ => wpAny_pure (wpAny_pure ?_))
  refine wpAny_bind (wpAny_bind (wpAny_holding ?_))
  show wpAny _ _ (Builtin.SmallTypes.nextOf (.ref i2) >>= _) _ _ _
  refine wpAny_bind (wpAny_nextOf_list_item (h2'.extBut hs₂.extBut D.i12.symm) (hl2'.extBut hs₂.extBut D.l2i1) hy fun h₃ h2₃ hs₃ => wpAny_pure (wpAny_pure (wpAny_pure ?_)))
  have sz : h₃.objs.size = s.heap.objs.size := by rw [hs₃.1, hs₂.1, sz₁]
  refine wpAny_bind (wpAny_newTuple ?_ (by show 2 ≤ sizeLine; decide))
  have up : ∀ c o, c ≠ z → c ≠ i1 → c ≠ i2 → s.heap.get? c = some o → h₃.get? c = some o := fun c o c1 c2 c3 e => hs₃.extBut _ _ c3 (hs₂.extBut _ _ c2 (k₁ _ _ c1 e))
  have hz₃ : IsZipB h₃ z TI TO T true := hs₃.extBut _ _ D.i2z.symm (hs₂.extBut _ _ D.i1z.symm hz₁)
  have h1₃ := h1₂.extBut hs₃.extBut D.i12
  refine wpAny_pure ⟨_, rfl, ?_⟩
  show Q (.ref h₃.objs.size) _
  have hp : IsPair (h₃.push { cls := .type "tuple", data := .seq #[x, y] }) h₃.objs.size x y := Heap.get?_push_size _ rfl
  rw [sz] at hp ⊢
  exact hQ _ (Heap.get?_push_of_some _ hz₃) (h1₃.at fun o e => Heap.get?_push_of_some _ e) (h2₃.at fun o e => Heap.get?_push_of_some _ e) hp (by rw [Heap.size_push, sz]) fun c o c1 c2 c3 e => Heap.get?_push_of_some _ (up c o c1 c2 c3 e)
theorem zipB_next_end {z TI TO i1 i2 l1 l2 T : Addr} {f : Bool} {oT : Obj} {k1 : Nat} {xs : Array Value} {Q : Fin → Shared → Prop} (hh : A.handled = none) (D : ZipApart z TI TO i1 i2 l1 l2)
    (hz : IsZipB s.heap z TI TO T f) (hT : s.heap.get? T = some oT) (hTI : IsPair s.heap TI (.ref i1) (.ref i2))
    (h1 : s.heap.IsListIter i1 l1 k1) (hl1 : s.heap.IsList l1 xs) (hx : xs[k1]? = none)
    (hE : ∀ h' e, (∀ c o, c ≠ z → c ≠ i1 → s.heap.get? c = some o → h'.get? c = some o) → (∃ o, h'.get? e = some o ∧ o.cls = .type "StopIteration") → E (.ref e) { s with heap := h' }) :
    wpAny (model prog w) A (Builtin.«zip.__next__» ⟨[.ref z], []⟩) Q E s := by
  show wpAny _ _ (field (.ref z) 2 >>= _) _ _ _
  refine wpAny_bind (wpAny_field hz rfl (x := .bool false) rfl ?_)
  show wpAny _ _ (field (.ref z) 3 >>= _) _ _ _
  refine wpAny_bind (wpAny_field hz rfl (x := .ref TI) rfl ?_)
  refine wpAny_bind (wpAny_seqItems hTI rfl ?_)
  show wpAny _ _ (Builtin.SmallTypes.ownedTupleIsFree (.ref z) >>= _) _ _ _
  refine wpAny_bind (free_busy hz hT fun h₁ hz₁ k₁ sz₁ => ?_)
  simp only [Bool.false_eq_true, if_false]
  rw [← Array.forIn_toList]
  simp only [List.forIn_cons, List.forIn_nil]
  refine wpAny_bind (wpAny_bind (wpAny_bind (wpAny_holding ?_)))
  show wpAny _ _ (Builtin.SmallTypes.nextOf (.ref i1) >>= _) _ _ _
  exact wpAny_bind (wpAny_nextOf_list_end hh (h1.extBut k₁ D.i1z) (hl1.extBut k₁ D.l1z) hx fun h₂ e hs₂ he => hE h₂ e (fun c o c1 c2 x => hs₂ _ _ c2 (k₁ _ _ c1 x)) he)
/-- a zip that has handed out i items -/
def ZSt (h : Heap) (z TI TO i1 i2 l1 l2 : Addr) (xs ys : Array Value) (i : Nat) : Prop :=
  (IsZip h z TI TO .none ∨ ∃ T f oT, IsZipB h z TI TO T f ∧ h.get? T = some oT ∧ T ≠ z ∧ T ≠ i1 ∧ T ≠ i2) ∧ IsPair h TI (.ref i1) (.ref i2) ∧ (∃ a b, IsPair h TO a b) ∧ h.IsListIter i1 l1 i ∧ h.IsListIter i2 l2 i ∧ h.IsList l1 xs ∧ h.IsList l2 ys
theorem zst_item {z TI TO i1 i2 l1 l2 : Addr} {i : Nat} {xs ys : Array Value} {x y : Value} {Q : Option Value → Shared → Prop} (D : ZipApart z TI TO i1 i2 l1 l2) (h : ZSt s.heap z TI TO i1 i2 l1 l2 xs ys i) (hx : xs[i]? = some x) (hy : ys[i]? = some y)
    (hQ : ∀ h', ZSt h' z TI TO i1 i2 l1 l2 xs ys (i + 1) → IsPair h' s.heap.objs.size x y → s.heap.objs.size < h'.objs.size → (∀ c o, c ≠ z → c ≠ TO → c ≠ i1 → c ≠ i2 → s.heap.get? c = some o → h'.get? c = some o) → Q (some (.ref s.heap.objs.size)) { s with heap := h' }) :
    wpAny (model prog w) A (pyNext (.ref z)) Q E s := by
  obtain ⟨hz, hTI, ⟨a, b, hTO⟩, h1, h2, hl1, hl2⟩ := h
  have lt : ∀ {c o}, s.heap.get? c = some o → s.heap.objs.size ≠ c := fun e => Nat.ne_of_gt (Heap.lt_size e)
  have li1 : s.heap.objs.size ≠ i1 := by obtain ⟨_, e, _⟩ := h1; exact lt e
  have li2 : s.heap.objs.size ≠ i2 := by obtain ⟨_, e, _⟩ := h2; exact lt e
  rcases hz with hz | ⟨T, f, oT, hz, hT, t1, t2, t3⟩
  · refine wpAny_pyNext_zip_item D hz hTI hTO h1 h2 hl1 hl2 hx hy fun h' a1 a2 a3 a4 a5 a6 hk => ?_
    refine hQ h' ⟨.inr ⟨_, false, _, a1, a5, lt hz, li1, li2⟩, hk _ _ D.TIz D.TITO D.TIi1 D.TIi2 hTI, ⟨_, _, a2⟩, a3, a4, hl1.at fun o e => hk _ o D.l1z D.l1TO D.l1i1 D.l1i2 e, hl2.at fun o e => hk _ o D.l2z D.l2TO D.l2i1 D.l2i2 e⟩ a5 (by omega) hk
  · have hTy : s.TypeIs (.ref z) "zip" := ⟨_, hz, rfl⟩
    unfold pyNext
    refine wpAny_bind (wpAny_attempt (wpAny_callSpecial?_slot (name := Str.ofString "__next__") hTy F.slot_zip_next
      (wpAny_call_entry F.slot_zip_next hTy F.entry_zip_next
        (zipB_next_item D hz hT hTI h1 h2 hl1 hl2 hx hy fun h' a1 a3 a4 a5 a6 hk => wpAny_pure ?_) (F.args_zip_next_1 _))))
    exact hQ h' ⟨.inr ⟨T, true, oT, a1, hk _ _ t1 t2 t3 hT, t1, t2, t3⟩, hk _ _ D.TIz D.TIi1 D.TIi2 hTI, ⟨_, _, hk _ _ D.TOz D.TOi1 D.TOi2 hTO⟩, a3, a4, hl1.at fun o e => hk _ o D.l1z D.l1i1 D.l1i2 e, hl2.at fun o e => hk _ o D.l2z D.l2i1 D.l2i2 e⟩ a5 (by omega) fun c o c1 _ c3 c4 e => hk c o c1 c3 c4 e
theorem zst_end {z TI TO i1 i2 l1 l2 : Addr} {i : Nat} {xs ys : Array Value} {Q : Option Value → Shared → Prop} (hh : A.handled = none) (D : ZipApart z TI TO i1 i2 l1 l2) (h : ZSt s.heap z TI TO i1 i2 l1 l2 xs ys i) (hx : xs[i]? = none)
    (hQ : ∀ h', (∀ c o, c ≠ z → c ≠ TO → c ≠ i1 → c ≠ i2 → s.heap.get? c = some o → h'.get? c = some o) → Q none { s with heap := h' }) :
    wpAny (model prog w) A (pyNext (.ref z)) Q E s := by
  obtain ⟨hz, hTI, ⟨a, b, hTO⟩, h1, h2, hl1, hl2⟩ := h
  rcases hz with hz | ⟨T, f, oT, hz, hT, t1, t2, t3⟩
  · exact wpAny_pyNext_zip_end hh D hz hTI hTO h1 h2 hl1 hl2 (.inl hx) hQ
  · have hTy : s.TypeIs (.ref z) "zip" := ⟨_, hz, rfl⟩
    unfold pyNext
    refine wpAny_bind (wpAny_attempt (wpAny_callSpecial?_slot (name := Str.ofString "__next__") hTy F.slot_zip_next
      (wpAny_call_entry F.slot_zip_next hTy F.entry_zip_next (zipB_next_end hh D hz hT hTI h1 hl1 hx fun h' e hk he => ?_) (F.args_zip_next_1 _))))
    obtain ⟨o, ho, hc⟩ := he
    refine wpAny_bind (wpAny_isInstance (T := "StopIteration") (b := true) ⟨o, ho, hc⟩ isSubtype_stop ?_)
    exact wpAny_pure (hQ _ fun c o c1 _ c3 _ e => hk c o c1 c3 e)
/-- the pairs handed out, at as, above S -/
structure ZG (h : Heap) (S : Addr) (xs ys : Array Value) (as : List Addr) : Prop where
  above : ∀ t ∈ as, S < t ∧ t < h.objs.size
  rise : as.Pairwise (· < ·)
  pairs : ∀ (j : Nat) (t : Addr), as[j]? = some t → ∃ x y, xs[j]? = some x ∧ ys[j]? = some y ∧ IsPair h t x y
theorem zip_loop {z TI TO i1 i2 l1 l2 S : Addr} {xs ys : Array Value} {n : Nat} {R : Result → Shared → Prop} (hh : A.in1.handled = none) (D : ZipApart z TI TO i1 i2 l1 l2) (hx : xs.size = n) (hy : ys.size = n) (hn : n ≤ sizeLine)
    (s1 : S ≠ z) (s2 : S ≠ TI) (s3 : S ≠ TO) (s4 : S ≠ i1) (s5 : S ≠ i2) (s6 : S ≠ l1) (s7 : S ≠ l2) (zS : z < S) (TOS : TO < S) (i1S : i1 < S) (i2S : i2 < S) :
    ∀ (k i : Nat) (s : Shared) (acc : Array Value) (c : Nat) (as : List Addr), n - i = k → i ≤ n → ZSt s.heap z TI TO i1 i2 l1 l2 xs ys i → s.heap.get? S = some { cls := .type "list", dict := none, data := .seq acc c, slots := #[] } → ZG s.heap S xs ys as → as.length = i → acc.toList = as.map Value.ref →
    (∀ h' acc' c' as', (∀ b o, b ≠ S → b ≠ z → b ≠ TO → b ≠ i1 → b ≠ i2 → s.heap.get? b = some o → h'.get? b = some o) → h'.get? S = some { cls := .type "list", dict := none, data := .seq acc' c', slots := #[] } → ZG h' S xs ys as' → as'.length = n → acc'.toList = as'.map Value.ref → R (.ok (.ret .none)) { s with heap := h' }) →
    codeAny (model prog w) A (.builtin "list.extend.loop" ⟨[.ref S, .ref z, .none], []⟩) R s := by
  intro k
  induction k with
  | zero =>
    intro i s acc c as hk hi hst hS hG hl ha hR
    have hin : i = n := by omega
    subst hin
    refine codeAny_builtin F.entry_extend_loop ?_
    rw [Around.under_plainId F.plain_extend_loop _]
    show wpAny _ A.in1 (pyNext (.ref z) >>= _) _ _ s
    refine wpAny_bind (zst_end hh D hst (Array.getElem?_eq_none (by omega)) fun h' hm => ?_)
    refine wpAny_pure (hR h' acc c as (fun b o _ b1 b2 b3 b4 e => hm b o b1 b2 b3 b4 e) (hm _ _ s1 s3 s4 s5 hS) ⟨fun t ht => ⟨(hG.above t ht).1, ?_⟩, hG.rise, fun j t hj => ?_⟩ hl ha)
    · have tm := hG.above t ht
      obtain ⟨j, hj⟩ := List.mem_iff_getElem?.mp ht
      obtain ⟨x, y, e1, e2, e3⟩ := hG.pairs j t hj
      exact Heap.lt_size (hm _ _ (Nat.ne_of_gt (Nat.lt_trans zS tm.1)) (Nat.ne_of_gt (Nat.lt_trans TOS tm.1)) (Nat.ne_of_gt (Nat.lt_trans i1S tm.1)) (Nat.ne_of_gt (Nat.lt_trans i2S tm.1)) e3)
    · obtain ⟨x, y, e1, e2, e3⟩ := hG.pairs j t hj
      have tm := hG.above t (List.mem_of_getElem? hj)
      exact ⟨x, y, e1, e2, hm _ _ (Nat.ne_of_gt (Nat.lt_trans zS tm.1)) (Nat.ne_of_gt (Nat.lt_trans TOS tm.1)) (Nat.ne_of_gt (Nat.lt_trans i1S tm.1)) (Nat.ne_of_gt (Nat.lt_trans i2S tm.1)) e3⟩
  | succ k ih =>
    intro i s acc c as hk hi hst hS hG hl ha hR
    have hlt : i < n := by omega
    have ex : xs[i]? = some xs[i] := Array.getElem?_eq_getElem (by omega)
    have ey : ys[i]? = some ys[i] := Array.getElem?_eq_getElem (by omega)
    refine codeAny_builtin F.entry_extend_loop ?_
    rw [Around.under_plainId F.plain_extend_loop _]
    show wpAny _ A.in1 (pyNext (.ref z) >>= _) _ _ s
    refine wpAny_bind (zst_item D hst ex ey fun h' hst' hp hsz hm => ?_)
    have hS' := hm S _ s1 s3 s4 s5 hS
    have asz : acc.size = i := by
      have e := congrArg List.length ha
      rw [List.length_map, Array.length_toList] at e
      omega
    have Ssz := Heap.lt_size hS
    show wpAny _ A.in1 (updateSeq S (·.push (.ref s.heap.objs.size)) >>= _) _ _ _
    refine wpAny_bind ?_
    have oth : ∀ b o, b ≠ S → h'.get? b = some o → (h'.update S (Obj.mapSeq (·.push (Value.ref s.heap.objs.size)))).get? b = some o := fun b o hb e => (Heap.get?_update_other _ _ (Ne.symm hb)).trans e
    have usz : (h'.update S (Obj.mapSeq (·.push (Value.ref s.heap.objs.size)))).objs.size = h'.objs.size := by
      first
      | exact Heap.size_update ..
      | simp [Heap.update]
    refine wpAny_updateSeq hS' rfl (wpAny_pure ⟨plainId_quiet F.plain_extend_loop _, ih (i + 1) _ (acc.push (.ref s.heap.objs.size)) _ (as ++ [s.heap.objs.size]) (by omega) hlt ?_ (Heap.get?_update_self _ hS' rfl) ⟨?_, ?_, ?_⟩ (by rw [List.length_append, hl]; rfl) (by simp [ha]) fun h'' acc'' c'' as'' hm'' hS'' hG'' hl'' ha'' => ?_⟩)
      (by rw [asz]; omega) (by show (acc.push _).size ≤ sizeLine + 1; rw [Array.size_push, asz]; omega)
    · obtain ⟨hz, hTI, ⟨a, b, hTO⟩, h1, h2, hl1, hl2⟩ := hst'
      refine ⟨?_, oth _ _ s2.symm hTI, ⟨a, b, oth _ _ s3.symm hTO⟩, h1.at fun o e => oth _ o s4.symm e, h2.at fun o e => oth _ o s5.symm e, hl1.at fun o e => oth _ o s6.symm e, hl2.at fun o e => oth _ o s7.symm e⟩
      rcases hz with hz | ⟨T, f, oT, hz, hT, t1, t2, t3⟩
      · exact .inl (oth _ _ s1.symm hz)
      · by_cases hTS : T = S
        · subst hTS
          exact .inr ⟨T, f, _, oth _ _ s1.symm hz, Heap.get?_update_self _ hS' rfl, t1, t2, t3⟩
        · exact .inr ⟨T, f, oT, oth _ _ s1.symm hz, oth _ _ hTS hT, t1, t2, t3⟩
    · intro t ht
      rw [usz]
      rcases List.mem_append.mp ht with ht | ht
      · have := hG.above t ht
        exact ⟨this.1, Nat.lt_trans this.2 hsz⟩
      · rw [List.mem_singleton.mp ht]
        exact ⟨Ssz, hsz⟩
    · refine List.pairwise_append.mpr ⟨hG.rise, List.pairwise_singleton _ _, fun a ha b hb => ?_⟩
      rw [List.mem_singleton.mp hb]
      exact (hG.above a ha).2
    · intro j t hj
      by_cases hji : j < i
      · rw [List.getElem?_append_left (by omega)] at hj
        obtain ⟨x, y, e1, e2, e3⟩ := hG.pairs j t hj
        have tm := hG.above t (List.mem_of_getElem? hj)
        exact ⟨x, y, e1, e2, oth _ _ (Nat.ne_of_gt tm.1) (hm _ _ (Nat.ne_of_gt (Nat.lt_trans zS tm.1)) (Nat.ne_of_gt (Nat.lt_trans TOS tm.1)) (Nat.ne_of_gt (Nat.lt_trans i1S tm.1)) (Nat.ne_of_gt (Nat.lt_trans i2S tm.1)) e3)⟩
      · have hj0 := (List.getElem?_eq_some_iff.mp hj).1
        rw [List.length_append, hl] at hj0
        have hj1 : j = i := by
          have : [s.heap.objs.size].length = 1 := rfl
          omega
        subst hj1
        rw [List.getElem?_append_right (by omega), hl, Nat.sub_self] at hj
        obtain rfl : s.heap.objs.size = t := Option.some.inj hj
        exact ⟨_, _, ex, ey, oth _ _ (Nat.ne_of_gt Ssz) hp⟩
    · exact hR h'' acc'' c'' as'' (fun b o b0 b1 b2 b3 b4 e => hm'' b o b0 b1 b2 b3 b4 (oth b o b0 (hm b o b1 b2 b3 b4 e))) hS'' hG'' hl'' ha''
theorem zip_no_len : typeLookup (.type "zip") "__len__" = pure none := by rw [typeLookup_type, builtinLookup_eq_fast]; kernel_rfl
theorem zip_no_hint : typeLookup (.type "zip") "__length_hint__" = pure none := by rw [typeLookup_type, builtinLookup_eq_fast]; kernel_rfl
theorem ZSt.at {h h' : Heap} {z TI TO i1 i2 l1 l2 S : Addr} {xs ys : Array Value} (hz : ZSt h z TI TO i1 i2 l1 l2 xs ys 0) (h0 : IsZip h z TI TO .none) (s1 : S ≠ z) (s2 : S ≠ TI) (s3 : S ≠ TO) (s4 : S ≠ i1) (s5 : S ≠ i2) (s6 : S ≠ l1) (s7 : S ≠ l2)
    (oth : ∀ b o, b ≠ S → h.get? b = some o → h'.get? b = some o) : ZSt h' z TI TO i1 i2 l1 l2 xs ys 0 ∧ IsZip h' z TI TO .none := by
  obtain ⟨_, hTI, ⟨a, b, hTO⟩, h1, h2, hl1, hl2⟩ := hz
  have hz' := oth _ _ s1.symm h0
  exact ⟨⟨.inl hz', oth _ _ s2.symm hTI, ⟨a, b, oth _ _ s3.symm hTO⟩, h1.at fun o e => oth _ o s4.symm e, h2.at fun o e => oth _ o s5.symm e, hl1.at fun o e => oth _ o s6.symm e, hl2.at fun o e => oth _ o s7.symm e⟩, hz'⟩
theorem extend_zip {z TI TO i1 i2 l1 l2 S : Addr} {xs ys : Array Value} {n c₀ : Nat} {R : Result → Shared → Prop} {s : Shared} (hh : A.in1.handled = none) (D : ZipApart z TI TO i1 i2 l1 l2) (hx : xs.size = n) (hy : ys.size = n) (hn : n ≤ sizeLine)
    (s1 : S ≠ z) (s2 : S ≠ TI) (s3 : S ≠ TO) (s4 : S ≠ i1) (s5 : S ≠ i2) (s6 : S ≠ l1) (s7 : S ≠ l2) (zS : z < S) (TOS : TO < S) (i1S : i1 < S) (i2S : i2 < S)
    (hst : ZSt s.heap z TI TO i1 i2 l1 l2 xs ys 0) (h0 : IsZip s.heap z TI TO .none) (hS : s.heap.get? S = some { cls := .type "list", dict := none, data := .seq #[] c₀, slots := #[] })
    (hR : ∀ h' acc' c' as', (∀ b o, b ≠ S → b ≠ z → b ≠ TO → b ≠ i1 → b ≠ i2 → s.heap.get? b = some o → h'.get? b = some o) → h'.get? S = some { cls := .type "list", dict := none, data := .seq acc' c', slots := #[] } → ZG h' S xs ys as' → as'.length = n → acc'.toList = as'.map Value.ref → R (.ok (.ret .none)) { s with heap := h' }) :
    wpAny (model prog w) A.in1 (Builtin.List.listExtendWith (.ref S) (.ref z) .none)
      (fun fin s' => match fin with | .done f => R (.ok f) s' | .again c' => c'.quiet = true ∧ codeAny (model prog w) A c' R s') (fun e s' => R (.error e) s') s := by
  have hT : s.TypeIs (.ref z) "zip" := ⟨_, h0, rfl⟩
  unfold Builtin.List.listExtendWith
  refine wpAny_bind (wpAny_typeOf hT ?_)
  have h1 : Builtin.List.listSameRef (.ref S) (.ref z) = false := by simp [Builtin.List.listSameRef, s1]
  have h2 : (Value.type "zip" == Value.type "list") = false := by decide
  have h3 : (Value.type "zip" == Value.type "tuple") = false := by decide
  simp only [h1, h2, h3, Bool.or_false, Bool.false_eq_true, if_false]
  refine wpAny_bind (wpAny_pyIter_zip h0 ?_)
  refine wpAny_bind (wpAny_holding ?_)
  unfold Builtin.List.listLengthHint
  refine wpAny_bind (wpAny_specialOf hT zip_no_len ?_)
  show wpAny _ A.in1 (specialOf (Value.ref z) (Str.ofString "__length_hint__") >>= _) _ _ _
  refine wpAny_bind (wpAny_specialOf hT zip_no_hint ?_)
  refine wpAny_pure ?_
  show wpAny _ A.in1 (rule "list.extend.makes-room" >>= fun _ => Builtin.List.listTouch (.ref S) >>= fun _ =>
    again (.builtin "list.extend.loop" ⟨[.ref S, .ref z, .none], []⟩)) _ _ _
  refine wpAny_bind (wpAny_rule ?_)
  refine wpAny_bind ?_
  show wpAny _ A.in1 (updateSeq S (·.push .none) >>= fun _ => updateSeq S (·.pop)) _ _ _
  refine wpAny_bind (wpAny_updateSeq hS rfl ?_)
  have hS₂ := Heap.get?_update_self (Obj.mapSeq (·.push Value.none)) hS rfl
  refine wpAny_updateSeq (hz := by seq_fits) hS₂ rfl ?_
  have hS₃ := Heap.get?_update_self (Obj.mapSeq (·.pop)) hS₂ rfl
  have oth : ∀ b o, b ≠ S → s.heap.get? b = some o → ((s.heap.update S (Obj.mapSeq (·.push Value.none))).update S (Obj.mapSeq (·.pop))).get? b = some o :=
    fun b o hb e => (Heap.get?_update_other _ _ (Ne.symm hb)).trans ((Heap.get?_update_other _ _ (Ne.symm hb)).trans e)
  obtain ⟨hst', h0'⟩ := hst.at h0 s1 s2 s3 s4 s5 s6 s7 oth
  refine wpAny_pure ⟨plainId_quiet F.plain_extend_loop _, zip_loop hh D hx hy hn s1 s2 s3 s4 s5 s6 s7 zS TOS i1S i2S n 0 _ _ _ [] rfl (Nat.zero_le _) hst' hS₃ ⟨fun t ht => (nomatch ht), .nil, fun j t hj => by simp at hj⟩ rfl rfl fun h' acc' c' as' hm hS' hG hl ha => ?_⟩
  exact hR h' acc' c' as' (fun b o b0 b1 b2 b3 b4 e => hm b o b0 b1 b2 b3 b4 (oth b o b0 e)) hS' hG hl ha
theorem call_list_zip {z TI TO i1 i2 l1 l2 : Addr} {xs ys : Array Value} {n : Nat} {Q : Value → Shared → Prop} {s : Shared} (hh : A.handled = none) (D : ZipApart z TI TO i1 i2 l1 l2) (hx : xs.size = n) (hy : ys.size = n) (hn : n ≤ sizeLine)
    (hst : ZSt s.heap z TI TO i1 i2 l1 l2 xs ys 0) (h0 : IsZip s.heap z TI TO .none)
    (hQ : ∀ h' acc' c' as', (∀ b o, b ≠ z → b ≠ TO → b ≠ i1 → b ≠ i2 → s.heap.get? b = some o → h'.get? b = some o) → h'.get? s.heap.objs.size = some { cls := .type "list", dict := none, data := .seq acc' c', slots := #[] } → ZG h' s.heap.objs.size xs ys as' → as'.length = n → acc'.toList = as'.map Value.ref → Q (.ref s.heap.objs.size) { s with heap := h' }) :
    wpAny (model prog w) A (call (.type "list") [.ref z]) Q E s := by
  have lt : ∀ {c o}, s.heap.get? c = some o → c < s.heap.objs.size := fun e => Heap.lt_size e
  have hst0 := hst
  obtain ⟨_, hTI, ⟨a, b, hTO⟩, h1, h2, hl1, hl2⟩ := hst0
  have z1 := lt h0
  have z2 := lt hTI
  have z3 := lt hTO
  have z4 : i1 < s.heap.objs.size := by obtain ⟨_, e, _⟩ := h1; exact lt e
  have z5 : i2 < s.heap.objs.size := by obtain ⟨_, e, _⟩ := h2; exact lt e
  have z6 : l1 < s.heap.objs.size := by obtain ⟨_, e, _⟩ := hl1; exact lt e
  have z7 : l2 < s.heap.objs.size := by obtain ⟨_, e, _⟩ := hl2; exact lt e
  refine callType_codes (Q₁ := fun obj s₁ => obj = .ref s.heap.objs.size ∧ s₁ = { s with heap := s.heap.push { cls := .type "list", data := .seq #[] } }) F.called_list (F.typeCall_list_1 _) F.entry_list_init
    (code_list_new _ ⟨rfl, rfl⟩) fun obj s₁ h₁ => ?_
  obtain ⟨rfl, rfl⟩ := h₁
  have hS : (s.heap.push { cls := .type "list", data := .seq #[] }).get? s.heap.objs.size = some { cls := .type "list", data := .seq #[] } := Heap.get?_push_size _ rfl
  refine ⟨⟨_, hS, rfl⟩, F.args_list_init_2 _ _, ?_⟩
  show wpAny _ A.in1.in1 (do let old ← Builtin.List.listItems (.ref s.heap.objs.size); Builtin.List.listUpdate (.ref s.heap.objs.size) (fun _ => #[]); letGo old.toList.reverse; Builtin.List.listExtendWith (.ref s.heap.objs.size) (.ref z) .none) _ _ _
  refine wpAny_bind ?_
  unfold Builtin.List.listItems
  refine wpAny_bind (wpAny_seqItems hS rfl (wpAny_pure ?_))
  show wpAny _ A.in1.in1 (updateSeq s.heap.objs.size (fun _ => #[]) >>= fun _ => letGo (#[] : Array Value).toList.reverse >>= fun _ => Builtin.List.listExtendWith (.ref s.heap.objs.size) (.ref z) .none) _ _ _
  refine wpAny_bind (wpAny_updateSeq hS rfl ?_)
  have hS₂ := Heap.get?_update_self (Obj.mapSeq (fun _ => (#[] : Array Value))) hS rfl
  have oth : ∀ b o, b ≠ s.heap.objs.size → s.heap.get? b = some o → ((s.heap.push { cls := .type "list", data := .seq #[] }).update s.heap.objs.size (Obj.mapSeq (fun _ => (#[] : Array Value)))).get? b = some o :=
    fun b o hb e => (Heap.get?_update_other _ _ (Ne.symm hb)).trans (Heap.get?_push_of_some _ e)
  refine wpAny_bind (wpAny_letGo ?_)
  obtain ⟨hst', h0'⟩ := hst.at h0 (Nat.ne_of_gt z1) (Nat.ne_of_gt z2) (Nat.ne_of_gt z3) (Nat.ne_of_gt z4) (Nat.ne_of_gt z5) (Nat.ne_of_gt z6) (Nat.ne_of_gt z7) oth
  refine extend_zip (A := A.in1) (R := wants (fun r s₂ => r = .none ∧ Q (.ref s.heap.objs.size) s₂) E) hh D hx hy hn (Nat.ne_of_gt z1) (Nat.ne_of_gt z2) (Nat.ne_of_gt z3) (Nat.ne_of_gt z4) (Nat.ne_of_gt z5) (Nat.ne_of_gt z6) (Nat.ne_of_gt z7) z1 z3 z4 z5 hst' h0' hS₂ fun h' acc' c' as' hm hS' hG hl ha => ?_
  exact ⟨rfl, hQ h' acc' c' as' (fun b o b1 b2 b3 b4 e => hm b o (Nat.ne_of_lt (Heap.lt_size e)) b1 b2 b3 b4 (oth b o (Nat.ne_of_lt (Heap.lt_size e)) e)) hS' hG hl ha⟩
end
/-! the rule -/
def putZ : Hp → List Addr → List (V × V) → Hp
  | H, a :: as, p :: ps => putZ (upd H a (.tup [p.1, p.2])) as ps
  | H, _, _ => H
theorem putZ_off {b : Addr} : ∀ (as : List Addr) (ps : List (V × V)) (H : Hp), b ∉ as → putZ H as ps b = H b
  | [], _, _, _ => rfl
  | _ :: _, [], _, _ => rfl
  | a :: as, p :: ps, H, h => by
    show putZ (upd H a (.tup [p.1, p.2])) as ps b = H b
    rw [putZ_off as ps _ (fun z => h (List.mem_cons_of_mem _ z)), upd_ne (fun z => h (by rw [z]; exact List.mem_cons_self))]
theorem putZ_at : ∀ (as : List Addr) (ps : List (V × V)) (H : Hp), as.length = ps.length → as.Nodup → Paired (fun (t : Addr) (p : V × V) => putZ H as ps t = some (.tup [p.1, p.2])) as ps
  | [], [], _, _, _ => .nil
  | [], _ :: _, _, h, _ => by cases h
  | _ :: _, [], _, h, _ => by cases h
  | a :: as, p :: ps, H, h, hn => by
    have hn' := List.nodup_cons.mp hn
    have ih := putZ_at as ps (upd H a (.tup [p.1, p.2])) (Nat.succ.inj h) hn'.2
    refine .cons ?_ ih
    show putZ (upd H a (.tup [p.1, p.2])) as ps a = some (.tup [p.1, p.2])
    rw [putZ_off as ps _ hn'.1, upd_same]
theorem valsAt : ∀ {xs : List V} {its : List Value}, Vals xs its → ∀ {i : Nat} {u : Value}, its[i]? = some u → ∃ x, xs[i]? = some x ∧ RelV x u
  | _, _, .nil, i, u, h => by cases h
  | _, _, .cons r t, 0, u, h => by
    obtain rfl := Option.some.inj h
    exact ⟨_, rfl, r⟩
  | _, _, .cons r t, i + 1, u, h => valsAt t h
def tLZip (K : PySem.W.Frag) (ta : TA) : TE := fun σ H Q => ta σ H fun vs H1 => ∃ a b xs ys, vs = [.ref a, .ref b] ∧ SqL K H1 a xs ∧ SqL K H1 b ys ∧ xs.length = ys.length ∧
  ∀ (H' : Hp) (p : Addr) (ts : List Addr), Same H1 H' → H' p = some (.lst (ts.map V.ref)) → Paired (fun (t : Addr) (q : V × V) => H' t = some (.tup [q.1, q.2])) ts (xs.zip ys) → Q (.ref p) H'
section
variable {X : Cx}
theorem zip_laid {pins : List (Addr × Obj)} {σ : L2.St} {H : Hp} {s : Shared} {h' : Heap} {tk : Nat} {S c : Addr} {xs ys : List V} {us ws : List Value} {acc : Array Value} {as : List Addr} (I : Inv X pins σ H s) (rx : Vals xs us) (ry : Vals ys ws) (hl : xs.length = ys.length) (hz : xs.length ≤ sizeLine)
    (hk : ∀ b o, s.heap.get? b = some o → h'.get? b = some o) (hS0 : s.heap.objs.size ≤ S) (hS : h'.get? S = some { cls := .type "list", dict := none, data := .seq acc c, slots := #[] }) (hla : as.length = xs.length) (hG : ZG h' S us.toArray ws.toArray as) (hacc : acc.toList = as.map Value.ref) :
    ∃ H' : Hp, Same H H' ∧ H' S = some (.lst (as.map V.ref)) ∧ Paired (fun (t : Addr) (q : V × V) => H' t = some (.tup [q.1, q.2])) as (xs.zip ys) ∧ Inv X pins σ H' { s with heap := h', toks := tk } := by
  have hSn : S ∉ as := fun z => Nat.lt_irrefl _ (hG.above _ z).1
  have nd : as.Nodup := List.Pairwise.imp (fun {a b} (h : a < b) => Nat.ne_of_lt h) hG.rise
  have new : ∀ t ∈ as, H t = none := fun t ht => I.hok.fresh (Nat.le_trans hS0 (Nat.le_of_lt (hG.above t ht).1))
  have newS : H S = none := I.hok.fresh hS0
  have zl : (xs.zip ys).length = xs.length := by rw [List.length_zip, ← hl, Nat.min_self]
  have atP := putZ_at as (xs.zip ys) (upd H S (.lst (as.map V.ref))) (by omega) nd
  have off : ∀ b, b ∉ as → b ≠ S → putZ (upd H S (.lst (as.map V.ref))) as (xs.zip ys) b = H b := fun b h1 h2 => by rw [putZ_off as _ _ h1, upd_ne h2]
  have low : ∀ b o, s.heap.get? b = some o → b ∉ as ∧ b ≠ S := fun b o e => ⟨fun z => absurd (Heap.lt_size e) (Nat.not_lt.mpr (Nat.le_trans hS0 (Nat.le_of_lt (hG.above b z).1))), Nat.ne_of_lt (Nat.lt_of_lt_of_le (Heap.lt_size e) hS0)⟩
  have kp : ∀ b u, H b = some u → (putZ (upd H S (.lst (as.map V.ref))) as (xs.zip ys)) b = some u := fun b u e => by
    rw [off b (fun z => by rw [new b z] at e; cases e) (fun z => by rw [z, newS] at e; cases e)]
    exact e
  have eS : putZ (upd H S (.lst (as.map V.ref))) as (xs.zip ys) S = some (.lst (as.map V.ref)) := by rw [putZ_off as _ _ hSn, upd_same]
  refine ⟨putZ (upd H S (.lst (as.map V.ref))) as (xs.zip ys), kp, eS, atP, ?_⟩
  refine I.call' (ch := []) rfl ⟨fun b o q _ _ _ => hk b o q, fun b o q _ _ _ => ⟨o.slots, hk b o q⟩, fun b o q n _ => ?_, fun b o q _ => ⟨o, hk b o q⟩, fun b xs q => kp b _ q, fun b o u q => kp b _ q, fun b ps q => ⟨#[], by rw [kp b _ q]; simp⟩⟩ (fun b u q => ?_) I.bare fun b z => by simp at z
  · obtain ⟨z1, z2⟩ := low b o q
    rw [off b z1 z2]
    exact n
  · by_cases hb : b ∈ as
    · obtain ⟨j, pk, e1, e2, e3⟩ := LiI.paired_ix atP hb
      rw [e3] at q
      cases q
      obtain ⟨x, y, f1, f2, f3⟩ := hG.pairs j b e1
      obtain ⟨vx, g1, g2⟩ := valsAt rx (show us[j]? = some x by simpa using f1)
      obtain ⟨vy, g3, g4⟩ := valsAt ry (show ws[j]? = some y by simpa using f2)
      have ez : (xs.zip ys)[j]? = some (vx, vy) := by
        rw [List.getElem?_zip_eq_some]
        exact ⟨g1, g3⟩
      obtain rfl : (vx, vy) = pk := Option.some.inj (ez.symm.trans e2)
      exact ⟨by show 2 ≤ sizeLine; decide, [x, y], .cons g2 (.cons g4 .nil), ⟨_, f3, rfl, _, rfl⟩⟩
    · by_cases hb2 : b = S
      · rw [hb2] at q ⊢
        rw [eS] at q
        cases q
        refine ⟨by rw [List.length_map]; omega, acc.toList, c, by rw [hacc]; exact LiI.vals_refs as, ?_⟩
        rw [Array.toArray_toList]
        exact hS
      · rw [off b hb hb2] at q
        exact (I.hok b u q).stay (fun d v _ y => hk d v y) (fun d y => kp d _ y) fun d xs y => kp d _ y
/-- list(zip(x, y)), two lists of one length -/
theorem pe_lzip {e e2 : Expr} {ta : TA} {p p2 pos pos2 : Pos} (hc : X.calm = true) (hg : Gl X "list") (hm : X.mg "list" = none) (hg2 : Gl X "zip") (hm2 : X.mg "zip" = none) (ha : PA X [e, e2] ta)
    (na : starEach [.Call (.Name "zip" p2) [e, e2] [] pos2] X.env = (false, eval (.Call (.Name "zip" p2) [e, e2] [] pos2) X.env) :: starEach [] X.env := by rfl)
    (hs : starEach [e, e2] X.env = (false, eval e X.env) :: starEach [e2] X.env := by rfl) (hpl : (backTo pos2 (starEach [e2] X.env)).any (·.1) = false := by rfl) :
    PE X (.Call (.Name "list" p) [.Call (.Name "zip" p2) [e, e2] [] pos2] [] pos) (tLZip X.K ta) := by
  refine ⟨fun pins s σ H Q I h => ?_⟩
  refine Call_ (ld_blt I hg hm boot_list (PyProof.Rows.callWith_type1 (args_cons ?_ na) na))
  refine Call_ (ld_blt I hg2 hm2 PyProof.Rows.boot_zip (PyProof.Rows.callWith_type1 (thn (ha.run pos2 pins s σ H _ I h) fun us s1 ⟨vs, H1, I1, r1, q1⟩ => ?_) hs hpl))
  obtain ⟨a, b, xs, ys, ex, hqx, hqy, hl, q⟩ := q1
  subst ex
  cases r1 with
  | cons r rr =>
    cases rr with
    | cons r' rr =>
      cases rr
      cases r
      cases r'
      obtain ⟨its, rv, p1, z1⟩ := I1.list hqx
      obtain ⟨its2, rv2, p2, z2⟩ := I1.list hqy
      have la : a < s1.heap.objs.size := p1.lt
      have lb : b < s1.heap.objs.size := p2.lt
      refine call_zip_2 p1.isList p2.isList fun h' hz hTI hTO h1 h2 hsz hk => args_nil ?_
      have hst : ZSt h' (s1.heap.objs.size + 4) (s1.heap.objs.size + 2) (s1.heap.objs.size + 3) s1.heap.objs.size (s1.heap.objs.size + 1) a b its.toArray its2.toArray 0 := ⟨.inl hz, hTI, ⟨_, _, hTO⟩, h1, h2, p1.isList.at fun o e => hk _ o e, p2.isList.at fun o e => hk _ o e⟩
      have e1 := rv.length
      have e2 := rv2.length
      refine call_list_zip (s := { s1 with heap := h' }) (n := xs.length) (I1.ok.hd hc) (PySem.W.ktu_apart s1.heap.objs.size a b la lb) (by simp; omega) (by simp; omega) z1 hst hz fun h'' acc c as hm hS hG hla hacc => ?_
      have ks : ∀ b o, s1.heap.get? b = some o → h''.get? b = some o := fun c o e => by
        have hlt := Heap.lt_size e
        exact hm c o (Nat.ne_of_lt (Nat.lt_of_lt_of_le hlt (Nat.le_add_right _ _))) (Nat.ne_of_lt (Nat.lt_of_lt_of_le hlt (Nat.le_add_right _ _))) (Nat.ne_of_lt hlt) (Nat.ne_of_lt (Nat.lt_of_lt_of_le hlt (Nat.le_add_right _ _))) (hk c o e)
      obtain ⟨H', k1, k2, k3, J⟩ := zip_laid (tk := s1.toks) I1 rv rv2 hl z1 ks (by show s1.heap.objs.size ≤ h'.objs.size; omega) hS hla hG hacc
      exact ⟨.ref _, H', J, rfl, q H' _ as k1 k2 k3⟩
end
end FT

/-! lots of pairs as data; type(x) of own objects -/
namespace FT
open PySem PySem.Spec PyProof.Rows L2
/-- a pair, as a tuple -/
def PrT (H : Hp) (x : V) (p : Nat × Nat) : Prop := ∃ t, x = .ref t ∧ H t = some (.tup [.int (p.1 : Int), .int (p.2 : Int)])
theorem PrT.keep {H H' : Hp} {x : V} {p : Nat × Nat} (h : PrT H x p) (s : Same H H') : PrT H' x p := by
  obtain ⟨t, e, q⟩ := h
  exact ⟨t, e, s _ _ q⟩
theorem PrT.i {H : Hp} {x : V} {p : Nat × Nat} (h : PrT H x p) : PrI H x p := by
  obtain ⟨t, e, q⟩ := h
  exact ⟨t, e, .inr q⟩
def dpr (p : Nat × Nat) : PyData := .tuple [.int (p.1 : Int), .int (p.2 : Int)]
def dprs (ps : MC.Pr) : List PyData := ps.map dpr
theorem dp_prs {K : PySem.W.Frag} {H : Hp} : ∀ {xs : List V} {ps : MC.Pr}, Paired (PrT H) xs ps → DpAll K H xs (dprs ps)
  | _, _, .nil => .nil
  | _, _, .cons ⟨t, e, h⟩ r => by
    subst e
    exact .cons (.tup (SqT.of h) (.cons (.int _) (.cons (.int _) .nil))) (dp_prs r)
theorem eqv_pr (p q : Nat × Nat) : PyData.eqv (dpr p) (dpr q) = decide (p = q) := by
  unfold dpr
  simp only [PyData.eqv, PyData.eqvAll]
  obtain ⟨a, b⟩ := p
  obtain ⟨c, d⟩ := q
  by_cases h1 : a = c <;> by_cases h2 : b = d <;> simp [h1, h2] <;> omega
theorem eqvAll_prs : ∀ ps qs : MC.Pr, PyData.eqvAll (dprs ps) (dprs qs) = decide (ps = qs)
  | [], [] => by simp [dprs, PyData.eqvAll]
  | [], q :: qs => by simp [dprs, PyData.eqvAll]
  | p :: ps, [] => by simp [dprs, PyData.eqvAll]
  | p :: ps, q :: qs => by
    have ih := eqvAll_prs ps qs
    unfold dprs at ih ⊢
    simp only [List.map_cons, PyData.eqvAll, ih, eqv_pr]
    by_cases h1 : p = q <;> by_cases h2 : ps = qs <;> simp [h1, h2]
theorem lay_prs : ∀ ps : MC.Pr, PyData.canLayAll0 (dprs ps) = true
  | [] => by simp [dprs, PyData.canLayAll0]
  | p :: ps => by
    have ih := lay_prs ps
    unfold dprs at ih ⊢
    simp only [List.map_cons, PyData.canLayAll0, ih, dpr, PyData.canLay0, Bool.and_self]
theorem depth_prs : ∀ ps : MC.Pr, PyData.depthAll (dprs ps) ≤ 1
  | [] => by simp [dprs, PyData.depthAll]
  | p :: ps => by
    have ih := depth_prs ps
    unfold dprs at ih ⊢
    simp only [List.map_cons, PyData.depthAll, dpr, PyData.depth]
    omega
theorem shaped_tps (ps : MC.Pr) : SeqAt.shaped (.tuple (dprs ps)) = true := by
  have := depth_prs ps
  unfold SeqAt.shaped
  simp only [PyData.canLay0, PyData.depth, lay_prs, Bool.true_and]
  exact decide_eq_true (by omega)
theorem shaped_lps (ps : MC.Pr) : SeqAt.shaped (.list (dprs ps)) = true := by
  have := depth_prs ps
  unfold SeqAt.shaped
  simp only [PyData.canLay0, PyData.depth, lay_prs, Bool.true_and]
  exact decide_eq_true (by omega)
theorem eqv_tps (ps qs : MC.Pr) : PyData.eqv (.tuple (dprs ps)) (.tuple (dprs qs)) = decide (ps = qs) := by
  simp only [PyData.eqv, eqvAll_prs]
theorem eqv_lps (ps qs : MC.Pr) : PyData.eqv (.list (dprs ps)) (.list (dprs qs)) = decide (ps = qs) := by
  simp only [PyData.eqv, eqvAll_prs]
section
variable {X : Cx}
/-- type(x), x an own object -/
def rTyO : List V → Hp → VK → Prop := fun xs H Q => ∃ a C dx fs, xs = [V.ref a] ∧ H a = some (.ins C dx fs) ∧ Q (.ref C) H
theorem call_typeO : CallR X (.type "type") rTyO := by
  intro pins s σ H xs us Q I r h
  obtain ⟨a, C, dx, fs, rfl, ha, q⟩ := h
  obtain ⟨u, rfl, ru⟩ := r.one
  cases (show u = Value.ref a from ru)
  obtain ⟨mA, J, _⟩ := ins_get I.hok ha
  obtain ⟨od, J, _⟩ := J.look
  exact PySem.W.kto_own J ⟨.ref C, H, I, rfl, q⟩
/-- x is x -/
theorem op_isSelf : OpR X (compareOp .Is) (fun x y H Q => ∃ a, x = .ref a ∧ y = .ref a ∧ Q (.bl true) H) := by
  intro pins s σ H x y v u Q I rx ry h
  obtain ⟨a, rfl, rfl, q⟩ := h
  cases (show v = Value.ref a from rx)
  cases (show u = Value.ref a from ry)
  exact wpAny_is_ref_self ⟨.bl true, H, I, rfl, q⟩
end
/-! texts of tuples -/
theorem joinL_leS {S : List Nat} {m : Nat} : ∀ ps : List (List Nat), (∀ p ∈ ps, p.length ≤ m) → (TL.joinL S ps).length ≤ ps.length * (m + S.length)
  | [], _ => Nat.zero_le _
  | [p], h => by
    have := h p List.mem_cons_self
    show p.length ≤ 1 * _
    omega
  | p :: q :: r, h => by
    have h1 := h p List.mem_cons_self
    have h2 := joinL_leS (S := S) (m := m) (q :: r) fun z hz => h z (List.mem_cons_of_mem _ hz)
    show (p ++ (S ++ TL.joinL S (q :: r))).length ≤ ((q :: r).length + 1) * _
    rw [List.length_append, List.length_append, Nat.succ_mul]
    omega
theorem tupleText_le {m : Nat} {ts : List Str} (h : ∀ t ∈ ts, t.length ≤ m) : (tupleText ts).length ≤ ts.length * (m + 2) + 3 := by
  unfold tupleText
  rw [strLen_append, strLen_append, TL.len_tl (Str.join ", " ts), TL.tl_join]
  have h1 := joinL_leS (S := TL.tl ", ") (m := m) (ts.map TL.tl) fun p hp => by
    obtain ⟨x, hx, rfl⟩ := List.mem_map.mp hp
    rw [← TL.len_tl]
    exact h x hx
  rw [List.length_map] at h1
  have e1 : (TL.tl ", ").length = 2 := rfl
  rw [e1] at h1
  have e2 : (("(" : Str)).length = 1 := rfl
  have e3 : Str.length (Str.ofString (if ts.length == 1 then ",)" else ")" : String)) ≤ 2 := by split <;> decide
  omega
theorem int13 {n : Nat} (h : n ≤ 13) : (Str.ofString (toString (n : Int))).length ≤ 2 := by
  have := List.all_eq_true.mp (show (List.range 14).all (fun n => decide ((Str.ofString (toString (n : Int))).length ≤ 2)) = true by decide +kernel) n (List.mem_range.mpr (by omega))
  exact of_decide_eq_true this
theorem log13' {n : Nat} (h : n ≤ 13) : ((n : Int)).natAbs.log2 < 1920 := by
  have := List.all_eq_true.mp (show (List.range 14).all (fun n => decide (((n : Int)).natAbs.log2 < 1920)) = true by decide +kernel) n (List.mem_range.mpr (by omega))
  exact of_decide_eq_true this
theorem show_pr {p : Nat × Nat} (h1 : p.1 ≤ 13) (h2 : p.2 ≤ 13) : (dpr p).shown.length ≤ 11 := by
  unfold dpr
  simp only [PyData.shown, PyData.shownAll]
  refine Nat.le_trans (tupleText_le (m := 2) fun t ht => ?_) (by show 2 * 4 + 3 ≤ 11; decide)
  rcases List.mem_cons.mp ht with rfl | ht
  · exact int13 h1
  · rw [List.mem_singleton.mp ht]
    exact int13 h2
theorem showable_prs : ∀ {ps : MC.Pr}, (∀ p ∈ ps, p.1 ≤ 13 ∧ p.2 ≤ 13) → PyData.showableAll (dprs ps) = true
  | [], _ => by simp [dprs, PyData.showableAll]
  | p :: ps, h => by
    obtain ⟨h1, h2⟩ := h p List.mem_cons_self
    have ih := showable_prs fun q hq => h q (List.mem_cons_of_mem _ hq)
    unfold dprs at ih ⊢
    simp only [List.map_cons, PyData.showableAll, ih, dpr, PyData.showable, Bool.and_true, Bool.and_eq_true, decide_eq_true_eq]
    exact ⟨log13' h1, log13' h2⟩
/-- the repr of a tuple of pairs, as a word -/
@[irreducible] def showP (ps : MC.Pr) : Str := (PyData.tuple (dprs ps)).shown
theorem rep_prs {K : PySem.W.Frag} {H : Hp} {q : Addr} {xs : List V} {ps : MC.Pr} {Q : VK} (h : H q = some (.tup xs)) (pp : Paired (PrT H) xs ps) (hb : ∀ p ∈ ps, p.1 ≤ 13 ∧ p.2 ≤ 13) (hl : ps.length ≤ 12) (k : Q (.str (showP ps)) H) : rRepr K [.ref q] H Q ∨ rReprD [.ref q] H Q := by
  unfold showP at k
  refine .inl ⟨_, .tuple (dprs ps), rfl, .tup (SqT.of h) (dp_prs pp), by simp only [PyData.showable, showable_prs hb], ?_, ?_, k⟩
  · have := depth_prs ps
    simp only [PyData.depth]
    omega
  · simp only [PyData.shown, shownAll_map]
    refine Nat.le_trans (tupleText_le (m := 11) fun t ht => ?_) ?_
    · obtain ⟨d, hd, rfl⟩ := List.mem_map.mp ht
      obtain ⟨p, hp, rfl⟩ := List.mem_map.mp hd
      exact show_pr (hb p hp).1 (hb p hp).2
    · unfold dprs
      rw [List.length_map, List.length_map]
      have : ps.length * (11 + 2) ≤ 12 * 13 := Nat.mul_le_mul_right _ hl
      have z : (200 : Nat) ≤ sizeLine := by decide
      omega
theorem showable_ints : ∀ {ns : List Nat}, (∀ n ∈ ns, n ≤ 13) → PyData.showableAll ((ns.map fun (n : Nat) => (n : Int)).map PyData.int) = true
  | [], _ => by simp [PyData.showableAll]
  | n :: ns, h => by
    have ih := showable_ints fun m hm => h m (List.mem_cons_of_mem _ hm)
    simp only [List.map_cons, PyData.showableAll, ih, PyData.showable, Bool.and_true, decide_eq_true_eq]
    exact log13' (h n List.mem_cons_self)
/-- the repr of a tuple of numbers -/
@[irreducible] def showN (ns : List Nat) : Str := (PyData.tuple ((ns.map fun (n : Nat) => (n : Int)).map PyData.int)).shown
theorem rep_nums {K : PySem.W.Frag} {H : Hp} {q : Addr} {ns : List Nat} {Q : VK} (h : H q = some (.tup (nv ns))) (hb : ∀ n ∈ ns, n ≤ 13) (hl : ns.length ≤ 100) (k : Q (.str (showN ns)) H) : rRepr K [.ref q] H Q ∨ rReprD [.ref q] H Q := by
  unfold showN at k
  refine .inl ⟨_, .tuple ((ns.map fun (n : Nat) => (n : Int)).map PyData.int), rfl, .tup (SqT.of h) (by rw [nv_ints]; exact dp_ints _), by simp only [PyData.showable, showable_ints hb], ?_, ?_, k⟩
  · simp only [PyData.depth, depthAll_ints]
    omega
  · simp only [PyData.shown, shownAll_map]
    refine Nat.le_trans (tupleText_le (m := 2) fun t ht => ?_) ?_
    · obtain ⟨d, hd, rfl⟩ := List.mem_map.mp ht
      obtain ⟨i, hi, rfl⟩ := List.mem_map.mp hd
      obtain ⟨n, hn, rfl⟩ := List.mem_map.mp hi
      simp only [PyData.shown]
      exact int13 (hb n hn)
    · rw [List.length_map, List.length_map, List.length_map]
      have : ns.length * (2 + 2) ≤ 100 * 4 := Nat.mul_le_mul_right _ hl
      have z : (500 : Nat) ≤ sizeLine := by decide
      omega
/-- list(x), x a list or a tuple -/
def rListOf (K : PySem.W.Frag) : List V → Hp → VK → Prop := fun xs H Q => ∃ p ys, xs = [V.ref p] ∧ (SqL K H p ys ∨ SqT K H p ys) ∧ ∀ l, H l = none → Q (.ref l) (upd H l (.lst ys))
end FT

/-! an own error caught by a name: isinstance and its fields -/
namespace FT
open PySem PySem.Spec PyProof.Rows L2
open LamX hiding takes0
/-- what isinstance asks of the class of a caught error -/
structure ExcF (K : PySem.W.Frag) (D : Addr) : Prop where
  cl : (PySem.W.clsIn K D).isSome = true
  ga : PySem.W.findIn K (.ref D) "__getattribute__" = some (some (.builtin "BaseException.__getattribute__"))
  gg : PySem.W.findIn K (.ref D) "__getattr__" = some none
  sb : PySem.W.subIn K (.ref D) (.type "BaseException") = some true
  ca : PySem.W.findIn K (.ref D) "__class__" = some (some (.builtin "object.__class__"))
  cn : PySem.W.specialIn K (.builtin "object.__class__") "__get__" = some (some (.builtin "getset_descriptor.__get__"))
  ct : PySem.W.takesIn K (.builtin "object.__class__") = some true
  cm : PySem.W.mroIn K D (.type "object") = some true
theorem inst_exc {X : Cx} {a D dd : Addr} {oe : Obj} {fs : List (Str × V)} {pins : List (Addr × Obj)} {σ : L2.St} {H : Hp} {s : Shared} (I : Inv X pins σ H s) (hget : s.heap.get? a = some oe) (hz : Zc (.ref D) (some dd) oe) (hf : ∃ vs, oe.data = .fields vs) (hd : H dd = some (.xd fs)) :
    ∃ od, PySem.W.InstAt s.heap a oe D (some od) := by
  obtain ⟨vs, hv⟩ := hf
  have hx : ObjOk X.prog X.w H s.heap dd (.xd fs) := I.hok dd _ hd
  obtain ⟨mA, hns, hr⟩ := hx
  obtain ⟨od, ho, hl⟩ := lookIn_ns hns
  refine ⟨od, hget, hz.1, ?_, ?_⟩
  · unfold PySem.W.notCls
    rw [hv] <;> rfl
  · rw [hz.2]
    exact ho
/-- isinstance(e, C), e the error that the suite holds -/
def rIsED (K : PySem.W.Frag) (D a : Addr) (cls : Value) (d : Option Addr) : List V → Hp → VK → Prop := fun xs H Q => ∃ (c : Addr) (b : Bool) (dd : Addr) (fs : List (Str × V)), xs = [.ref a, .ref c] ∧ cls = .ref D ∧ d = some dd ∧ H dd = some (.xd fs) ∧ PySem.W.kitOne K (.ref D) (.ref c) = some b ∧ Q (.bl b) H
theorem call_isED {X : Cx} {a D : Addr} {oe : Obj} {cls : Value} {d : Option Addr} {pn : List (Addr × Obj)} (C : ExcF X.K D) (hz : Zc cls d oe) (hf : ∃ vs, oe.data = .fields vs) : CallR (X.suite a ((a, oe) :: pn)) (.builtin "isinstance") (rIsED X.K D a cls d) := by
  intro pins s σ H xs us Q I r h
  obtain ⟨c, b, dd, fs, rfl, rfl, rfl, hd, e, q⟩ := h
  cases r with
  | cons rx rr =>
    cases rr with
    | cons rt rr =>
      cases rr
      cases rx
      cases rt
      obtain ⟨hget, _⟩ := I.pin (a, oe) (List.mem_append.mpr (.inl List.mem_cons_self))
      obtain ⟨od, J⟩ := inst_exc I hget hz hf hd
      exact PySem.W.kia_one (PySem.W.kitx_exc C.cl C.ga C.gg C.sb C.ca C.cn C.ct C.cm) I.kIn J e (fun z => nomatch z) fun tk => ⟨.bl b, H, I.kept (t' := tk) fun _ _ z => z, rfl, q⟩
theorem XT.excF {K : PySem.W.Frag} {mg : Str → Option Value} {x : Str} {C fI : Addr} {up : List Addr} {ns fs : List Str} (T : XT K mg x C fI up ns fs) : ExcF K C := by
  have e := T.oex
  refine ⟨?_, T.ga, T.gg, e.exC, T.ca, T.cn, T.ct, ?_⟩
  · obtain ⟨_, _, _, _, _, _, _, _, _, _, _, _, _, h⟩ := T.cls
    unfold PySem.W.clsIn
    rw [h]
    rfl
  · rw [T.mro, List.contains_cons]
    congr 1
    rw [ve_has, show PySem.HandSPX.veTail.contains (.type "object") = true by decide +kernel, Bool.or_true]
theorem XT.xfC {K : PySem.W.Frag} {mg : Str → Option Value} {x : Str} {C fI : Addr} {up : List Addr} {ns fs : List Str} (T : XT K mg x C fI up ns fs) : XfC K C := by
  have e := T.oex
  refine ⟨T.ga, T.gg, e.exC, ?_⟩
  obtain ⟨_, _, _, _, _, _, _, _, _, _, _, _, _, h⟩ := T.cls
  unfold PySem.W.hasDictIn PySem.W.clsIn
  rw [h]
  rfl
/-- told: heard = None; try: a() / except N as e: heard = e.f if isinstance(e, C) else ..; return heard -/
def TPart (C : Addr) (f : Str) : (XK → Hp → VK → Prop) → Hp → VK → Prop := fun tl H Q =>
  tl (fun cls d H' => cls = .ref C ∧ ∃ dd v fs, d = some dd ∧ H' dd = some (.xd fs) ∧ fs.lookup f = some v ∧ Q v H') H (fun _ H' => ∃ v, some (some V.non) = some (some v) ∧ Q v H')
end FT

/-! a caught error that is kept behind its suite -/
namespace FT
open PySem PySem.Spec PyProof.Rows L2
/-- an error that was raised, at a, of the class cls, its dict at d -/
def exK (a : Addr) (cls : Value) (d : Option Addr) : HO := .ext fun h => ∃ (oe : Obj) (vs : Array Value), h.get? a = some oe ∧ Zc cls d oe ∧ oe.data = .fields vs
theorem exK_ok {P : Program} {w : World} {H : Hp} {h : Heap} {a : Addr} {cls : Value} {d : Option Addr} {oe : Obj} {vs : Array Value} (e : h.get? a = some oe) (z : Zc cls d oe) (hd : oe.data = .fields vs) : ObjOk P w H h a (exK a cls d) :=
  ⟨⟨oe, vs, e, z, hd⟩, ⟨oe, e⟩, fun _ _ ⟨o, v, q, r⟩ k => ⟨o, v, k o q, r⟩⟩
theorem exK_at {P : Program} {w : World} {H : Hp} {h : Heap} {a : Addr} {cls : Value} {d : Option Addr} (x : HOk P w H h) (e : H a = some (exK a cls d)) : ∃ (oe : Obj) (vs : Array Value), h.get? a = some oe ∧ Zc cls d oe ∧ oe.data = .fields vs := (x a _ e).1
section
variable {X : Cx} {pins : List (Addr × Obj)} {σ : L2.St} {H : Hp} {s : Shared}
/-- what stands in the heap and is ours alone is told of from now on -/
theorem adopt {a : Addr} {o : HO} {vs : Array Value} {oe : Obj} (I : Inv X pins σ H s) (na : H a = none) (n0 : a ∉ X.ex → X.s_0.heap.get? a = none) (nL : a ≠ X.env.locals) (np : ∀ p ∈ X.pn ++ pins, p.1 ≠ a) (he : s.heap.get? a = some oe) (hd : oe.data = .fields vs)
    (new : ObjOk X.prog X.w (upd H a o) s.heap a o) : Inv X pins σ (upd H a o) s where
  ok := I.ok
  os := I.os
  bare := I.bare
  base :=
    { keep := I.base.keep
      slot := I.base.slot
      there := I.base.there
      free := fun b u q n hx => by
        rw [upd_ne (fun z => by rw [z] at q hx; rw [n0 hx] at q; cases q)]
        exact I.base.free b u q n hx
      tups := fun b xs q => by
        have z := I.base.tups b xs q
        rw [upd_ne (ne_of_none z na)]
        exact z
      frzs := fun b u v q => by
        have z := I.base.frzs b u v q
        rw [upd_ne (ne_of_none z na)]
        exact z
      tbls := fun b ps q => by
        obtain ⟨more, z⟩ := I.base.tbls b ps q
        exact ⟨more, by rw [upd_ne (ne_of_none z na)]; exact z⟩ }
  loc := I.loc
  cell := I.cell
  free := by
    rw [upd_ne (Ne.symm nL)]
    exact I.free
  freeC := fun x c e => by
    have nc : c ≠ a := fun z => by
      obtain ⟨v, oc, ec, dc⟩ := I.cell x c e
      rw [z, he] at ec
      cases ec
      rw [hd] at dc
      cases dc
    rw [upd_ne nc]
    exact I.freeC x c e
  pin := fun p hp => by
    obtain ⟨h1, h2, h3⟩ := I.pin p hp
    refine ⟨h1, ?_, h3⟩
    rw [upd_ne (np p hp)]
    exact h2
  hok := I.hok.laidN (fun _ _ q => q) na new
  len := I.len
theorem into_suite (I : Inv X pins σ H s) (a : Addr) : Inv (X.suite a (X.pn ++ pins)) [] σ H s where
  ok := I.ok.suite _ _
  os := I.os
  bare := I.bare
  base := I.base
  loc := I.loc
  cell := I.cell
  free := I.free
  freeC := I.freeC
  pin := fun p hp => I.pin p (by simpa using hp)
  hok := I.hok
  len := I.len
theorem out_of_suite {pn' : List (Addr × Obj)} {a : Addr} (I : Inv (X.suite a (X.pn ++ pins)) pn' σ H s) (ok : X.Ok) : Inv X pins σ H s where
  ok := ok
  os := I.os
  bare := I.bare
  base := I.base
  loc := I.loc
  cell := I.cell
  free := I.free
  freeC := I.freeC
  pin := fun p hp => I.pin p (List.mem_append_left _ hp)
  hok := I.hok
  len := I.len
end
/-- what 'except x as n' wishes where the error stays: it is told of behind the suite, too -/
def wKeep (K : PySem.W.Frag) (c : Value) (i : Nat) (ts : Addr → Value → Option Addr → TS) (Wout : WX) (D : Ends) : WX := fun cls d σ H => ∃ b, PySem.W.exmOne K cls c = some b ∧
  (b = true → ∀ a, H a = none → ts a cls d { nx := fun τ G => D.nx (τ.set i none) G, rt := D.rt, bk := fun τ G => D.bk (τ.set i none) G, ct := fun τ G => D.ct (τ.set i none) G } (σ.set i (some (.ref a))) (upd H a (exK a cls d))) ∧
  (b = false → Wout cls d σ H)
section
variable {X : Cx} {x n : Str} {c : Value} {i : Nat} {body rest : List Stmt} {st : Stmt} {np pos hpos : Pos} {tb : WX → TS} {ts : Addr → Value → Option Addr → TS} {Wout : WX}
theorem ps_try_keep (stk : X.stack = X.env :: X.outer) (frm : X.env.frame = some X.env.locals) (nd : X.N.Nodup) (at_ : X.N[i]? = some n) (knd : X.env.kindOf n = some .local) (nms : Names X x c) (tk : Takes X Wout)
    (hbody : ∀ (W : WX) (pn : List (Addr × Obj)) (xe : Value → Shared → Prop), Takes (X.tr pn xe) W → PassesOwn (model X.prog X.w) X.A X.env xe → PSs (X.tr pn xe) body (tb W))
    (hsuite : ∀ (a : Addr) (cls : Value) (d : Option Addr) (pn : List (Addr × Obj)), PSs (X.suite a pn) (st :: rest) (ts a cls d)) :
    PS X (.Try body [.ExceptHandler (some (.Name x np)) (some n) (st :: rest) hpos] [] [] pos) (fun D σ H => tb (wKeep X.K c i ts Wout D) D σ H) := by
  constructor
  intro pins s σ H D I hw
  have hX := I.ok
  have fra : X.A.frames = some (X.env :: X.outer) := by
    rw [hX.frames, stk]
  refine wpAny_Try_except (wpAny_mono ((hbody (wKeep X.K c i ts Wout D) (X.pn ++ pins) (fun e s₁ => wpAny (model X.prog X.w) X.A (noteFrame e X.env) (fun _ s₂ => wpAny (model X.prog X.w) X.A (setFlight e none) (fun _ s₃ =>
    wpAny (model X.prog X.w) X.A (handleBy e X.env [.ExceptHandler (some (.Name x np)) (some n) (st :: rest) hpos]) (SP X pins D) X.xe s₃) X.xe s₂) X.xe s₁) (fun u s' air => ?_) PassesOwn.looking).run [] s σ H D (I.toTry _) hw) (fun fl s1 hq => ?_) fun _ _ z => z)
  · obtain ⟨a, B, sI, ps', τ, G, cls, d, eu, I1, ground, up, sky, free, os, bare, b, hb, yes, no⟩ := air
    subst eu
    have I2 : Inv X pins τ G sI := I1.ofTry hX
    rw [stk] at sky
    show wpAny (model X.prog X.w) X.A (noteFrame (.ref a) X.env) _ _ _
    refine Sky.land Zc.steady fra frm sky fun h3 fly3 up3 => ?_
    have I3 : Inv X pins τ G { s' with heap := h3 } := I2.landed ground fly3.1 (up.trans up3) os bare
    obtain ⟨oe, fv, hoe, hz, hdt⟩ := fly3.there
    have notin : a ∉ frs (X.env :: X.outer) := fun hm => by
      obtain ⟨_, o', e', nf⟩ := fly3.2.2.1.mem hm
      rw [hoe] at e'
      cases e'
      exact nf _ hdt
    have offL : a ≠ X.env.locals := fun z => notin (List.mem_filterMap.mpr ⟨X.env, List.mem_cons_self, by rw [frm, z]⟩)
    have newI : sI.heap.get? a = none := by
      cases q : sI.heap.get? a with
      | none => rfl
      | some o =>
        have z := ground a o q (by rw [stk]; exact notin)
        rw [fly3.2.1] at z
        cases z
    have new0 : a ∉ X.ex → X.s_0.heap.get? a = none := fun hx => by
      cases q : X.s_0.heap.get? a with
      | none => rfl
      | some o =>
        obtain ⟨o', z⟩ := I2.base.there a o q hx
        rw [newI] at z
        cases z
    have offP : ∀ p ∈ X.pn ++ pins, p.1 ≠ a := fun p hp z => by
      have q := (I2.pin p hp).1
      rw [z, newI] at q
      cases q
    refine wpAny_handleBy_cons (codeAny_handlers_test ?_) (by intro q; cases q)
    have tyE : PySem.W.Looks (model X.prog X.w) h3 (typeOf (.ref a)) cls := fun A Q E s k q => wpAny_typeOf_ref (k _ _ hoe) (by rw [hz.1]; exact q)
    have isE := PySem.W.exm_one (M := model X.prog X.w) (I3.kIn) tyE hb
    have S3 := into_suite I3 a
    have name : ∀ {Q E : Value → Shared → Prop}, Q c { s' with heap := h3 } → wpAny (model X.prog X.w) (X.A.mark (some (.ref a))) (eval (.Name x np) X.env) Q E { s' with heap := h3 } := fun {Q E} q => by
      obtain ⟨hg, hdbg, hm | ⟨hm, hv, hnn⟩⟩ := nms
      · exact ld_glob (X := X.suite a (X.pn ++ pins)) S3 hg hm q hdbg
      · exact ld_blt (X := X.suite a (X.pn ++ pins)) S3 hg hm hv q hnn hdbg
    refine name (isE.here ?_)
    cases b with
    | false =>
      show wpAny _ X.A (handleBy (.ref a) X.env []) _ _ _
      refine wpAny_handleBy_nil ?_
      obtain ⟨_, _, _, oe', vs', T, oT, t', g1, g2, g3, g4, _⟩ := id fly3
      unfold PySem.passOn
      refine wpAny_bind (wpAny_field g1 g3 g4 ?_)
      rw [if_neg (show ¬ ((Value.ref T == Value.none) = true) from by simp)]
      have out : wpAny (model X.prog X.w) X.A (setFlight (.ref a) X.env.frame) (fun _ s4 => wpAny (model X.prog X.w) X.A (throw (.ref a) : Sem Flow) (SP X pins D) X.xe s4) X.xe { s' with heap := h3 } := by
        rw [frm]
        refine HandSPX.setFlight_upZ fly3 fun h4 held up4 => wpAny_throw (tk _ _ ⟨a, B, sI, pins, τ, G, cls, d, rfl, I2, ground, (up.trans up3).trans up4, ?_, free, os, bare, no rfl⟩)
        rw [stk]
        exact .inr (.inr held)
      first
        | exact wpAny_bind (wpAny_pure (wpAny_bind out))
        | exact wpAny_bind out
    | true =>
      refine codeAny_handlers_suite_as (HandSPX.lands_againZ fly3 fun h4 fly4 up4 => ?_)
      have I4 : Inv X pins τ G { s' with heap := h4 } := I2.landed ground fly4.1 ((up.trans up3).trans up4) os bare
      obtain ⟨oe4, vs4, g1, g2, g3⟩ := fly4.there
      have J4 : Inv X pins τ (upd G a (exK a cls d)) { s' with heap := h4 } := adopt I4 free new0 offL offP g1 g3 (exK_ok g1 g2 g3)
      refine store_ok (X := X.suite a (X.pn ++ pins)) (v := .ref a) (into_suite J4 a) nd at_ (.inl knd) rfl (fun s5 S5 => ?_) (.inr knd)
      refine wpAny_mono ((hsuite a cls d (X.pn ++ pins)).run [] s5 _ _ _ S5 (yes rfl a free)) (fun fl s6 hq => ?_) fun _ _ z => z.elim
      have last : ∀ {σ6 : L2.St} {H6 : Hp} {Q : Shared → Prop}, Inv (X.suite a (X.pn ++ pins)) [] σ6 H6 s6 → (∀ s7, Inv X pins (σ6.set i none) H6 s7 → Q s7) → wpAny (model X.prog X.w) X.A (do bindName X.env n .none; unbindBehindTheSuite X.env n hpos) (fun _ s7 => Q s7) X.xe s6 :=
        fun {σ6 H6 Q} S6 q => gone_ok (out_of_suite S6 hX) nd at_ knd q
      match fl, hq with
      | .next, ⟨σ6, H6, S6, q⟩ => exact last S6 fun s7 J => ⟨_, _, J, q⟩
      | .brk, ⟨σ6, H6, S6, q⟩ => exact last S6 fun s7 J => ⟨_, _, J, q⟩
      | .cont, ⟨σ6, H6, S6, q⟩ => exact last S6 fun s7 J => ⟨_, _, J, q⟩
      | .ret u, ⟨v6, σ6, H6, S6, r, q⟩ => exact last S6 fun s7 J => ⟨_, _, _, J, r, q⟩
  · match fl, hq with
    | .next, ⟨σ', H', J, q⟩ => exact wpAny_execs_nil ⟨σ', H', J.ofTry hX, q⟩
    | .brk, ⟨σ', H', J, q⟩ => exact ⟨σ', H', J.ofTry hX, q⟩
    | .cont, ⟨σ', H', J, q⟩ => exact ⟨σ', H', J.ofTry hX, q⟩
    | .ret u, ⟨v, σ', H', J, r, q⟩ => exact ⟨v, σ', H', J.ofTry hX, r, q⟩
end
end FT
namespace FT
open PySem PySem.Spec PyProof.Rows L2
/-- a caught error that is kept stands at a, its fields gs -/
def ExC (H : Hp) (a C : Addr) (gs : List (Str × V)) : Prop := ∃ dd, H a = some (exK a (.ref C) (some dd)) ∧ H dd = some (.xd gs)
theorem ExC.keep {H H' : Hp} {a C : Addr} {gs : List (Str × V)} (e : ExC H a C gs) (s : Same H H') : ExC H' a C gs := by
  obtain ⟨dd, h1, h2⟩ := e
  exact ⟨dd, s _ _ h1, s _ _ h2⟩
theorem exc_inst {X : Cx} {pins : List (Addr × Obj)} {σ : L2.St} {H : Hp} {s : Shared} {a C : Addr} {gs : List (Str × V)} (I : Inv X pins σ H s) (e : ExC H a C gs) :
    ∃ ox od, PySem.W.InstAt s.heap a ox C (some od) ∧ ∀ n v, gs.lookup n = some v → ∃ u, RelV v u ∧ PySem.W.lookIn n od = some (some u) := by
  obtain ⟨dd, h1, h2⟩ := e
  obtain ⟨oe, vs, ho, hz, hd⟩ := exK_at I.hok h1
  obtain ⟨mA, hns, rel⟩ := (show ObjOk X.prog X.w H s.heap dd (.xd gs) from I.hok dd _ h2)
  obtain ⟨od, hod, hl⟩ := lookIn_ns hns
  refine ⟨oe, od, ⟨ho, hz.1, ?_, ?_⟩, fun n v l => ?_⟩
  · unfold PySem.W.notCls
    rw [hd] <;> rfl
  · rw [hz.2]
    exact hod
  · obtain ⟨u, hu, ru⟩ := RelO.some_of (v := v) (o := mA n) (by rw [← l]; exact rel n)
    exact ⟨u, ru, by rw [hl, hu]⟩
/-- e.f of such an error -/
@[irreducible] def rXc (K : PySem.W.Frag) (f : Str) (x : V) (H1 : Hp) (Q : VK) : Prop := ∃ (a C : Addr) (gs : List (Str × V)) (v : V), x = .ref a ∧ XfC K C ∧ PySem.W.findIn K (.ref C) f = some none ∧ ExC H1 a C gs ∧ gs.lookup f = some v ∧ Q v H1
def tXc (K : PySem.W.Frag) (f : Str) (te : TE) : TE := fun σ H Q => te σ H fun x H1 => rXc K f x H1 Q
theorem pe_xc {X : Cx} {e : Expr} {te : TE} {pos : Pos} {n : Str} (he : PE X e te) (hb : attributeBase e n X.env (eval e X.env) = eval e X.env := by rfl) : PE X (.Attribute e n pos) (tXc X.K n te) := by
  constructor
  intro pins s σ H Q I h
  refine attr_of hb (thn (he.run pins s σ H _ I h) fun u s1 hh => ?_)
  obtain ⟨x, H1, I1, rx, hh⟩ := hh
  unfold rXc at hh
  obtain ⟨a, C, gs, v, ex, T, hno, ev, l, q⟩ := hh
  subst ex
  cases (show u = Value.ref a from rx)
  obtain ⟨ox, od, J, hl⟩ := exc_inst I1 ev
  obtain ⟨u, ru, hu⟩ := hl n v l
  exact HandSPX.exc_get I1.kIn J T.ga T.gg T.exC (PySem.W.findObj_own T.hdC hno rfl hu) (handed_of ru) ⟨v, H1, I1.tok _, ru, q⟩
section
variable {X : Cx}
/-- isinstance(error, c), isinstance(error, (c, ..)) -/
@[irreducible] def rIsiC (K : PySem.W.Frag) (mg : Str → Option Value) : List V → Hp → VK → Prop := fun xs H Q => ∃ (a C fI : Addr) (gs : List (Str × V)) (x : Str) (up : List Addr) (ns fs : List Str) (c : V) (u : Value) (b : Bool), xs = [.ref a, c] ∧ ExC H a C gs ∧ XT K mg x C fI up ns fs ∧ ClsV c u ∧ PySem.W.kitOne K (.ref C) u = some b ∧ Q (.bl b) H
@[irreducible] def rIsiTC (K : PySem.W.Frag) (mg : Str → Option Value) : List V → Hp → VK → Prop := fun xs H Q => ∃ (a C fI : Addr) (gs : List (Str × V)) (x : Str) (up : List Addr) (ns fs : List Str) (tp : Addr) (cs : List V) (us : List Value) (b : Bool), xs = [.ref a, .ref tp] ∧ ExC H a C gs ∧ XT K mg x C fI up ns fs ∧ H tp = some (.tup cs) ∧ Paired ClsV cs us ∧ PySem.W.kitAny K (.ref C) us = some b ∧ Q (.bl b) H
theorem call_isiC : CallR X (.builtin "isinstance") (rIsiC X.K X.mg) := by
  intro pins s σ H xs us Q I r h
  unfold rIsiC at h
  obtain ⟨a, C, fI, gs, x, up, ns, fs, c, u, b, ex, ev, T, k, e, q⟩ := h
  subst ex
  obtain ⟨u1, u2, rfl, r1, r2⟩ := vals2 r
  cases k.eq r2
  cases (show u1 = Value.ref a from r1)
  obtain ⟨ox, od, J, _⟩ := exc_inst I ev
  exact PySem.W.kia_one (T.kitx (ox := ox) (od := od)) I.kIn J e (fun z => nomatch z) fun tk => ⟨.bl b, H, I.tok tk, rfl, q⟩
theorem call_isiTC : CallR X (.builtin "isinstance") (rIsiTC X.K X.mg) := by
  intro pins s σ H xs us Q I r h
  unfold rIsiTC at h
  obtain ⟨a, C, fI, gs, x, up, ns, fs, tp, cs, ws, b, ex, ev, T, hT, k, e, q⟩ := h
  subst ex
  obtain ⟨u1, u2, rfl, r1, r2⟩ := vals2 r
  cases (show u1 = Value.ref a from r1)
  cases (show u2 = Value.ref tp from r2)
  obtain ⟨ox, od, J, _⟩ := exc_inst I ev
  obtain ⟨_, its, rv, o, g1, g2, n, g3⟩ := (show ObjOk X.prog X.w H s.heap tp (.tup cs) from I.hok tp _ hT)
  cases ClsV.all k rv
  obtain ⟨oc, od', dt, sl⟩ := o
  simp only at g2 g3
  subst g2 g3
  exact PySem.W.kia_tup (T.kitx (ox := ox) (od := _)) I.kIn J g1 e (fun z => nomatch z) fun tk => ⟨.bl b, H, I.tok tk, rfl, q⟩
/-- isinstance of a value or of such an error -/
theorem call_isi1 : CallR X (.builtin "isinstance") (fun xs H Q => rIsi X.K xs H Q ∨ rIsiC X.K X.mg xs H Q) := CallR.or call_isi call_isiC
theorem call_isiN : CallR X (.builtin "isinstance") (fun xs H Q => rIsiT X.K xs H Q ∨ rIsiTC X.K X.mg xs H Q) := CallR.or call_isiT call_isiTC
end
end FT

/-! enumerate(tuple) -/
namespace FT
open PySem PySem.Spec PyProof.Rows L2
theorem meets_enum1 {v : Value} {ob : Obj} {G : Heap → Prop} (B : Begins v ob G) : Meets (Builtin.«enumerate.__new__» ⟨[.type "enumerate", v], []⟩) (fun _ R s => G s.heap ∧
      R (.ok (.ret (.ref (s.heap.push ob).objs.size))) { s with heap := (s.heap.push ob).push { cls := .type "enumerate", data := .fields #[.none, .bool false, .ref s.heap.objs.size, rawInt 0, .none, .none] } }) :=
  .of_wp fun prog w A R s hh => by
    obtain ⟨hp, g, d, tk, os⟩ := s
    obtain ⟨h1, hh⟩ := hh
    have hsub := sub_enumerate
    have it : ∀ {A' : Around} {E Q : Value → Shared → Prop}, Q (.ref hp.objs.size) ⟨hp.push ob, g, d, tk, os⟩ → wpAny (model prog w) A' (pyIter v) Q E ⟨hp, g, d, tk, os⟩ := fun q => B.iter prog w _ _ ⟨hp, g, d, tk, os⟩ _ h1 q
    wp_walk using it
    refine wpAny_stack_any fun st => wpAny_pure ?_
    split
    · rename_i c _ _ _ _ _
      cases (c == Value.type "enumerate") <;> (wp_walk using it; exact ⟨_, rfl, hh⟩)
    · wp_walk using it
      exact ⟨_, rfl, hh⟩
theorem call_enum1 {prog : Program} {w : World} {A : Around} {E Q : Value → Shared → Prop} {s : Shared} {v : Value} {ob : Obj} {G : Heap → Prop} (B : Begins v ob G) (h1 : G s.heap)
    (k : ∀ h', IsEnum h' (s.heap.objs.size + 1) s.heap.objs.size 0 .none → h'.get? s.heap.objs.size = some ob → h'.objs.size = s.heap.objs.size + 2 → (∀ b o, s.heap.get? b = some o → h'.get? b = some o) → Q (.ref (s.heap.objs.size + 1)) { s with heap := h' }) :
    wpAny (model prog w) A (call (.type "enumerate") [v]) Q E s := by
  refine callType_new F.called_enumerate (by decide) (F.typeCall_enumerate_1 _) (F.newCall_enumerate_1 _) (fun obj => F.args_object_init_2 obj _) F.entry_enumerate_new (meets_enum1 B) ⟨h1, ?_⟩
  have sz1 : (s.heap.push ob).objs.size = s.heap.objs.size + 1 := Heap.size_push ..
  show _ ∧ _
  rw [sz1]
  have en : IsEnum ((s.heap.push ob).push { cls := .type "enumerate", data := .fields #[.none, .bool false, .ref s.heap.objs.size, rawInt 0, .none, .none] }) (s.heap.objs.size + 1) s.heap.objs.size 0 .none := by
    have q := Heap.get?_push_size (s.heap.push ob) (o := { cls := .type "enumerate", data := .fields #[.none, .bool false, .ref s.heap.objs.size, rawInt 0, .none, .none] }) rfl
    rw [sz1] at q
    exact q
  exact ⟨⟨_, en, rfl⟩, k _ en (Heap.get?_push_of_some _ (Heap.get?_push_size _ B.free)) (by rw [Heap.size_push, sz1]) fun b o x => Heap.get?_push_of_some _ (Heap.get?_push_of_some _ x)⟩
theorem next_stop {prog : Program} {w : World} {A : Around} {E : Value → Shared → Prop} {s : Shared} {e it t : Addr} {i : Nat} {c : Int} {items : Array Value} {old : Value} {Q : Option Value → Shared → Prop} (hh : A.handled = none)
    (he : IsEnum s.heap e it c old) (hi : s.heap.IsTupleIter it t i) (ht : s.heap.IsTuple t items) (hx : items[i]? = none) (k : ∀ h', Heap.ExtBut it s.heap h' → Q none { s with heap := h' }) : wpAny (model prog w) A (pyNext (.ref e)) Q E s := by
  have ty : s.TypeIs (.ref e) "enumerate" := ⟨_, he, rfl⟩
  unfold pyNext
  refine wpAny_bind (wpAny_attempt (wpAny_callSpecial?_slot (name := Str.ofString "__next__") ty F.slot_enumerate_next (wpAny_call_entry F.slot_enumerate_next ty F.entry_enumerate_next ?_ (F.args_enumerate_next_1 _))))
  show wpAny _ _ (field (.ref e) 2 >>= fun _ => _) _ _ _
  refine wpAny_bind (wpAny_field he rfl (x := .ref it) rfl (wpAny_bind (wpAny_nextOf_tuple_end hh hi ht hx fun h' x ex st => ?_)))
  obtain ⟨os, ho, hcl⟩ := st
  exact wpAny_bind (wpAny_isInstance (T := "StopIteration") (b := true) ⟨os, ho, hcl⟩ isSubtype_stop (wpAny_pure (k _ ex)))
/-- the tuple at a, each item in a new pair -/
def IteT (K : PySem.W.Frag) (a : Addr) : It :=
  ⟨fun i H => ∃ (xs : List V) (x : V), SqT K H a xs ∧ xs[i]? = some x, fun i H v H' => ∃ t x, v = .ref t ∧ H t = none ∧ H' = upd H t (.tup [.int (i : Nat), x]) ∧ ∀ xs, SqT K H a xs → xs[i]? = some x, fun i H => ∃ xs : List V, SqT K H a xs ∧ xs.length ≤ i⟩
theorem turn_enumT {P : Program} {w : World} {K : PySem.W.Frag} {elts : List Expr} {kk : Nat} {tpos : Pos} (a e it : Addr) :
    Turn P w K (.Tuple elts kk tpos) (IteT K a) [e, it] e (fun i h => (∃ old, IsEnum h e it ((i : Nat) : Int) old) ∧ h.IsTupleIter it a i ∧ e ≠ it ∧ a ≠ it ∧ e ≠ a) where
  mem := by simp
  obj := fun i h st b hb => by
    obtain ⟨⟨old, he⟩, ⟨o, ho, hc, hd⟩, _⟩ := st
    have e' : b = e ∨ b = it := by simpa using hb
    rcases e' with rfl | rfl
    · exact ⟨_, he, fun v q => nomatch q⟩
    · exact ⟨o, ho, fun v q => by rw [hd] at q; cases q⟩
  keep := fun i h h' st k => let ⟨⟨old, he⟩, hi, hne⟩ := st; ⟨⟨old, k e (by simp) _ he⟩, hi.at fun o q => k it (by simp) o q, hne⟩
  item := by
    intro X hP hw hK hc i pins s σ H E I hf st hg
    subst hP hw hK
    obtain ⟨⟨old, he⟩, hit, n1, n2, n3⟩ := st
    obtain ⟨xs, x, hq, hx⟩ := hg
    obtain ⟨its, rv, p, hz⟩ := I.tuple hq
    obtain ⟨u, hu, ru⟩ := rv.get hx
    have hel : e < s.heap.objs.size := Heap.lt_size he
    have hil : it < s.heap.objs.size := by
      obtain ⟨_, q, _⟩ := hit
      exact Heap.lt_size q
    have tp : s.heap.IsTuple a its.toArray := p
    have hlt : i < its.toArray.size := by
      obtain ⟨q, _⟩ := List.getElem?_eq_some_iff.mp hu
      simpa using q
    have D := Draws.tuple (prog := X.prog) (w := X.w) (A := X.A.in1) (I.ok.hd hc) it a n2 its.toArray
    refine wpAny_pyNext_enum_itemC D he ⟨hit, tp⟩ hlt n1 (by simp [n1, n3]) fun y h' tk hy ho st' hT hsz hk => ?_
    have ey : y = u := by
      have q : its.toArray[i]? = some y := hy
      rw [show its.toArray[i]? = some u by simpa using hu] at q
      exact (Option.some.inj q).symm
    subst ey
    refine ⟨_, rfl, wpAny_letOwnedTupleGo_enum (s := { s with heap := h', toks := tk + 1 }) ho fun h'' he' sb => ?_⟩
    have hT2 : h''.get? s.heap.objs.size = some { cls := .type "tuple", data := .seq #[.int i tk, y] } := (sb.2 _ (Nat.ne_of_gt hel)).trans hT
    have new : ObjOk X.prog X.w (upd H s.heap.objs.size (.tup [.int (i : Nat), x])) h'' s.heap.objs.size (.tup [.int (i : Nat), x]) :=
      ⟨by show 2 ≤ sizeLine; decide, [.int i tk, y], .cons ⟨_, rfl⟩ (.cons ru .nil), ⟨_, hT2, rfl, _, rfl⟩⟩
    have I1 : Inv X pins σ (upd H s.heap.objs.size (.tup [.int (i : Nat), x])) { s with heap := h'', toks := tk + 1 } :=
      I.turnedNew (ch := [e, it]) (fun b ob hb q => (sb.2 b (fun z => hb (by simp [z]))).trans (hk b ob (fun z => hb (by simp [z])) (fun z => hb (by simp [z])) q)) hf (Nat.le_refl _) new
    refine ⟨.ref s.heap.objs.size, _, I1, rfl, ⟨_, x, rfl, I.hok.fresh (Nat.le_refl _), rfl, fun ys hy => by rw [I.tuple_inj hy hq]; exact hx⟩, ⟨⟨y, ?_⟩, st'.1.at fun o q => (sb.2 it n1.symm).trans q, n1, n2, n3⟩, fun b hb => ?_⟩
    · have e1 : ((i + 1 : Nat) : Int) = (i : Int) + 1 := by omega
      rw [e1]
      exact he'
    · have hb' : b < s.heap.objs.size := by
        have e' : b = e ∨ b = it := by simpa using hb
        rcases e' with z | z
        · rw [z]
          exact hel
        · rw [z]
          exact hil
      rw [upd_ne (Nat.ne_of_lt hb')]
      exact (hf b hb).1
  done := by
    intro X hP hw hK hc i pins s σ H E I hf st hg
    subst hP hw hK
    obtain ⟨⟨old, he⟩, hit, n1, n2, n3⟩ := st
    obtain ⟨xs, hq, hx⟩ := hg
    obtain ⟨its, rv, p, hz⟩ := I.tuple hq
    obtain ⟨f0, f1, f2, f3, f4, f5⟩ := hf it (by simp)
    have lz := rv.length
    have tp : s.heap.IsTuple a its.toArray := p
    refine next_stop (I.ok.hd hc) he hit tp (by simp; omega) fun h' eb => ⟨rfl, I.turned (t' := s.toks) (fun b o hb q => eb b o hb q) f0 f1 f3 f4 f5⟩
  self := fun A i s Q E st h => let ⟨⟨_, he⟩, _⟩ := st; wpAny_pyIter_enum he h
def iEnumT (K : PySem.W.Frag) (ta : TA) : TI := fun σ H R => ta σ H fun vs H1 => ∃ a xs, vs = [.ref a] ∧ SqT K H1 a xs ∧ R (IteT K a) H1
theorem pi_enumT {X : Cx} {e : Expr} {ta : TA} {p pos tpos : Pos} {elts : List Expr} {kk : Nat} (hg : Gl X "enumerate") (hm : X.mg "enumerate" = none) (ha : PA X [e] ta) (hs : starEach [e] X.env = [(false, eval e X.env)] := by rfl) :
    PI X (.Tuple elts kk tpos) (.Call (.Name "enumerate" p) [e] [] pos) (iEnumT X.K ta) := by
  constructor
  intro pins s σ H R I h
  refine Call_ (ld_blt I hg hm boot_enumerate (PyProof.Rows.callWith_type1 (thn (ha.run pos pins s σ H _ I h) fun us s1 ⟨vs, H1, I1, r1, q1⟩ => ?_) hs rfl))
  obtain ⟨a, xs, ex, hq, q⟩ := q1
  subst ex
  cases r1 with
  | cons r rr =>
    cases rr
    cases r
    obtain ⟨its, rv, p', hz⟩ := I1.tuple hq
    have tp : s1.heap.IsTuple a its.toArray := p'
    have la : a < s1.heap.objs.size := by
      obtain ⟨_, z, _⟩ := tp
      exact Heap.lt_size z
    refine call_enum1 (begins_tuple a its.toArray) tp fun h' he hit hsz hk => wpAny_pyIter_enum he ?_
    have I2 : Inv X pins σ H1 { s1 with heap := h' } := I1.kept (t' := s1.toks) hk
    refine ⟨s1.heap.objs.size + 1, [s1.heap.objs.size + 1, s1.heap.objs.size], _, _, H1, rfl, I2, turn_enumT a (s1.heap.objs.size + 1) s1.heap.objs.size, ⟨⟨.none, he⟩, ⟨_, hit, rfl, rfl⟩, Nat.succ_ne_self _, Nat.ne_of_lt la, Nat.ne_of_gt (Nat.lt_succ_of_lt la)⟩, fun b hb => ?_, q⟩
    have hle : s1.heap.objs.size ≤ b := by
      have e' : b = s1.heap.objs.size + 1 ∨ b = s1.heap.objs.size := by simpa using hb
      rcases e' with z | z
      · rw [z]
        exact Nat.le_add_right _ _
      · rw [z]
        exact Nat.le_refl _
    exact I1.fpOk hle (I1.hok.fresh hle)
theorem walk_enumT {K : PySem.W.Frag} {a : Addr} {xs : List V} : Walk (IteT K a) xs.length (fun H => SqT K H a xs) (YPair (fun i => some (.int (i : Nat))) (fun i => xs[i]?)) where
  goes := fun i _ hi q => ⟨xs, xs[i], q, List.getElem?_eq_getElem hi⟩
  stops := fun _ q => ⟨xs, q, Nat.le_refl _⟩
  yields := fun i H v H' _ q y => by
    obtain ⟨t, x, e, hn, eh, hx⟩ := y
    exact ⟨t, .int (i : Nat), x, e, hn, eh, rfl, hx xs q⟩
end FT

/-! own errors caught, and others raised in their stead -/
namespace FT
open PySem PySem.Spec PyProof.Rows L2
section
variable {X : Cx} {CX : CXT} {k : Nat} {fI f C : Addr} {fd : FuncData} {ps ks : List Str} {sp : Sp} {x : Str} {p pos : Pos} {e : Expr} {es : List Expr} {t tk : TA} {kws : List Keyword} {g : List Value → List Value → List Value} {gV : List V → List V → List V} {E : XK} {ES : L2.St → XK}
/-- raise C(e, ..) where a suite may raise on -/
theorem pmkN_G (T : OexC X.K C) (iC : PySem.W.findIn X.K (.ref C) "__init__" = some (some (.ref fI))) (tI : PySem.W.typeIn X.K (.ref fI) = some (.type "function"))
    (F : FnG X.prog X.w X.K X.mg X.base CX k fI fd ps sp) (hr : RG (k + 1) X.A) (hg : Gl X x) (hm : X.mg x = some (.ref C)) (hb : Binds X.K fd ps []) (hx : Passes CX X (fun _ _ _ => False)) (ha : PA X (e :: es) t)
    (hdb : (x == ("__debug__" : Str)) = false := by decide) (he : starEach (e :: es) X.env = (false, eval e X.env) :: starEach es X.env := by rfl) (hpl : (backTo pos (starEach es X.env)).any (·.1) = false := by rfl) :
    L2N.PMk X (.Call (.Name x p) (e :: es) [] pos) (tMkO C sp [] t) := by
  intro pins s σ H Q I h
  obtain ⟨nm, q, N, bs, bm, sn, sub, ab, col, dd, k0, k1, k2, k3, k5, hC, hbm⟩ := T.cls
  refine wpAny_Call_Name_kw (ld_glob I hg hm ?_ hdb)
  refine PySem.W.callWith_K (h₀ := X.base) I.ok.mod.kin T.kC (thn (ha.run pos pins s σ H _ I h) ?_) he hpl
  rintro us s1 ⟨vs, H1, I1, r1, hz, q1⟩
  refine ⟨I1.kIn, ?_⟩
  show wpAny _ _ (call (.ref C) us) _ _ _
  obtain ⟨hp, gg, dr, tk, os⟩ := s1
  have hsz : hp.objs.size ≤ hp.objs.size + 1 := Nat.le_succ _
  have hn : H1 (hp.objs.size + 1) = none := I1.hok.fresh hsz
  have hq := q1 (hp.objs.size + 1) hn
  have kk : ∀ b o, hp.get? b = some o → ((hp.push (PySem.W.kdv_tup us)).push (PySem.HandSPX.excO C hp.objs.size)).get? b = some o := fun b o e => Heap.get?_push_of_some _ (Heap.get?_push_of_some _ e)
  have hget : ((hp.push (PySem.W.kdv_tup us)).push (PySem.HandSPX.excO C hp.objs.size)).get? (hp.objs.size + 1) = some (PySem.HandSPX.excO C hp.objs.size) := by heap_get
  have I2 : Inv X pins σ (upd H1 (hp.objs.size + 1) (exo (hp.objs.size + 1) C none)) ⟨(hp.push (PySem.W.kdv_tup us)).push (PySem.HandSPX.excO C hp.objs.size), gg, dr, tk, os⟩ :=
    I1.laid (t' := tk) (a := hp.objs.size + 1) (o := exo (hp.objs.size + 1) C none) (h' := (hp.push (PySem.W.kdv_tup us)).push (PySem.HandSPX.excO C hp.objs.size)) kk hsz (exo_ok hget)
  have r2 : Vals (V.ref (hp.objs.size + 1) :: (vs ++ [])) (Value.ref (hp.objs.size + 1) :: (us ++ [])) := .cons rfl (r1.append .nil)
  have hl : (Value.ref (hp.objs.size + 1) :: us ++ []).length = ps.length := by
    have e := r2.length
    rw [F.arity _ _ _ _ hq] at e
    exact e.symm
  have hus : us.length ≤ sizeLine := by
    rw [← Paired.length r1, sizeLine_eq]
    omega
  refine wpAny_call (PySem.HandSPX.kw_call_own (kw := []) PySem.F.excBase_ValueError (fun Y => PySem.HandSPX.refsVE_contains Y bm hbm) (I1.kIn _ _ hC) (PySem.W.looks_findIn I1.kIn iC) (fun self => PySem.W.bind_fn I1.kIn self tI) hus
    (codeAny_mono (F.goes (hr.make C us []) (I2.env0.make C us []) (hb _ (Value.ref (hp.objs.size + 1) :: us) I2.kIn hl) r2 hq) fun r s' hq' => ?_))
  cases r with
  | error er => exact hx pins σ _ _ er s' I2 hq'
  | ok fl =>
    cases fl with
    | ret u =>
      obtain ⟨v, H2, os2, bare2, un2, hok2, rv, ev, d, fs, ea, ed, hd1, q2⟩ := hq'
      subst ev
      obtain ⟨h2, g2, d2, t2, os'⟩ := s'
      obtain ⟨t0, G, J, kG, ge, hoe, na⟩ := mk_end0 (d2 := d2) (t2 := t2) I1 hsz kk un2 hok2 os2 bare2 ea ed hd1
      refine ⟨rv, ⟨hp.objs.size + 1, _, _, ⟨G, g2, d2, t2, os'⟩, _, .ref C, some d, rfl, J, kG, ge, hoe, ⟨rfl, rfl, fun vs hv => ?_⟩, rfl, rfl, na, rfl, bare2, raises_own T.exC T.tyC, q2⟩⟩
      cases hv
      rfl
    | next => exact False.elim hq'
    | brk => exact False.elim hq'
    | cont => exact False.elim hq'
/-- C(..), C an own class; the wish may speak of the slots -/
def tMkGS (C : Addr) (sp : Sp) (ES : L2.St → XK) (ta : TA) : TE := fun σ H Q => ta σ H fun vs H1 => rMkG C sp (ES σ) (fun x => x :: vs) H1 Q
theorem run_mkgS {pins : List (Addr × Obj)} {σ : L2.St} {H : Hp} {s : Shared} {Q : VK} {us : List Value} {kw : List (Str × Value)} {all : Value → List Value} {allV : V → List V} (M : Mk X.K C f) (F : FnG X.prog X.w X.K X.mg X.base CX k f fd ps sp) (hr : RG (k + 1) X.A)
    (hx : PassesAt CX X σ E) (I : Inv X pins σ H s)
    (hb : ∀ (a : Addr) (s' : Shared), X.K.In s'.heap → (all (.ref a)).length = ps.length → BindsTo s' fd ⟨.ref a :: us, kw⟩ (ps.zip (all (.ref a)))) (r : ∀ a : Addr, Vals (allV (.ref a)) (all (.ref a)))
    (h : rMkG C sp E allV H Q) : wpAny (model X.prog X.w) X.A (call (.ref C) us kw) (EP X pins σ Q) X.xe s := by
  unfold rMkG at h
  have hq := h (s.heap.objs.size + 1) s.heap.objs.size (I.hok.fresh (Nat.le_succ _)) (I.hok.fresh (Nat.le_refl _)) (Nat.ne_of_lt (Nat.lt_succ_self _))
  have I2 := Inv.made (C := C) I
  have hl : (all (.ref (s.heap.objs.size + 1))).length = ps.length := (r _).length.symm.trans (F.arity _ _ _ _ hq)
  refine wpAny_call (make_map (f := f) I.kIn M.makes M.init (beq_iff_eq.mp M.fn) (codeAny_mono (F.goes (hr.make C us kw) (I2.env0.make C us kw) (hb _ _ I2.kIn hl) (r _) hq) fun r s' hq' => ?_))
  cases r with
  | error e => exact hx pins _ _ e s' I2 hq'
  | ok fl =>
    cases fl with
    | ret u =>
      obtain ⟨v, H', I3, rv, ev, q3⟩ := I2.after hq'
      subst ev
      exact ⟨rv, ⟨V.ref (s.heap.objs.size + 1), H', I3, rfl, q3⟩⟩
    | next => exact False.elim hq'
    | brk => exact False.elim hq'
    | cont => exact False.elim hq'
theorem pe_mkGS (M : Mk X.K C f) (F : FnG X.prog X.w X.K X.mg X.base CX k f fd ps sp) (hr : RG (k + 1) X.A) (hg : Gl X x) (hm : X.mg x = some (.ref C)) (hb : Binds X.K fd ps []) (hx : ∀ σ, PassesAt CX X σ (ES σ))
    (ha : PA X (e :: es) t) (hdb : (x == ("__debug__" : Str)) = false := by decide) (he : starEach (e :: es) X.env = (false, eval e X.env) :: starEach es X.env := by rfl) (hpl : (backTo pos (starEach es X.env)).any (·.1) = false := by rfl) :
    PE X (.Call (.Name x p) (e :: es) [] pos) (tMkGS C sp ES t) := by
  constructor
  intro pins s σ H Q I h
  refine wpAny_Call_Name_kw (ld_glob I hg hm ?_ hdb)
  refine PySem.W.callWith_K (h₀ := X.base) I.ok.mod.kin M.kp (thn (ha.run pos pins s σ H _ I h) ?_) he hpl
  rintro us s1 ⟨vs, H1, I1, r, q⟩
  refine ⟨I1.kIn, run_mkgS (all := fun a => a :: us) (allV := fun a => a :: vs) M F hr (hx σ) I1 (fun a s' ki hl => ?_) (fun a => .cons rfl r) q⟩
  have z := hb s' (.ref a :: us) ki (by simpa using hl)
  rw [List.append_nil] at z
  exact z
end
/-- a def's promise while an exception is handled -/
theorem okH {P : Program} {w : World} {K : PySem.W.Frag} {mg : Str → Option Value} {base : Heap} {CX : CXT} {x qual : Str} {st : Stmt} {f : Addr} {fd : FuncData} {N ps : List Str} {k : Nat} {sp : Sp} (F : Fun K x qual st f fd) (S : FnScope N ps (defScope st))
    (arity : ∀ vs H Q E, sp vs H Q E → vs.length = ps.length)
    (hbody : ∀ (cdv : Value) (A : Around) (outer : List Env) (s : Shared) (H : Hp) (vs : List V) (Q : VK) (E : XK) (p : Addr × Obj), sp vs H Q E →
        ∃ t, PSs (L2H.cxH CX P w K mg base N qual (defScope st) f cdv A outer s H E p) (defBody st) t ∧ t { nx := fun _ H' => Q .non H', rt := Q } (start N vs) H) :
    L2H.FnH P w K mg base CX (k + 1) f fd ps sp := by
  obtain ⟨oc, od, kV, doc, pm, an, cdv, ct, osl, rfl, lk, hcd⟩ := F.ex
  exact L2H.fn_ofH lk hcd S arity fun A outer s H vs Q E p _ _ h => hbody cdv A outer s H vs Q E p h
theorem RG.hot {k : Nat} {A : Around} (r : RG k A) (h : Option Value) : L2H.RoomH k (A.mark h) := L2H.roomH_mark r.room h
end FT

/-! a list comprehension whose step may let an own error out -/
namespace FT
open PySem PySem.Spec PyProof.Rows L2
/-- a frame is all that noting asks of an environment -/
theorem note_frame {one two : Env} (h : one.frame = two.frame) (v : Value) : noteFrame v one = noteFrame v two := by
  unfold noteFrame PySem.frameOf
  rw [h]
/-- how a comprehension's block may end, told with its frame -/
def EndC (M : Model) (A : Around) (E : Value → Shared → Prop) (use : Option (Value → Sem Unit)) (Q : Value → Shared → Prop) (new : Value) (C : Addr) (fr : Option Addr) : Result → Shared → Prop
  | .ok v, t => compPost M A E use Q new C (.ok v) t
  | .error x, t => ∃ m, t.heap.Ns C m ∧ ∀ g, Heap.SameBut C t.heap g → ∀ c : Env, c.locals = C → c.frame = fr → wpAny M A (passOn "comprehension.variables-let-go" x c : Sem Value) (fun _ _ => False) E { t with heap := g }
theorem comp_ends {M : Model} {A : Around} {E : Value → Shared → Prop} {s : Shared} {env : Env} {e : Expr} {sc : Scope} {pos : Pos} {new first : Sem Value} {g : Comprehension} {gs : List Comprehension} {cl : List (Str × Addr)} {use : Option (Value → Sem Unit)} {Q : Value → Shared → Prop}
    (h1 : clausesOf e = g :: gs) (h2 : ∀ x, foldedSetIterable g.iter env x = pure x) (h3 : closureFor sc env = pure cl) (h4 : sc.kind = .function) (h5 : ∀ x ∈ sc.names, x.2 = .local → sc.names.lookup x.1 = some .local)
    (run : wpAny M A first (fun x s1 => wpAny M A (pyIter x) (fun it s2 => wpAny M A new (fun acc s3 => wpAny M A (newFunctionEnv sc env.globals cl [] env.qual none .none (some env)) (fun c s4 =>
        codeAny M A (.compStart e 0 it acc { c with scope := relabel sc env }) (EndC M A E use Q acc c.locals c.frame) s4) E s3) E s2) E s1) E s) :
    wpAny M A (comprehension e sc env pos new false first use) Q E s := by
  unfold comprehension
  rw [h3, h1]
  have id2 : ∀ {α : Type} {t : Sem α} {Q Q' : α → Shared → Prop} {s : Shared}, wpAny M A t Q E s → (∀ a s, Q a s → Q' a s) → wpAny M A t Q' E s := fun h k => wpAny_mono h k fun _ _ z => z
  refine wpAny_bind (id2 run fun x s1 r1 => ?_)
  refine wpAny_bind (wpAny_standAt (wpAny_bind (wpAny_of_eq (h2 x) ?_)))
  refine wpAny_bind (wpAny_holding (id2 r1 fun it s2 r2 => ?_))
  refine wpAny_standIf (wpAny_bind (id2 r2 fun acc s3 r3 => ?_))
  refine wpAny_bind (wpAny_pure (wpAny_bind (id2 r3 fun c s4 r4 => ?_)))
  dsimp only
  have own1 : ∀ x ∈ (sc.names.filter fun x => (x.2 == .local || x.2 == .cell) && x.1 != (".0" : Str)).reverse, x.2 = .local → Env.kindOf { c with scope := relabel sc env } x.1 = some .local :=
    fun x hx => fun hl => lookup_relabel_local (h5 x ((List.mem_filter.mp (List.mem_reverse.mp hx)).1) hl)
  refine wpAny_holding (wpAny_bind (wpAny_attempt (wpAny_holding (wpAny_run (codeAny_mono r4 fun r t ht => ?_)))))
  cases r with
  | error x =>
    obtain ⟨m, hm, back⟩ := ht
    cases use <;> refine wpAny_bind (wpAny_holding (wpAny_comp_letGo (cenv := { c with scope := relabel sc env }) h4 _ t m own1 hm ?_)) <;>
      exact fun g _ _ sb => id2 (back g sb { c with scope := relabel sc env } rfl rfl) fun _ _ f => f.elim
  | ok f =>
    cases use with
    | none =>
      obtain ⟨m, hm, go⟩ := ht
      exact wpAny_bind (wpAny_holding (wpAny_comp_letGo (cenv := { c with scope := relabel sc env }) h4 _ t m own1 hm fun g _ _ sb => wpAny_pure (go g sb)))
    | some u =>
      refine wpAny_bind (wpAny_rule (wpAny_bind (wpAny_holding (id2 ht fun _ t' ht' => ?_))))
      obtain ⟨m, hm, go⟩ := ht'
      refine wpAny_bind (wpAny_comp_letGo (cenv := { c with scope := relabel sc env }) h4 _ t' m (fun x hx hl => ?_) hm fun g _ _ sb => wpAny_pure (go g sb))
      rcases List.mem_append.mp hx with q | q
      · exact own1 x (List.mem_of_mem_drop q) hl
      · exact own1 x (List.mem_of_mem_take q) hl
/-- an exception in the sky is noted by the frame that stands on top -/
theorem sky_noted {M : Model} {A : Around} {E : Value → Shared → Prop} {env : Env} {outer : List Env} {L a : Addr} {Z : Obj → Prop} {B : Heap} {s : Shared} {Q : Unit → Shared → Prop} (st : HandSPX.Steady Z) (top : A.frames = some (env :: outer)) (fr : env.frame = some L)
    (sky : HandSPX.FlyingZ B (env :: outer) a Z s.heap) (k : ∀ g, HandSPX.HeldZ B (env :: outer) a Z L g → s.heap.UpToSlots g → Q () { s with heap := g }) : wpAny M A (noteFrame (.ref a) env) Q E s :=
  HandSPX.looks_onZ st top fr sky k
theorem frames_to {B B' h h' : Heap} : ∀ {l : List Env}, h.FunFrames B l → (∀ L ∈ frs l, h'.get? L = h.get? L ∧ (B.get? L = none → B'.get? L = none)) → h'.FunFrames B' l
  | [], _, _ => trivial
  | env :: l, ⟨k, ⟨L, o, e1, e2, e3, e4⟩, r⟩, hk => by
    have q := hk L (List.mem_filterMap.mpr ⟨env, List.mem_cons_self, e1⟩)
    refine ⟨k, ⟨L, o, e1, q.2 e2, q.1.trans e3, e4⟩, frames_to r fun L' m => ?_⟩
    obtain ⟨e', m1, m2⟩ := List.mem_filterMap.mp m
    exact hk L' (List.mem_filterMap.mpr ⟨e', List.mem_cons_of_mem _ m1, m2⟩)
/-- what is held stays so with the block's names gone from ground and state -/
theorem held_less {B h g : Heap} {l : List Env} {a C L : Addr} {Z : Obj → Prop} (hh : HandSPX.HeldZ B l a Z L h) (sb : Heap.SameBut C h g) (nf : C ∉ frs l) (nr : ∀ o, h.get? C = some o → ∀ vs, o.data ≠ .fields vs) : HandSPX.HeldZ (PySem.W.hideAll B [C]) l a Z L g := by
  obtain ⟨st, na, ff, oe, vs, T, oT, ts, e1, e2, e3, e4, e5, e6, e7, e8, e9⟩ := hh
  have off : ∀ b o, h.get? b = some o → (∃ vs, o.data = .fields vs) → g.get? b = some o := fun b o e f => by
    refine (sb.2 b fun z => ?_).trans e
    subst z
    obtain ⟨vs, f⟩ := f
    exact nr o e vs f
  have hid : ∀ b, B.get? b = none → (PySem.W.hideAll B [C]).get? b = none := fun b e => by
    cases q : (PySem.W.hideAll B [C]).get? b with
    | none => rfl
    | some o =>
      rw [PySem.W.of_hideAll _ q] at e
      cases e
  refine ⟨fun b o e => ?_, hid a na, frames_to ff fun L' m => ⟨sb.2 L' fun z => nf (z ▸ m), hid L'⟩, oe, vs, T, oT, ts, off a oe e1 ⟨vs, e3⟩, e2, e3, e4, hid T e5, e6, off T oT e7 ⟨ts, e8⟩, e8, e9⟩
  have nb : b ≠ C := fun z => by
    have q := PySem.W.hideAll_none [C] (h := B) (b := b) (by rw [z]; exact List.mem_cons_self)
    rw [e] at q
    cases q
  exact (sb.2 b nb).trans (st b o (PySem.W.of_hideAll _ e))
/-- the context of a block whose step may let an error out -/
abbrev blkX (X : Cx) (s : Shared) (H : Hp) (sc : Scope) (c : Env) (fp : List Addr) (xe : Value → Shared → Prop) : Cx := (X.blk s H sc c fp).wish xe
theorem block_pass {X : Cx} {pins : List (Addr × Obj)} {σ : L2.St} {H3 : Hp} {s3 : Shared} {sc : Scope} {ce : Env} {fp : List Addr} {E : XK} {use : Option (Value → Sem Unit)} {Qf : Value → Shared → Prop} {new : Value} (I3 : Inv X pins σ H3 s3) (hs : X.stack = X.env :: X.outer) (hf : X.env.frame = some X.env.locals)
    (cL : ce.locals = s3.heap.objs.size) (cF : ce.frame = X.env.frame) (hfp : ∀ b ∈ fp, FpOk X pins H3 b) (tk : Takes X fun cls d _ H => E cls d H) :
    Passes (L2.CX X.prog X.w) (blkX X s3 H3 sc ce fp (notedBy (model X.prog X.w) X.A ce fun e t => EndC (model X.prog X.w) X.A X.xe use Qf new s3.heap.objs.size X.env.frame (.error e) t)) E := by
  intro pins' σ' H s e s' I c
  obtain ⟨a, B, G, cls, d, rfl, fl, hok, ub, na, os, ag, hE⟩ := c
  generalize hC : s3.heap.objs.size = C at cL
  have nC : H C = none := by
    have q : H ce.locals = none := I.free
    rw [cL] at q
    exact q
  obtain ⟨m, hn, _⟩ := I.loc
  have hn : s.heap.Ns ce.locals m := hn
  rw [cL] at hn
  have nfr : C ∉ frs X.stack := fun hm => by
    obtain ⟨_, o, q, _⟩ := I3.stack.mem hm
    exact absurd (Heap.lt_size q) (by rw [hC]; exact Nat.lt_irrefl _)
  have fpC : ∀ {G' : Hp}, G' C = none → FpOk X pins G' C := fun q => I3.fpOk (Nat.le_of_eq hC) q
  have I7 : Inv X pins σ H s := by
    refine I3.call' (ch := fp) I.os I.base I.hok I.bare fun b hb => ?_
    obtain ⟨_, q1, q2, q3, q4, q5⟩ := hfp b hb
    exact ⟨q3, q1, q4, q5⟩
  have top : X.A.frames = some (X.env :: X.outer) := by
    rw [I3.ok.frames, hs]
  have fl2 : HandSPX.FlyingZ B (X.env :: X.outer) a (Zc cls d) s'.heap := hs ▸ fl
  show wpAny (model X.prog X.w) X.A (noteFrame (.ref a) ce) _ _ s'
  rw [note_frame cF]
  refine sky_noted Zc.steady top hf fl2 fun g hh up => ?_
  obtain ⟨o, es, ep, ho, hd, r⟩ := hn
  have bC : B.get? C = some o := ub.keep C o ho nC nfr
  have gC : g.get? C = some o := hh.1 C o bC
  refine ⟨m, ⟨o, es, ep, gC, hd, r⟩, fun g2 sb c' c1 c2 => ?_⟩
  have hh2 := held_less hh sb (hs ▸ nfr) fun o' q vs z => by
    rw [gC] at q
    cases q
    rw [hd] at z
    cases z
  obtain ⟨oe, vs, T, _, _, x1, _, x3, x4, _⟩ := id hh2.2.2.2
  unfold PySem.passOn
  refine wpAny_bind (wpAny_field x1 x3 x4 ?_)
  rw [if_neg (show ¬ ((Value.ref T == Value.none) = true) by simp)]
  rw [c2, hf]
  refine wpAny_bind (HandSPX.setFlight_onZ hh2 fun g3 hh3 up3 => wpAny_throw ?_)
  have up1 : ∀ b o, b ≠ C → s'.heap.get? b = some o → (∀ vs, o.data ≠ .fields vs) → ∃ sl, g3.get? b = some { o with slots := sl } := fun b o nb q nf => by
    obtain ⟨sl1, q1⟩ := up b o q nf
    obtain ⟨sl2, q2⟩ := up3 b _ ((sb.2 b nb).trans q1) nf
    exact ⟨sl2, q2⟩
  have ground : ∀ b o, b ≠ C → B.get? b = some o → g3.get? b = some o := fun b o nb q =>
    hh3.1 b o (PySem.W.hideAll_get [C] q fun z => nb (List.mem_singleton.mp z))
  obtain ⟨R, r1, r2⟩ := L2.restrict g3 fun b => !decide (b = C) && ((B.get? b).isSome || decide (b ∈ frs X.stack))
  have rB : ∀ b o, b ≠ C → B.get? b = some o → R.get? b = some o := fun b o nb q => by
    rw [r1 b (by simp [nb, q])]
    exact ground b o nb q
  have rF : ∀ b, b ∈ frs X.stack → R.get? b = g3.get? b := fun b hb => r1 b (by
    have nb : b ≠ C := fun z => nfr (z ▸ hb)
    simp [nb, hb])
  have rg : ∀ b o, R.get? b = some o → g3.get? b = some o ∧ b ≠ C ∧ ((B.get? b).isSome = true ∨ b ∈ frs X.stack) := fun b o q => by
    cases p : (!decide (b = C) && ((B.get? b).isSome || decide (b ∈ frs X.stack))) with
    | false =>
      rw [r2 b p] at q
      cases q
    | true =>
      rw [r1 b p] at q
      rw [Bool.and_eq_true] at p
      exact ⟨q, by simpa using p.1, by simpa using p.2⟩
  have GC : G C = none := ub.free C o ho nC
  have J : Inv X pins σ G { s' with heap := R } := by
    refine I7.call' (ch := [C]) os ⟨fun b u q n nf nc => ?_, fun b u q n hb nc => ?_, fun b u q n _ => ub.free b u q n, fun b u q nc => ?_, ub.tups, ub.frzs, ub.tbls⟩ (fun b u q => ?_) ag fun b hb => ?_
    · exact rB b u (fun z => nc (by rw [z]; exact List.mem_cons_self)) (ub.keep b u q n nf)
    · have nb : b ≠ C := fun z => nfr (z ▸ hb)
      obtain ⟨_, u', q', nfl⟩ := I7.stack.mem hb
      rw [q] at q'
      cases q'
      obtain ⟨sl, q1⟩ := ub.slot b u q hb
      obtain ⟨sl2, q2⟩ := up1 b _ nb q1 nfl
      exact ⟨sl2, by rw [rF b hb]; exact q2⟩
    · have nb : b ≠ C := fun z => nc (by rw [z]; exact List.mem_cons_self)
      by_cases hb : b ∈ frs X.stack
      · obtain ⟨_, u', q', nfl⟩ := I7.stack.mem hb
        rw [q] at q'
        cases q'
        obtain ⟨sl, q1⟩ := ub.slot b u q hb
        obtain ⟨sl2, q2⟩ := up1 b _ nb q1 nfl
        exact ⟨_, by rw [rF b hb]; exact q2⟩
      · obtain ⟨u', q1⟩ := ub.there b u q hb
        exact ⟨u', rB b u' nb q1⟩
    · refine (hok b u q).stay (fun b' v hc w => rB b' v (fun z => ?_) w) (fun _ z => z) fun _ _ z => z
      subst z
      rcases hc with hc | hc
      · rw [← hc, GC] at q
        cases q
      · rw [GC] at hc
        cases hc
    · rw [List.mem_singleton.mp hb]
      obtain ⟨_, q1, _, q3, q4, q5⟩ := fpC GC
      exact ⟨q3, q1, q4, q5⟩
  refine tk _ _ ⟨a, PySem.W.hideAll B [C], _, pins, σ, G, cls, d, rfl, J, fun b u q nf => ?_, Heap.UpToSlots.of_keeps fun b u q => (rg b u q).1, .inr (.inr (hs ▸ hh3)), na, rfl, ag, hE⟩
  obtain ⟨q1, nb, q2⟩ := rg b u q
  rcases q2 with q2 | q2
  · obtain ⟨v, q2⟩ := Option.isSome_iff_exists.mp q2
    have q3 := ground b v nb q2
    rw [q1] at q3
    cases q3
    exact PySem.W.hideAll_get [C] q2 fun z => nb (List.mem_singleton.mp z)
  · exact absurd q2 nf
section
variable {X : Cx} {elt tg iter : Expr} {ifs : List Expr} {sc : Scope} {own : List (Str × Nat)} {pos pos' : Pos} {wi : TI} {g : TG} {tt : TT} {te : TE} {E : XK}
theorem lc_raise {pins : List (Addr × Obj)} {s : Shared} {σ : L2.St} {H : Hp} {Q : VK} {use : Option (Value → Sem Unit)} {Qf : Value → Shared → Prop}
    (calm : X.calm = true) (nd : X.N.Nodup) (I : Inv X pins σ H s) (hi : PI X tg iter wi) (blk : BlkOk X.N X.env.scope sc own) (hs : X.stack = X.env :: X.outer) (hf : X.env.frame = some X.env.locals) (tk : Takes X fun cls d _ H => E cls d H)
    (hg : ∀ s H C cl fp, PG (X.blk s H sc (compEnvC sc cl C X.env) fp) tg g) (ht : ∀ s H C cl fp, PTs (X.blk s H sc (compEnvC sc cl C X.env) fp) ifs tt)
    (he : ∀ s H C cl fp xe, Passes (L2.CX X.prog X.w) (blkX X s H sc (compEnvC sc cl C X.env) fp xe) E → PE (blkX X s H sc (compEnvC sc cl C X.env) fp xe) elt te)
    (hfold : ∀ x, foldedSetIterable iter X.env x = pure x) (h : tLc wi g tt te (own.map (·.2)) σ H Q)
    (ends : ∀ D C t m G, Inv X pins σ G t → Q (.ref D) G → t.heap.Ns C m → FpOk X pins G C → compPost (model X.prog X.w) X.A X.xe use Qf (.ref D) C (.ok .next) t) :
    wpAny (model X.prog X.w) X.A (comprehension (.ListComp elt [⟨tg, iter, ifs, 0⟩] sc pos) sc X.env pos' (newList []) false (eval iter X.env) use) Qf X.xe s := by
  have caps : ∀ y ∈ sc.names, y.2 = .free → ∃ c, X.env.cells.lookup y.1 = some c := fun y hy e => (blk.free y hy e).elim (fun q => I.ok.has _ (.inl q)) fun q => I.ok.has _ (.inr q)
  refine comp_ends (use := use) rfl hfold (closure_ok caps) blk.kind (fun y hy e => by rw [blk.uniq y hy, e]) ?_
  refine thn (hi.run pins s σ H _ I h) fun xv s1 hx => thn hx fun itv s2 ⟨it, fp, tn, J, G, e, I2, T, st2, f2, q⟩ => ?_
  subst e
  refine wpAny_newObj_type (newEnv_comp ?_) (by show 0 ≤ sizeLine; decide)
  obtain ⟨D, hD⟩ : ∃ D, D = s2.heap.objs.size := ⟨_, rfl⟩
  rw [← hD]
  obtain ⟨W, ⟨m0, w0⟩, turn⟩ := q D (I2.hok.fresh (Nat.le_of_eq hD.symm))
  obtain ⟨s3, hs3⟩ : ∃ s3 : Shared, s3 = { s2 with heap := s2.heap.push { cls := .type "list", data := .seq ([] : List Value).toArray } } := ⟨_, rfl⟩
  rw [← hs3]
  have lay : ∀ b u, s2.heap.get? b = some u → s3.heap.get? b = some u := fun b u q => by
    rw [hs3]
    exact Heap.get?_push_of_some _ q
  obtain ⟨H3, hH3⟩ : ∃ H3, H3 = upd G D (.lst []) := ⟨_, rfl⟩
  have I3 : Inv X pins σ H3 s3 := by
    rw [hs3, hH3]
    exact I2.laid (t' := s2.toks) (fun b u q => Heap.get?_push_of_some _ q) (Nat.le_of_eq hD.symm) ⟨Nat.zero_le _, [], 0, .nil, by rw [hD]; exact Heap.get?_push_size _ rfl⟩
  rw [← hH3] at w0
  have f3 : ∀ b ∈ fp, FpOk X pins H3 b ∧ b < s3.heap.objs.size := fun b hb => by
    obtain ⟨u, q, _⟩ := T.obj _ _ st2 b hb
    obtain ⟨q1, q2⟩ := f2 b hb
    refine ⟨⟨?_, q2⟩, Heap.lt_size (lay b u q)⟩
    rw [hH3, upd_ne (fun z => ?_)]
    · exact q1
    · have := Heap.lt_size q
      rw [z, hD] at this
      exact Nat.lt_irrefl _ this
  have I4 := block_start I3 blk nd f3
  have way := fun xe => he s3 H3 s3.heap.objs.size (cellsFrom (s3.heap.objs.size + 1) sc.names (cloFrom X.env.cells sc.names [])) fp xe
  have pg := hg s3 H3 s3.heap.objs.size (cellsFrom (s3.heap.objs.size + 1) sc.names (cloFrom X.env.cells sc.names [])) fp
  have pt := ht s3 H3 s3.heap.objs.size (cellsFrom (s3.heap.objs.size + 1) sc.names (cloFrom X.env.cells sc.names [])) fp
  show codeAny _ _ (.compStart _ 0 (.ref it) (.ref D) (compEnvC sc (cellsFrom (s3.heap.objs.size + 1) sc.names (cloFrom X.env.cells sc.names [])) s3.heap.objs.size X.env)) (EndC _ X.A X.xe use Qf (.ref D) s3.heap.objs.size X.env.frame) _
  obtain ⟨ce, hce⟩ : ∃ ce, ce = compEnvC sc (cellsFrom (s3.heap.objs.size + 1) sc.names (cloFrom X.env.cells sc.names [])) s3.heap.objs.size X.env := ⟨_, rfl⟩
  have cL : ce.locals = s3.heap.objs.size := by rw [hce]; rfl
  have cF : ce.frame = X.env.frame := by rw [hce]; rfl
  rw [← hce] at I4 pg pt way ⊢
  obtain ⟨s4, hs4⟩ : ∃ s4 : Shared, s4 = { s3 with heap := pushCells (s3.heap.push { cls := .type "dict", data := .dict #[] }) sc.names } := ⟨_, rfl⟩
  rw [← hs4] at I4 ⊢
  have st4 : tn 0 s4.heap := T.keep _ _ _ st2 fun b _ u q => by
    rw [hs4]
    exact pushCells_keeps _ _ _ _ (Heap.get?_push_of_some _ (lay b u q))
  have pe := way _ (block_pass (use := use) (Qf := Qf) (new := .ref D) I3 hs hf cL cF (fun b hb => (f3 b hb).1) tk)
  have still : ∀ {τ : L2.St} {F : Hp} {t : Shared}, Inv (X.blk s3 H3 sc ce fp) [] τ F t → (∀ b ∈ fp, F b = none) → ∀ b ∈ fp, FpOk (X.blk s3 H3 sc ce fp) [] F b := fun {τ F t} K hn b hb =>
    ⟨hn b hb, (K.ok.exf b hb).1, K.ok.exfs b hb, .inl hb, fun y c q => (K.ok.exf b hb).2 y c q, fun p hp => by cases hp⟩
  have loop : codeAny (model X.prog X.w) X.A (.compLoop (.ListComp elt [⟨tg, iter, ifs, 0⟩] sc pos) 0 (.ref it) (.ref D) ce) (EndC (model X.prog X.w) X.A X.xe use Qf (.ref D) s3.heap.objs.size X.env.frame) s4 := by
    refine compLoop_any (fun n t => ∃ i F, Inv (X.blk s3 H3 sc ce fp) [] (wipe σ (own.map (·.2))) F t ∧ tn i t.heap ∧ (∀ b ∈ fp, F b = none) ∧ W i n F) ?_ m0 ⟨0, H3, I4, st4, fun b hb => (f3 b hb).1.1, w0⟩
    rintro n s5 ⟨i, H5, I5, st5, n5, w5⟩
    rcases turn i n H5 w5 with ⟨stop, qq⟩ | ⟨go, Nx, hNx, step⟩
    · refine thnF (T.done (X.blk s3 H3 sc ce fp) rfl rfl rfl calm i [] s5 _ H5 (fun _ _ => False) I5 (still I5 n5) st5 stop) fun r s6 ⟨hr, I6⟩ => ?_
      subst hr
      have I7 : Inv X pins σ H5 s6 := by
        refine I3.call' (ch := fp) I6.os I6.base I6.hok I6.bare fun b hb => ?_
        obtain ⟨_, q1, _, q3, q4, q5⟩ := (f3 b hb).1
        exact ⟨q3, q1, q4, q5⟩
      have gone : H5 ce.locals = none := I6.free
      obtain ⟨m, hm, _⟩ := I6.loc
      have hm : s6.heap.Ns ce.locals m := hm
      rw [cL] at hm gone
      exact ends D s3.heap.objs.size s6 m H5 I7 qq hm (I3.fpOk (Nat.le_refl _) gone)
    · refine thnF (T.item (X.blk s3 H3 sc ce fp) rfl rfl rfl calm i [] s5 _ H5 (fun _ _ => False) I5 (still I5 n5) st5 go) fun r s6 ⟨u, hr, h6⟩ => ?_
      subst hr
      refine thnF h6 fun _ s7 ⟨x, H7, I7, r7, y7, st7, n7⟩ => ?_
      have I8 := I7.pinned (still I7 n7) (T.obj _ _ st7)
      refine thnF (pg.run _ s7 _ H7 x u _ I8 r7 (step x H7 y7)) fun _ s8 ⟨τ, H8, I9, hτ, q8⟩ => ?_
      refine thnF (pt.run _ s8 τ H8 _ I9 q8) fun b s9 ⟨H9, I10, q9⟩ => ?_
      have next : ∀ {t : Shared} {F : Hp}, Inv (X.blk s3 H3 sc ce fp) ([] ++ pinsAt fp s7.heap) τ F t → Nx F → ∃ m, m < n ∧ ∃ i F, Inv (X.blk s3 H3 sc ce fp) [] (wipe σ (own.map (·.2))) F t ∧ tn i t.heap ∧ (∀ b ∈ fp, F b = none) ∧ W i m F := fun {t F} K nx => by
        obtain ⟨m, hm, w6⟩ := hNx F nx
        have held : ∀ b ∈ fp, ∀ v, s7.heap.get? b = some v → t.heap.get? b = some v ∧ F b = none := fun b hb v q => by
          have z := K.pin (b, v) (List.mem_append_right _ (List.mem_append_right _ (mem_pinsAt hb q)))
          exact ⟨z.1, z.2.1⟩
        refine ⟨m, hm, i + 1, F, (K.unpinned (pins := [])).weak (by rw [← hτ, wipe_length]) (fun j v q => ?_), T.keep _ _ _ st7 fun b hb v q => (held b hb v q).1, fun b hb => ?_, w6⟩
        · rw [← hτ] at q
          exact (wipe_some q).1
        · obtain ⟨v, q, _⟩ := T.obj _ _ st7 b hb
          exact (held b hb v q).2
      cases b with
      | false => exact next I10 q9
      | true =>
        rw [if_pos rfl] at q9 ⊢
        refine wpAny_mono (pe.run _ s9 τ H9 _ (I10.wish _) q9) (fun z s10 ⟨yv, H10, I11, r10, acc, e10, z10, nx⟩ => ?_) fun _ _ z => z
        exact app_ok (X := X.blk s3 H3 sc ce fp) I11.unwish e10 z10 r10 fun s11 I12 => next I12 nx
  exact codeAny_compStart_list loop (T.self X.A 0 _ _ _ st4 loop)
/-- name = [..], the step may let an own error out -/
theorem ps_setLcR {i : Nat} {y : Str} {py spos : Pos} (calm : X.calm = true) (nd : X.N.Nodup) (at_ : X.N[i]? = some y) (loc : X.env.scope.names.lookup y = some .local)
    (hsw : swapsWith (.ListComp elt [⟨tg, iter, ifs, 0⟩] sc pos) (some (.Name y py)) spos.line X.env = pure true) (hi : PI X tg iter wi) (blk : BlkOk X.N X.env.scope sc own) (hs : X.stack = X.env :: X.outer) (hf : X.env.frame = some X.env.locals) (tk : Takes X fun cls d _ H => E cls d H)
    (hg : ∀ s H C cl fp, PG (X.blk s H sc (compEnvC sc cl C X.env) fp) tg g) (ht : ∀ s H C cl fp, PTs (X.blk s H sc (compEnvC sc cl C X.env) fp) ifs tt)
    (he : ∀ s H C cl fp xe, Passes (L2.CX X.prog X.w) (blkX X s H sc (compEnvC sc cl C X.env) fp xe) E → PE (blkX X s H sc (compEnvC sc cl C X.env) fp xe) elt te)
    (hfold : ∀ x, foldedSetIterable iter X.env x = pure x := by intro _; rfl) :
    PS X (.Assign [.Name y py] (.ListComp elt [⟨tg, iter, ifs, 0⟩] sc pos) spos) (tAsg (tLc wi g tt te (own.map (·.2))) (gName i)) := by
  constructor
  intro pins s σ H D I h
  have h : tLc wi g tt te (own.map (·.2)) σ H fun x G => gName i x σ G D.nx := h
  rw [exec_Assign_Name_used _ _ _ _ hsw]
  refine wpAny_bind (wpAny_standAt (wpAny_bind (wpAny_bind ?_)))
  refine thn (lc_raise (use := some (assign (.Name y py) X.env)) (Qf := fun _ t => SP X pins D .next t) calm nd I hi blk hs hf tk hg ht he hfold h fun L C t m G J q hm f => ?_) fun _ t z => wpAny_pure (wpAny_pure z)
  obtain ⟨f0, f1, f2, f3, f4, f5⟩ := f
  refine wpAny_assign_Name (store_ok2 (v := V.ref L) J nd at_ (.inl loc) rfl (fun t2 J2 hsb => ?_) (.inr loc))
  obtain ⟨a, sb, ha⟩ := hsb
  have ne : C ≠ a := by
    rcases ha with z | z
    · exact z ▸ f1
    · exact fun e => f4 y a z e.symm
  exact ⟨m, hm.sameBut sb ne, fun g3 sb3 => ⟨_, G, J2.turned (t' := t2.toks) (fun b u nb e => (sb3.2 b nb).trans e) f0 f1 f3 f4 f5, q⟩⟩
end
end FT

namespace MB
abbrev Mt := List (List Int)
def d2 (a b c d : Int) : Int := a * d - c * b
def d3 (a b c d e f g h i : Int) : Int := a * d2 e f h i - b * d2 d f g i + c * d2 d e g h
def d4 (a b c d e f g h i j k l m n o p : Int) : Int := a * d3 f g h j k l n o p - b * d3 e g h i k l m o p + c * d3 e f h i j l m n p - d * d3 e f g i j k m n o
def d5 (a b c d e f g h i j k l m n o p q r s t u v w x y : Int) : Int :=
  a * d4 g h i j l m n o q r s t v w x y - b * d4 f h i j k m n o p r s t u w x y + c * d4 f g i j k l n o p q s t u v x y - d * d4 f g h j k l m o p q r t u v w y + e * d4 f g h i k l m n p q r s u v w x
theorem i3 (a b c d e f g h i : Int) : d2 a b d e * d2 a c g i - d2 a b g h * d2 a c d f = a * d3 a b c d e f g h i := by
  unfold d3 d2; grind
theorem i4 (a b c d e f g h i j k l m n o p : Int) : d3 a b c e f g i j k * d3 a b d e f h m n p - d3 a b c e f g m n o * d3 a b d e f h i j l = d2 a b e f * d4 a b c d e f g h i j k l m n o p := by
  unfold d4 d3 d2; grind
theorem i5 (a b c d e f g h i j k l m n o p q r s t u v w x y : Int) :
    d4 a b c d f g h i k l m n p q r s * d4 a b c e f g h j k l m o u v w y - d4 a b c d f g h i k l m n u v w x * d4 a b c e f g h j k l m o p q r t = d3 a b c f g h k l m * d5 a b c d e f g h i j k l m n o p q r s t u v w x y := by
  unfold d5 d4 d3 d2; grind
end MB

namespace MB
/-- one row cleared by another one, at the first place -/
def clr (b : Int) (top row : List Int) : List Int := List.zipWith (fun r t => (top.headD 0 * r - row.headD 0 * t).fdiv b) row.tail top.tail
def corners : Nat → Mt → Int → List Int
  | 0, _, _ => []
  | _ + 1, [], _ => []
  | k + 1, top :: rest, b => top.headD 0 :: if top.headD 0 ≤ 0 then [] else corners k (rest.map (clr b top)) (top.headD 0)
/-- what is summed along a first row -/
def lsum (f : Nat → Int) : Nat → List Int → Int → Int
  | _, [], acc => acc
  | i, x :: xs, acc => lsum f (i + 1) xs (if x = 0 then acc else acc + (1 - 2 * (((i % 2 : Nat)) : Int)) * x * f i)
def lap : Nat → Mt → Int
  | 0, _ => 1
  | _ + 1, [] => 1
  | k + 1, r :: rest => lsum (fun i => lap k (rest.map (·.eraseIdx i))) 0 r 0
def lead (m : Nat) (M : Mt) : Mt := (M.take m).map (·.take m)
theorem ite0 (x y c z : Int) : (if x = 0 then y else y + c * x * z) = y + c * x * z := by
  split
  · rename_i h; rw [h]; simp
  · rfl
theorem lap1 (a : Int) : lap 5 [[a]] = a := by
  simp only [lap, lsum, ite0, List.eraseIdx, List.map]
  simp
theorem lap2 (a b c d : Int) : lap 5 [[a, b], [c, d]] = d2 a b c d := by
  simp only [lap, lsum, ite0, List.eraseIdx, List.map]
  unfold d2; simp; grind
theorem lap3 (a b c d e f g h i : Int) : lap 5 [[a, b, c], [d, e, f], [g, h, i]] = d3 a b c d e f g h i := by
  simp only [lap, lsum, ite0, List.eraseIdx, List.map]
  unfold d3 d2; simp; grind
theorem lap4 (a b c d e f g h i j k l m n o p : Int) : lap 5 [[a, b, c, d], [e, f, g, h], [i, j, k, l], [m, n, o, p]] = d4 a b c d e f g h i j k l m n o p := by
  simp only [lap, lsum, ite0, List.eraseIdx, List.map]
  unfold d4 d3 d2; simp; grind
theorem lap5 (a b c d e f g h i j k l m n o p q r s t u v w x y : Int) : lap 5 [[a, b, c, d, e], [f, g, h, i, j], [k, l, m, n, o], [p, q, r, s, t], [u, v, w, x, y]] = d5 a b c d e f g h i j k l m n o p q r s t u v w x y := by
  simp only [lap, lsum, ite0, List.eraseIdx, List.map]
  unfold d5 d4 d3 d2; simp; grind
theorem fd {x a b : Int} (h : 0 < a) (e : x = a * b) : x.fdiv a = b := by
  rw [e]; exact Int.mul_fdiv_cancel_left b (by omega)
theorem fd1 (x : Int) : x.fdiv 1 = x := Int.fdiv_one x
theorem cstop {k : Nat} {t b : Int} {ts : List Int} {rest : Mt} (h : t ≤ 0) : corners (k + 1) ((t :: ts) :: rest) b = [t] := by
  show t :: (if t ≤ 0 then _ else _) = _
  rw [if_pos h]
theorem cstep {k : Nat} {t b : Int} {ts : List Int} {rest : Mt} (h : ¬ t ≤ 0) : corners (k + 1) ((t :: ts) :: rest) b = t :: corners k (rest.map (clr b (t :: ts))) t := by
  show t :: (if t ≤ 0 then _ else _) = _
  rw [if_neg h]
  rfl
theorem clr_c (b t r : Int) (ts rs : List Int) : clr b (t :: ts) (r :: rs) = List.zipWith (fun x y => (t * x - r * y).fdiv b) rs ts := rfl
/-- to the first that is not above 0 -/
def cut : List Int → List Int
  | [] => []
  | x :: xs => x :: if x ≤ 0 then [] else cut xs
theorem cut_pos : ∀ l : List Int, (∀ c ∈ cut l, 0 < c) ↔ ∀ c ∈ l, 0 < c
  | [] => Iff.rfl
  | x :: xs => by
    have ih := cut_pos xs
    constructor
    · intro h c hc
      have h0 : 0 < x := h x List.mem_cons_self
      have n : ¬ x ≤ 0 := by omega
      rcases List.mem_cons.mp hc with rfl | hc
      · exact h0
      · refine ih.mp (fun d hd => h d ?_) c hc
        show d ∈ x :: (if x ≤ 0 then _ else _)
        rw [if_neg n]
        exact List.mem_cons_of_mem _ hd
    · intro h c hc
      have h0 : 0 < x := h x List.mem_cons_self
      have n : ¬ x ≤ 0 := by omega
      have hc : c ∈ x :: (if x ≤ 0 then _ else _) := hc
      rw [if_neg n] at hc
      rcases List.mem_cons.mp hc with rfl | hc
      · exact h0
      · exact ih.mpr (fun d hd => h d (List.mem_cons_of_mem _ hd)) c hc
theorem cut_all : ∀ {l : List Int}, (∀ c ∈ l, 0 < c) → cut l = l
  | [], _ => rfl
  | x :: xs, h => by
    have h0 : 0 < x := h x List.mem_cons_self
    show x :: (if x ≤ 0 then _ else _) = _
    rw [if_neg (by omega), cut_all fun c hc => h c (List.mem_cons_of_mem _ hc)]
theorem cutE (x : Int) (xs : List Int) (h : ¬ x ≤ 0) : cut (x :: xs) = x :: cut xs := by
  show x :: (if x ≤ 0 then _ else _) = _
  rw [if_neg h]
theorem cutS (x : Int) (xs : List Int) (h : x ≤ 0) : cut (x :: xs) = [x] := by
  show x :: (if x ≤ 0 then _ else _) = _
  rw [if_pos h]
theorem k1 (a : Int) : corners 5 [[a]] 1 = cut [a] := by
  by_cases h1 : a ≤ 0
  · rw [cstop h1, cutS _ _ h1]
  · rw [cstep h1, cutE _ _ h1]
    rfl
theorem k2 (a b c d : Int) : corners 5 [[a, b], [c, d]] 1 = cut [a, d2 a b c d] := by
  by_cases h1 : a ≤ 0
  · rw [cstop h1, cutS _ _ h1]
  rw [cstep h1, cutE _ _ h1]
  have e1_1 : clr 1 [a, b] [c, d] = [d2 a b c d] := by
    rw [clr_c]
    simp only [List.zipWith, fd1]
    rfl
  simp only [List.map, e1_1]
  refine congrArg _ ?_
  by_cases h2 : d2 a b c d ≤ 0
  · rw [cstop h2, cutS _ _ h2]
  · rw [cstep h2, cutE _ _ h2]
    rfl
theorem k3 (a b c d e f g h i : Int) : corners 5 [[a, b, c], [d, e, f], [g, h, i]] 1 = cut [a, d2 a b d e, d3 a b c d e f g h i] := by
  by_cases h1 : a ≤ 0
  · rw [cstop h1, cutS _ _ h1]
  rw [cstep h1, cutE _ _ h1]
  have e1_1 : clr 1 [a, b, c] [d, e, f] = [d2 a b d e, d2 a c d f] := by
    rw [clr_c]
    simp only [List.zipWith, fd1]
    rfl
  have e1_2 : clr 1 [a, b, c] [g, h, i] = [d2 a b g h, d2 a c g i] := by
    rw [clr_c]
    simp only [List.zipWith, fd1]
    rfl
  simp only [List.map, e1_1, e1_2]
  refine congrArg _ ?_
  by_cases h2 : d2 a b d e ≤ 0
  · rw [cstop h2, cutS _ _ h2]
  rw [cstep h2, cutE _ _ h2]
  have e2_2 : clr a [d2 a b d e, d2 a c d f] [d2 a b g h, d2 a c g i] = [d3 a b c d e f g h i] := by
    have hp : 0 < a := by omega
    rw [clr_c]
    simp only [List.zipWith, fd hp (i3 a b c d e f g h i)]
  simp only [List.map, e2_2]
  refine congrArg _ ?_
  by_cases h3 : d3 a b c d e f g h i ≤ 0
  · rw [cstop h3, cutS _ _ h3]
  · rw [cstep h3, cutE _ _ h3]
    rfl
theorem k4 (a b c d e f g h i j k l m n o p : Int) : corners 5 [[a, b, c, d], [e, f, g, h], [i, j, k, l], [m, n, o, p]] 1 = cut [a, d2 a b e f, d3 a b c e f g i j k, d4 a b c d e f g h i j k l m n o p] := by
  by_cases h1 : a ≤ 0
  · rw [cstop h1, cutS _ _ h1]
  rw [cstep h1, cutE _ _ h1]
  have e1_1 : clr 1 [a, b, c, d] [e, f, g, h] = [d2 a b e f, d2 a c e g, d2 a d e h] := by
    rw [clr_c]
    simp only [List.zipWith, fd1]
    rfl
  have e1_2 : clr 1 [a, b, c, d] [i, j, k, l] = [d2 a b i j, d2 a c i k, d2 a d i l] := by
    rw [clr_c]
    simp only [List.zipWith, fd1]
    rfl
  have e1_3 : clr 1 [a, b, c, d] [m, n, o, p] = [d2 a b m n, d2 a c m o, d2 a d m p] := by
    rw [clr_c]
    simp only [List.zipWith, fd1]
    rfl
  simp only [List.map, e1_1, e1_2, e1_3]
  refine congrArg _ ?_
  by_cases h2 : d2 a b e f ≤ 0
  · rw [cstop h2, cutS _ _ h2]
  rw [cstep h2, cutE _ _ h2]
  have e2_2 : clr a [d2 a b e f, d2 a c e g, d2 a d e h] [d2 a b i j, d2 a c i k, d2 a d i l] = [d3 a b c e f g i j k, d3 a b d e f h i j l] := by
    have hp : 0 < a := by omega
    rw [clr_c]
    simp only [List.zipWith, fd hp (i3 a b c e f g i j k), fd hp (i3 a b d e f h i j l)]
  have e2_3 : clr a [d2 a b e f, d2 a c e g, d2 a d e h] [d2 a b m n, d2 a c m o, d2 a d m p] = [d3 a b c e f g m n o, d3 a b d e f h m n p] := by
    have hp : 0 < a := by omega
    rw [clr_c]
    simp only [List.zipWith, fd hp (i3 a b c e f g m n o), fd hp (i3 a b d e f h m n p)]
  simp only [List.map, e2_2, e2_3]
  refine congrArg _ ?_
  by_cases h3 : d3 a b c e f g i j k ≤ 0
  · rw [cstop h3, cutS _ _ h3]
  rw [cstep h3, cutE _ _ h3]
  have e3_3 : clr (d2 a b e f) [d3 a b c e f g i j k, d3 a b d e f h i j l] [d3 a b c e f g m n o, d3 a b d e f h m n p] = [d4 a b c d e f g h i j k l m n o p] := by
    have hp : 0 < d2 a b e f := by omega
    rw [clr_c]
    simp only [List.zipWith, fd hp (i4 a b c d e f g h i j k l m n o p)]
  simp only [List.map, e3_3]
  refine congrArg _ ?_
  by_cases h4 : d4 a b c d e f g h i j k l m n o p ≤ 0
  · rw [cstop h4, cutS _ _ h4]
  · rw [cstep h4, cutE _ _ h4]
    rfl
theorem k5 (a b c d e f g h i j k l m n o p q r s t u v w x y : Int) : corners 5 [[a, b, c, d, e], [f, g, h, i, j], [k, l, m, n, o], [p, q, r, s, t], [u, v, w, x, y]] 1 = cut [a, d2 a b f g, d3 a b c f g h k l m, d4 a b c d f g h i k l m n p q r s, d5 a b c d e f g h i j k l m n o p q r s t u v w x y] := by
  by_cases h1 : a ≤ 0
  · rw [cstop h1, cutS _ _ h1]
  rw [cstep h1, cutE _ _ h1]
  have e1_1 : clr 1 [a, b, c, d, e] [f, g, h, i, j] = [d2 a b f g, d2 a c f h, d2 a d f i, d2 a e f j] := by
    rw [clr_c]
    simp only [List.zipWith, fd1]
    rfl
  have e1_2 : clr 1 [a, b, c, d, e] [k, l, m, n, o] = [d2 a b k l, d2 a c k m, d2 a d k n, d2 a e k o] := by
    rw [clr_c]
    simp only [List.zipWith, fd1]
    rfl
  have e1_3 : clr 1 [a, b, c, d, e] [p, q, r, s, t] = [d2 a b p q, d2 a c p r, d2 a d p s, d2 a e p t] := by
    rw [clr_c]
    simp only [List.zipWith, fd1]
    rfl
  have e1_4 : clr 1 [a, b, c, d, e] [u, v, w, x, y] = [d2 a b u v, d2 a c u w, d2 a d u x, d2 a e u y] := by
    rw [clr_c]
    simp only [List.zipWith, fd1]
    rfl
  simp only [List.map, e1_1, e1_2, e1_3, e1_4]
  refine congrArg _ ?_
  by_cases h2 : d2 a b f g ≤ 0
  · rw [cstop h2, cutS _ _ h2]
  rw [cstep h2, cutE _ _ h2]
  have e2_2 : clr a [d2 a b f g, d2 a c f h, d2 a d f i, d2 a e f j] [d2 a b k l, d2 a c k m, d2 a d k n, d2 a e k o] = [d3 a b c f g h k l m, d3 a b d f g i k l n, d3 a b e f g j k l o] := by
    have hp : 0 < a := by omega
    rw [clr_c]
    simp only [List.zipWith, fd hp (i3 a b c f g h k l m), fd hp (i3 a b d f g i k l n), fd hp (i3 a b e f g j k l o)]
  have e2_3 : clr a [d2 a b f g, d2 a c f h, d2 a d f i, d2 a e f j] [d2 a b p q, d2 a c p r, d2 a d p s, d2 a e p t] = [d3 a b c f g h p q r, d3 a b d f g i p q s, d3 a b e f g j p q t] := by
    have hp : 0 < a := by omega
    rw [clr_c]
    simp only [List.zipWith, fd hp (i3 a b c f g h p q r), fd hp (i3 a b d f g i p q s), fd hp (i3 a b e f g j p q t)]
  have e2_4 : clr a [d2 a b f g, d2 a c f h, d2 a d f i, d2 a e f j] [d2 a b u v, d2 a c u w, d2 a d u x, d2 a e u y] = [d3 a b c f g h u v w, d3 a b d f g i u v x, d3 a b e f g j u v y] := by
    have hp : 0 < a := by omega
    rw [clr_c]
    simp only [List.zipWith, fd hp (i3 a b c f g h u v w), fd hp (i3 a b d f g i u v x), fd hp (i3 a b e f g j u v y)]
  simp only [List.map, e2_2, e2_3, e2_4]
  refine congrArg _ ?_
  by_cases h3 : d3 a b c f g h k l m ≤ 0
  · rw [cstop h3, cutS _ _ h3]
  rw [cstep h3, cutE _ _ h3]
  have e3_3 : clr (d2 a b f g) [d3 a b c f g h k l m, d3 a b d f g i k l n, d3 a b e f g j k l o] [d3 a b c f g h p q r, d3 a b d f g i p q s, d3 a b e f g j p q t] = [d4 a b c d f g h i k l m n p q r s, d4 a b c e f g h j k l m o p q r t] := by
    have hp : 0 < d2 a b f g := by omega
    rw [clr_c]
    simp only [List.zipWith, fd hp (i4 a b c d f g h i k l m n p q r s), fd hp (i4 a b c e f g h j k l m o p q r t)]
  have e3_4 : clr (d2 a b f g) [d3 a b c f g h k l m, d3 a b d f g i k l n, d3 a b e f g j k l o] [d3 a b c f g h u v w, d3 a b d f g i u v x, d3 a b e f g j u v y] = [d4 a b c d f g h i k l m n u v w x, d4 a b c e f g h j k l m o u v w y] := by
    have hp : 0 < d2 a b f g := by omega
    rw [clr_c]
    simp only [List.zipWith, fd hp (i4 a b c d f g h i k l m n u v w x), fd hp (i4 a b c e f g h j k l m o u v w y)]
  simp only [List.map, e3_3, e3_4]
  refine congrArg _ ?_
  by_cases h4 : d4 a b c d f g h i k l m n p q r s ≤ 0
  · rw [cstop h4, cutS _ _ h4]
  rw [cstep h4, cutE _ _ h4]
  have e4_4 : clr (d3 a b c f g h k l m) [d4 a b c d f g h i k l m n p q r s, d4 a b c e f g h j k l m o p q r t] [d4 a b c d f g h i k l m n u v w x, d4 a b c e f g h j k l m o u v w y] = [d5 a b c d e f g h i j k l m n o p q r s t u v w x y] := by
    have hp : 0 < d3 a b c f g h k l m := by omega
    rw [clr_c]
    simp only [List.zipWith, fd hp (i5 a b c d e f g h i j k l m n o p q r s t u v w x y)]
  simp only [List.map, e4_4]
  refine congrArg _ ?_
  by_cases h5 : d5 a b c d e f g h i j k l m n o p q r s t u v w x y ≤ 0
  · rw [cstop h5, cutS _ _ h5]
  · rw [cstep h5, cutE _ _ h5]
    rfl
theorem ex1 {α : Type} : ∀ {l : List α}, l.length = 1 → ∃ a, l = [a]
  | [a], _ => ⟨a, rfl⟩
theorem ex2 {α : Type} : ∀ {l : List α}, l.length = 2 → ∃ a b, l = [a, b]
  | [a, b], _ => ⟨a, b, rfl⟩
theorem ex3 {α : Type} : ∀ {l : List α}, l.length = 3 → ∃ a b c, l = [a, b, c]
  | [a, b, c], _ => ⟨a, b, c, rfl⟩
theorem ex4 {α : Type} : ∀ {l : List α}, l.length = 4 → ∃ a b c d, l = [a, b, c, d]
  | [a, b, c, d], _ => ⟨a, b, c, d, rfl⟩
theorem ex5 {α : Type} : ∀ {l : List α}, l.length = 5 → ∃ a b c d e, l = [a, b, c, d, e]
  | [a, b, c, d, e], _ => ⟨a, b, c, d, e, rfl⟩
theorem corners_ok {M : Mt} (hn : 1 ≤ M.length) (h5 : M.length ≤ 5) (sq : ∀ r ∈ M, r.length = M.length) :
    ∃ ds : List Int, corners 5 M 1 = cut ds ∧ ds.length = M.length ∧ ∀ m, m < M.length → ds[m]? = some (lap 5 (lead (m + 1) M)) := by
  obtain HH | HH | HH | HH | HH : M.length = 1 ∨ M.length = 2 ∨ M.length = 3 ∨ M.length = 4 ∨ M.length = 5 := by omega
  · rw [HH] at sq
    obtain ⟨r0, rfl⟩ := ex1 HH
    obtain ⟨a, rfl⟩ := ex1 (sq r0 List.mem_cons_self)
    refine ⟨_, k1 a, rfl, fun MM hm => ?_⟩
    have hm : MM < 1 := hm
    obtain rfl : MM = 0 := by omega
    · exact congrArg some (lap1 a).symm
  · rw [HH] at sq
    obtain ⟨r0, r1, rfl⟩ := ex2 HH
    obtain ⟨a, b, rfl⟩ := ex2 (sq r0 List.mem_cons_self)
    obtain ⟨c, d, rfl⟩ := ex2 (sq r1 (List.mem_cons_of_mem _ List.mem_cons_self))
    refine ⟨_, k2 a b c d, rfl, fun MM hm => ?_⟩
    have hm : MM < 2 := hm
    obtain rfl | rfl : MM = 0 ∨ MM = 1 := by omega
    · exact congrArg some (lap1 a).symm
    · exact congrArg some (lap2 a b c d).symm
  · rw [HH] at sq
    obtain ⟨r0, r1, r2, rfl⟩ := ex3 HH
    obtain ⟨a, b, c, rfl⟩ := ex3 (sq r0 List.mem_cons_self)
    obtain ⟨d, e, f, rfl⟩ := ex3 (sq r1 (List.mem_cons_of_mem _ List.mem_cons_self))
    obtain ⟨g, h, i, rfl⟩ := ex3 (sq r2 (List.mem_cons_of_mem _ (List.mem_cons_of_mem _ List.mem_cons_self)))
    refine ⟨_, k3 a b c d e f g h i, rfl, fun MM hm => ?_⟩
    have hm : MM < 3 := hm
    obtain rfl | rfl | rfl : MM = 0 ∨ MM = 1 ∨ MM = 2 := by omega
    · exact congrArg some (lap1 a).symm
    · exact congrArg some (lap2 a b d e).symm
    · exact congrArg some (lap3 a b c d e f g h i).symm
  · rw [HH] at sq
    obtain ⟨r0, r1, r2, r3, rfl⟩ := ex4 HH
    obtain ⟨a, b, c, d, rfl⟩ := ex4 (sq r0 List.mem_cons_self)
    obtain ⟨e, f, g, h, rfl⟩ := ex4 (sq r1 (List.mem_cons_of_mem _ List.mem_cons_self))
    obtain ⟨i, j, k, l, rfl⟩ := ex4 (sq r2 (List.mem_cons_of_mem _ (List.mem_cons_of_mem _ List.mem_cons_self)))
    obtain ⟨m, n, o, p, rfl⟩ := ex4 (sq r3 (List.mem_cons_of_mem _ (List.mem_cons_of_mem _ (List.mem_cons_of_mem _ List.mem_cons_self))))
    refine ⟨_, k4 a b c d e f g h i j k l m n o p, rfl, fun MM hm => ?_⟩
    have hm : MM < 4 := hm
    obtain rfl | rfl | rfl | rfl : MM = 0 ∨ MM = 1 ∨ MM = 2 ∨ MM = 3 := by omega
    · exact congrArg some (lap1 a).symm
    · exact congrArg some (lap2 a b e f).symm
    · exact congrArg some (lap3 a b c e f g i j k).symm
    · exact congrArg some (lap4 a b c d e f g h i j k l m n o p).symm
  · rw [HH] at sq
    obtain ⟨r0, r1, r2, r3, r4, rfl⟩ := ex5 HH
    obtain ⟨a, b, c, d, e, rfl⟩ := ex5 (sq r0 List.mem_cons_self)
    obtain ⟨f, g, h, i, j, rfl⟩ := ex5 (sq r1 (List.mem_cons_of_mem _ List.mem_cons_self))
    obtain ⟨k, l, m, n, o, rfl⟩ := ex5 (sq r2 (List.mem_cons_of_mem _ (List.mem_cons_of_mem _ List.mem_cons_self)))
    obtain ⟨p, q, r, s, t, rfl⟩ := ex5 (sq r3 (List.mem_cons_of_mem _ (List.mem_cons_of_mem _ (List.mem_cons_of_mem _ List.mem_cons_self))))
    obtain ⟨u, v, w, x, y, rfl⟩ := ex5 (sq r4 (List.mem_cons_of_mem _ (List.mem_cons_of_mem _ (List.mem_cons_of_mem _ (List.mem_cons_of_mem _ List.mem_cons_self)))))
    refine ⟨_, k5 a b c d e f g h i j k l m n o p q r s t u v w x y, rfl, fun MM hm => ?_⟩
    have hm : MM < 5 := hm
    obtain rfl | rfl | rfl | rfl | rfl : MM = 0 ∨ MM = 1 ∨ MM = 2 ∨ MM = 3 ∨ MM = 4 := by omega
    · exact congrArg some (lap1 a).symm
    · exact congrArg some (lap2 a b f g).symm
    · exact congrArg some (lap3 a b c f g h k l m).symm
    · exact congrArg some (lap4 a b c d f g h i k l m n p q r s).symm
    · exact congrArg some (lap5 a b c d e f g h i j k l m n o p q r s t u v w x y).symm
/-- all corners above 0 just if the determinants of all first rows and columns are -/
theorem pos_iff {M : Mt} (hn : 1 ≤ M.length) (h5 : M.length ≤ 5) (sq : ∀ r ∈ M, r.length = M.length) :
    (∀ c ∈ corners 5 M 1, 0 < c) ↔ ∀ m, m < M.length → 0 < lap 5 (lead (m + 1) M) := by
  obtain ⟨ds, e, hl, hd⟩ := corners_ok hn h5 sq
  rw [e, cut_pos]
  constructor
  · intro h m hm
    exact h _ (List.mem_of_getElem? (hd m hm))
  · intro h c hc
    obtain ⟨i, hi, rfl⟩ := List.mem_iff_getElem.mp hc
    have q := hd i (by omega)
    rw [List.getElem?_eq_getElem hi] at q
    rw [Option.some.inj q]
    exact h i (by omega)
theorem corners_ne {M : Mt} (hn : 1 ≤ M.length) : corners 5 M 1 ≠ [] := by
  cases M with
  | nil => simp at hn
  | cons r M => exact List.cons_ne_nil _ _
end MB

/-! one, *rest = xs; d in (..) where items are data; text * number -/
namespace FT
open PySem PySem.Spec PyProof.Rows L2
theorem one_then {α : Type} {ys : List α} {y : α} {zs : List α} (e : ys = y :: zs) : ys.take 1 = [y] ∧ ys.drop 1 = zs := by
  subst e
  exact ⟨rfl, rfl⟩
/-- the items that a list gives to one, *rest -/
theorem give_list {P : Program} {w : World} {A : Around} {E : Value → Shared → Prop} {s : Shared} {ll : Addr} {ys : Array Value} {y : Value} {zs : List Value} {Q : List Value → Shared → Prop} (calm : A.handled = none) (at_ : s.heap.IsList ll ys) (e : ys.toList = y :: zs) (sm : ys.size ≤ sizeLine)
    (k : ∀ (h2 : Heap) (tk : Tok), (∀ b o, s.heap.get? b = some o → h2.get? b = some o) → Q [y, .ref h2.objs.size] { s with heap := h2.push { cls := .type "list", data := .seq zs.toArray }, toks := tk }) : wpAny (model P w) A (unpackItems (.ref ll) 2 (some 1)) Q E s := by
  have ne : ll ≠ s.heap.objs.size := at_.elim fun o q => Nat.ne_of_lt (Heap.lt_size q.1)
  have len : ys.size = zs.length + 1 := by
    have := congrArg List.length e
    simpa using this
  unfold unpackItems notIterableAtAll
  refine wpAny_bind (wpAny_bind (wpAny_specialOf at_.typeIs slot_list_iter.lookup (wpAny_pure ?_)))
  simp only [Bool.false_eq_true, if_false]
  refine wpAny_bind (wpAny_holding (wpAny_pyIter_list at_ (wpAny_bind (wpAny_holding (PySem.W.kun_draw ne 1 0 _ _ ⟨_, Heap.get?_push_size _ rfl, rfl, rfl⟩ (at_.push _) (by omega) fun g it sb => ?_)))))
  have at2 : g.IsList ll ys := (at_.push _).extBut sb.extBut ne
  rw [List.drop_zero, (one_then e).1, Nat.zero_add] at *
  have l1 : ll < g.objs.size := at2.elim fun o q => Heap.lt_size q.1
  have l2 : s.heap.objs.size < g.objs.size := it.elim fun o q => Heap.lt_size q.1
  rw [if_neg (show ¬ ([y].length < 1) by simp)]
  refine wpAny_bind (wpAny_holding (PySem.W.kun_collect (s := { s with heap := g }) (T := "list_iterator") (.inr (.inr (.inl rfl))) (Walks.list (A := A.in1) calm s.heap.objs.size ll ne ys) (fun j u st => st.1.typeIs) (k := 1) (by omega) ⟨it, at2⟩ l2 l1 (fun g2 tk kp => ?_) sm))
  rw [(one_then e).2]
  show wpAny _ _ (if zs.length < 0 then _ else _) _ _ _
  rw [if_neg (Nat.not_lt_zero _)]
  show wpAny _ _ (newList (zs.take (zs.length - 0)) >>= fun d => pure ([y] ++ [d] ++ zs.drop (zs.length - 0))) _ _ _
  rw [Nat.sub_zero, List.take_of_length_le (Nat.le_refl _), List.drop_of_length_le (Nat.le_refl _)]
  have old : ∀ b o, s.heap.get? b = some o → g2.get? b = some o := fun b o q => kp b o (Nat.ne_of_lt (Heap.lt_size q)) (sb.extBut b o (Nat.ne_of_lt (Heap.lt_size q)) (Heap.get?_push_of_some _ q))
  exact wpAny_bind (wpAny_newObj_type (wpAny_pure (k g2 tk old)) (by show zs.toArray.size ≤ sizeLine; simp; omega))
/-- the same of a tuple -/
theorem give_tup {P : Program} {w : World} {A : Around} {E : Value → Shared → Prop} {s : Shared} {ll : Addr} {ys : Array Value} {y : Value} {zs : List Value} {Q : List Value → Shared → Prop} (calm : A.handled = none) (at_ : IsTup s.heap ll ys) (e : ys.toList = y :: zs) (sm : ys.size ≤ sizeLine)
    (k : ∀ (h2 : Heap) (tk : Tok), (∀ b o, s.heap.get? b = some o → h2.get? b = some o) → Q [y, .ref h2.objs.size] { s with heap := h2.push { cls := .type "list", data := .seq zs.toArray }, toks := tk }) : wpAny (model P w) A (unpackItems (.ref ll) 2 (some 1)) Q E s := by
  have ne : ll ≠ s.heap.objs.size := at_.elim fun o q => Nat.ne_of_lt (Heap.lt_size q.1)
  have len : ys.size = zs.length + 1 := by
    have := congrArg List.length e
    simpa using this
  unfold unpackItems notIterableAtAll
  refine wpAny_bind (wpAny_bind (wpAny_specialOf at_.typeIs slot_tuple_iter.lookup (wpAny_pure ?_)))
  simp only [Bool.false_eq_true, if_false]
  refine wpAny_bind (wpAny_holding (iter_tuple at_ (wpAny_bind (wpAny_holding (draw_tuple ne 1 0 _ _ ⟨_, Heap.get?_push_size _ rfl, rfl, rfl⟩ (at_.push _) (by omega) fun g it sb => ?_)))))
  have at2 : IsTup g ll ys := (at_.push _).extBut sb.extBut ne
  rw [List.drop_zero, (one_then e).1, Nat.zero_add] at *
  have l1 : ll < g.objs.size := at2.elim fun o q => Heap.lt_size q.1
  have l2 : s.heap.objs.size < g.objs.size := it.elim fun o q => Heap.lt_size q.1
  rw [if_neg (show ¬ ([y].length < 1) by simp)]
  refine wpAny_bind (wpAny_holding (PySem.W.kun_collect (s := { s with heap := g }) (T := "tuple_iterator") (.inr (.inr (.inr rfl))) (Walks.tuple (A := A.in1) calm s.heap.objs.size ll ne ys) (fun j u st => st.1.typeIs) (k := 1) (by omega) ⟨it, at2⟩ l2 l1 (fun g2 tk kp => ?_) sm))
  rw [(one_then e).2]
  show wpAny _ _ (if zs.length < 0 then _ else _) _ _ _
  rw [if_neg (Nat.not_lt_zero _)]
  show wpAny _ _ (newList (zs.take (zs.length - 0)) >>= fun d => pure ([y] ++ [d] ++ zs.drop (zs.length - 0))) _ _ _
  rw [Nat.sub_zero, List.take_of_length_le (Nat.le_refl _), List.drop_of_length_le (Nat.le_refl _)]
  have old : ∀ b o, s.heap.get? b = some o → g2.get? b = some o := fun b o q => kp b o (Nat.ne_of_lt (Heap.lt_size q)) (sb.extBut b o (Nat.ne_of_lt (Heap.lt_size q)) (Heap.get?_push_of_some _ q))
  exact wpAny_bind (wpAny_newObj_type (wpAny_pure (k g2 tk old)) (by show zs.toArray.size ≤ sizeLine; simp; omega))
/-- one, *rest = a list or a tuple that is not empty -/
def gStar (K : PySem.W.Frag) (g1 g2 : TG) : TG := fun v σ H Q => ∃ a x xs, v = .ref a ∧ SqA K H a (x :: xs) ∧ ∀ D, H D = none → g1 x σ (upd H D (.lst xs)) fun σ1 H1 => g2 (.ref D) σ1 H1 Q
theorem pg_star {X : Cx} {e1 e2 : Expr} {g1 g2 : TG} {p pos : Pos} {j : Nat} (hc : X.calm = true) (h1 : PG X e1 g1) (h2 : PG X e2 g2)
    (hs : assignEach [e1, .Starred e2 p] X.env = [(false, assign e1 X.env), (true, assign e2 X.env)] := by rfl) : PG X (.Tuple [e1, .Starred e2 p] j pos) (gStar X.K g1 g2) := by
  refine ⟨fun pins s σ H v u Q I r hw => ?_⟩
  obtain ⟨a, x, xs, rfl, hq, hw⟩ := hw
  cases r
  rw [PyProof.Rows.assign_Tuple]
  refine wpAny_bind (wpAny_standAt ?_)
  unfold unpack
  rw [hs]
  have fin : ∀ {its : List Value}, Vals (x :: xs) its → xs.length + 1 ≤ sizeLine → ∃ y zs, its = y :: zs ∧ ∀ (h2' : Heap) (tk : Tok), (∀ b o, s.heap.get? b = some o → h2'.get? b = some o) →
      wpAny (model X.prog X.w) X.A (assignInOrder [assign e1 X.env, assign e2 X.env] [y, .ref h2'.objs.size]) (fun _ s' => ∃ σ' H', Inv X pins σ' H' s' ∧ Q σ' H') X.xe { s with heap := h2'.push { cls := .type "list", data := .seq zs.toArray }, toks := tk } := by
    intro its rv hz
    cases rv with
    | cons r1 rr =>
      rename_i y zs
      refine ⟨y, zs, rfl, fun h2' tk old => ?_⟩
      have I2 : Inv X pins σ H { s with heap := h2' } := I.kept (t' := s.toks) old
      have nD : H h2'.objs.size = none := I2.hok.fresh (Nat.le_refl _)
      have I3 : Inv X pins σ (upd H h2'.objs.size (.lst xs)) { s with heap := h2'.push { cls := .type "list", data := .seq zs.toArray }, toks := tk } :=
        I2.laid (t' := tk) (fun b u q => Heap.get?_push_of_some _ q) (Nat.le_refl _) ⟨by omega, zs, 0, rr, Heap.get?_push_size _ rfl⟩
      refine assignInOrder_cons (thn (h1.run pins _ σ _ x y _ I3 r1 (hw _ nD)) fun _ s1 ⟨σ1, H1, I1, q1⟩ => ?_)
      refine assignInOrder_cons (thn (h2.run pins s1 σ1 H1 (.ref h2'.objs.size) _ Q I1 rfl q1) fun _ s2 q2 => ?_)
      exact assignInOrder_nil q2
  rcases hq with hq | hq
  · obtain ⟨its, rv, pl, hz⟩ := I.list hq
    obtain ⟨y, zs, e, k⟩ := fin rv hz
    refine wpAny_bind (wpAny_holding (give_list (I.ok.hd hc) pl.isList (y := y) (zs := zs) (by simpa using e) (by have := rv.length; simp at this ⊢; rw [List.length_cons] at hz; omega) k))
  · obtain ⟨its, rv, pl, hz⟩ := I.tuple hq
    obtain ⟨y, zs, e, k⟩ := fin rv hz
    refine wpAny_bind (wpAny_holding (give_tup (I.ok.hd hc) pl (y := y) (zs := zs) (by simpa using e) (by have := rv.length; simp at this ⊢; rw [List.length_cons] at hz; omega) k))
/-- d in a tuple of data -/
def rInT (K : PySem.W.Frag) : R2 := fun x y H Q => ∃ d ds, Dp K H x d ∧ Dp K H y (.tuple ds) ∧ SeqAt.shaped d = true ∧ SeqAt.shaped (.tuple ds) = true ∧ Q (.bl (ds.any fun z => PyData.eqv z d)) H
theorem op_inT {X : Cx} (hu : X.A.units + 65 < cLine) : OpR X (compareOp .In) (rInT X.K) := by
  intro pins s σ H x y v u Q I rx ry h
  obtain ⟨d, ds, hd, he, sd, se, q⟩ := h
  obtain ⟨us1, r1⟩ := Dp.reads I d x v hd rx
  obtain ⟨us2, r2⟩ := Dp.reads I (.tuple ds) y u he ry
  exact SeqAt.in_tuple_reads r2 r1 (SeqAt.canLay_of_shaped se) (SeqAt.canLay_of_shaped sd) (room_in_shaped sd hu) ⟨.bl _, H, I, rfl, q⟩
def manyS (a : Str) (n : Nat) : Str := ⟨(List.replicate n a.cps).foldl (· ++ ·) #[]⟩
/-- a text so many times -/
theorem op_mulS {X : Cx} : OpR X (binaryOp .Mult) (fun x y H Q => ∃ (a : Str) (n : Int), x = .str a ∧ y = .int n ∧ 2 ≤ n ∧ n ≤ 100000 ∧ 1 ≤ a.length ∧ a.length ≤ 100 ∧ (manyS a n.toNat).length ≤ sizeLine ∧ Q (.str (manyS a n.toNat)) H) := by
  rintro pins s σ H x y v u Q I rx ry ⟨a, n, rfl, rfl, h2, hn, h1, hl, hz, q⟩
  obtain ⟨t, rfl⟩ := rx
  obtain ⟨t2, rfl⟩ := ry
  have n1 : ¬ n < 1 := by omega
  have e1 : (n == 1 || a.length == 0) = false := by
    rw [beq_eq_false_iff_ne.mpr (show n ≠ 1 by omega), beq_eq_false_iff_ne.mpr (show a.length ≠ 0 by omega)]
    rfl
  have big : (100 : Int) ≤ (2 ^ 63 - 1) / n := by
    rw [Int.le_ediv_iff_mul_le (by omega)]
    omega
  have ll : a.length * n.toNat ≤ 10000000 := by
    have := Nat.mul_le_mul hl (show n.toNat ≤ 100000 by omega)
    omega
  refine P.mul_str (by rw [decide_eq_false (show ¬ n < -(2 ^ 63 : Int) by omega), decide_eq_false (show ¬ n ≥ 2 ^ 63 by omega)]; rfl) (fun _ _ => by omega) (fun _ _ => ?_) ?_
  · show decide _ = false
    refine decide_eq_false ?_
    have := sizeLine_eq
    omega
  · rw [if_neg n1, if_neg (by rw [e1]; simp)]
    exact ⟨hz, .str (manyS a n.toNat), H, I.tok _, ⟨_, rfl⟩, q⟩
end FT

/-! lambdas with one parameter that has a default -/
namespace FT
open PySem PySem.Spec PyProof.Rows L2 LamX
/-- one parameter x, unknown to the names N of the def around -/
structure LamD (N : List Str) (sc scope : Scope) (x : Str) : Prop where
  kind : scope.kind = .function
  co : scope.isCoroutine = false
  gen : scope.isGenerator = false
  own : ∀ y ∈ scope.names, y.2 ≠ .cell ∧ (y.2 = .local → y.1 ∉ N)
  free : ∀ y ∈ scope.names, y.2 = .free → sc.names.lookup y.1 = some .cell ∨ sc.names.lookup y.1 = some .free
  par : scope.names.lookup x = some .local
def lamDB (N : List Str) (sc scope : Scope) (x : Str) : Bool :=
  (decide (scope.kind = .function) && (!scope.isCoroutine && (!scope.isGenerator && decide (scope.names.lookup x = some .local)))) &&
    scope.names.all fun y => (!decide (y.2 = .cell) && (!decide (y.2 = .local) || !decide (y.1 ∈ N))) && (!decide (y.2 = .free) || (decide (sc.names.lookup y.1 = some .cell) || decide (sc.names.lookup y.1 = some .free)))
theorem lamD_by {N : List Str} {sc scope : Scope} {x : Str} (h : lamDB N sc scope x = true) : LamD N sc scope x := by
  unfold lamDB at h
  simp only [Bool.and_eq_true, Bool.or_eq_true, Bool.not_eq_true', decide_eq_true_eq, decide_eq_false_iff_not, List.all_eq_true] at h
  obtain ⟨⟨h1, h2, h3, h4⟩, h5⟩ := h
  refine ⟨h1, h2, h3, fun y hy => ⟨(h5 y hy).1.1, fun e => ?_⟩, fun y hy e => ?_, h4⟩
  · rcases (h5 y hy).1.2 with z | z
    · exact absurd e z
    · exact z
  · rcases (h5 y hy).2 with z | z
    · exact absurd e z
    · exact z
theorem LamD.has {X : Cx} {scope : Scope} {x : Str} (L : LamD X.N X.env.scope scope x) (ok : X.Ok) : ∀ y ∈ scope.names, y.2 = .free → ∃ c, X.env.cells.lookup y.1 = some c := fun y hy e =>
  ok.has _ (L.free y hy e)
section
variable {X : Cx} {pins : List (Addr × Obj)} {σ : L2.St} {H HZ : Hp} {s s1 : Shared}
theorem lam_startD {A : Around} {outer : List Env} {E : XK} {scope : Scope} {f c' : Addr} {g1 : Heap} {tk : Nat} {x : Str} {m : Str → Option Value} (I : Inv X pins σ H s) (L : LamD X.N X.env.scope scope x) (e0 : Env0 X.prog X.w X.K X.mg X.base A outer s1 HZ) (hd : A.handled = none)
    (un : Un (frs X.stack) [] H HZ s.heap s1.heap) (hns : g1.Ns s1.heap.objs.size m) (kp : ∀ b o, s1.heap.get? b = some o → g1.get? b = some o) :
    Inv (lamCx X A outer s1 HZ E scope f c') [] σ HZ { s1 with heap := g1, toks := tk } := by
  have caps := L.has I.ok
  have same : ∀ {y c}, (cloFrom X.env.cells scope.names []).lookup y = some c → X.env.cells.lookup y = some c := fun {y c} q => by
    rcases cloFrom_mem (PySem.mem_of_lookup q) with z | ⟨z1, z2⟩
    · cases z
    · obtain ⟨c1, h1⟩ := caps _ z1 rfl
      have h1 : X.env.cells.lookup y = some c1 := h1
      have h2 : c = c1 := by
        rw [z2, h1] <;> rfl
      exact h2 ▸ h1
  have find : ∀ {y}, scope.names.lookup y = some .free → ∃ c, (cloFrom X.env.cells scope.names []).lookup y = some c := fun {y} q =>
    mem_lookup (cloFrom_has (cells := X.env.cells) (acc := []) (show (y, NameKind.free) ∈ scope.names from PySem.mem_of_lookup q))
  have cells : ∀ {c : Addr} {v : Option Value}, H c = none → s.heap.IsCell c v → g1.IsCell c v := fun {c v} n ⟨o, ho, hd⟩ => by
    obtain ⟨sl, q⟩ := un.any ho n (by simp)
    exact ⟨_, kp _ _ q, hd⟩
  have none_ : ∀ b : Addr, b ∉ (lamCx X A outer s1 HZ E scope f c').ex := fun b z => nomatch (show b ∈ ([] : List Addr) from z)
  have ok2 : (lamCx X A outer s1 HZ E scope f c').Ok :=
    { mod := e0.mod, kind := L.kind, glob := rfl, blt := rfl, above := Nat.le_refl _
      inj := fun y z c q1 q2 => I.ok.inj y z c (same q1) (same q2)
      has := fun y hy => (show scope.names.lookup y = some .cell ∨ scope.names.lookup y = some .free from hy).elim (fun q => absurd rfl (L.own _ (PySem.mem_of_lookup q)).1) find
      cab := fun y c z => nomatch (show false = true from z)
      hd := fun _ => hd, frames := Around.frames_deeper e0.frames, stk := .inr ⟨rfl, rfl⟩
      exf := fun b z => absurd z (none_ b), bs := e0.bs, bsz := e0.bsz, noex := fun b _ _ => none_ b, exfs := fun b z => absurd z (none_ b), funs := e0.funs, frf := e0.frf }
  refine { ok := ok2, os := rfl, bare := e0.bare, base := Un.kept kp, loc := ⟨m, hns, fun i y v q1 q2 q3 => ?_⟩, cell := fun y c q => ?_, free := e0.hok.fresh (Nat.le_refl _), freeC := fun y c q => ?_
           pin := (fun q hq => nomatch (show q ∈ ([] : List (Addr × Obj)) from hq)), hok := e0.hok.kept kp, len := I.len }
  · rcases (show Vis scope y from q3) with k | k | k
    · exact absurd (List.mem_of_getElem? q1) ((L.own _ (PySem.mem_of_lookup k)).2 rfl)
    · exact absurd rfl (L.own _ (PySem.mem_of_lookup k)).1
    · obtain ⟨_, _, look⟩ := I.loc
      have kinds := L.free _ (PySem.mem_of_lookup k) rfl
      obtain ⟨u, r, q⟩ := look i y v q1 q2 (kinds.elim (fun z => .inr (.inl z)) fun z => .inr (.inr z))
      obtain ⟨c2, h2⟩ := find k
      refine ⟨u, r, .inr ⟨.inr k, c2, h2, ?_⟩⟩
      rcases q with ⟨z, _⟩ | ⟨_, c3, z1, z2⟩
      · exfalso
        rcases kinds with k2 | k2
        · cases (show X.env.scope.names.lookup y = some .local from z).symm.trans k2
        · cases (show X.env.scope.names.lookup y = some .local from z).symm.trans k2
      · cases (same h2).symm.trans z1
        exact cells (I.freeC y _ (same h2)) z2
  · obtain ⟨u, z⟩ := I.cell y c (same q)
    exact ⟨u, cells (I.freeC y c (same q)) z⟩
  · obtain ⟨u, o, z1, z2⟩ := I.cell y c (same q)
    exact un.free c o z1 (I.freeC y c (same q)) (by simp)
/-- the lambda's object, T: its defaults -/
abbrev lamDO (X : Cx) (params : Arguments) (body : Expr) (scope : Scope) (T : Addr) (doc pm : Value) (c' : Addr) (ctv : Value) : Obj :=
  PySem.W.kdv_obj "<lambda>" (X.env.qual ++ "<lambda>") params (.expr body) scope (cloFrom X.env.cells scope.names []) (.ref T) doc pm c' ctv
/-- x(), in the def that got the lambda -/
theorem pe_actD {CXg : CXT} {Eg : XK} {Ng : List Str} {qg : Str} {sg : Scope} {g f c' T : Addr} {cdg pm ctv doc : Value} {params : Arguments} {body : Expr} {scope : Scope} {k i : Nat} {a x : Str} {dv : List Value} {pn : List (Addr × Obj)} {xe : Value → Shared → Prop} {W : WX} {E : XK} {tb : TE} {p1 p2 : Pos} {u0 : Value}
    (I : Inv X pins σ H s) (L : LamD X.N X.env.scope scope x) (hf : s.heap.get? f = some (lamDO X params body scope T doc pm c' ctv)) (hfn : H f = none) (hfr : f ∉ frs X.stack)
    (hT : s.heap.get? T = some (PySem.W.kdv_tup dv)) (hTn : H T = none) (hTr : T ∉ frs X.stack)
    (hbind : ∃ kk, bindArgs (PySem.W.kdv_fn "<lambda>" (X.env.qual ++ "<lambda>") params (.expr body) scope (cloFrom X.env.cells scope.names []) (.ref T) doc pm (.ref c') ctv) ⟨[], []⟩ = seqItems? (.ref T) >>= kk ∧ kk (some dv.toArray) = pure [(x, u0)])
    (tk : Takes ((cxOf CXg X.prog X.w X.K X.mg X.base Ng qg sg g cdg X.A X.stack s H Eg).tr pn xe) W) (hr : RG (k + 1) (X.A.deeper (envOfC qg sg s.heap.objs.size g cdg)))
    (hbody : ∀ (A : Around) (outer : List Env) (s : Shared) (H : Hp), RG k (A.deeper (lamEnv X scope s.heap.objs.size f c')) → PE (lamCx X A outer s H E scope f c') body tb)
    (hN : Ng[i]? = some a) (hv : Vis sg a) (hd : (a == ("__debug__" : Str)) = false := by decide) (hcd : (a == ("__classdict__" : Str)) = false := by decide) :
    PE ((cxOf CXg X.prog X.w X.K X.mg X.base Ng qg sg g cdg X.A X.stack s H Eg).tr pn xe) (.Call (.Name a p1) [] [] p2)
      (fun σZ HZ Q => (∀ cls d H', E cls d H' → W cls d σZ H') ∧ σZ[i]? = some (some (.ref f)) ∧ HZ c' = some (CodeO c' (X.env.qual ++ "<lambda>")) ∧ tb σ HZ Q) := by
  refine ⟨fun pinsZ sZ σZ HZ Q IZ h => ?_⟩
  obtain ⟨hW, hs, hc, ht⟩ := h
  refine wpAny_Call_Name_kw (thn ((pe_var (pos := p1) (i := i) hN hv hd hcd).run pinsZ sZ σZ HZ (fun v H1 => v = .ref f ∧ H1 = HZ) IZ ⟨.ref f, hs, rfl, rfl⟩) fun u s1 ⟨v, H1, I1, r1, q1⟩ => ?_)
  obtain ⟨rfl, rfl⟩ := q1
  obtain rfl : u = Value.ref f := r1
  have stay : ∀ b o, s.heap.get? b = some o → H b = none → b ∉ frs X.stack → s1.heap.get? b = some o := fun b o q1 q2 q3 => I1.base.keep b o q1 q2 q3 fun z => nomatch (show b ∈ ([] : List Addr) from z)
  have of1 := stay f _ hf hfn hfr
  have oT1 := stay T _ hT hTn hTr
  refine PySem.W.callWith_F0 ⟨_, _, _, _, of1⟩ ?_
  have un : Un (frs X.stack) [] H H1 s.heap s1.heap := I1.base
  obtain ⟨⟨oc, vs, t, hoc, hdc, hvc⟩, _, _⟩ := I1.hok c' _ hc
  have rc : codeAny (model X.prog X.w) (X.A.deeper (envOfC qg sg s.heap.objs.size g cdg)) (.call (.ref f) ⟨[], []⟩) (CR (L2.CX X.prog X.w) (envOfC qg sg s.heap.objs.size g cdg :: X.stack) X.prog X.w H1 s1 Q E) s1 := by
    refine PySem.W.kla_callFunE hr.room.depth of1 rfl L.co L.gen rfl ⟨c', oc, vs, t, rfl, hoc, hdc, hvc⟩ ?_
    obtain ⟨kk, b1, b2⟩ := hbind
    refine BindsTo.of_defaults (T := T) rfl oT1 rfl b1 b2 _ _ _ _ ?_
    refine wpAny_newFunctionEnv (fun y hy => (L.own y hy).1) (fun y hy => ?_) (fun g1 hns hsb => ⟨I1.nolimit.fresh _ hsb, ?_⟩) L.kind
    · rw [List.mem_singleton.mp hy]
      exact L.par
    show codeAny _ _ (.expr body (lamEnv X scope s1.heap.objs.size f c')) _ _
    have kp : ∀ b o, s1.heap.get? b = some o → g1.get? b = some o := fun b o q => hsb.extBut b o (Nat.ne_of_lt (Heap.lt_size q)) (Heap.get?_push_of_some _ q)
    have J : Inv (lamCx X (X.A.deeper (envOfC qg sg s.heap.objs.size g cdg)) (envOfC qg sg s.heap.objs.size g cdg :: X.stack) s1 H1 E scope f c') [] σ H1 { s1 with heap := g1, toks := s1.toks + [(x, u0)].length } :=
      lam_startD I L I1.env0 hr.room.hd un hns kp
    refine PySem.W.kla_codeExpr (wpAny_mono ((hbody _ _ s1 H1 (hr.deeper _)).run [] _ _ H1 Q J ht) (fun v s' hq => ?_) fun e s' hq => hq)
    obtain ⟨w', H', J', rv, q⟩ := hq
    exact ⟨w', H', J'.os, J'.bare, J'.base, J'.hok, rv, q⟩
  refine wpAny_call (codeAny_mono rc fun r s' hq => ?_)
  cases r with
  | error e => exact tk e s' (XE.of_call I1 (fun cls d H' hE => hW cls d H' hE) hq)
  | ok fl =>
    cases fl with
    | ret u => exact I1.after hq
    | next => exact False.elim hq
    | brk => exact False.elim hq
    | cont => exact False.elim hq
/-- the lambda is made: its defaults in a new tuple, its code object new, or found in the table -/
theorem lam_makeD {TT : List (Addr × Str)} {c P : Addr} {params : Arguments} {body : Expr} {scope : Scope} {pos p0 : Pos} {j n : Nat} {E : Value → Shared → Prop} {Q : Value → Shared → Prop} (I : Inv X pins σ H s) (TB : TabB X.base X.mg c P) (hcode : X.env.code = .ref c)
    (hm : (P, X.env.qual ++ "<lambda>") ∈ TT) (hu : ∀ p ∈ TT, p.1 = P → p.2 = X.env.qual ++ "<lambda>") (hT : Tabs TT H) (hd0 : params.defaults.isEmpty = false) (hdk : params.kw_defaults = []) (hde : params.defaults = [.Constant (.int n) j p0]) (hfree : ∀ y ∈ scope.names, y.2 = .free → ∃ c, X.env.cells.lookup y.1 = some c)
    (h : ∀ (f c' T : Addr) (u0 doc pm ctv : Value) (H1 : Hp) (s' : Shared), Inv X pins σ H1 s' → ExtN H H1 → Tabs TT H1 → s'.heap.get? f = some (lamDO X params body scope T doc pm c' ctv) → H1 f = none → f ∉ frs X.stack →
      s'.heap.get? T = some (PySem.W.kdv_tup [u0]) → H1 T = none → T ∉ frs X.stack → H1 c' = some (CodeO c' (X.env.qual ++ "<lambda>")) → Q (.ref f) s') :
    wpAny (model X.prog X.w) X.A (eval (.Lambda params body scope pos) X.env) Q E s := by
  refine PySem.W.kdv_lam hd0 hdk ?_
  rw [hde]
  refine PySem.W.kdv_all1 ?_
  refine wpAny_Constant_int (PySem.W.kdv_all0 ?_)
  rw [makeFunction_eq]
  simp only [List.zip_nil_right, List.filterMap_nil, List.isEmpty_nil, if_true, pure_bind, List.isEmpty_cons, Bool.false_eq_true, if_false]
  refine wpAny_bind (wpAny_newTextTuple ?_)
  obtain ⟨u0, hu0⟩ : ∃ u0 : Value, u0 = .int n s.toks := ⟨_, rfl⟩
  rw [← hu0]
  obtain ⟨s2, hs2⟩ : ∃ s2 : Shared, s2 = { s with heap := s.heap.push { cls := .type "tuple", data := .seq [u0].toArray }, toks := s.toks + 1 } := ⟨_, rfl⟩
  obtain ⟨T, hTT⟩ : ∃ T, T = s.heap.objs.size := ⟨_, rfl⟩
  have s2s : s2.heap.objs.size = T + 1 := by rw [hs2, hTT]; exact Heap.size_push ..
  have goT : s2.heap.get? T = some (PySem.W.kdv_tup [u0]) := by rw [hs2, hTT]; exact Heap.get?_push_size _ rfl
  have I2 : Inv X pins σ H s2 := by
    rw [hs2]
    exact I.kept fun b o q => Heap.get?_push_of_some _ q
  have nT : H T = none := I.hok.fresh (Nat.le_of_eq hTT.symm)
  show wpAny _ _ (makeTail _ _ _ _ _ _ (Value.ref s.heap.objs.size) _ _ _ _) Q E { s with heap := s.heap.push { cls := .type "tuple", data := .seq [u0].toArray }, toks := s.toks + 1 }
  rw [← hTT, ← hs2]
  obtain ⟨ps, hP, ht, ha⟩ := hT _ hm
  have lt_P : P < T := by
    rw [hTT]
    exact Heap.lt_size (I.hok P _ hP)
  have bP : s2.heap.BuiltinsAt X.mg P := TB.bm.keeps I2.bk
  have hP' : s2.heap.get? P = some { cls := .none, data := .fields ps } := I2.hok P _ hP
  have offF : ∀ b, s.heap.objs.size ≤ b → b ∉ frs X.stack := fun b hb z => by
    rcases List.mem_cons.mp (I.stkSub _ z) with q | q
    · have lt := I.lt
      rw [← q] at lt
      exact absurd (Nat.lt_of_lt_of_le lt hb) (Nat.lt_irrefl _)
    · exact I.nofs hb q
  have tF := offF T (Nat.le_of_eq hTT.symm)
  cases hc : codeAmong pos ps.toList with
  | none =>
    refine PySem.W.kdv_makeTail (mg := X.mg) (c := c) (P := P) (ps := ps) (closure_ok hfree) I2.ok.glob (I2.mod.glob.keeps I2.bk) hcode (TB.code.keeps I2.bk) hP' ht hc TB.gP bP fun c' ctv doc g' tk hx hge hlt hrec htb => ?_
    obtain ⟨c2, oc, vs, t, e2, hoc, hd, hv⟩ := hrec
    cases e2
    have nC : H c' = none := I2.hok.fresh hge
    have I1 := inv_table (t' := tk) (more := #[rawInt pos.line, rawInt pos.col, .ref c']) (h' := g'.push (lamDO X params body scope T doc ((X.mg "__name__").getD .none) c' ctv)) I2 hP
      (fun b o hb q => Heap.get?_push_of_some _ (hx b o hb q)) (Heap.get?_push_of_some _ htb) hge ⟨oc, vs, t, Heap.get?_push_of_some _ hoc, hd, hv⟩
    have hE : ExtN H (upd (upd H P (.tbl (ps ++ #[rawInt pos.line, rawInt pos.col, .ref c']))) c' (CodeO c' (X.env.qual ++ "<lambda>"))) := fun b o q n => by
      rw [upd_ne (ne_of_none q nC), upd_ne (fun z => n ps (Option.some.inj (q.symm.trans (by rw [z]; exact hP))))]
      exact q
    have eL : (ps ++ #[rawInt pos.line, rawInt pos.col, .ref c']).toList = ps.toList ++ [rawInt pos.line, rawInt pos.col, .ref c'] := by simp
    have big : T + 1 ≤ c' := s2s ▸ hge
    have Pc : P < c' := Nat.lt_of_lt_of_le lt_P (Nat.le_trans (Nat.le_succ T) big)
    have Pg : P < g'.objs.size := Nat.lt_trans Pc hlt
    have sg2 : s2.heap.objs.size ≤ g'.objs.size := Nat.le_trans hge (Nat.le_of_lt hlt)
    have s0g : s.heap.objs.size ≤ g'.objs.size := by
      rw [← hTT]
      exact Nat.le_of_lt (Nat.lt_trans big hlt)
    have atF : ∀ b, b ≠ c' → b ≠ P → H b = none → upd (upd H P (.tbl (ps ++ #[rawInt pos.line, rawInt pos.col, .ref c']))) c' (CodeO c' (X.env.qual ++ "<lambda>")) b = none := fun b q1 q2 q3 => by
      rw [upd_ne q1, upd_ne q2]
      exact q3
    refine h g'.objs.size c' T u0 doc ((X.mg "__name__").getD .none) ctv _ _ I1 hE (fun p hp => ?_) (Heap.get?_push_size _ rfl) (atF _ (Nat.ne_of_gt hlt) (Nat.ne_of_gt Pg) (I2.hok.fresh sg2)) (offF _ s0g) ?_ (atF _ (Nat.ne_of_lt big) (Nat.ne_of_gt lt_P) nT) tF upd_same
    · by_cases hb : p.1 = P
      · rw [hu p hp hb, hb]
        refine ⟨_, by rw [upd_ne (ne_of_none hP nC), upd_same], by rw [eL]; exact PySem.TriplesOk_snoc _ _ _ _ ht, fun p' cv hcv => ?_⟩
        rw [eL] at hcv
        rcases among_app _ ht hcv with z | z
        · obtain ⟨c0, q1, q2⟩ := ha p' cv z
          exact ⟨c0, q1, hE _ _ q2 codeO_ne⟩
        · exact ⟨c', z, upd_same⟩
      · obtain ⟨ps', a1, a2, a3⟩ := hT p hp
        refine ⟨ps', by rw [upd_ne (ne_of_none a1 nC), upd_ne hb]; exact a1, a2, fun p' cv hcv => ?_⟩
        obtain ⟨c0, q1, q2⟩ := a3 p' cv hcv
        exact ⟨c0, q1, hE _ _ q2 codeO_ne⟩
    · exact Heap.get?_push_of_some _ (hx T _ (Nat.ne_of_gt lt_P) goT)
  | some cv =>
    obtain ⟨c', e, hco⟩ := ha pos cv hc
    subst e
    refine PySem.W.kdv_makeTailHit (mg := X.mg) (c := c) (P := P) (ps := ps) (closure_ok hfree) I2.ok.glob (I2.mod.glob.keeps I2.bk) hcode (TB.code.keeps I2.bk) hP' ht hc bP fun ctv doc g' tk hx hsz => ?_
    have I1 : Inv X pins σ H { s2 with heap := g'.push (lamDO X params body scope T doc ((X.mg "__name__").getD .none) c' ctv), toks := tk } := I2.kept fun b o q => Heap.get?_push_of_some _ (hx b o q)
    exact h g'.objs.size c' T u0 doc ((X.mg "__name__").getD .none) ctv H _ I1 (ExtN.refl H) hT (Heap.get?_push_size _ rfl) (I2.hok.fresh hsz) (offF _ (Nat.le_trans (Nat.le_of_lt (by rw [s2s, ← hTT]; exact Nat.lt_succ_self T)) hsz)) (Heap.get?_push_of_some _ (hx T _ goT)) nT tF hco
/-- x(lambda y=0: body) -/
theorem pe_lamD {T : List (Addr × Str)} {TT : (XK → Hp → VK → Prop) → Hp → VK → Prop} {x a y : Str} {g c P : Addr} {k j n : Nat} {sg : Stmt} {fd : FuncData} {Ng : List Str}
    {params : Arguments} {body : Expr} {scope : Scope} {t : XK → TE} {p lpos pos p0 : Pos} (hg : Gl X x) (hm : X.mg x = some (.ref g)) (F : Fun X.K x x sg g fd) (hb : L2.Binds X.K fd [a] []) (Sg : FnScope Ng [a] (defScope sg)) (hNg : Ng[0]? = some a) (hva : Vis (defScope sg) a)
    (hG : GivesG X Ng (k + 1) x (defScope sg) g (defBody sg) a (X.env.qual ++ "<lambda>") TT)
    (TB : TabB X.base X.mg c P) (hcode : X.env.code = .ref c) (hmT : (P, X.env.qual ++ "<lambda>") ∈ T) (hu : ∀ p ∈ T, p.1 = P → p.2 = X.env.qual ++ "<lambda>") (hr : RG (k + 2) X.A) (L : LamD X.N X.env.scope scope y)
    (hd0 : params.defaults.isEmpty = false) (hdk : params.kw_defaults = []) (hde : params.defaults = [.Constant (.int n) j p0])
    (hbind : ∀ (q : Str) (cl : List (Str × Addr)) (T : Addr) (doc pm cv ctv u0 : Value), ∃ kk, bindArgs (PySem.W.kdv_fn "<lambda>" q params (.expr body) scope cl (.ref T) doc pm cv ctv) ⟨[], []⟩ = seqItems? (.ref T) >>= kk ∧ kk (some [u0].toArray) = pure [(y, u0)])
    (hbody : ∀ (A : Around) (outer : List Env) (s : Shared) (H : Hp) (E : XK) (f c' : Addr), RG k (A.deeper (lamEnv X scope s.heap.objs.size f c')) → PE (lamCx X A outer s H E scope f c') body (t E))
    (hdb : (x == ("__debug__" : Str)) = false := by decide) (hd : (a == ("__debug__" : Str)) = false := by decide) (hcd : (a == ("__classdict__" : Str)) = false := by decide) :
    PE X (.Call (.Name x p) [.Lambda params body scope lpos] [] pos) (tLam T TT t) := by
  refine ⟨fun pins s σ H Q I ⟨hT, h⟩ => wpAny_Call_Name_kw (ld_glob I hg hm (PySem.W.callWith_K (h₀ := X.base) I.ok.mod.kin F.kp ?_ (by rfl) (by rfl)) hdb)⟩
  show wpAny _ _ (spliced ((false, eval (.Lambda params body scope lpos) X.env) :: backTo pos (starEach [] X.env))) _ _ s
  refine Calls.spliced_cons (lam_makeD I TB hcode hmT hu hT hd0 hdk hde (L.has I.ok) fun f c' T0 u0 doc pm' ctv H1 s' I1 eN T1 hf hfn hfr h5 h6 h7 hco => Calls.spliced_nil ⟨I1.kIn, ?_⟩)
  have rc : codeAny (model X.prog X.w) X.A (.call (.ref g) ⟨[.ref f], []⟩) (CR CX0 X.stack X.prog X.w H1 s' Q E0) s' := by
    refine run_ofG (N := Ng) (ps := [a]) (us := [.ref f]) (vs := [.ref f]) F Sg hr I1.env0 (hb s' [.ref f] I1.kIn rfl) (.cons rfl .nil) rfl fun cdv hr' => ?_
    obtain ⟨t', ht', hq'⟩ := hG cdv f c' s' H1 Q (fun E H' Q' => t E σ H' Q') hr' (fun W pn xe E p1 p2 tk => pe_actD (i := 0) I1 L hf hfn hfr h5 h6 h7 (hbind _ _ _ _ _ _ _ _) tk hr' (fun A outer s H hr2 => hbody A outer s H E f c' hr2) hNg hva hd hcd) hco (h H1 eN T1)
    exact ⟨t', ht'.nox, hq'⟩
  refine wpAny_call (codeAny_mono rc fun r s2 hq => ?_)
  rcases r with e | fl
  · exact (show False from hq).elim
  · rcases fl with u | _ | _ | _
    all_goals first | exact I1.after hq | exact False.elim hq
end
section
variable {X : Cx} {elt tg iter : Expr} {ifs : List Expr} {sc : Scope} {own : List (Str × Nat)} {pos : Pos} {wi : TI} {g : TG} {tt : TT} {te : TE} {E : XK}
/-- [..] as a value, the step may let an own error out -/
theorem pe_lcR (calm : X.calm = true) (nd : X.N.Nodup) (hi : PI X tg iter wi) (blk : BlkOk X.N X.env.scope sc own) (hs : X.stack = X.env :: X.outer) (hf : X.env.frame = some X.env.locals) (tk : Takes X fun cls d _ H => E cls d H)
    (hg : ∀ s H C cl fp, PG (X.blk s H sc (compEnvC sc cl C X.env) fp) tg g) (ht : ∀ s H C cl fp, PTs (X.blk s H sc (compEnvC sc cl C X.env) fp) ifs tt)
    (he : ∀ s H C cl fp xe, Passes (L2.CX X.prog X.w) (blkX X s H sc (compEnvC sc cl C X.env) fp xe) E → PE (blkX X s H sc (compEnvC sc cl C X.env) fp xe) elt te)
    (hfold : ∀ x, foldedSetIterable iter X.env x = pure x := by intro _; rfl) : PE X (.ListComp elt [⟨tg, iter, ifs, 0⟩] sc pos) (tLc wi g tt te (own.map (·.2))) := by
  constructor
  intro pins s σ H Q I h
  rw [eval_ListComp]
  refine lc_raise (use := none) (Qf := fun v t => EP X pins σ Q v t) calm nd I hi blk hs hf tk hg ht he hfold h fun L C t m G J q hm f => ⟨m, hm, fun g2 sb => ?_⟩
  obtain ⟨f0, f1, f2, f3, f4, f5⟩ := f
  exact ⟨.ref L, G, J.turned (t' := t.toks) (fun b o nb e => (sb.2 b nb).trans e) f0 f1 f3 f4 f5, rfl, q⟩
end
end FT

/-! items and the numbers that they tell -/
namespace MN
open PySem PySem.Spec PyProof.Rows L2
def dig (c : Nat) : Bool := decide (48 ≤ c) && decide (c ≤ 57)
def figL : List Nat → List Nat
  | [] => []
  | c :: r => if c = 45 then r else c :: r
/-- a number rightly written -/
def okL (l : List Nat) : Bool := (!(figL l).isEmpty && (figL l).all dig) && (decide ((figL l).length ≤ 60) && !(decide ((figL l).head? = some 48) && !decide (l = [48])))
def valL (l : List Nat) : Int := if l.head? = some 45 then -((NumText.digitsVal (figL l) : Nat) : Int) else ((NumText.digitsVal l : Nat) : Int)
def num (s : Str) : Option Int := if okL (TL.tl s) = true then some (valL (TL.tl s)) else none
def numV (s : Str) : V := match num s with | some z => .int z | none => .non
theorem isDigit_dig {c : Nat} (h : c < 128) : Unicode.isDigit c = dig c := by
  have k : ∀ n : _root_.Fin 128, Unicode.isDigit n.val = dig n.val := by decide +kernel
  exact k ⟨c, h⟩
theorem dig_lt {c : Nat} (h : dig c = true) : c < 128 := by
  unfold dig at h
  simp only [Bool.and_eq_true, decide_eq_true_eq] at h
  omega
theorem all_tl (p : Nat → Bool) (s : Str) : s.cps.all p = (TL.tl s).all p := Array.all_toList.symm
theorem len_tl0 (s : Str) : decide (s.length > 0) = !(TL.tl s).isEmpty := by
  have e := TL.len_tl s
  rw [e]
  cases TL.tl s <;> simp
/-- isascii and isdigit -/
theorem ascii_digit (s : Str) : (Txt.isascii s && Txt.isdigit s) = (!(TL.tl s).isEmpty && (TL.tl s).all dig) := by
  unfold Txt.isascii Txt.isdigit
  rw [all_tl, all_tl, len_tl0]
  cases ha : (TL.tl s).all (fun c => decide (c < 128)) with
  | true =>
    have e : (TL.tl s).all Unicode.isDigit = (TL.tl s).all dig := by
      revert ha
      induction TL.tl s with
      | nil => intro _; rfl
      | cons c r ih =>
        intro ha
        rw [List.all_cons, Bool.and_eq_true] at ha
        rw [List.all_cons, List.all_cons, ih ha.2, isDigit_dig (of_decide_eq_true ha.1)]
    rw [e]
    rfl
  | false =>
    cases hd : (TL.tl s).all dig with
    | false => simp
    | true =>
      exfalso
      have : (TL.tl s).all (fun c => decide (c < 128)) = true := List.all_eq_true.mpr fun c hc => decide_eq_true (dig_lt (List.all_eq_true.mp hd c hc))
      rw [ha] at this
      cases this
theorem starts_one (s : Str) (c : Nat) : Txt.startswith s ⟨#[c]⟩ = decide ((TL.tl s).head? = some c) := by
  unfold Txt.startswith
  rw [PySem.StrLaws.subAt_eq]
  have e1 : (⟨#[c]⟩ : Str).length = 1 := rfl
  rw [e1, List.drop_zero]
  show (decide (0 + 1 ≤ s.length) && ((TL.tl s).take 1 == [c])) = _
  rw [TL.len_tl]
  cases TL.tl s with
  | nil => simp
  | cons d r =>
    simp
    by_cases h : d = c
    · simp [h]
    · simp [h]
theorem tl_cut1 (s : Str) : TL.tl (cutS s (some 1) none) = (TL.tl s).drop 1 := by
  show ((TL.tl s).drop (HT.sIx s.length 0 (some 1))).take (HT.sIx s.length s.length none - HT.sIx s.length 0 (some 1)) = _
  rw [HT.sIx_none, show (some (1 : Int)) = some ((1 : Nat) : Int) from rfl, HT.sIx_nat, TL.len_tl]
  cases TL.tl s with
  | nil => simp
  | cons c r => simp
theorem tl_cut01 (s : Str) : TL.tl (cutS s none (some 1)) = (TL.tl s).take 1 := by
  show ((TL.tl s).drop (HT.sIx s.length 0 none)).take (HT.sIx s.length s.length (some 1) - HT.sIx s.length 0 none) = _
  rw [HT.sIx_none, show (some (1 : Int)) = some ((1 : Nat) : Int) from rfl, HT.sIx_nat, TL.len_tl]
  cases TL.tl s with
  | nil => simp
  | cons c r => simp
theorem figL_cut (s : Str) : (if (TL.tl s).head? = some 45 then TL.tl (cutS s (some 1) none) else TL.tl s) = figL (TL.tl s) := by
  rw [tl_cut1]
  cases TL.tl s with
  | nil => rfl
  | cons c r =>
    by_cases h : c = 45
    · subst h
      rfl
    · show (if (c :: r).head? = some 45 then _ else _) = if c = 45 then _ else _
      rw [if_neg h, List.head?_cons, if_neg (fun z => h (Option.some.inj z))]
theorem alld {l : List Nat} (h : l.all dig = true) : NumText.AllDigits l := fun c hc => by
  have z := List.all_eq_true.mp h c hc
  unfold dig at z
  simpa using z
theorem okL_cases {l : List Nat} (h : okL l = true) : (l ≠ [] ∧ l.all dig = true ∧ l.length ≤ 60 ∧ (l.head? = some 48 → l = [48])) ∨ ∃ r, l = 45 :: r ∧ r ≠ [] ∧ r.all dig = true ∧ r.length ≤ 60 ∧ r.head? ≠ some 48 := by
  unfold okL at h
  cases l with
  | nil => simp [figL] at h
  | cons c r =>
    by_cases hc : c = 45
    · subst hc
      right
      simp only [figL, if_pos, Bool.and_eq_true, Bool.not_eq_true', decide_eq_true_eq, List.isEmpty_eq_false_iff] at h
      refine ⟨r, rfl, h.1.1, h.1.2, h.2.1, fun z => ?_⟩
      have := h.2.2
      rw [z] at this
      simp at this
    · left
      have e : figL (c :: r) = c :: r := by simp [figL, hc]
      rw [e] at h
      simp only [Bool.and_eq_true, Bool.not_eq_true', decide_eq_true_eq, List.isEmpty_eq_false_iff] at h
      refine ⟨h.1.1, h.1.2, h.2.1, fun z => ?_⟩
      have := h.2.2
      rw [z] at this
      simpa using this
theorem not45 {l : List Nat} (h : l.all dig = true) : l.head? ≠ some 45 := by
  cases l with
  | nil => simp
  | cons c r =>
    rw [List.all_cons, Bool.and_eq_true] at h
    intro z
    have z : c = 45 := Option.some.inj z
    rw [z] at h
    exact absurd h.1 (by decide)
/-- what int() makes of it -/
theorem int_ok {s : Str} (h : okL (TL.tl s) = true) : PySem.intText? s = some (valL (TL.tl s)) ∧ s.length ≤ 61 := by
  have e := TL.len_tl s
  rcases okL_cases h with ⟨h1, h2, h3, _⟩ | ⟨r, hr, h1, h2, h3, _⟩
  · refine ⟨?_, by omega⟩
    unfold valL
    rw [if_neg (not45 h2)]
    exact intText_digits (alld h2) h1 (by omega)
  · have e2 : s.length = r.length + 1 := by rw [e, hr]; rfl
    refine ⟨?_, by omega⟩
    rw [hr]
    show _ = some (-((NumText.digitsVal r : Nat) : Int))
    exact intText_neg (x := s) hr (alld h2) h1 (by omega)
theorem dv_snoc (l : List Nat) (c : Nat) : NumText.digitsVal (l ++ [c]) = NumText.digitsVal l * 10 + (c - 48) := by
  unfold NumText.digitsVal
  rw [List.foldl_append]
  rfl
theorem numL_back : ∀ (n : Nat) (l : List Nat), l.length = n → l ≠ [] → l.all dig = true → (l.head? = some 48 → l = [48]) → TL.numL (NumText.digitsVal l) = l ∧ (l.head? ≠ some 48 → 1 ≤ NumText.digitsVal l)
  | 0, l, hl, hne, _, _ => absurd (List.length_eq_zero_iff.mp hl) hne
  | n + 1, l, hl, hne, hd, h0 => by
    obtain ⟨m, c, rfl⟩ : ∃ m c, l = m ++ [c] := ⟨l.dropLast, l.getLast hne, (List.dropLast_concat_getLast hne).symm⟩
    rw [List.all_append, Bool.and_eq_true] at hd
    have hc : dig c = true := by simpa using hd.2
    unfold dig at hc
    simp only [Bool.and_eq_true, decide_eq_true_eq] at hc
    rw [dv_snoc]
    cases m with
    | nil =>
      show TL.numL (0 * 10 + (c - 48)) = [c] ∧ _
      rw [Nat.zero_mul, Nat.zero_add, TL.numL_lt (by omega)]
      refine ⟨by rw [show 48 + (c - 48) = c by omega], fun z => ?_⟩
      have : c ≠ 48 := fun q => z (by rw [q]; rfl)
      show 1 ≤ 0 * 10 + (c - 48)
      omega
    | cons d m =>
      have hd48 : d ≠ 48 := fun q => by
        have := h0 (by rw [q]; rfl)
        simp at this
      obtain ⟨ih1, ih2⟩ := numL_back n (d :: m) (by simp at hl ⊢; omega) (List.cons_ne_nil _ _) hd.1 (fun z => absurd (Option.some.inj z) hd48)
      have p := ih2 (fun z => hd48 (Option.some.inj z))
      refine ⟨?_, fun _ => by omega⟩
      rw [TL.numL_step (by omega)]
      rw [show (NumText.digitsVal (d :: m) * 10 + (c - 48)) / 10 = NumText.digitsVal (d :: m) by omega, show (NumText.digitsVal (d :: m) * 10 + (c - 48)) % 10 = c - 48 by omega, ih1, show 48 + (c - 48) = c by omega]
theorem ofs_neg (n : Nat) (h : 1 ≤ n) : TL.tl (Str.ofString (toString (-(n : Int)))) = 45 :: TL.numL n := by
  obtain ⟨k, rfl⟩ : ∃ k, n = k + 1 := ⟨n - 1, by omega⟩
  have e : toString (-((k + 1 : Nat) : Int)) = "-" ++ toString ((k + 1 : Nat) : Int) := rfl
  rw [e, TL.tl_ofString, String.toList_append, List.map_append]
  have := TL.tl_num (k + 1)
  rw [TL.tl_ofString] at this
  rw [this]
  rfl
/-- such an item is the text of its number -/
theorem text_back {s : Str} (h : okL (TL.tl s) = true) : Str.ofString (toString (valL (TL.tl s))) = s := by
  refine TL.ext_tl ?_
  rcases okL_cases h with ⟨h1, h2, h3, h4⟩ | ⟨r, hr, h1, h2, h3, h4⟩
  · unfold valL
    rw [if_neg (not45 h2), TL.tl_num]
    exact (numL_back _ _ rfl h1 h2 h4).1
  · obtain ⟨q1, q2⟩ := numL_back _ r rfl h1 h2 (fun z => absurd z h4)
    rw [hr]
    show TL.tl (Str.ofString (toString (-((NumText.digitsVal r : Nat) : Int)))) = 45 :: r
    rw [ofs_neg _ (q2 h4), q1]
end MN

/-! what is known from 0, pair by pair -/
namespace MC
theorem sub_len : ∀ {l1 l2 : List Nat}, l1.Nodup → (∀ x ∈ l1, x ∈ l2) → l1.length ≤ l2.length
  | [], _, _, _ => Nat.zero_le _
  | a :: t, l2, nd, h => by
    rw [List.nodup_cons] at nd
    have ha := h a List.mem_cons_self
    have ih := sub_len (l1 := t) (l2 := l2.erase a) nd.2 fun x hx => (List.mem_erase_of_ne (fun e : x = a => nd.1 (by rw [← e]; exact hx))).mpr (h x (List.mem_cons_of_mem _ hx))
    rw [List.length_erase_of_mem ha] at ih
    have := List.length_pos_of_mem ha
    rw [List.length_cons]
    omega
theorem full {l : List Nat} {n : Nat} (nd : l.Nodup) (h : ∀ x ∈ l, x < n) (e : l.length = n) : ∀ y, y < n → y ∈ l := by
  intro y hy
  by_cases c : y ∈ l
  · exact c
  · have := sub_len (l1 := y :: l) (l2 := List.range n) (List.nodup_cons.mpr ⟨c, nd⟩) fun x hx => by
      rcases List.mem_cons.mp hx with rfl | hx
      · exact List.mem_range.mpr hy
      · exact List.mem_range.mpr (h x hx)
    rw [List.length_range, List.length_cons] at this
    omega
def kn1 (L : List Nat) (p : Nat × Nat) : List Nat := if decide (p.1 ∈ L) ≠ decide (p.2 ∈ L) then L ++ [if p.1 ∈ L then p.2 else p.1] else L
def knr (ps : Pr) (L : List Nat) : List Nat := ps.foldl kn1 L
def knrs (ps : Pr) : Nat → List Nat → List Nat
  | 0, L => L
  | k + 1, L => knrs ps k (knr ps L)
theorem knrs_succ (ps : Pr) : ∀ (k : Nat) (L : List Nat), knrs ps (k + 1) L = knr ps (knrs ps k L)
  | 0, _ => rfl
  | k + 1, L => by
    show knrs ps (k + 1) (knr ps L) = knr ps (knrs ps k (knr ps L))
    exact knrs_succ ps k (knr ps L)
structure Kn (n : Nat) (ps : Pr) (L : List Nat) : Prop where
  nd : L.Nodup
  ok : ∀ x ∈ L, x < n ∧ Con ps 0 x
  z : 0 ∈ L
theorem Kn.next {n : Nat} {ps : Pr} {L : List Nat} {p : Nat × Nat} (h : Kn n ps L) (m : p ∈ ps) (b : Below n ps) : Kn n ps (kn1 L p) ∧ L.length ≤ (kn1 L p).length ∧ ((kn1 L p).length = L.length → kn1 L p = L ∧ (p.1 ∈ L ↔ p.2 ∈ L)) := by
  obtain ⟨b1, b2⟩ := b p m
  unfold kn1
  by_cases h1 : p.1 ∈ L
  · by_cases h2 : p.2 ∈ L
    · rw [decide_eq_true h1, decide_eq_true h2, if_neg (by simp)]
      exact ⟨h, Nat.le_refl _, fun _ => ⟨rfl, ⟨fun _ => h2, fun _ => h1⟩⟩⟩
    · rw [decide_eq_true h1, decide_eq_false h2, if_pos (by simp), if_pos h1]
      refine ⟨⟨?_, ?_, List.mem_append_left _ h.z⟩, by rw [List.length_append]; omega, fun e => by rw [List.length_append] at e; simp at e⟩
      · rw [List.nodup_append]
        exact ⟨h.nd, by simp, fun a ha c hc => by rw [List.mem_singleton.mp hc]; exact fun e => h2 (e ▸ ha)⟩
      · intro x hx
        rcases List.mem_append.mp hx with hx | hx
        · exact h.ok x hx
        · rw [List.mem_singleton.mp hx]
          exact ⟨b2, (h.ok _ h1).2.trans (.to m (.refl _))⟩
  · by_cases h2 : p.2 ∈ L
    · rw [decide_eq_false h1, decide_eq_true h2, if_pos (by simp), if_neg h1]
      refine ⟨⟨?_, ?_, List.mem_append_left _ h.z⟩, by rw [List.length_append]; omega, fun e => by rw [List.length_append] at e; simp at e⟩
      · rw [List.nodup_append]
        exact ⟨h.nd, by simp, fun a ha c hc => by rw [List.mem_singleton.mp hc]; exact fun e => h1 (e ▸ ha)⟩
      · intro x hx
        rcases List.mem_append.mp hx with hx | hx
        · exact h.ok x hx
        · rw [List.mem_singleton.mp hx]
          exact ⟨b1, (h.ok _ h2).2.trans (.fro m (.refl _))⟩
    · rw [decide_eq_false h1, decide_eq_false h2, if_neg (by simp)]
      exact ⟨h, Nat.le_refl _, fun _ => ⟨rfl, ⟨fun z => absurd z h1, fun z => absurd z h2⟩⟩⟩
theorem Kn.fold {n : Nat} {ps : Pr} (b : Below n ps) : ∀ (qs : Pr) (L : List Nat), Kn n ps L → (∀ p ∈ qs, p ∈ ps) → Kn n ps (qs.foldl kn1 L) ∧ L.length ≤ (qs.foldl kn1 L).length ∧ ((qs.foldl kn1 L).length = L.length → qs.foldl kn1 L = L ∧ ∀ p ∈ qs, p.1 ∈ L ↔ p.2 ∈ L)
  | [], L, h, _ => ⟨h, Nat.le_refl _, fun _ => ⟨rfl, fun p hp => by cases hp⟩⟩
  | p :: qs, L, h, m => by
    obtain ⟨h1, l1, e1⟩ := h.next (m p List.mem_cons_self) b
    obtain ⟨h2, l2, e2⟩ := Kn.fold b qs (kn1 L p) h1 fun q hq => m q (List.mem_cons_of_mem _ hq)
    refine ⟨h2, Nat.le_trans l1 l2, fun e => ?_⟩
    have e : (qs.foldl kn1 (kn1 L p)).length = L.length := e
    obtain ⟨q1, q2⟩ := e1 (by omega)
    obtain ⟨q3, q4⟩ := e2 (by omega)
    rw [q1] at q3 q4
    refine ⟨(show qs.foldl kn1 (kn1 L p) = L by rw [q1]; exact q3), fun r hr => ?_⟩
    rcases List.mem_cons.mp hr with rfl | hr
    · exact q2
    · exact q4 r hr
theorem Kn.grow {n : Nat} {ps : Pr} {L : List Nat} (b : Below n ps) (h : Kn n ps L) (w : Whole n ps) (lt : L.length < n) : L.length < (knr ps L).length := by
  obtain ⟨h1, l1, e1⟩ := Kn.fold b ps L h fun _ m => m
  by_cases c : (knr ps L).length = L.length
  · exfalso
    obtain ⟨_, cl⟩ := e1 c
    have key : ∀ x y, Con ps x y → x ∈ L → y ∈ L := by
      intro x y hc
      induction hc with
      | refl => exact fun h => h
      | to m _ ih => exact fun ha => ih ((cl _ m).mp ha)
      | fro m _ ih => exact fun hb => ih ((cl _ m).mpr hb)
    have := sub_len (l1 := List.range n) (l2 := L) List.nodup_range fun x hx => key 0 x (w x (List.mem_range.mp hx)) h.z
    rw [List.length_range] at this
    omega
  · have : L.length ≤ (knr ps L).length := l1
    omega
theorem knrs_kn {n : Nat} {ps : Pr} (b : Below n ps) : ∀ (k : Nat) (L : List Nat), Kn n ps L → Kn n ps (knrs ps k L) ∧ (Whole n ps → min n (L.length + k) ≤ (knrs ps k L).length)
  | 0, L, h => ⟨h, fun _ => by show min n (L.length + 0) ≤ L.length; omega⟩
  | k + 1, L, h => by
    obtain ⟨h1, l1, _⟩ := Kn.fold b ps L h fun _ m => m
    obtain ⟨r1, r2⟩ := knrs_kn b k (knr ps L) h1
    refine ⟨r1, fun w => ?_⟩
    have q := r2 w
    show min n (L.length + (k + 1)) ≤ (knrs ps k (knr ps L)).length
    have l1 : L.length ≤ (knr ps L).length := l1
    by_cases lt : L.length < n
    · have := h.grow b w lt
      omega
    · omega
/-- after n rounds all are known just if all hang together -/
theorem knrs_whole {n : Nat} {ps : Pr} (b : Below n ps) (hn : 0 < n) : (knrs ps n [0]).length = n ↔ Whole n ps := by
  have k0 : Kn n ps [0] := ⟨by simp, fun x hx => by rw [List.mem_singleton.mp hx]; exact ⟨hn, .refl _⟩, List.mem_cons_self⟩
  obtain ⟨r1, r2⟩ := knrs_kn b n [0] k0
  have up : (knrs ps n [0]).length ≤ n := by
    have := sub_len (l2 := List.range n) r1.nd fun x hx => List.mem_range.mpr (r1.ok x hx).1
    rw [List.length_range] at this
    exact this
  constructor
  · intro e x hx
    exact (r1.ok x (full r1.nd (fun y hy => (r1.ok y hy).1) e x hx)).2
  · intro w
    have := r2 w
    simp only [List.length_cons, List.length_nil] at this
    omega
end MC

namespace K03
open PySem PySem.Spec PyProof.Rows L2 FT
open LamX hiding takes0
def top (i : Nat) : Stmt := PySem.Challenge.pw_flowtells_k03_texts_bent_anywhere.main.body.getD i (.Pass ⟨0, 0, 0, 0⟩)
def methN (i j : Nat) : Stmt := match top i with | .ClassDef _ _ _ b .. => b.getD j (.Pass ⟨0, 0, 0, 0⟩) | s => s
def meth (i : Nat) : Stmt := match top i with | .ClassDef _ _ _ b .. => b.headD (.Pass ⟨0, 0, 0, 0⟩) | s => s
abbrev s_is_integer : Stmt := top 2
abbrev s_is_within : Stmt := top 3
abbrev s_are_integers : Stmt := top 4
abbrev s_own_names : Stmt := top 12
abbrev s_joined : Stmt := top 13
abbrev s_names_of : Stmt := top 14
abbrev s_fixed : Stmt := top 16
abbrev s_items_of : Stmt := top 19
abbrev s_number_of : Stmt := top 20
abbrev s_item_at : Stmt := top 21
abbrev s_number_at : Stmt := top 22
abbrev s_read_colon : Stmt := top 23
abbrev s_read_end : Stmt := top 24
abbrev s_are_ties : Stmt := top 29
abbrev s_is_pair : Stmt := top 30
abbrev s_hang_together : Stmt := top 31
abbrev s_cleared : Stmt := top 33
abbrev s_are_rows : Stmt := top 37
abbrev s_are_points : Stmt := top 38
abbrev s_is_point : Stmt := top 39
abbrev s_is_same_both_ways : Stmt := top 41
abbrev s_corners_of : Stmt := top 42
abbrev s__law_decanter : Stmt := top 45
abbrev s__law_serve : Stmt := top 46
abbrev s__law_one_of : Stmt := top 47
abbrev s__law_web : Stmt := top 48
abbrev s__law_table : Stmt := top 49
abbrev s__law_number : Stmt := top 50
abbrev s__law_is : Stmt := top 51
abbrev s__law_hangs : Stmt := top 52
abbrev s__law_web_stop : Stmt := top 53
abbrev s__law_determinant : Stmt := top 54
abbrev s__law_table_stop : Stmt := top 55
abbrev s__law_above : Stmt := top 56
abbrev s__law_bent : Stmt := top 57
abbrev s__law_heard : Stmt := top 58
abbrev s__law_web_right : Stmt := top 59
abbrev s__law_table_right : Stmt := top 60
abbrev s_law : Stmt := top 61
abbrev s_init_BadNumber : Stmt := meth 7
abbrev s_init_BadWeb : Stmt := meth 8
abbrev s_init_BadTable : Stmt := meth 9
abbrev s_init_BadText : Stmt := meth 10
abbrev s_Web___init__ : Stmt := methN 28 0
abbrev s_Web___eq__ : Stmt := methN 28 1
abbrev s_Web___str__ : Stmt := methN 28 2
abbrev s_Web_read : Stmt := methN 28 3
abbrev s_Table___init__ : Stmt := methN 36 0
abbrev s_Table___eq__ : Stmt := methN 36 1
abbrev s_Table___str__ : Stmt := methN 36 2
abbrev s_Table_read : Stmt := methN 36 3
structure Ad where
  p_Web : Addr
  p_Table : Addr
  k__law_web_right : Addr
  t__law_web_right : Addr
  k__law_table_right : Addr
  t__law_table_right : Addr
  k_law : Addr
  t_law : Addr
  c_Web : Addr
  c_Table : Addr
  a_is_integer : Addr
  d_is_integer : FuncData
  a_is_within : Addr
  d_is_within : FuncData
  a_are_integers : Addr
  d_are_integers : FuncData
  a_own_names : Addr
  d_own_names : FuncData
  a_joined : Addr
  d_joined : FuncData
  a_names_of : Addr
  d_names_of : FuncData
  a_fixed : Addr
  d_fixed : FuncData
  a_items_of : Addr
  d_items_of : FuncData
  a_number_of : Addr
  d_number_of : FuncData
  a_item_at : Addr
  d_item_at : FuncData
  a_number_at : Addr
  d_number_at : FuncData
  a_read_colon : Addr
  d_read_colon : FuncData
  a_read_end : Addr
  d_read_end : FuncData
  a_are_ties : Addr
  d_are_ties : FuncData
  a_is_pair : Addr
  d_is_pair : FuncData
  a_hang_together : Addr
  d_hang_together : FuncData
  a_cleared : Addr
  d_cleared : FuncData
  a_are_rows : Addr
  d_are_rows : FuncData
  a_are_points : Addr
  d_are_points : FuncData
  a_is_point : Addr
  d_is_point : FuncData
  a_is_same_both_ways : Addr
  d_is_same_both_ways : FuncData
  a_corners_of : Addr
  d_corners_of : FuncData
  a__law_decanter : Addr
  d__law_decanter : FuncData
  a__law_serve : Addr
  d__law_serve : FuncData
  a__law_one_of : Addr
  d__law_one_of : FuncData
  a__law_web : Addr
  d__law_web : FuncData
  a__law_table : Addr
  d__law_table : FuncData
  a__law_number : Addr
  d__law_number : FuncData
  a__law_is : Addr
  d__law_is : FuncData
  a__law_hangs : Addr
  d__law_hangs : FuncData
  a__law_web_stop : Addr
  d__law_web_stop : FuncData
  a__law_determinant : Addr
  d__law_determinant : FuncData
  a__law_table_stop : Addr
  d__law_table_stop : FuncData
  a__law_above : Addr
  d__law_above : FuncData
  a__law_bent : Addr
  d__law_bent : FuncData
  a__law_heard : Addr
  d__law_heard : FuncData
  a__law_web_right : Addr
  d__law_web_right : FuncData
  a__law_table_right : Addr
  d__law_table_right : FuncData
  a_law : Addr
  d_law : FuncData
  a_Web___init__ : Addr
  d_Web___init__ : FuncData
  a_Web___eq__ : Addr
  d_Web___eq__ : FuncData
  a_Web___str__ : Addr
  d_Web___str__ : FuncData
  a_Web_read : Addr
  d_Web_read : FuncData
  a_Table___init__ : Addr
  d_Table___init__ : FuncData
  a_Table___eq__ : Addr
  d_Table___eq__ : FuncData
  a_Table___str__ : Addr
  d_Table___str__ : FuncData
  a_Table_read : Addr
  d_Table_read : FuncData
  c_NetError : Addr
  c_BadNumber : Addr
  c_BadWeb : Addr
  c_BadTable : Addr
  c_BadText : Addr
  i_BadNumber : Addr
  d_init_BadNumber : FuncData
  i_BadWeb : Addr
  d_init_BadWeb : FuncData
  i_BadTable : Addr
  d_init_BadTable : FuncData
  i_BadText : Addr
  d_init_BadText : FuncData
  t_MOST_DIGITS : Tok
  t_MOST_PLACES : Tok
  t_MOST_TIES : Tok
  t_MOST_ROWS : Tok
abbrev N_is_integer : List Str := ["value"]
abbrev P_is_integer : List Str := ["value"]
theorem sc_is_integer : FnScope N_is_integer P_is_integer (defScope s_is_integer) := ⟨rfl, rfl, rfl, by decide +kernel, rfl, by decide +kernel, by decide +kernel⟩
abbrev N_is_within : List Str := ["value", "least", "most"]
abbrev P_is_within : List Str := ["value", "least", "most"]
theorem sc_is_within : FnScope N_is_within P_is_within (defScope s_is_within) := ⟨rfl, rfl, rfl, by decide +kernel, rfl, by decide +kernel, by decide +kernel⟩
abbrev N_are_integers : List Str := ["value", "item"]
abbrev P_are_integers : List Str := ["value"]
theorem sc_are_integers : FnScope N_are_integers P_are_integers (defScope s_are_integers) := ⟨rfl, rfl, rfl, by decide +kernel, rfl, by decide +kernel, by decide +kernel⟩
abbrev N_own_names : List Str := ["many"]
abbrev P_own_names : List Str := ["many"]
theorem sc_own_names : FnScope N_own_names P_own_names (defScope s_own_names) := ⟨rfl, rfl, rfl, by decide +kernel, rfl, by decide +kernel, by decide +kernel⟩
abbrev N_joined : List Str := ["names", "one", "other", "low", "high", "name"]
abbrev P_joined : List Str := ["names", "one", "other"]
theorem sc_joined : FnScope N_joined P_joined (defScope s_joined) := ⟨rfl, rfl, rfl, by decide +kernel, rfl, by decide +kernel, by decide +kernel⟩
abbrev N_names_of : List Str := ["many", "pairs", "names", "one", "other"]
abbrev P_names_of : List Str := ["many", "pairs"]
theorem sc_names_of : FnScope N_names_of P_names_of (defScope s_names_of) := ⟨rfl, rfl, rfl, by decide +kernel, rfl, by decide +kernel, by decide +kernel⟩
abbrev N_fixed : List Str := ["value", "item"]
abbrev P_fixed : List Str := ["value"]
theorem sc_fixed : FnScope N_fixed P_fixed (defScope s_fixed) := ⟨rfl, rfl, rfl, by decide +kernel, rfl, by decide +kernel, by decide +kernel⟩
abbrev N_items_of : List Str := ["text"]
abbrev P_items_of : List Str := ["text"]
theorem sc_items_of : FnScope N_items_of P_items_of (defScope s_items_of) := ⟨rfl, rfl, rfl, by decide +kernel, rfl, by decide +kernel, by decide +kernel⟩
abbrev N_number_of : List Str := ["item", "digits"]
abbrev P_number_of : List Str := ["item"]
theorem sc_number_of : FnScope N_number_of P_number_of (defScope s_number_of) := ⟨rfl, rfl, rfl, by decide +kernel, rfl, by decide +kernel, by decide +kernel⟩
abbrev N_item_at : List Str := ["items", "index"]
abbrev P_item_at : List Str := ["items", "index"]
theorem sc_item_at : FnScope N_item_at P_item_at (defScope s_item_at) := ⟨rfl, rfl, rfl, by decide +kernel, rfl, by decide +kernel, by decide +kernel⟩
abbrev N_number_at : List Str := ["items", "index", "least", "most", "number"]
abbrev P_number_at : List Str := ["items", "index", "least", "most"]
theorem sc_number_at : FnScope N_number_at P_number_at (defScope s_number_at) := ⟨rfl, rfl, rfl, by decide +kernel, rfl, by decide +kernel, by decide +kernel⟩
abbrev N_read_colon : List Str := ["items", "index"]
abbrev P_read_colon : List Str := ["items", "index"]
theorem sc_read_colon : FnScope N_read_colon P_read_colon (defScope s_read_colon) := ⟨rfl, rfl, rfl, by decide +kernel, rfl, by decide +kernel, by decide +kernel⟩
abbrev N_read_end : List Str := ["items", "index"]
abbrev P_read_end : List Str := ["items", "index"]
theorem sc_read_end : FnScope N_read_end P_read_end (defScope s_read_end) := ⟨rfl, rfl, rfl, by decide +kernel, rfl, by decide +kernel, by decide +kernel⟩
abbrev N_are_ties : List Str := ["places", "value", "pair"]
abbrev P_are_ties : List Str := ["places", "value"]
theorem sc_are_ties : FnScope N_are_ties P_are_ties (defScope s_are_ties) := ⟨rfl, rfl, rfl, by decide +kernel, rfl, by decide +kernel, by decide +kernel⟩
abbrev N_is_pair : List Str := ["places", "value", "end"]
abbrev P_is_pair : List Str := ["places", "value"]
theorem sc_is_pair : FnScope N_is_pair P_is_pair (defScope s_is_pair) := ⟨rfl, rfl, rfl, by decide +kernel, rfl, by decide +kernel, by decide +kernel⟩
abbrev N_hang_together : List Str := ["places", "ties"]
abbrev P_hang_together : List Str := ["places", "ties"]
theorem sc_hang_together : FnScope N_hang_together P_hang_together (defScope s_hang_together) := ⟨rfl, rfl, rfl, by decide +kernel, rfl, by decide +kernel, by decide +kernel⟩
abbrev N_cleared : List Str := ["row", "top", "lead", "before", "at"]
abbrev P_cleared : List Str := ["row", "top", "lead", "before"]
theorem sc_cleared : FnScope N_cleared P_cleared (defScope s_cleared) := ⟨rfl, rfl, rfl, by decide +kernel, rfl, by decide +kernel, by decide +kernel⟩
abbrev N_are_rows : List Str := ["value"]
abbrev P_are_rows : List Str := ["value"]
theorem sc_are_rows : FnScope N_are_rows P_are_rows (defScope s_are_rows) := ⟨rfl, rfl, rfl, by decide +kernel, rfl, by decide +kernel, by decide +kernel⟩
abbrev N_are_points : List Str := ["value", "size", "point"]
abbrev P_are_points : List Str := ["value", "size"]
theorem sc_are_points : FnScope N_are_points P_are_points (defScope s_are_points) := ⟨rfl, rfl, rfl, by decide +kernel, rfl, by decide +kernel, by decide +kernel⟩
abbrev N_is_point : List Str := ["value", "size"]
abbrev P_is_point : List Str := ["value", "size"]
theorem sc_is_point : FnScope N_is_point P_is_point (defScope s_is_point) := ⟨rfl, rfl, rfl, by decide +kernel, rfl, by decide +kernel, by decide +kernel⟩
abbrev N_is_same_both_ways : List Str := ["rows", "size", "at", "by"]
abbrev P_is_same_both_ways : List Str := ["rows"]
theorem sc_is_same_both_ways : FnScope N_is_same_both_ways P_is_same_both_ways (defScope s_is_same_both_ways) := ⟨rfl, rfl, rfl, by decide +kernel, rfl, by decide +kernel, by decide +kernel⟩
abbrev N_corners_of : List Str := ["rows", "found", "left", "before", "top", "rest", "row"]
abbrev P_corners_of : List Str := ["rows"]
theorem sc_corners_of : FnScope N_corners_of P_corners_of (defScope s_corners_of) := ⟨rfl, rfl, rfl, by decide +kernel, rfl, by decide +kernel, by decide +kernel⟩
abbrev N__law_decanter : List Str := ["script", "cell"]
abbrev P__law_decanter : List Str := ["script"]
theorem sc__law_decanter : FnScope N__law_decanter P__law_decanter (defScope s__law_decanter) := ⟨rfl, rfl, rfl, by decide +kernel, rfl, by decide +kernel, by decide +kernel⟩
abbrev N__law_serve : List Str := ["decanter", "many", "left", "turn", "cell", "mixed"]
abbrev P__law_serve : List Str := ["decanter", "many"]
theorem sc__law_serve : FnScope N__law_serve P__law_serve (defScope s__law_serve) := ⟨rfl, rfl, rfl, by decide +kernel, rfl, by decide +kernel, by decide +kernel⟩
abbrev N__law_one_of : List Str := ["decanter", "some"]
abbrev P__law_one_of : List Str := ["decanter", "some"]
theorem sc__law_one_of : FnScope N__law_one_of P__law_one_of (defScope s__law_one_of) := ⟨rfl, rfl, rfl, by decide +kernel, rfl, by decide +kernel, by decide +kernel⟩
abbrev N__law_web : List Str := ["decanter", "places", "ends", "left", "found", "pair", "place"]
abbrev P__law_web : List Str := ["decanter"]
theorem sc__law_web : FnScope N__law_web P__law_web (defScope s__law_web) := ⟨rfl, rfl, rfl, by decide +kernel, rfl, by decide +kernel, by decide +kernel⟩
abbrev N__law_table : List Str := ["decanter", "size", "rows", "big", "turn", "drawn", "times", "i", "j", "found", "row", "at", "number"]
abbrev P__law_table : List Str := ["decanter"]
theorem sc__law_table : FnScope N__law_table P__law_table (defScope s__law_table) := ⟨rfl, rfl, rfl, by decide +kernel, rfl, by decide +kernel, by decide +kernel⟩
abbrev N__law_number : List Str := ["item", "figures", "sign"]
abbrev P__law_number : List Str := ["item"]
theorem sc__law_number : FnScope N__law_number P__law_number (defScope s__law_number) := ⟨rfl, rfl, rfl, by decide +kernel, rfl, by decide +kernel, by decide +kernel⟩
abbrev N__law_is : List Str := ["item", "least", "most", "number"]
abbrev P__law_is : List Str := ["item", "least", "most"]
theorem sc__law_is : FnScope N__law_is P__law_is (defScope s__law_is) := ⟨rfl, rfl, rfl, by decide +kernel, rfl, by decide +kernel, by decide +kernel⟩
abbrev N__law_hangs : List Str := ["places", "ends", "known", "turn", "one", "other"]
abbrev P__law_hangs : List Str := ["places", "ends"]
theorem sc__law_hangs : FnScope N__law_hangs P__law_hangs (defScope s__law_hangs) := ⟨rfl, rfl, rfl, by decide +kernel, rfl, by decide +kernel, by decide +kernel⟩
abbrev N__law_web_stop : List Str := ["items", "places", "at"]
abbrev P__law_web_stop : List Str := ["items"]
theorem sc__law_web_stop : FnScope N__law_web_stop P__law_web_stop (defScope s__law_web_stop) := ⟨rfl, rfl, rfl, by decide +kernel, rfl, by decide +kernel, by decide +kernel⟩
abbrev N__law_determinant : List Str := ["rows", "found", "at", "number", "row"]
abbrev P__law_determinant : List Str := ["rows"]
theorem sc__law_determinant : FnScope N__law_determinant P__law_determinant (defScope s__law_determinant) := ⟨rfl, rfl, rfl, by decide +kernel, rfl, by decide +kernel, by decide +kernel⟩
abbrev N__law_table_stop : List Str := ["items", "size", "at", "row", "column"]
abbrev P__law_table_stop : List Str := ["items"]
theorem sc__law_table_stop : FnScope N__law_table_stop P__law_table_stop (defScope s__law_table_stop) := ⟨rfl, rfl, rfl, by decide +kernel, rfl, by decide +kernel, by decide +kernel⟩
abbrev N__law_above : List Str := ["items", "size", "numbers", "rows", "item", "row", "many"]
abbrev P__law_above : List Str := ["items"]
theorem sc__law_above : FnScope N__law_above P__law_above (defScope s__law_above) := ⟨rfl, rfl, rfl, by decide +kernel, rfl, by decide +kernel, by decide +kernel⟩
abbrev N__law_bent : List Str := ["decanter", "items", "at", "way", "odd", "new"]
abbrev P__law_bent : List Str := ["decanter", "items"]
theorem sc__law_bent : FnScope N__law_bent P__law_bent (defScope s__law_bent) := ⟨rfl, rfl, rfl, by decide +kernel, rfl, by decide +kernel, by decide +kernel⟩
abbrev N__law_heard : List Str := ["ask", "caught", "error"]
abbrev P__law_heard : List Str := ["ask"]
theorem sc__law_heard : FnScope N__law_heard P__law_heard (defScope s__law_heard) := ⟨rfl, rfl, rfl, by decide +kernel, rfl, by decide +kernel, by decide +kernel⟩
abbrev N__law_web_right : List Str := ["items", "text", "stop", "web", "numbers", "ties", "item", "one", "other"]
abbrev P__law_web_right : List Str := ["items"]
theorem sc__law_web_right : FnScope N__law_web_right P__law_web_right (defScope s__law_web_right) := ⟨rfl, rfl, rfl, by decide +kernel, rfl, by decide +kernel, by decide +kernel⟩
abbrev N__law_table_right : List Str := ["items", "text", "stop", "last", "table", "size", "rows", "row", "item"]
abbrev P__law_table_right : List Str := ["items"]
theorem sc__law_table_right : FnScope N__law_table_right P__law_table_right (defScope s__law_table_right) := ⟨rfl, rfl, rfl, by decide +kernel, rfl, by decide +kernel, by decide +kernel⟩
abbrev N_law : List Str := ["script", "decanter", "turn", "items", "others", "bend", "bent", "far", "odd", "heard"]
abbrev P_law : List Str := ["script"]
theorem sc_law : FnScope N_law P_law (defScope s_law) := ⟨rfl, rfl, rfl, by decide +kernel, rfl, by decide +kernel, by decide +kernel⟩
abbrev N_Web___init__ : List Str := ["self", "places", "ties"]
abbrev P_Web___init__ : List Str := ["self", "places", "ties"]
theorem sc_Web___init__ : FnScope N_Web___init__ P_Web___init__ (defScope s_Web___init__) := ⟨rfl, rfl, rfl, by decide +kernel, rfl, by decide +kernel, by decide +kernel⟩
abbrev N_Web___eq__ : List Str := ["self", "other"]
abbrev P_Web___eq__ : List Str := ["self", "other"]
theorem sc_Web___eq__ : FnScope N_Web___eq__ P_Web___eq__ (defScope s_Web___eq__) := ⟨rfl, rfl, rfl, by decide +kernel, rfl, by decide +kernel, by decide +kernel⟩
abbrev N_Web___str__ : List Str := ["self", "pair", "end"]
abbrev P_Web___str__ : List Str := ["self"]
theorem sc_Web___str__ : FnScope N_Web___str__ P_Web___str__ (defScope s_Web___str__) := ⟨rfl, rfl, rfl, by decide +kernel, rfl, by decide +kernel, by decide +kernel⟩
abbrev N_Web_read : List Str := ["text", "items", "places", "behind", "ends", "index"]
abbrev P_Web_read : List Str := ["text"]
theorem sc_Web_read : FnScope N_Web_read P_Web_read (defScope s_Web_read) := ⟨rfl, rfl, rfl, by decide +kernel, rfl, by decide +kernel, by decide +kernel⟩
abbrev N_Table___init__ : List Str := ["self", "rows", "corners"]
abbrev P_Table___init__ : List Str := ["self", "rows"]
theorem sc_Table___init__ : FnScope N_Table___init__ P_Table___init__ (defScope s_Table___init__) := ⟨rfl, rfl, rfl, by decide +kernel, rfl, by decide +kernel, by decide +kernel⟩
abbrev N_Table___eq__ : List Str := ["self", "other"]
abbrev P_Table___eq__ : List Str := ["self", "other"]
theorem sc_Table___eq__ : FnScope N_Table___eq__ P_Table___eq__ (defScope s_Table___eq__) := ⟨rfl, rfl, rfl, by decide +kernel, rfl, by decide +kernel, by decide +kernel⟩
abbrev N_Table___str__ : List Str := ["self", "row", "number"]
abbrev P_Table___str__ : List Str := ["self"]
theorem sc_Table___str__ : FnScope N_Table___str__ P_Table___str__ (defScope s_Table___str__) := ⟨rfl, rfl, rfl, by decide +kernel, rfl, by decide +kernel, by decide +kernel⟩
abbrev N_Table_read : List Str := ["text", "items", "size", "rows", "at", "sides", "start", "row", "by", "side"]
abbrev P_Table_read : List Str := ["text"]
theorem sc_Table_read : FnScope N_Table_read P_Table_read (defScope s_Table_read) := ⟨rfl, rfl, rfl, by decide +kernel, rfl, by decide +kernel, by decide +kernel⟩
abbrev N_init_BadNumber : List Str := ["self", "part"]
abbrev P_init_BadNumber : List Str := ["self", "part"]
theorem sc_init_BadNumber : FnScope N_init_BadNumber P_init_BadNumber (defScope s_init_BadNumber) := ⟨rfl, rfl, rfl, by decide +kernel, rfl, by decide +kernel, by decide +kernel⟩
abbrev N_init_BadWeb : List Str := ["self", "part"]
abbrev P_init_BadWeb : List Str := ["self", "part"]
theorem sc_init_BadWeb : FnScope N_init_BadWeb P_init_BadWeb (defScope s_init_BadWeb) := ⟨rfl, rfl, rfl, by decide +kernel, rfl, by decide +kernel, by decide +kernel⟩
abbrev N_init_BadTable : List Str := ["self", "part"]
abbrev P_init_BadTable : List Str := ["self", "part"]
theorem sc_init_BadTable : FnScope N_init_BadTable P_init_BadTable (defScope s_init_BadTable) := ⟨rfl, rfl, rfl, by decide +kernel, rfl, by decide +kernel, by decide +kernel⟩
abbrev N_init_BadText : List Str := ["self", "line", "item"]
abbrev P_init_BadText : List Str := ["self", "line", "item"]
theorem sc_init_BadText : FnScope N_init_BadText P_init_BadText (defScope s_init_BadText) := ⟨rfl, rfl, rfl, by decide +kernel, rfl, by decide +kernel, by decide +kernel⟩
structure Txt (P : Program) (K : PySem.W.Frag) (mg : Str → Option Value) (A : Ad) : Prop where
  g_is_integer : mg "is_integer" = some (.ref A.a_is_integer)
  F_is_integer : Fun K "is_integer" "is_integer" s_is_integer A.a_is_integer A.d_is_integer
  b_is_integer : Binds K A.d_is_integer P_is_integer []
  g_is_within : mg "is_within" = some (.ref A.a_is_within)
  F_is_within : Fun K "is_within" "is_within" s_is_within A.a_is_within A.d_is_within
  b_is_within : Binds K A.d_is_within P_is_within []
  g_are_integers : mg "are_integers" = some (.ref A.a_are_integers)
  F_are_integers : Fun K "are_integers" "are_integers" s_are_integers A.a_are_integers A.d_are_integers
  b_are_integers : Binds K A.d_are_integers P_are_integers []
  g_own_names : mg "own_names" = some (.ref A.a_own_names)
  F_own_names : Fun K "own_names" "own_names" s_own_names A.a_own_names A.d_own_names
  b_own_names : Binds K A.d_own_names P_own_names []
  g_joined : mg "joined" = some (.ref A.a_joined)
  F_joined : Fun K "joined" "joined" s_joined A.a_joined A.d_joined
  b_joined : Binds K A.d_joined P_joined []
  g_names_of : mg "names_of" = some (.ref A.a_names_of)
  F_names_of : Fun K "names_of" "names_of" s_names_of A.a_names_of A.d_names_of
  b_names_of : Binds K A.d_names_of P_names_of []
  g_fixed : mg "fixed" = some (.ref A.a_fixed)
  F_fixed : Fun K "fixed" "fixed" s_fixed A.a_fixed A.d_fixed
  b_fixed : Binds K A.d_fixed P_fixed []
  g_items_of : mg "items_of" = some (.ref A.a_items_of)
  F_items_of : Fun K "items_of" "items_of" s_items_of A.a_items_of A.d_items_of
  b_items_of : Binds K A.d_items_of P_items_of []
  g_number_of : mg "number_of" = some (.ref A.a_number_of)
  F_number_of : Fun K "number_of" "number_of" s_number_of A.a_number_of A.d_number_of
  b_number_of : Binds K A.d_number_of P_number_of []
  g_item_at : mg "item_at" = some (.ref A.a_item_at)
  F_item_at : Fun K "item_at" "item_at" s_item_at A.a_item_at A.d_item_at
  b_item_at : Binds K A.d_item_at P_item_at []
  g_number_at : mg "number_at" = some (.ref A.a_number_at)
  F_number_at : Fun K "number_at" "number_at" s_number_at A.a_number_at A.d_number_at
  b_number_at : Binds K A.d_number_at P_number_at []
  g_read_colon : mg "read_colon" = some (.ref A.a_read_colon)
  F_read_colon : Fun K "read_colon" "read_colon" s_read_colon A.a_read_colon A.d_read_colon
  b_read_colon : Binds K A.d_read_colon P_read_colon []
  g_read_end : mg "read_end" = some (.ref A.a_read_end)
  F_read_end : Fun K "read_end" "read_end" s_read_end A.a_read_end A.d_read_end
  b_read_end : Binds K A.d_read_end P_read_end []
  g_are_ties : mg "are_ties" = some (.ref A.a_are_ties)
  F_are_ties : Fun K "are_ties" "are_ties" s_are_ties A.a_are_ties A.d_are_ties
  b_are_ties : Binds K A.d_are_ties P_are_ties []
  g_is_pair : mg "is_pair" = some (.ref A.a_is_pair)
  F_is_pair : Fun K "is_pair" "is_pair" s_is_pair A.a_is_pair A.d_is_pair
  b_is_pair : Binds K A.d_is_pair P_is_pair []
  g_hang_together : mg "hang_together" = some (.ref A.a_hang_together)
  F_hang_together : Fun K "hang_together" "hang_together" s_hang_together A.a_hang_together A.d_hang_together
  b_hang_together : Binds K A.d_hang_together P_hang_together []
  g_cleared : mg "cleared" = some (.ref A.a_cleared)
  F_cleared : Fun K "cleared" "cleared" s_cleared A.a_cleared A.d_cleared
  b_cleared : Binds K A.d_cleared P_cleared []
  g_are_rows : mg "are_rows" = some (.ref A.a_are_rows)
  F_are_rows : Fun K "are_rows" "are_rows" s_are_rows A.a_are_rows A.d_are_rows
  b_are_rows : Binds K A.d_are_rows P_are_rows []
  g_are_points : mg "are_points" = some (.ref A.a_are_points)
  F_are_points : Fun K "are_points" "are_points" s_are_points A.a_are_points A.d_are_points
  b_are_points : Binds K A.d_are_points P_are_points []
  g_is_point : mg "is_point" = some (.ref A.a_is_point)
  F_is_point : Fun K "is_point" "is_point" s_is_point A.a_is_point A.d_is_point
  b_is_point : Binds K A.d_is_point P_is_point []
  g_is_same_both_ways : mg "is_same_both_ways" = some (.ref A.a_is_same_both_ways)
  F_is_same_both_ways : Fun K "is_same_both_ways" "is_same_both_ways" s_is_same_both_ways A.a_is_same_both_ways A.d_is_same_both_ways
  b_is_same_both_ways : Binds K A.d_is_same_both_ways P_is_same_both_ways []
  g_corners_of : mg "corners_of" = some (.ref A.a_corners_of)
  F_corners_of : Fun K "corners_of" "corners_of" s_corners_of A.a_corners_of A.d_corners_of
  b_corners_of : Binds K A.d_corners_of P_corners_of []
  g__law_decanter : mg "_law_decanter" = some (.ref A.a__law_decanter)
  F__law_decanter : Fun K "_law_decanter" "_law_decanter" s__law_decanter A.a__law_decanter A.d__law_decanter
  b__law_decanter : Binds K A.d__law_decanter P__law_decanter []
  g__law_serve : mg "_law_serve" = some (.ref A.a__law_serve)
  F__law_serve : Fun K "_law_serve" "_law_serve" s__law_serve A.a__law_serve A.d__law_serve
  b__law_serve : Binds K A.d__law_serve P__law_serve []
  g__law_one_of : mg "_law_one_of" = some (.ref A.a__law_one_of)
  F__law_one_of : Fun K "_law_one_of" "_law_one_of" s__law_one_of A.a__law_one_of A.d__law_one_of
  b__law_one_of : Binds K A.d__law_one_of P__law_one_of []
  g__law_web : mg "_law_web" = some (.ref A.a__law_web)
  F__law_web : Fun K "_law_web" "_law_web" s__law_web A.a__law_web A.d__law_web
  b__law_web : Binds K A.d__law_web P__law_web []
  g__law_table : mg "_law_table" = some (.ref A.a__law_table)
  F__law_table : Fun K "_law_table" "_law_table" s__law_table A.a__law_table A.d__law_table
  b__law_table : Binds K A.d__law_table P__law_table []
  g__law_number : mg "_law_number" = some (.ref A.a__law_number)
  F__law_number : Fun K "_law_number" "_law_number" s__law_number A.a__law_number A.d__law_number
  b__law_number : Binds K A.d__law_number P__law_number []
  g__law_is : mg "_law_is" = some (.ref A.a__law_is)
  F__law_is : Fun K "_law_is" "_law_is" s__law_is A.a__law_is A.d__law_is
  b__law_is : Binds K A.d__law_is P__law_is []
  g__law_hangs : mg "_law_hangs" = some (.ref A.a__law_hangs)
  F__law_hangs : Fun K "_law_hangs" "_law_hangs" s__law_hangs A.a__law_hangs A.d__law_hangs
  b__law_hangs : Binds K A.d__law_hangs P__law_hangs []
  g__law_web_stop : mg "_law_web_stop" = some (.ref A.a__law_web_stop)
  F__law_web_stop : Fun K "_law_web_stop" "_law_web_stop" s__law_web_stop A.a__law_web_stop A.d__law_web_stop
  b__law_web_stop : Binds K A.d__law_web_stop P__law_web_stop []
  g__law_determinant : mg "_law_determinant" = some (.ref A.a__law_determinant)
  F__law_determinant : Fun K "_law_determinant" "_law_determinant" s__law_determinant A.a__law_determinant A.d__law_determinant
  b__law_determinant : Binds K A.d__law_determinant P__law_determinant []
  g__law_table_stop : mg "_law_table_stop" = some (.ref A.a__law_table_stop)
  F__law_table_stop : Fun K "_law_table_stop" "_law_table_stop" s__law_table_stop A.a__law_table_stop A.d__law_table_stop
  b__law_table_stop : Binds K A.d__law_table_stop P__law_table_stop []
  g__law_above : mg "_law_above" = some (.ref A.a__law_above)
  F__law_above : Fun K "_law_above" "_law_above" s__law_above A.a__law_above A.d__law_above
  b__law_above : Binds K A.d__law_above P__law_above []
  g__law_bent : mg "_law_bent" = some (.ref A.a__law_bent)
  F__law_bent : Fun K "_law_bent" "_law_bent" s__law_bent A.a__law_bent A.d__law_bent
  b__law_bent : Binds K A.d__law_bent P__law_bent []
  g__law_heard : mg "_law_heard" = some (.ref A.a__law_heard)
  F__law_heard : Fun K "_law_heard" "_law_heard" s__law_heard A.a__law_heard A.d__law_heard
  b__law_heard : Binds K A.d__law_heard P__law_heard []
  g__law_web_right : mg "_law_web_right" = some (.ref A.a__law_web_right)
  F__law_web_right : FunC K "_law_web_right" "_law_web_right" s__law_web_right A.a__law_web_right A.d__law_web_right A.k__law_web_right
  b__law_web_right : Binds K A.d__law_web_right P__law_web_right []
  g__law_table_right : mg "_law_table_right" = some (.ref A.a__law_table_right)
  F__law_table_right : FunC K "_law_table_right" "_law_table_right" s__law_table_right A.a__law_table_right A.d__law_table_right A.k__law_table_right
  b__law_table_right : Binds K A.d__law_table_right P__law_table_right []
  g_law : mg "law" = some (.ref A.a_law)
  F_law : FunC K "law" "law" s_law A.a_law A.d_law A.k_law
  b_law : Binds K A.d_law P_law []
  g_Web : mg "Web" = some (.ref A.c_Web)
  M_Web : Mk K A.c_Web A.a_Web___init__
  K_Web : Cls K A.c_Web
  I_Web : IsO K A.c_Web
  N_Web_places : NoAttr K A.c_Web "places"
  N_Web_ties : NoAttr K A.c_Web "ties"
  g_Table : mg "Table" = some (.ref A.c_Table)
  M_Table : Mk K A.c_Table A.a_Table___init__
  K_Table : Cls K A.c_Table
  I_Table : IsO K A.c_Table
  N_Table_determinant : NoAttr K A.c_Table "determinant"
  N_Table_rows : NoAttr K A.c_Table "rows"
  N_Table_size : NoAttr K A.c_Table "size"
  F_Web___init__ : Fun K "__init__" "Web.__init__" s_Web___init__ A.a_Web___init__ A.d_Web___init__
  b_Web___init__ : Binds K A.d_Web___init__ P_Web___init__ []
  F_Web___eq__ : Fun K "__eq__" "Web.__eq__" s_Web___eq__ A.a_Web___eq__ A.d_Web___eq__
  b_Web___eq__ : Binds K A.d_Web___eq__ P_Web___eq__ []
  F_Web___str__ : Fun K "__str__" "Web.__str__" s_Web___str__ A.a_Web___str__ A.d_Web___str__
  b_Web___str__ : Binds K A.d_Web___str__ P_Web___str__ []
  F_Web_read : Fun K "read" "Web.read" s_Web_read A.a_Web_read A.d_Web_read
  b_Web_read : Binds K A.d_Web_read P_Web_read []
  F_Table___init__ : Fun K "__init__" "Table.__init__" s_Table___init__ A.a_Table___init__ A.d_Table___init__
  b_Table___init__ : Binds K A.d_Table___init__ P_Table___init__ []
  F_Table___eq__ : Fun K "__eq__" "Table.__eq__" s_Table___eq__ A.a_Table___eq__ A.d_Table___eq__
  b_Table___eq__ : Binds K A.d_Table___eq__ P_Table___eq__ []
  F_Table___str__ : Fun K "__str__" "Table.__str__" s_Table___str__ A.a_Table___str__ A.d_Table___str__
  b_Table___str__ : Binds K A.d_Table___str__ P_Table___str__ []
  F_Table_read : Fun K "read" "Table.read" s_Table_read A.a_Table_read A.d_Table_read
  b_Table_read : Binds K A.d_Table_read P_Table_read []
  C_NetError : Cn K mg A.c_NetError "NetError"
  X_BadNumber : XT K mg "BadNumber" A.c_BadNumber A.i_BadNumber [A.c_NetError] ["NetError"] ["part"]
  F_init_BadNumber : Fun K "__init__" "BadNumber.__init__" s_init_BadNumber A.i_BadNumber A.d_init_BadNumber
  b_init_BadNumber : Binds K A.d_init_BadNumber P_init_BadNumber []
  X_BadWeb : XT K mg "BadWeb" A.c_BadWeb A.i_BadWeb [A.c_NetError] ["NetError"] ["part"]
  F_init_BadWeb : Fun K "__init__" "BadWeb.__init__" s_init_BadWeb A.i_BadWeb A.d_init_BadWeb
  b_init_BadWeb : Binds K A.d_init_BadWeb P_init_BadWeb []
  X_BadTable : XT K mg "BadTable" A.c_BadTable A.i_BadTable [A.c_NetError] ["NetError"] ["part"]
  F_init_BadTable : Fun K "__init__" "BadTable.__init__" s_init_BadTable A.i_BadTable A.d_init_BadTable
  b_init_BadTable : Binds K A.d_init_BadTable P_init_BadTable []
  X_BadText : XT K mg "BadText" A.c_BadText A.i_BadText [A.c_NetError] ["NetError"] ["line", "item"]
  F_init_BadText : Fun K "__init__" "BadText.__init__" s_init_BadText A.i_BadText A.d_init_BadText
  b_init_BadText : Binds K A.d_init_BadText P_init_BadText []
  m_MOST_DIGITS : mg "MOST_DIGITS" = some (.int 60 A.t_MOST_DIGITS)
  m_MOST_PLACES : mg "MOST_PLACES" = some (.int 13 A.t_MOST_PLACES)
  m_MOST_TIES : mg "MOST_TIES" = some (.int 12 A.t_MOST_TIES)
  m_MOST_ROWS : mg "MOST_ROWS" = some (.int 5 A.t_MOST_ROWS)
  n_abs : mg "abs" = none
  n_all : mg "all" = none
  n_any : mg "any" = none
  n_bool : mg "bool" = none
  n_enumerate : mg "enumerate" = none
  n_int : mg "int" = none
  n_isinstance : mg "isinstance" = none
  n_len : mg "len" = none
  n_list : mg "list" = none
  n_max : mg "max" = none
  n_min : mg "min" = none
  n_range : mg "range" = none
  n_repr : mg "repr" = none
  n_set : mg "set" = none
  n_str : mg "str" = none
  n_tuple : mg "tuple" = none
  n_type : mg "type" = none
  n_zip : mg "zip" = none
  S_Web_read : SMet K A.c_Web "read" A.p_Web A.a_Web_read
  O_eq_Web : OEq K A.c_Web A.a_Web___eq__
  O_s_Web : PySem.W.findIn K (.ref A.c_Web) "__str__" = some (some (.ref A.a_Web___str__))
  O_f_Web : PySem.W.isFn K (.ref A.a_Web___str__) = true
  O_l_Web : PySem.W.notFirst K A.c_Web (.type "list") = true
  O_t_Web : PySem.W.notFirst K A.c_Web (.type "tuple") = true
  S_Table_read : SMet K A.c_Table "read" A.p_Table A.a_Table_read
  O_eq_Table : OEq K A.c_Table A.a_Table___eq__
  O_s_Table : PySem.W.findIn K (.ref A.c_Table) "__str__" = some (some (.ref A.a_Table___str__))
  O_f_Table : PySem.W.isFn K (.ref A.a_Table___str__) = true
  O_l_Table : PySem.W.notFirst K A.c_Table (.type "list") = true
  O_t_Table : PySem.W.notFirst K A.c_Table (.type "tuple") = true
  Z_s : PySem.W.kitOne K (.ref A.c_Web) (.type "str") = some false
  E_1 : PySem.W.subIn K (.ref A.c_NetError) (.type "BaseException") = some true
  E_2 : PySem.W.hasDictIn K A.c_NetError = true
  E_3 : PySem.W.typeIn K (.ref A.c_NetError) = some (.type "type")
  X_sBadNumber : PySem.W.subIn K (.ref A.c_BadNumber) (.ref A.c_NetError) = some true
  X_sBadWeb : PySem.W.subIn K (.ref A.c_BadWeb) (.ref A.c_NetError) = some true
  X_sBadTable : PySem.W.subIn K (.ref A.c_BadTable) (.ref A.c_NetError) = some true
  X_sBadText : PySem.W.subIn K (.ref A.c_BadText) (.ref A.c_NetError) = some true
section
variable {P : Program} {w : World} {K : PySem.W.Frag} {mg : Str → Option Value} {base : Heap} {A : Ad}
/-! ### checks -/
def sp_isint : Sp := fun vs H Q _ => ∃ v, vs = [v] ∧ OkV H v ∧ Q (.bl (isI v)) H
theorem G_is_integer (T : Txt P K mg A) : FnG P w K mg base CX0 1 A.a_is_integer A.d_is_integer P_is_integer sp_isint := by
  refine okG T.F_is_integer sc_is_integer (fun vs H Q E h => ?_) (fun cdv A0 outer s H vs Q E hr h => ?_)
  · obtain ⟨v, rfl, _⟩ := h
    rfl
  obtain ⟨v, rfl, ok, k⟩ := h
  obtain ⟨T1, ty, k1, k2, _⟩ := kindV (K := K) ok
  refine ⟨_, (pss_one (ps_ret (pe_and (pe_callB call_isi (by rfl) T.n_isinstance (by decide +kernel) (pa_cons (pv 0) (pa_cons (pe_bltn (v := .ty "int") (u := .type "int") (by rfl) T.n_int (by decide +kernel) rfl) pa_nil))) (pe_one (pe_not (pe_callB call_isi (by rfl) T.n_isinstance (by decide +kernel) (pa_cons (pv 0) (pa_cons (pe_bltn (v := .ty "bool") (u := .type "bool") (by rfl) T.n_bool (by decide +kernel) rfl) pa_nil)))))))), ?_⟩
  refine ⟨_, rfl, _, _, _, _, _, rfl, .ty "int", ty, kit_ty k1, _, rfl, ite2 (fun e => ?_) (fun e => ?_)⟩
  · refine ⟨_, rfl, _, _, _, _, _, rfl, .ty "bool", ty, kit_ty k2, _, rfl, ?_⟩
    have z : (!isB v) = isI v := by cases v <;> first | rfl | (simp [isI, isB] at e)
    rw [← z] at k
    exact k
  · have z : isI v = false := by cases v <;> first | rfl | (simp [isI, isB] at e)
    rw [z] at k
    exact k
def Bd : V → Prop
  | .non => True
  | .int _ => True
  | _ => False
def inLo (v lo : V) : Bool := match lo, v with
  | .int a, .int i => decide (a ≤ i)
  | _, _ => true
def inHi (v hi : V) : Bool := match hi, v with
  | .int b, .int i => decide (i ≤ b)
  | _, _ => true
def sp_within : Sp := fun vs H Q _ => ∃ v lo hi, vs = [v, lo, hi] ∧ OkV H v ∧ Bd lo ∧ Bd hi ∧ Q (.bl (isI v && (inLo v lo && inHi v hi))) H
theorem G_is_within (T : Txt P K mg A) : FnG P w K mg base CX0 2 A.a_is_within A.d_is_within P_is_within sp_within := by
  refine okG T.F_is_within sc_is_within (fun vs H Q E h => ?_) (fun cdv A0 outer s H vs Q E hr h => ?_)
  · obtain ⟨v, lo, hi, rfl, _⟩ := h
    rfl
  obtain ⟨v, lo, hi, rfl, ok, bl, bh, k⟩ := h
  refine ⟨_, (pss_cons (ps_if (pt_not (pt_val (pe_callG (G_is_integer T) (hr.mono (by decide)) rfl T.g_is_integer T.F_is_integer.kp T.b_is_integer .nil pass0 (pa_cons (pv 0) pa_nil)))) (pss_one (ps_ret pe_bl)) pss_nil)
      (pss_cons (ps_if (PW.pt (pw_and (pt_cmpR op_notN (pv 1) pe_non (nomark _)) (pw_and1 (pt_cmpR op_lt (pv 0) (pv 1) (nomark _))))) (pss_one (ps_ret pe_bl)) pss_nil)
      (pss_one (ps_ret (pe_or (pe_cmpR op_isN (pv 2) pe_non (nomark _)) (pe_one (pe_cmpR op_le (pv 0) (pv 2) (nomark _)))))))), ?_⟩
  refine ⟨_, rfl, _, rfl, ok, _, rfl, ite2 (fun e => ?_) (fun e => ?_)⟩
  · have z : isI v = false := by
      cases h : isI v with
      | false => rfl
      | true =>
        rw [h] at e
        cases e
    rw [z] at k
    exact k
  · cases v with
    | int i =>
      have last : inLo (.int i) lo = true → tRet (tOrV (tOp (fun x y H Q => y = V.non ∧ Q (.bl (decide (x = V.non))) H) (tVar 2) (tC .non)) (tOp (rI0 fun i j => .bl (decide (i ≤ j))) (tVar 0) (tVar 2)))
          { nx := fun _ H' => Q .non H', rt := Q } (start N_is_within [V.int i, lo, hi]) H := by
        intro hz
        rw [hz] at k
        cases hi with
        | non =>
          refine ⟨_, rfl, rfl, _, rfl, iteT ?_⟩
          exact k
        | int b =>
          refine ⟨_, rfl, rfl, _, rfl, iteF ?_⟩
          refine ⟨_, rfl, _, rfl, _, _, rfl, rfl, ?_⟩
          exact k
        | _ => exact bh.elim
      cases lo with
      | non => exact ⟨_, rfl, rfl, _, rfl, iteF (iteF (last rfl))⟩
      | int a =>
        refine ⟨_, rfl, rfl, _, rfl, iteT ⟨_, rfl, _, rfl, _, _, rfl, rfl, _, rfl, ite2 (fun e => ?_) (fun e => ?_)⟩⟩
        · have z : inLo (.int i) (.int a) = false := decide_eq_false (by have := of_decide_eq_true e; omega)
          rw [z] at k
          exact k
        · exact last (decide_eq_true (by
            have : ¬ i < a := fun q => e (decide_eq_true q)
            omega))
      | _ => exact bl.elim
    | _ => exact absurd rfl e
/-- what are_integers says of a value -/
def areI (H : Hp) : V → Bool
  | .ref a => match H a with
    | some (.lst xs) => xs.all isI
    | some (.tup xs) => xs.all isI
    | _ => false
  | _ => false
def sp_areint : Sp := fun vs H Q _ => ∃ v, vs = [v] ∧ OkV H v ∧ (∀ a xs, v = .ref a → (H a = some (.lst xs) ∨ H a = some (.tup xs)) → xs.length ≤ 1000 ∧ ∀ x ∈ xs, OkV H x) ∧ ∀ H', Same H H' → Q (.bl (areI H v)) H'
theorem all_take {xs : List V} {i : Nat} {x : V} (h : xs[i]? = some x) : (xs.take i).map isI ++ [isI x] = (xs.take (i + 1)).map isI := by
  rw [List.take_succ, h]
  simp
theorem G_are_integers (T : Txt P K mg A) : FnG P w K mg base CX0 2 A.a_are_integers A.d_are_integers P_are_integers sp_areint := by
  refine okG T.F_are_integers sc_are_integers (fun vs H Q E h => ?_) (fun cdv A0 outer s H vs Q E hr h => ?_)
  · obtain ⟨v, rfl, _⟩ := h
    rfl
  obtain ⟨v, rfl, ok, it, k⟩ := h
  refine ⟨_, (pss_one (ps_ret (pe_and (pe_callB call_isiT (by rfl) T.n_isinstance (by decide +kernel) (pa_cons (pv 0) (pa_cons (pe_tup (pa_cons (pe_bltn (v := .ty "list") (u := .type "list") (by rfl) T.n_list (by decide +kernel) rfl) (pa_cons (pe_bltn (v := .ty "tuple") (u := .type "tuple") (by rfl) T.n_tuple (by decide +kernel) rfl) pa_nil))) pa_nil))) (pe_one (pe_callB (cr_all rfl) (by rfl) T.n_all (by decide +kernel) (pa_cons (pe_lc (own := [("item", 1)]) (g := gName 1) (tt := tYes) rfl sc_are_integers.nd (pi_seqV (pv 0)) (blkOk_by (N := N_are_integers) (sc := defScope s_are_integers) (by decide +kernel)) (fun _ _ _ _ _ => (pg_name (i := 1) sc_are_integers.nd rfl (Or.inl rfl))) (fun _ _ _ _ _ => pts_nil) (fun _ _ _ _ _ => (pe_callG (G_is_integer T) (hr.mono (by decide)) rfl T.g_is_integer T.F_is_integer.kp T.b_is_integer .nil pass0 (pa_cons (pv 1) pa_nil)))) pa_nil)))))), ?_⟩
  refine ⟨_, rfl, (by show 2 ≤ sizeLine; decide), fun p np => ?_⟩
  have ok2 : OkV (upd H p (.tup [.ty "list", .ty "tuple"])) v := ok.mono fun a o _ h => at_new h np
  obtain ⟨T1, ty, _, _, k3⟩ := kindV (K := K) ok2
  refine ⟨_, _, _, _, _, _, rfl, upd_same, .cons (.ty "list") (.cons (.ty "tuple") .nil), ty, k3, _, rfl, ite2 (fun e => ?_) (fun e => ?_)⟩
  · -- a list or a tuple
    obtain ⟨a, xs, rfl, hx, hz⟩ : ∃ a xs, v = .ref a ∧ (H a = some (.lst xs) ∨ H a = some (.tup xs)) ∧ areI H v = xs.all isI := by
      cases v with
      | ref a =>
        rcases ok with ⟨xs, h⟩ | ⟨xs, h⟩ | ⟨kvs, h⟩
        · exact ⟨a, xs, rfl, .inl h, by simp only [areI, h]⟩
        · exact ⟨a, xs, rfl, .inr h, by simp only [areI, h]⟩
        · have z : isLT (upd H p (.tup [.ty "list", .ty "tuple"])) (.ref a) = false := by simp only [isLT, at_new h np]
          rw [z] at e
          cases e
      | _ => cases e
    have sq : SqA K H a xs := by
      rcases hx with h | h
      · exact .inl (SqL.of h)
      · exact .inr (SqT.of h)
    obtain ⟨hlen, hok⟩ := it a xs rfl hx
    have hsome : ∃ o, H a = some o := by
      rcases hx with h | h <;> exact ⟨_, h⟩
    have s1 : Same H (upd H p (.tup [.ty "list", .ty "tuple"])) := Same.new (fun _ _ h => h) np
    have sq1 : SqA K (upd H p (.tup [.ty "list", .ty "tuple"])) a xs := by
      rcases hx with h | h
      · exact .inl (SqL.of (s1 _ _ h))
      · exact .inr (SqT.of (s1 _ _ h))
    refine ⟨_, rfl, a, rfl, seq_by sq1 fun J G W gG D hD => ?_⟩
    have s2 : Same H (upd (upd H p (.tup [.ty "list", .ty "tuple"])) D (.lst [])) := Same.new s1 hD
    have nD : H D = none := s1.free hD
    refine lc_it W (fun i H' => Same H H' ∧ H' D = some (.lst (((xs.take i).map isI).map V.bl))) ⟨s2, upd_same⟩ (fun i H' _ q => gG H' fun o h => ?_) ?_ ?_
    · obtain ⟨o', ho'⟩ := hsome
      have e1 := (s1 _ _ ho').symm.trans h
      rw [← e1]
      exact q.1 _ _ ho'
    · rintro i x H' _ hi ⟨s3, hD3⟩ ⟨rfl, hx'⟩
      refine ⟨rfl, tYes_of (iteT ⟨_, rfl, x, rfl, (hok x (List.mem_of_getElem? hx')).mono fun a o _ h => s3 _ _ h, _, hD3, by rw [List.length_map, List.length_map]; exact Nat.lt_of_le_of_lt (List.length_take_le _ _) (small1000 (by omega)), ?_, ?_⟩)⟩
      · intro b o h
        rw [upd_ne (ne_of_none h nD)]
        exact s3 _ _ h
      · rw [upd_same, ← all_take hx']
        simp
    · rintro H' ⟨s3, hD3⟩
      refine ⟨D, xs.map isI, rfl, ?_, ?_⟩
      · rw [List.take_of_length_le (Nat.le_refl _)] at hD3
        exact SqL.of hD3
      · have z : (xs.map isI).all id = xs.all isI := by simp [List.all_map]
        rw [z, ← hz]
        exact k _ s3
  · have z : areI H v = false := by
      cases v with
      | ref a =>
        rcases ok with ⟨xs, h⟩ | ⟨xs, h⟩ | ⟨kvs, h⟩
        · exact absurd (by simp only [isLT, at_new h np]) e
        · exact absurd (by simp only [isLT, at_new h np]) e
        · simp only [areI, h]
      | _ => rfl
    rw [z] at k
    exact k _ (Same.new (fun _ _ h => h) np)
/-! ### joins -/
def sp_own : Sp := fun vs H Q _ => ∃ n : Nat, vs = [.int (n : Int)] ∧ n ≤ 1000 ∧ ∀ q H', Same H H' → H' q = some (.lst (nv (List.range n))) → Q (.ref q) H'
theorem G_own_names (T : Txt P K mg A) : FnG P w K mg base CX0 1 A.a_own_names A.d_own_names P_own_names sp_own := by
  refine okG T.F_own_names sc_own_names (fun vs H Q E h => ?_) (fun cdv A0 outer s H vs Q E hr h => ?_)
  · obtain ⟨n, rfl, _⟩ := h
    rfl
  obtain ⟨n, rfl, hn, k⟩ := h
  refine ⟨_, (pss_one (ps_ret (pe_listRg rfl (by rfl) T.n_list (prg_1 (by rfl) T.n_range (pv 0))))), ?_⟩
  refine ⟨_, rfl, _, rfl, RgOk.of_le (Int.le_refl _) (by omega) (by decide) (by omega), fun q hq => ?_⟩
  rw [nv_range]
  exact k q _ (Same.new (fun _ _ h => h) hq) upd_same
def sp_joined (K : PySem.W.Frag) : Sp := fun vs H Q _ => ∃ (a : Addr) (ns : List Nat) (i j : Nat), vs = [.ref a, .int (i : Int), .int (j : Int)] ∧ H a = some (.lst (nv ns)) ∧ i < ns.length ∧ j < ns.length ∧ ns.length ≤ 900 ∧
  ∀ q H', Same H H' → H' q = some (.lst (nv (MC.jn ns i j))) → Q (.ref q) H'
theorem G_joined (T : Txt P K mg A) : FnG P w K mg base CX0 1 A.a_joined A.d_joined P_joined (sp_joined K) := by
  refine okG T.F_joined sc_joined (fun vs H Q E h => ?_) (fun cdv A0 outer s H vs Q E hr h => ?_)
  · obtain ⟨a, ns, i, j, rfl, _⟩ := h
    rfl
  obtain ⟨a, ns, i, j, rfl, ha, hi, hj, hl, k⟩ := h
  refine ⟨_, (pss_cons (ps_asg (pe_tup (pa_cons (pe_callB (call_min2 rfl) (by rfl) T.n_min (by decide +kernel) (pa_cons (pe_ix (r := rIxL K) ix_list (pv 0) (pv 1) (fun _ _ => rfl)) (pa_cons (pe_ix (r := rIxL K) ix_list (pv 0) (pv 2) (fun _ _ => rfl)) pa_nil))) (pa_cons (pe_callB (call_max2 rfl) (by rfl) T.n_max (by decide +kernel) (pa_cons (pe_ix (r := rIxL K) ix_list (pv 0) (pv 1) (fun _ _ => rfl)) (pa_cons (pe_ix (r := rIxL K) ix_list (pv 0) (pv 2) (fun _ _ => rfl)) pa_nil))) pa_nil))) (pg_tup rfl (pgs_cons (pg_name (i := 3) sc_joined.nd rfl (Or.inr rfl)) (pgs_cons (pg_name (i := 4) sc_joined.nd rfl (Or.inr rfl)) pgs_nil))))
      (pss_one (ps_ret (pe_lc (own := [("name", 5)]) (g := gName 5) (tt := tYes) rfl sc_joined.nd (pi_list (pv 0)) (blkOk_by (N := N_joined) (sc := defScope s_joined) (by decide +kernel)) (fun _ _ _ _ _ => (pg_name (i := 5) sc_joined.nd rfl (Or.inl rfl))) (fun _ _ _ _ _ => pts_nil) (fun _ _ _ _ _ => (pe_ifExp (pt_cmpR op_eq (pv 5) (pv 4) (nomark _)) (pv 3) (pv 5))))))), ?_⟩
  have ga : ∀ x : Nat, x < ns.length → atI (nv ns) (x : Int) = some (.int ((ns.getD x 0 : Nat) : Int)) := fun x hx => nv_at hx
  refine ⟨_, rfl, _, rfl, _, _, _, _, rfl, rfl, SqL.of ha, ga i hi, _, rfl, _, rfl, _, _, _, _, rfl, rfl, SqL.of ha, ga j hj, _, _, rfl, ?_⟩
  refine ⟨_, rfl, _, rfl, _, _, _, _, rfl, rfl, SqL.of ha, ga i hi, _, rfl, _, rfl, _, _, _, _, rfl, rfl, SqL.of ha, ga j hj, _, _, rfl, ?_⟩
  have elo : V.int (if ((ns.getD j 0 : Nat) : Int) < ((ns.getD i 0 : Nat) : Int) then ((ns.getD j 0 : Nat) : Int) else ((ns.getD i 0 : Nat) : Int)) = V.int ((min (ns.getD i 0) (ns.getD j 0) : Nat) : Int) := by
    congr 1
    split <;> omega
  have ehi : V.int (if ((ns.getD j 0 : Nat) : Int) > ((ns.getD i 0 : Nat) : Int) then ((ns.getD j 0 : Nat) : Int) else ((ns.getD i 0 : Nat) : Int)) = V.int ((max (ns.getD i 0) (ns.getD j 0) : Nat) : Int) := by
    congr 1
    split <;> omega
  rw [elo, ehi]
  refine ⟨by show 2 ≤ sizeLine; decide, fun p hp => ⟨p, _, rfl, SqT.of upd_same, rfl, _, _, rfl, _, _, rfl, rfl, ?_⟩⟩
  have s1 : Same H (upd H p (.tup [.int ((min (ns.getD i 0) (ns.getD j 0) : Nat) : Int), .int ((max (ns.getD i 0) (ns.getD j 0) : Nat) : Int)])) := Same.new (fun _ _ h => h) hp
  refine ⟨_, rfl, a, rfl, ⟨_, SqL.of (s1 _ _ ha)⟩, fun D hD => ?_⟩
  refine lc_list (K := K) (a := a) (xs := nv ns) (fun m H' => Same H H' ∧ H' D = some (.lst (nv ((ns.take m).map fun x => if x = max (ns.getD i 0) (ns.getD j 0) then min (ns.getD i 0) (ns.getD j 0) else x))))
    ⟨Same.new s1 hD, upd_same⟩ (fun m H' _ h => SqL.of (h.1 _ _ ha)) ?_ ?_
  · rintro m x H' hx ⟨s2, hD2⟩
    obtain ⟨z, hz, rfl⟩ : ∃ z : Nat, ns[m]? = some z ∧ x = V.int (z : Int) := by
      rw [List.getElem?_map] at hx
      cases e : ns[m]? with
      | none => rw [e] at hx; cases hx
      | some z => rw [e] at hx; exact ⟨z, rfl, (Option.some.inj hx).symm⟩
    have hm : m < ns.length := (List.getElem?_eq_some_iff.mp hz).1
    have fin : ∀ y : Nat, y = (if z = max (ns.getD i 0) (ns.getD j 0) then min (ns.getD i 0) (ns.getD j 0) else z) → ∃ acc, H' D = some (.lst acc) ∧ acc.length < sizeLine ∧ (Same H (upd H' D (.lst (acc ++ [V.int (y : Int)]))) ∧ (upd H' D (.lst (acc ++ [V.int (y : Int)]))) D = some (.lst (nv ((ns.take (m + 1)).map fun x => if x = max (ns.getD i 0) (ns.getD j 0) then min (ns.getD i 0) (ns.getD j 0) else x)))) := by
      rintro y rfl
      refine ⟨_, hD2, ?_, ?_, ?_⟩
      · rw [List.length_map, List.length_map, List.length_take]
        exact small1000 (by omega)
      · intro b o h
        rw [upd_ne (ne_of_none (s1 _ _ h) hD)]
        exact s2 _ _ h
      · rw [upd_same, List.take_succ, hz]
        simp
    refine ⟨rfl, tYes_of (iteT ⟨_, rfl, _, rfl, rfl, _, rfl, ite2 (fun e => ⟨_, rfl, ?_⟩) (fun e => ⟨_, rfl, ?_⟩)⟩)⟩
    · have e' : z = max (ns.getD i 0) (ns.getD j 0) := by
        have q := V.int.inj (of_decide_eq_true e)
        exact Int.ofNat.inj q
      exact fin _ (by rw [if_pos e'])
    · have e' : ¬ z = max (ns.getD i 0) (ns.getD j 0) := fun q => e (decide_eq_true (by rw [q]))
      exact fin _ (by rw [if_neg e'])
  · rintro H' ⟨s2, hD2⟩
    have e : (nv ns).length = ns.length := List.length_map _
    rw [e, List.take_of_length_le (Nat.le_refl _)] at hD2
    exact k _ _ s2 hD2
def sp_names (K : PySem.W.Frag) : Sp := fun vs H Q _ => ∃ (n : Nat) (a : Addr) (ps : MC.Pr), vs = [.int (n : Int), .ref a] ∧ n ≤ 900 ∧ PrsA H a ps ∧ MC.Below n ps ∧
  ∀ q H', Same H H' → H' q = some (.lst (nv (MC.names n ps))) → Q (.ref q) H'
theorem G_names_of (T : Txt P K mg A) : FnG P w K mg base CX0 2 A.a_names_of A.d_names_of P_names_of (sp_names K) := by
  refine okG T.F_names_of sc_names_of (fun vs H Q E h => ?_) (fun cdv A0 outer s H vs Q E hr h => ?_)
  · obtain ⟨n, a, ps, rfl, _⟩ := h
    rfl
  obtain ⟨n, a, ps, rfl, hn, ⟨xs, hx, hp⟩, hb, k⟩ := h
  obtain ⟨oa, ha⟩ := hx.has
  refine ⟨_, (pss_cons (ps_set (i := 2) sc_names_of.nd rfl (Or.inl rfl) (pe_callG (G_own_names T) (hr.mono (by decide)) rfl T.g_own_names T.F_own_names.kp T.b_own_names .nil pass0 (pa_cons (pv 0) pa_nil)))
      (pss_cons (ps_for PassesOwn.never rfl (pi_seqV (pv 1)) (pg_sq rfl (pgs_cons (pg_name (i := 3) sc_names_of.nd rfl (Or.inl rfl)) (pgs_cons (pg_name (i := 4) sc_names_of.nd rfl (Or.inl rfl)) pgs_nil))) (pss_one (ps_set (i := 2) sc_names_of.nd rfl (Or.inl rfl) (pe_callG (G_joined T) (hr.mono (by decide)) rfl T.g_joined T.F_joined.kp T.b_joined .nil pass0 (pa_cons (pv 2) (pa_cons (pv 3) (pa_cons (pv 4) pa_nil)))))))
      (pss_one (ps_ret (pv 2))))), ?_⟩
  refine ⟨_, rfl, n, rfl, by omega, fun q1 H1 s1 h1 => ?_⟩
  refine ⟨_, rfl, a, rfl, seq_by (hx.same s1).sq fun J G W gG => ?_⟩
  refine for_it W (fun i σ H' => Same H H' ∧ ∃ (q : Addr) (u1 u2 : Option V), σ = [some (.int (n : Int)), some (.ref a), some (.ref q), u1, u2] ∧ H' q = some (.lst (nv ((ps.take i).foldl (fun ns p => MC.jn ns p.1 p.2) (List.range n)))))
    ⟨s1, q1, none, none, rfl, h1⟩ (fun i σ H' _ h => gG H' fun o e => ?_) ?_ ?_
  · have e1 := (s1 _ _ ha).symm.trans e
    rw [← e1]
    exact h.1 _ _ ha
  · rintro i x σ H' _ hi ⟨s2, q, u1, u2, rfl, hq⟩ ⟨rfl, hx'⟩
    obtain ⟨p, hpi, pr⟩ := paired_get hp hx'
    obtain ⟨t, rfl, ht⟩ := pr.same s2
    obtain ⟨b1, b2⟩ := hb p (List.mem_of_getElem? hpi)
    have bt : MC.Below n (ps.take i) := fun p m => hb p (List.mem_of_mem_take m)
    have nm := MC.names_nm bt
    have hl : ((ps.take i).foldl (fun ns p => MC.jn ns p.1 p.2) (List.range n)).length = n := nm.len
    refine ⟨t, _, rfl, ht.sq, rfl, _, _, rfl, _, _, rfl, rfl, ?_⟩
    refine ⟨_, rfl, _, rfl, _, rfl, q, _, p.1, p.2, rfl, hq, by rw [hl]; exact b1, by rw [hl]; exact b2, by rw [hl]; exact hn, fun q3 H3 s3 h3 => ?_⟩
    refine ⟨s2.trans s3, q3, _, _, rfl, ?_⟩
    rw [List.take_succ, hpi]
    simp only [Option.toList_some, List.foldl_append, List.foldl_cons, List.foldl_nil]
    exact h3
  · rintro σ H' ⟨s2, q, u1, u2, rfl, hq⟩
    have hl : ps.length = xs.length := (Paired.length hp).symm
    rw [List.take_of_length_le (by omega)] at hq
    exact ⟨_, rfl, k _ _ s2 hq⟩
/-! ### webs: any values -/
def inB (n : Int) (v : V) : Bool := isI v && (inLo v (.int 0) && inHi v (.int (n - 1)))
/-- the items of a list or a tuple -/
def seqOf (H : Hp) : V → Option (List V)
  | .ref a => match H a with
    | some (.lst xs) => some xs
    | some (.tup xs) => some xs
    | _ => none
  | _ => none
theorem seqOf_sqx {H : Hp} {a : Addr} {xs : List V} (h : SqX H a xs) : seqOf H (.ref a) = some xs := by
  rcases h with h | h <;> simp only [seqOf, h]
theorem seqOf_some {H : Hp} {v : V} {xs : List V} (h : seqOf H v = some xs) : ∃ a, v = .ref a ∧ SqX H a xs := by
  cases v with
  | ref a =>
    refine ⟨a, rfl, ?_⟩
    simp only [seqOf] at h
    split at h
    · cases h
      exact .inl (by assumption)
    · cases h
      exact .inr (by assumption)
    · cases h
  | _ => cases h
theorem seqOf_none {H : Hp} {v : V} (ok : OkV H v) (h : seqOf H v = none) : isLT H v = false := by
  cases v with
  | ref a =>
    rcases ok with ⟨xs, e⟩ | ⟨xs, e⟩ | ⟨xs, e⟩
    · simp only [seqOf, e] at h
      cases h
    · simp only [seqOf, e] at h
      cases h
    · simp only [isLT, e]
  | _ => rfl
theorem areI_seq {H : Hp} {v : V} : areI H v = match seqOf H v with | some xs => xs.all isI | none => false := by
  cases v with
  | ref a =>
    simp only [areI, seqOf]
    split <;> simp_all
  | _ => rfl
def pairB (H : Hp) (n : Int) (v : V) : Bool := match seqOf H v with
  | some xs => xs.all isI && (decide (xs.length = 2) && xs.all (inB n))
  | none => false
def tiesB (H : Hp) (n : Int) (v : V) : Bool := match seqOf H v with
  | some xs => decide (xs.length ≤ 12) && xs.all (pairB H n)
  | none => false
/-- flat and short -/
def ItOk (H : Hp) (v : V) : Prop := OkV H v ∧ ∀ xs, seqOf H v = some xs → xs.length ≤ 1000 ∧ ∀ x ∈ xs, OkV H x
def TiOk (H : Hp) (v : V) : Prop := OkV H v ∧ ∀ xs, seqOf H v = some xs → xs.length ≤ 1000 ∧ ∀ x ∈ xs, ItOk H x
theorem seqOf_same {H H' : Hp} {v : V} (ok : OkV H v) (s : Same H H') : seqOf H' v = seqOf H v := by
  cases v with
  | ref a => rcases ok with ⟨xs, e⟩ | ⟨xs, e⟩ | ⟨xs, e⟩ <;> simp only [seqOf, e, s _ _ e]
  | _ => rfl
theorem ItOk.same {H H' : Hp} {v : V} (h : ItOk H v) (s : Same H H') : ItOk H' v :=
  ⟨h.1.mono fun a o _ e => s _ _ e, fun xs e => by
    rw [seqOf_same h.1 s] at e
    exact ⟨(h.2 xs e).1, fun x hx => ((h.2 xs e).2 x hx).mono fun a o _ e => s _ _ e⟩⟩
theorem TiOk.same {H H' : Hp} {v : V} (h : TiOk H v) (s : Same H H') : TiOk H' v :=
  ⟨h.1.mono fun a o _ e => s _ _ e, fun xs e => by
    rw [seqOf_same h.1 s] at e
    exact ⟨(h.2 xs e).1, fun x hx => ((h.2 xs e).2 x hx).same s⟩⟩
theorem pairB_same {H H' : Hp} {n : Int} {v : V} (h : ItOk H v) (s : Same H H') : pairB H' n v = pairB H n v := by
  unfold pairB
  rw [seqOf_same h.1 s]
theorem tiesB_same {H H' : Hp} {n : Int} {v : V} (h : TiOk H v) (s : Same H H') : tiesB H' n v = tiesB H n v := by
  unfold tiesB
  rw [seqOf_same h.1 s]
  split
  · rename_i xs e
    congr 1
    have q := (h.2 xs e).2
    clear e
    induction xs with
    | nil => rfl
    | cons x r ih =>
      rw [List.all_cons, List.all_cons, pairB_same (q x List.mem_cons_self) s, ih fun y hy => q y (List.mem_cons_of_mem _ hy)]
  · rfl
theorem map_take {α β : Type} {f : α → β} {xs : List α} {i : Nat} {x : α} (h : xs[i]? = some x) : (xs.take i).map f ++ [f x] = (xs.take (i + 1)).map f := by
  rw [List.take_succ, h]
  simp
/-- all of the walked -/
def sp_pair : Sp := fun vs H Q _ => ∃ (n : Int) (v : V), vs = [.int n, v] ∧ ItOk H v ∧ ∀ H', Same H H' → Q (.bl (pairB H n v)) H'
theorem G_is_pair (T : Txt P K mg A) : FnG P w K mg base CX0 3 A.a_is_pair A.d_is_pair P_is_pair sp_pair := by
  refine okG T.F_is_pair sc_is_pair (fun vs H Q E h => ?_) (fun cdv A0 outer s H vs Q E hr h => ?_)
  · obtain ⟨n, v, rfl, _⟩ := h
    rfl
  obtain ⟨n, v, rfl, it, k⟩ := h
  refine ⟨_, (pss_cons (ps_if (PW.pt (pw_or (pt_not (pt_val (pe_callG (G_are_integers T) (hr.mono (by decide)) rfl T.g_are_integers T.F_are_integers.kp T.b_are_integers .nil pass0 (pa_cons (pv 1) pa_nil)))) (pw_or1 (pt_cmpR op_ne (pe_callB call_len_seq (by rfl) T.n_len (by decide +kernel) (pa_cons (pv 1) pa_nil)) pe_int (nomark _))))) (pss_one (ps_ret pe_bl)) pss_nil)
      (pss_one (ps_ret (pe_callB (cr_all rfl) (by rfl) T.n_all (by decide +kernel) (pa_cons (pe_lc (own := [("end", 2)]) (g := gName 2) (tt := tYes) rfl sc_is_pair.nd (pi_seqV (pv 1)) (blkOk_by (N := N_is_pair) (sc := defScope s_is_pair) (by decide +kernel)) (fun _ _ _ _ _ => (pg_name (i := 2) sc_is_pair.nd rfl (Or.inl rfl))) (fun _ _ _ _ _ => pts_nil) (fun _ _ _ _ _ => (pe_callG (G_is_within T) (hr.mono (by decide)) rfl T.g_is_within T.F_is_within.kp T.b_is_within .nil pass0 (pa_cons (pv 2) (pa_cons pe_int (pa_cons (pe_op op_sub (pv 0) pe_int) pa_nil)))))) pa_nil))))), ?_⟩
  refine ⟨_, rfl, v, rfl, it.1, ?_, fun H1 s1 => ?_⟩
  · rintro a xs rfl hx
    exact it.2 xs (seqOf_sqx hx)
  rw [areI_seq]
  cases hs : seqOf H v with
  | none =>
    refine ⟨_, rfl, iteT ?_⟩
    have z : pairB H n v = false := by simp only [pairB, hs]
    rw [z] at k
    exact k _ s1
  | some xs =>
    obtain ⟨a, rfl, hq⟩ := seqOf_some hs
    obtain ⟨hlen, hok⟩ := it.2 xs hs
    have hz : pairB H n (.ref a) = (xs.all isI && (decide (xs.length = 2) && xs.all (inB n))) := by simp only [pairB, hs]
    rw [hz] at k
    have hq1 := hq.same s1
    obtain ⟨oa, hoa⟩ := hq1.has
    dsimp only
    cases hi : xs.all isI with
    | false =>
      rw [hi] at k
      exact ⟨_, rfl, iteT (k _ s1)⟩
    | true =>
      rw [hi] at k
      refine ⟨_, rfl, iteF ⟨_, rfl, a, _, rfl, hq1.sq, rfl, _, rfl, ?_⟩⟩
      by_cases h2 : xs.length = 2
      · rw [decide_eq_true h2] at k
        have e2 : decide (V.int ((xs.length : Nat) : Int) = V.int 2) = true := decide_eq_true (by rw [h2]; rfl)
        rw [e2]
        refine iteF ?_
        refine ⟨_, rfl, a, rfl, seq_by hq1.sq fun J G W gG D hD => ?_⟩
        refine lc_it W (fun i H' => Same H1 H' ∧ H' D = some (.lst (((xs.take i).map (inB n)).map V.bl))) ⟨Same.new (fun _ _ h => h) hD, upd_same⟩ (fun i H' _ q => gG H' fun o h => ?_) ?_ ?_
        · rw [← h]
          exact (q.1 _ _ hoa).trans hoa.symm
        · rintro i x H' _ hi ⟨s3, hD3⟩ ⟨rfl, hx'⟩
          have okx := (hok x (List.mem_of_getElem? hx')).mono fun a o _ e => s3 _ _ (s1 _ _ e)
          refine ⟨rfl, tYes_of (iteT ⟨_, rfl, _, rfl, _, _, rfl, rfl, x, .int 0, .int (n - 1), rfl, okx, trivial, trivial, ?_⟩)⟩
          refine ⟨_, hD3, ?_, ?_, ?_⟩
          · rw [List.length_map, List.length_map]
            exact Nat.lt_of_le_of_lt (List.length_take_le _ _) (small1000 (by omega))
          · intro b o h
            rw [upd_ne (ne_of_none h hD)]
            exact s3 _ _ h
          · rw [upd_same, ← map_take (f := inB n) hx']
            simp [inB]
        · rintro H' ⟨s3, hD3⟩
          rw [List.take_of_length_le (Nat.le_refl _)] at hD3
          refine ⟨D, _, rfl, SqL.of hD3, ?_⟩
          have z : (xs.map (inB n)).all id = xs.all (inB n) := by simp [List.all_map]
          rw [z]
          exact k _ (s1.trans s3)
      · rw [decide_eq_false h2] at k
        have e2 : decide (V.int ((xs.length : Nat) : Int) = V.int 2) = false := decide_eq_false fun z => h2 (by have := V.int.inj z; omega)
        rw [e2]
        exact iteT (k _ s1)
def sp_ties : Sp := fun vs H Q _ => ∃ (n : Int) (v : V), vs = [.int n, v] ∧ TiOk H v ∧ ∀ H', Same H H' → Q (.bl (tiesB H n v)) H'
theorem G_are_ties (T : Txt P K mg A) : FnG P w K mg base CX0 4 A.a_are_ties A.d_are_ties P_are_ties sp_ties := by
  refine okG T.F_are_ties sc_are_ties (fun vs H Q E h => ?_) (fun cdv A0 outer s H vs Q E hr h => ?_)
  · obtain ⟨n, v, rfl, _⟩ := h
    rfl
  obtain ⟨n, v, rfl, it, k⟩ := h
  refine ⟨_, (pss_cons (ps_if (PW.pt (pw_or (pt_not (pt_val (pe_callB call_isiT (by rfl) T.n_isinstance (by decide +kernel) (pa_cons (pv 1) (pa_cons (pe_tup (pa_cons (pe_bltn (v := .ty "list") (u := .type "list") (by rfl) T.n_list (by decide +kernel) rfl) (pa_cons (pe_bltn (v := .ty "tuple") (u := .type "tuple") (by rfl) T.n_tuple (by decide +kernel) rfl) pa_nil))) pa_nil))))) (pw_or1 (pt_cmpR op_gt (pe_callB call_len_seq (by rfl) T.n_len (by decide +kernel) (pa_cons (pv 1) pa_nil)) (pe_glob (v := .int 12) rfl T.m_MOST_TIES ⟨_, rfl⟩) (nomark _))))) (pss_one (ps_ret pe_bl)) pss_nil)
      (pss_one (ps_ret (pe_callB (cr_all rfl) (by rfl) T.n_all (by decide +kernel) (pa_cons (pe_lc (own := [("pair", 2)]) (g := gName 2) (tt := tYes) rfl sc_are_ties.nd (pi_seqV (pv 1)) (blkOk_by (N := N_are_ties) (sc := defScope s_are_ties) (by decide +kernel)) (fun _ _ _ _ _ => (pg_name (i := 2) sc_are_ties.nd rfl (Or.inl rfl))) (fun _ _ _ _ _ => pts_nil) (fun _ _ _ _ _ => (pe_callG (G_is_pair T) (hr.mono (by decide)) rfl T.g_is_pair T.F_is_pair.kp T.b_is_pair .nil pass0 (pa_cons (pv 0) (pa_cons (pv 2) pa_nil))))) pa_nil))))), ?_⟩
  refine ⟨_, rfl, by show 2 ≤ sizeLine; decide, fun q1 h1 => ?_⟩
  have s1 : Same H (upd H q1 (.tup [.ty "list", .ty "tuple"])) := Same.new (fun _ _ h => h) h1
  have it1 := it.same s1
  have es := seqOf_same it.1 s1
  have hq1 : (upd H q1 (.tup [.ty "list", .ty "tuple"])) q1 = some (.tup [.ty "list", .ty "tuple"]) := upd_same
  rw [← tiesB_same it s1] at k
  generalize upd H q1 (.tup [.ty "list", .ty "tuple"]) = H1 at s1 it1 es hq1 k
  obtain ⟨T1, ty, _, _, k3⟩ := kindV (K := K) it1.1
  refine ⟨_, _, _, _, _, _, rfl, hq1, .cons (.ty "list") (.cons (.ty "tuple") .nil), ty, k3, _, rfl, ?_⟩
  cases hs : seqOf H1 v with
  | none =>
    rw [seqOf_none it1.1 hs]
    have z : tiesB H1 n v = false := by simp only [tiesB, hs]
    rw [z] at k
    exact iteT (k _ s1)
  | some xs =>
    obtain ⟨a, rfl, hq⟩ := seqOf_some hs
    obtain ⟨hlen, hok⟩ := it1.2 xs hs
    have hz : tiesB H1 n (.ref a) = (decide (xs.length ≤ 12) && xs.all (pairB H1 n)) := by simp only [tiesB, hs]
    rw [hz] at k
    rw [hq.lt]
    refine iteF ⟨_, rfl, a, xs, rfl, hq.sq, _, _, rfl, rfl, _, rfl, ?_⟩
    by_cases h2 : xs.length ≤ 12
    · rw [decide_eq_true h2] at k
      rw [decide_eq_false (by omega)]
      refine iteF ?_
      obtain ⟨oa, hoa⟩ := hq.has
      refine ⟨_, rfl, a, rfl, seq_by hq.sq fun J G W gG D hD => ?_⟩
      refine lc_it W (fun i H' => Same H1 H' ∧ H' D = some (.lst (((xs.take i).map (pairB H1 n)).map V.bl))) ⟨Same.new (fun _ _ h => h) hD, upd_same⟩ (fun i H' _ q => gG H' fun o h => ?_) ?_ ?_
      · rw [← h]
        exact (q.1 _ _ hoa).trans hoa.symm
      · rintro i x H' _ hi ⟨s3, hD3⟩ ⟨rfl, hx'⟩
        have okx := hok x (List.mem_of_getElem? hx')
        refine ⟨rfl, tYes_of (iteT ⟨_, rfl, _, rfl, n, x, rfl, okx.same s3, fun H4 s4 => ⟨_, s4 _ _ hD3, ?_, ?_, ?_⟩⟩)⟩
        · rw [List.length_map, List.length_map]
          exact Nat.lt_of_le_of_lt (List.length_take_le _ _) (small1000 (by omega))
        · intro b o h
          rw [upd_ne (ne_of_none h hD)]
          exact s4 _ _ (s3 _ _ h)
        · rw [upd_same, ← map_take (f := pairB H1 n) hx', pairB_same okx s3]
          simp
      · rintro H' ⟨s3, hD3⟩
        rw [List.take_of_length_le (Nat.le_refl _)] at hD3
        refine ⟨D, _, rfl, SqL.of hD3, ?_⟩
        have z : (xs.map (pairB H1 n)).all id = xs.all (pairB H1 n) := by simp [List.all_map]
        rw [z]
        exact k _ (s1.trans s3)
    · rw [decide_eq_false h2] at k
      rw [decide_eq_true (by omega)]
      exact iteT (k _ s1)
/-! ### errors made -/
/-- an __init__ that keeps one thing, two things -/
def sp1 (K : PySem.W.Frag) (f : Str) : Sp := fun vs H Q _ => ∃ (a C : Addr) (v : V), vs = [.ref a, v] ∧ OexC K C ∧ PySem.W.findIn K (.ref C) f = some none ∧ H a = some (exo a C none) ∧ ∀ H' dd, H dd = none → dd ≠ a → H' a = some (exo a C (some dd)) → H' dd = some (exd dd [(f, v)]) → Kp a H H' → Q .non H'
def sp2 (K : PySem.W.Frag) (f g : Str) : Sp := fun vs H Q _ => ∃ (a C : Addr) (v u : V), vs = [.ref a, v, u] ∧ OexC K C ∧ PySem.W.findIn K (.ref C) f = some none ∧ PySem.W.findIn K (.ref C) g = some none ∧ H a = some (exo a C none) ∧ ∀ H' dd, H dd = none → dd ≠ a → H' a = some (exo a C (some dd)) → H' dd = some (exd dd [(g, u), (f, v)]) → Kp a H H' → Q .non H'
theorem G_init_BadTable (T : Txt P K mg A) : FnG P w K mg base CX0 1 A.i_BadTable A.d_init_BadTable P_init_BadTable (sp1 K "part") := by
  refine okG T.F_init_BadTable sc_init_BadTable (fun vs H Q E h => ?_) (fun cdv A0 outer s H vs Q E hr h => ?_)
  · obtain ⟨a, C, v, rfl, _⟩ := h
    rfl
  obtain ⟨a, C, v, rfl, o, n1, ha, k⟩ := h
  refine ⟨_, (pss_one (ps_ost (pv 0) (pv 1))), ?_⟩
  refine ⟨_, rfl, _, rfl, a, C, rfl, o, n1, .inl ⟨ha, fun dx hd hda => ?_⟩⟩
  exact k _ dx hd hda upd_same (by rw [upd_ne hda]; exact upd_same) (upd_kp hd hda)
theorem G_init_BadWeb (T : Txt P K mg A) : FnG P w K mg base CX0 1 A.i_BadWeb A.d_init_BadWeb P_init_BadWeb (sp1 K "part") := by
  refine okG T.F_init_BadWeb sc_init_BadWeb (fun vs H Q E h => ?_) (fun cdv A0 outer s H vs Q E hr h => ?_)
  · obtain ⟨a, C, v, rfl, _⟩ := h
    rfl
  obtain ⟨a, C, v, rfl, o, n1, ha, k⟩ := h
  refine ⟨_, (pss_one (ps_ost (pv 0) (pv 1))), ?_⟩
  refine ⟨_, rfl, _, rfl, a, C, rfl, o, n1, .inl ⟨ha, fun dx hd hda => ?_⟩⟩
  exact k _ dx hd hda upd_same (by rw [upd_ne hda]; exact upd_same) (upd_kp hd hda)
theorem G_init_BadText (T : Txt P K mg A) : FnG P w K mg base CX0 1 A.i_BadText A.d_init_BadText P_init_BadText (sp2 K "line" "item") := by
  refine okG T.F_init_BadText sc_init_BadText (fun vs H Q E h => ?_) (fun cdv A0 outer s H vs Q E hr h => ?_)
  · obtain ⟨a, C, v, u, rfl, _⟩ := h
    rfl
  obtain ⟨a, C, v, u, rfl, o, n1, n2, ha, k⟩ := h
  refine ⟨_, (pss_cons (ps_ost (pv 0) (pv 1)) (pss_one (ps_ost (pv 0) (pv 2)))), ?_⟩
  refine ⟨_, rfl, _, rfl, a, C, rfl, o, n1, .inl ⟨ha, fun dx hd hda => ?_⟩⟩
  have e1 : (upd (upd H dx (exd dx [("line", v)])) a (exo a C (some dx))) a = some (exo a C (some dx)) := upd_same
  have e2 : (upd (upd H dx (exd dx [("line", v)])) a (exo a C (some dx))) dx = some (exd dx [("line", v)]) := by rw [upd_ne hda]; exact upd_same
  refine ⟨_, rfl, _, rfl, a, C, rfl, o, n2, .inr ⟨dx, _, e1, e2, by show 1 ≤ 900; decide, ?_⟩⟩
  refine k _ dx hd hda (by rw [upd_ne hda.symm]; exact e1) upd_same ?_
  intro b z n h
  rw [upd_ne (ne_of_none h hd)]
  exact (upd_kp hd hda) b z n h
/-- raise C(..): where it goes -/
theorem raised {H H' : Hp} {a dd C : Addr} {gs : List (Str × V)} {W : XK} {u : HO} (ha : H a = none) (hd : upd H a u dd = none) (hda : dd ≠ a) (h1 : H' a = some (exo a C (some dd))) (h2 : H' dd = some (exd dd gs)) (kp : Kp a (upd H a u) H')
    (k : ∀ d H', H' d = some (.xd gs) → Same H H' → W (.ref C) (some d) H') : ∃ (d : Addr) (fs : List (Str × V)), H' a = some (exo a C (some d)) ∧ H' d = some (exd d fs) ∧ H d = none ∧ W (.ref C) (some d) (upd (del H' a) d (.xd fs)) := by
  rw [upd_ne hda] at hd
  refine ⟨dd, _, h1, h2, hd, k _ _ upd_same ?_⟩
  intro b o hb
  have e1 : b ≠ a := fun z => by rw [z, ha] at hb; cases hb
  rw [upd_ne (ne_of_none hb hd), del_ne e1]
  exact kp b o e1 (by rw [upd_ne e1]; exact hb)
theorem raise1 {H : Hp} {C : Addr} {f : Str} {v : V} {W : XK} (o : OexC K C) (n1 : PySem.W.findIn K (.ref C) f = some none) (k : ∀ d H', H' d = some (.xd [(f, v)]) → Same H H' → W (.ref C) (some d) H') :
    ∀ a, H a = none → sp1 K f (.ref a :: ([v] ++ [])) (upd H a (exo a C none)) (fun y H2 => y = .non ∧ ∃ (d : Addr) (fs : List (Str × V)), H2 a = some (exo a C (some d)) ∧ H2 d = some (exd d fs) ∧ H d = none ∧ W (.ref C) (some d) (upd (del H2 a) d (.xd fs))) (fun _ _ _ => False) :=
  fun a ha => ⟨a, C, v, rfl, o, n1, upd_same, fun H' dd hd hda h1 h2 kp => ⟨rfl, raised ha hd hda h1 h2 kp k⟩⟩
theorem raiseS {H : Hp} {C D f2 : Addr} {f : Str} {v : V} {W : XK} (S : SupC K C D f2) (o : OexC K C) (n1 : PySem.W.findIn K (.ref C) f = some none) (k : ∀ d H', H' d = some (.xd [(f, v)]) → Same H H' → W (.ref C) (some d) H') :
    ∀ a, H a = none → spSup K D f2 (sp1 K f) (.ref a :: ([v] ++ [])) (upd H a (exo a C none)) (fun y H2 => y = .non ∧ ∃ (d : Addr) (fs : List (Str × V)), H2 a = some (exo a C (some d)) ∧ H2 d = some (exd d fs) ∧ H d = none ∧ W (.ref C) (some d) (upd (del H2 a) d (.xd fs))) (fun _ _ _ => False) :=
  fun a ha => ⟨a, C, v, rfl, upd_same, S, a, C, v, rfl, o, n1, upd_same, fun H' dd hd hda h1 h2 kp => ⟨rfl, raised ha hd hda h1 h2 kp k⟩⟩
theorem raise2 {H : Hp} {C : Addr} {f g : Str} {v u : V} {W : XK} (o : OexC K C) (n1 : PySem.W.findIn K (.ref C) f = some none) (n2 : PySem.W.findIn K (.ref C) g = some none) (k : ∀ d H', H' d = some (.xd [(g, u), (f, v)]) → Same H H' → W (.ref C) (some d) H') :
    ∀ a, H a = none → sp2 K f g (.ref a :: ([v, u] ++ [])) (upd H a (exo a C none)) (fun y H2 => y = .non ∧ ∃ (d : Addr) (fs : List (Str × V)), H2 a = some (exo a C (some d)) ∧ H2 d = some (exd d fs) ∧ H d = none ∧ W (.ref C) (some d) (upd (del H2 a) d (.xd fs))) (fun _ _ _ => False) :=
  fun a ha => ⟨a, C, v, u, rfl, o, n1, n2, upd_same, fun H' dd hd hda h1 h2 kp => ⟨rfl, raised ha hd hda h1 h2 kp k⟩⟩
/-! ### fixed -/
def sp_fixed (d : Nat) : Sp := fun vs H Q _ => ∃ v t, vs = [v] ∧ Src d H v t ∧ ∀ v' H', Same H H' → Dst d H' v' t → Q v' H'
theorem G_fixed_leaf (T : Txt P K mg A) (d : Nat) (F : FnG P w K mg base CX0 (d + 1) A.a_fixed A.d_fixed P_fixed (sp_fixed d)) : FnG P w K mg base CX0 (d + 2) A.a_fixed A.d_fixed P_fixed (sp_fixed (d + 1)) := by
  refine okG T.F_fixed sc_fixed (fun vs H Q E h => ?_) (fun cdv A0 outer s H vs Q E hr h => ?_)
  · obtain ⟨v, t, rfl, _⟩ := h
    rfl
  obtain ⟨v, t, rfl, h, k⟩ := h
  refine ⟨_, (pss_cons (ps_if (pt_val (pe_callB call_isiT (by rfl) T.n_isinstance (by decide +kernel) (pa_cons (pv 0) (pa_cons (pe_tup (pa_cons (pe_bltn (v := .ty "list") (u := .type "list") (by rfl) T.n_list (by decide +kernel) rfl) (pa_cons (pe_bltn (v := .ty "tuple") (u := .type "tuple") (by rfl) T.n_tuple (by decide +kernel) rfl) pa_nil))) pa_nil)))) (pss_one (ps_ret (pe_callTy (T := "tuple") call_tuple_of (by rfl) T.n_tuple (by decide +kernel) (pa_cons (pe_lc (own := [("item", 1)]) (g := gName 1) (tt := tYes) rfl sc_fixed.nd (pi_seqV (pv 0)) (blkOk_by (N := N_fixed) (sc := defScope s_fixed) (by decide +kernel)) (fun _ _ _ _ _ => (pg_name (i := 1) sc_fixed.nd rfl (Or.inl rfl))) (fun _ _ _ _ _ => pts_nil) (fun _ _ _ _ _ => (pe_callG F hr rfl T.g_fixed T.F_fixed.kp T.b_fixed .nil pass0 (pa_cons (pv 1) pa_nil)))) pa_nil)))) pss_nil)
      (pss_one (ps_ret (pv 0)))), ?_⟩
  refine ⟨_, rfl, by show 2 ≤ sizeLine; decide, fun q1 h1 => ?_⟩
  have s1 : Same H (upd H q1 (.tup [.ty "list", .ty "tuple"])) := Same.new (fun _ _ h => h) h1
  rcases h with ⟨ok, lt, rfl⟩ | ⟨a, xs, ts, rfl, hx, hl, rfl, hp⟩
  · obtain ⟨T1, ty, _, _, k3⟩ := kindV (K := K) (ok.mono fun a o _ h => s1 a o h)
    rw [isLT_same ok s1 lt] at k3
    refine ⟨_, _, _, _, _, _, rfl, upd_same, .cons (.ty "list") (.cons (.ty "tuple") .nil), ty, k3, _, rfl, iteF ?_⟩
    exact ⟨_, rfl, k _ _ s1 (.inl rfl)⟩
  · have hx1 := hx.same s1
    obtain ⟨T1, ty, _, _, k3⟩ := kindV (K := K) hx1.ok
    rw [hx1.lt] at k3
    refine ⟨_, _, _, _, _, _, rfl, upd_same, .cons (.ty "list") (.cons (.ty "tuple") .nil), ty, k3, _, rfl, iteT ?_⟩
    obtain ⟨oa, hoa⟩ := hx1.has
    have hxl : xs.length = ts.length := Paired.length hp
    refine ⟨_, rfl, a, rfl, seq_by hx1.sq fun J G W gG D hD => ?_⟩
    refine lc_it W (fun i H' => Same (upd H q1 (.tup [.ty "list", .ty "tuple"])) H' ∧ ∃ ys, H' D = some (.lst ys) ∧ ys.length = i ∧ Paired (Dst d H') ys (ts.take i)) ⟨Same.new (fun _ _ h => h) hD, [], upd_same, rfl, .nil⟩ (fun i H' _ q => gG H' fun o h => ?_) ?_ ?_
    · rw [← h]
      exact (q.1 _ _ hoa).trans hoa.symm
    · rintro i x H' _ hi ⟨s3, ys, hD3, hly, py⟩ ⟨rfl, hx'⟩
      obtain ⟨t, hti, st⟩ := paired_get hp hx'
      refine ⟨rfl, tYes_of (iteT ⟨_, rfl, x, t, rfl, st.same (s1.trans s3), fun v' H4 s4 dt => ⟨_, s4 _ _ hD3, ?_, ?_, ys ++ [v'], upd_same, ?_, ?_⟩⟩)⟩
      · exact small1000 (by omega)
      · intro b o h
        rw [upd_ne (ne_of_none h hD)]
        exact s4 _ _ (s3 _ _ h)
      · rw [List.length_append, hly]
        rfl
      · rw [List.take_succ, hti]
        have kk : ∀ b zs, H4 b = some (.tup zs) → (upd H4 D (.lst (ys ++ [v']))) b = some (.tup zs) := fun b zs e => by
          have hd4 := s4 _ _ hD3
          rw [upd_ne (fun z => by rw [z, hd4] at e; cases e)]
          exact e
        exact paired_snoc (dt.keep kk) (paired_imp (fun _ _ z => (z.same s4).keep kk) py)
    · rintro H' ⟨s3, ys, hD3, hly, py⟩
      refine ⟨D, ys, rfl, .inl ⟨SqL.of hD3, fun q2 h2 => ?_⟩⟩
      rw [List.take_of_length_le (by omega)] at py
      have s4 : Same H' (upd H' q2 (.tup ys)) := Same.new (fun _ _ h => h) h2
      exact k _ _ (s1.trans (s3.trans s4)) (.inr ⟨q2, ys, ts, rfl, upd_same, rfl, paired_imp (fun _ _ z => z.same s4) py⟩)
theorem G_fixed_0 (T : Txt P K mg A) (F : FnG P w K mg base CX0 0 A.a_fixed A.d_fixed P_fixed (fun _ _ _ _ => False)) : FnG P w K mg base CX0 1 A.a_fixed A.d_fixed P_fixed (sp_fixed 0) := by
  refine okG T.F_fixed sc_fixed (fun vs H Q E h => ?_) (fun cdv A0 outer s H vs Q E hr h => ?_)
  · obtain ⟨v, t, rfl, _⟩ := h
    rfl
  obtain ⟨v, t, rfl, ⟨ok, lt, rfl⟩, k⟩ := h
  refine ⟨_, (pss_cons (ps_if (pt_val (pe_callB call_isiT (by rfl) T.n_isinstance (by decide +kernel) (pa_cons (pv 0) (pa_cons (pe_tup (pa_cons (pe_bltn (v := .ty "list") (u := .type "list") (by rfl) T.n_list (by decide +kernel) rfl) (pa_cons (pe_bltn (v := .ty "tuple") (u := .type "tuple") (by rfl) T.n_tuple (by decide +kernel) rfl) pa_nil))) pa_nil)))) (pss_one (ps_ret (pe_callTy (T := "tuple") call_tuple_of (by rfl) T.n_tuple (by decide +kernel) (pa_cons (pe_lc (own := [("item", 1)]) (g := gName 1) (tt := tYes) rfl sc_fixed.nd (pi_seqV (pv 0)) (blkOk_by (N := N_fixed) (sc := defScope s_fixed) (by decide +kernel)) (fun _ _ _ _ _ => (pg_name (i := 1) sc_fixed.nd rfl (Or.inl rfl))) (fun _ _ _ _ _ => pts_nil) (fun _ _ _ _ _ => (pe_callG F hr rfl T.g_fixed T.F_fixed.kp T.b_fixed .nil pass0 (pa_cons (pv 1) pa_nil)))) pa_nil)))) pss_nil)
      (pss_one (ps_ret (pv 0)))), ?_⟩
  refine ⟨_, rfl, by show 2 ≤ sizeLine; decide, fun q1 h1 => ?_⟩
  have s1 : Same H (upd H q1 (.tup [.ty "list", .ty "tuple"])) := Same.new (fun _ _ h => h) h1
  obtain ⟨T1, ty, _, _, k3⟩ := kindV (K := K) (ok.mono fun a o _ h => s1 a o h)
  rw [isLT_same ok s1 lt] at k3
  refine ⟨_, _, _, _, _, _, rfl, upd_same, .cons (.ty "list") (.cons (.ty "tuple") .nil), ty, k3, _, rfl, iteF ?_⟩
  exact ⟨_, rfl, k _ _ s1 rfl⟩
theorem G_fixed (T : Txt P K mg A) : ∀ d : Nat, FnG P w K mg base CX0 (d + 1) A.a_fixed A.d_fixed P_fixed (sp_fixed d)
  | 0 => G_fixed_0 T ⟨fun _ _ _ _ h => h.elim, fun _ _ _ _ h => h.elim⟩
  | d + 1 => G_fixed_leaf T d (G_fixed T d)
def sp_lj (K : PySem.W.Frag) : Sp := fun vs H Q _ => ∃ (n : Nat) (a : Addr) (ps : MC.Pr), vs = [.int (n : Int), .ref a] ∧ 1 ≤ n ∧ n ≤ 900 ∧ PrsA H a ps ∧ MC.Below n ps ∧ ∀ H', Same H H' → Q (.bl (hang n ps)) H'
theorem G_hang_together (T : Txt P K mg A) : FnG P w K mg base CX0 3 A.a_hang_together A.d_hang_together P_hang_together (sp_lj K) := by
  refine okG T.F_hang_together sc_hang_together (fun vs H Q E h => ?_) (fun cdv A0 outer s H vs Q E hr h => ?_)
  · obtain ⟨n, a, ps, rfl, _⟩ := h
    rfl
  obtain ⟨n, a, ps, rfl, h1, hn, hp, hb, k⟩ := h
  refine ⟨_, (pss_one (ps_ret (pe_not (pe_callB (cr_anyI rfl) (by rfl) T.n_any (by decide +kernel) (pa_cons (pe_callG (G_names_of T) (hr.mono (by decide)) rfl T.g_names_of T.F_names_of.kp T.b_names_of .nil pass0 (pa_cons (pv 0) (pa_cons (pv 1) pa_nil))) pa_nil))))), ?_⟩
  refine ⟨_, rfl, _, rfl, n, a, ps, rfl, hn, hp, hb, fun q H' s1 hq => ⟨q, _, rfl, by rw [← nv_ints]; exact SqL.of hq, ?_⟩⟩
  rw [any_names]
  refine ⟨_, rfl, ?_⟩
  rw [Bool.not_not]
  exact k _ s1
/-- a web stands at x -/
def WebAt (H : Hp) (x C : Addr) (n : Nat) (ps : MC.Pr) : Prop := ∃ dx q xs, H x = some (.ins C dx [("places", .int (n : Int)), ("ties", .ref q)]) ∧ H q = some (.tup xs) ∧ Paired (PrT H) xs ps
theorem WebAt.keep {H H' : Hp} {x C : Addr} {n : Nat} {ps : MC.Pr} (h : WebAt H x C n ps) (s : Same H H') : WebAt H' x C n ps := by
  obtain ⟨dx, q, xs, h1, h2, h3⟩ := h
  exact ⟨dx, q, xs, s _ _ h1, s _ _ h2, paired_imp (fun _ _ z => z.keep s) h3⟩
/-- an error with one field goes out -/
def Out (E : XK) (H : Hp) (C : Addr) (f : Str) (v : V) : Prop := ∀ d H', H' d = some (.xd [(f, v)]) → Same H H' → E (.ref C) (some d) H'
theorem Out.on {E : XK} {H H1 : Hp} {C : Addr} {f : Str} {v : V} (o : Out E H C f v) (s : Same H H1) : Out E H1 C f v := fun d H' h t => o d H' h (s.trans t)
/-! ### Web.__init__, of any values -/
theorem pairB_pri {H : Hp} {x : V} {p : Nat × Nat} {m : Nat} (h : PrI H x p) (b : p.1 < m ∧ p.2 < m) : ItOk H x ∧ pairB H (m : Int) x = true := by
  obtain ⟨c, rfl, hc⟩ := h
  have e := seqOf_sqx hc
  refine ⟨⟨hc.ok, fun xs h => ?_⟩, ?_⟩
  · rw [e] at h
    cases h
    refine ⟨by show 2 ≤ 1000; decide, fun y hy => ?_⟩
    rcases List.mem_cons.mp hy with rfl | hy
    · trivial
    · rw [List.mem_singleton.mp hy]
      trivial
  · have one : ∀ q : Nat, q < m → inB (m : Int) (.int (q : Int)) = true := fun q hq => by
      have a1 : inLo (V.int (q : Int)) (.int 0) = true := show decide ((0 : Int) ≤ (q : Int)) = true from decide_eq_true (by omega)
      have a2 : inHi (V.int (q : Int)) (.int ((m : Int) - 1)) = true := show decide ((q : Int) ≤ (m : Int) - 1) = true from decide_eq_true (by omega)
      unfold inB
      rw [a1, a2]
      rfl
    simp only [pairB, e, List.all_cons, List.all_nil, Bool.and_true, one _ b.1, one _ b.2, isI]
    rfl
theorem tiesB_prs {H : Hp} {a : Addr} {ps : MC.Pr} {m : Nat} (h : PrsA H a ps) (hl : ps.length ≤ 12) (hb : MC.Below m ps) : TiOk H (.ref a) ∧ tiesB H (m : Int) (.ref a) = true := by
  obtain ⟨xs, hx, hp⟩ := h
  have e := seqOf_sqx hx
  have lx : xs.length = ps.length := Paired.length hp
  have al : ∀ x ∈ xs, ItOk H x ∧ pairB H (m : Int) x = true := fun x hx => by
    obtain ⟨i, hi⟩ := List.mem_iff_getElem?.mp hx
    obtain ⟨p, hpi, pr⟩ := paired_get hp hi
    exact pairB_pri pr (hb p (List.mem_of_getElem? hpi))
  refine ⟨⟨hx.ok, fun ys h => ?_⟩, ?_⟩
  · rw [e] at h
    cases h
    exact ⟨by omega, fun x hx => (al x hx).1⟩
  · simp only [tiesB, e, Bool.and_eq_true, decide_eq_true_eq, List.all_eq_true]
    exact ⟨by omega, fun x hx => (al x hx).2⟩
/-- the tree of a lot of pairs -/
def trPs (ps : MC.Pr) : Tr := .node (ps.map fun p => .node [.leaf (.int (p.1 : Int)), .leaf (.int (p.2 : Int))])
theorem src_leaf {d : Nat} {H : Hp} {v : V} (ok : OkV H v) (lt : isLT H v = false) : Src d H v (.leaf v) := by
  cases d with
  | zero => exact ⟨ok, lt, rfl⟩
  | succ d => exact .inl ⟨ok, lt, rfl⟩
theorem src_prs {H : Hp} {a : Addr} {ps : MC.Pr} (h : PrsA H a ps) (hl : ps.length ≤ 1000) : Src 2 H (.ref a) (trPs ps) := by
  obtain ⟨xs, hx, hp⟩ := h
  refine .inr ⟨a, xs, _, rfl, hx, by rw [Paired.length hp]; exact hl, rfl, ?_⟩
  clear hx hl
  induction hp with
  | nil => exact .nil
  | @cons x p xs ps h t ih =>
    obtain ⟨c, rfl, hc⟩ := h
    exact .cons (.inr ⟨c, _, _, rfl, hc, by show 2 ≤ 1000; decide, rfl, .cons (src_leaf trivial rfl) (.cons (src_leaf trivial rfl) .nil)⟩) ih
theorem prsA_mono {H H' : Hp} {a : Addr} {ps : MC.Pr} (h : PrsA H a ps) (s : ∀ b xs, SqX H b xs → SqX H' b xs) : PrsA H' a ps := by
  obtain ⟨xs, q, r⟩ := h
  refine ⟨xs, s _ _ q, paired_imp (fun _ _ z => ?_) r⟩
  obtain ⟨t, e, g⟩ := z
  exact ⟨t, e, s _ _ g⟩
def placesB (v : V) : Bool := isI v && (inLo v (.int 1) && inHi v (.int 13))
theorem placesB_int {m : Nat} (h1 : 1 ≤ m) (h2 : m ≤ 13) : placesB (.int (m : Int)) = true := by
  have a1 : inLo (V.int (m : Int)) (.int 1) = true := show decide ((1 : Int) ≤ (m : Int)) = true from decide_eq_true (by omega)
  have a2 : inHi (V.int (m : Int)) (.int 13) = true := show decide ((m : Int) ≤ 13) = true from decide_eq_true (by omega)
  unfold placesB
  rw [a1, a2]
  rfl
def sp_webi (K : PySem.W.Frag) (C BW : Addr) : Sp := fun vs H Q E => ∃ (x dx : Addr) (pl tv : V), vs = [.ref x, pl, tv] ∧ H x = some (.ins C dx []) ∧
  ((OkV H pl ∧ placesB pl = false ∧ Out E H BW "part" (.str "places")) ∨
   ∃ m : Nat, pl = .int (m : Int) ∧ 1 ≤ m ∧ m ≤ 13 ∧
    ((TiOk H tv ∧ tiesB H (m : Int) tv = false ∧ Out E H BW "part" (.str "ties")) ∨
     ∃ (a : Addr) (ps : MC.Pr), tv = .ref a ∧ PrsA H a ps ∧ ps.length ≤ 12 ∧ MC.Below m ps ∧
      (hang m ps = true → ∀ H' y, H' x = some (.ins C dx [("places", .int (m : Int)), ("ties", y)]) → Dst 2 H' y (trPs ps) → Kp x H H' → Q .non H') ∧
      (hang m ps = false → Out E H BW "part" (.str "apart"))))
theorem G_Web___init__ (T : Txt P K mg A) : FnG P w K mg base (L2.CX P w) 5 A.a_Web___init__ A.d_Web___init__ P_Web___init__ (sp_webi K A.c_Web A.c_BadWeb) := by
  refine okGX T.F_Web___init__ sc_Web___init__ (fun vs H Q E h => ?_) (fun cdv A0 outer s H vs Q E hr h => ?_)
  · obtain ⟨x, dx, pl, tv, rfl, _⟩ := h
    rfl
  obtain ⟨x, dx, pl, tv, rfl, hx, h⟩ := h
  refine ⟨_, (pss_cons (ps_if (pt_not (pt_val (pe_callG (G_is_within T) (hr.mono (by decide)) rfl T.g_is_within T.F_is_within.kp T.b_is_within .nil pass0 (pa_cons (pv 1) (pa_cons pe_int (pa_cons (pe_glob (v := .int 13) rfl T.m_MOST_PLACES ⟨_, rfl⟩) pa_nil)))))) (pss_one (ps_raise rfl (takes_of rfl rfl rfl rfl) (pmk_G T.X_BadWeb.oex T.X_BadWeb.iC T.X_BadWeb.tI (G_init_BadWeb T) (hr.mono (by decide)) rfl T.X_BadWeb.gC T.b_init_BadWeb pass0 (pa_cons pe_str pa_nil)))) pss_nil)
      (pss_cons (ps_if (pt_not (pt_val (pe_callG (G_are_ties T) (hr.mono (by decide)) rfl T.g_are_ties T.F_are_ties.kp T.b_are_ties .nil pass0 (pa_cons (pv 1) (pa_cons (pv 2) pa_nil))))) (pss_one (ps_raise rfl (takes_of rfl rfl rfl rfl) (pmk_G T.X_BadWeb.oex T.X_BadWeb.iC T.X_BadWeb.tI (G_init_BadWeb T) (hr.mono (by decide)) rfl T.X_BadWeb.gC T.b_init_BadWeb pass0 (pa_cons pe_str pa_nil)))) pss_nil)
      (pss_cons (ps_if (pt_not (pt_val (pe_callG (G_hang_together T) (hr.mono (by decide)) rfl T.g_hang_together T.F_hang_together.kp T.b_hang_together .nil pass0 (pa_cons (pv 1) (pa_cons (pv 2) pa_nil))))) (pss_one (ps_raise rfl (takes_of rfl rfl rfl rfl) (pmk_G T.X_BadWeb.oex T.X_BadWeb.iC T.X_BadWeb.tI (G_init_BadWeb T) (hr.mono (by decide)) rfl T.X_BadWeb.gC T.b_init_BadWeb pass0 (pa_cons pe_str pa_nil)))) pss_nil)
      (pss_cons (ps_fld (pv 0) (pv 1) rfl)
      (pss_one (ps_fld (pv 0) (pe_callG (G_fixed T 2) (hr.mono (by decide)) rfl T.g_fixed T.F_fixed.kp T.b_fixed .nil pass0 (pa_cons (pv 2) pa_nil)) rfl)))))), ?_⟩
  rcases h with ⟨ok, pf, out⟩ | ⟨m, rfl, h1, hn, h⟩
  · refine ⟨_, rfl, pl, .int 1, .int 13, rfl, ok, trivial, trivial, ?_⟩
    rw [show (isI pl && (inLo pl (.int 1) && inHi pl (.int 13))) = false from pf]
    exact ⟨_, rfl, iteT ⟨by show 1 ≤ 1000; decide, raise1 T.X_BadWeb.oex (T.X_BadWeb.no _ List.mem_cons_self) out⟩⟩
  · refine ⟨_, rfl, _, .int 1, .int 13, rfl, trivial, trivial, trivial, ?_⟩
    rw [show (isI (V.int (m : Int)) && (inLo (V.int (m : Int)) (.int 1) && inHi (V.int (m : Int)) (.int 13))) = true from placesB_int h1 hn]
    refine ⟨_, rfl, iteF ?_⟩
    rcases h with ⟨ti, tf, out⟩ | ⟨a, ps, rfl, hp, hl, hb, k1, k2⟩
    · refine ⟨_, rfl, _, rfl, _, tv, rfl, ti, fun H1 s1 => ?_⟩
      rw [tf]
      exact ⟨_, rfl, iteT ⟨by show 1 ≤ 1000; decide, raise1 T.X_BadWeb.oex (T.X_BadWeb.no _ List.mem_cons_self) (out.on s1)⟩⟩
    · obtain ⟨ti, tt⟩ := tiesB_prs hp hl hb
      refine ⟨_, rfl, _, rfl, _, _, rfl, ti, fun H1 s1 => ?_⟩
      rw [tt]
      refine ⟨_, rfl, iteF ?_⟩
      refine ⟨_, rfl, _, rfl, m, a, ps, rfl, h1, by omega, hp.same s1, hb, fun H2 s2 => ⟨_, rfl, ?_⟩⟩
      cases hh : hang m ps with
      | false =>
        exact iteT ⟨by show 1 ≤ 1000; decide, raise1 T.X_BadWeb.oex (T.X_BadWeb.no _ List.mem_cons_self) ((k2 hh).on (s1.trans s2))⟩
      | true =>
        refine iteF ?_
        have S2 := s1.trans s2
        have hx2 := S2 _ _ hx
        have pp : putF "places" (V.int (m : Int)) [] = ([("places", V.int (m : Int))] : List (Str × V)) := rfl
        refine ⟨_, rfl, _, rfl, x, A.c_Web, dx, [], rfl, hx2, T.K_Web, T.N_Web_places, by decide, ?_⟩
        rw [pp]
        have hp3 : PrsA (upd H2 x (.ins A.c_Web dx [("places", .int (m : Int))])) a ps := prsA_mono (hp.same S2) fun b xs h => by
          have e : b ≠ x := fun z => by
            subst z
            rcases h with h | h <;> cases hx2.symm.trans h
          rcases h with h | h
          · exact .inl (by rw [upd_ne e]; exact h)
          · exact .inr (by rw [upd_ne e]; exact h)
        refine ⟨_, rfl, .ref a, trPs ps, rfl, src_prs hp3 (by omega), fun y H4 s4 dt => ?_⟩
        have hx4 : H4 x = some (.ins A.c_Web dx [("places", .int (m : Int))]) := s4 _ _ upd_same
        have pt : putF "ties" y ([("places", V.int (m : Int))] : List (Str × V)) = ([("places", V.int (m : Int)), ("ties", y)] : List (Str × V)) := rfl
        refine ⟨_, rfl, x, A.c_Web, dx, _, rfl, hx4, T.K_Web, T.N_Web_ties, by show 1 < 1000; decide, ?_⟩
        rw [pt]
        refine k1 hh _ y upd_same (dt.keep fun b xs h => ?_) ?_
        · have e : b ≠ x := fun z => by
            subst z
            cases hx4.symm.trans h
          rw [upd_ne e]
          exact h
        · intro b o e h
          rw [upd_ne e]
          exact s4 _ _ (by rw [upd_ne e]; exact S2 _ _ h)
/-! ### webs made, or not -/
section
variable {H : Hp} {Q : VK} {E : XK} {all : V → List V} {pl tl : V} {m : Nat} {a : Addr} {ps : MC.Pr}
theorem mk_same {x dx C : Addr} (hx : H x = none) (hdx : H dx = none) : Same H (upd (upd H dx (.own x)) x (.ins C dx [])) := fun b o e => by
  rw [upd_ne (ne_of_none e hx), upd_ne (ne_of_none e hdx)]
  exact e
theorem mk_places (ha : ∀ x, all (.ref x) = [.ref x, pl, tl]) (ok : OkV H pl) (pf : placesB pl = false) (k : Out E H A.c_BadWeb "part" (.str "places")) : rMkG A.c_Web (sp_webi K A.c_Web A.c_BadWeb) E all H Q := by
  unfold rMkG
  intro x dx hx hd hne
  rw [ha]
  exact ⟨x, dx, pl, tl, rfl, upd_same, .inl ⟨ok.mono fun b o _ e => mk_same hx hd b o e, pf, k.on (mk_same hx hd)⟩⟩
theorem mk_ties (ha : ∀ x, all (.ref x) = [.ref x, .int (m : Int), tl]) (h1 : 1 ≤ m) (h2 : m ≤ 13) (ti : TiOk H tl) (tf : tiesB H (m : Int) tl = false) (k : Out E H A.c_BadWeb "part" (.str "ties")) : rMkG A.c_Web (sp_webi K A.c_Web A.c_BadWeb) E all H Q := by
  unfold rMkG
  intro x dx hx hd hne
  rw [ha]
  exact ⟨x, dx, _, tl, rfl, upd_same, .inr ⟨m, rfl, h1, h2, .inl ⟨ti.same (mk_same hx hd), by rw [tiesB_same ti (mk_same hx hd)]; exact tf, k.on (mk_same hx hd)⟩⟩⟩
theorem mk_apart (ha : ∀ x, all (.ref x) = [.ref x, .int (m : Int), .ref a]) (h1 : 1 ≤ m) (h2 : m ≤ 13) (hl : ps.length ≤ 12) (hp : PrsA H a ps) (hb : MC.Below m ps) (hh : hang m ps = false) (k : Out E H A.c_BadWeb "part" (.str "apart")) : rMkG A.c_Web (sp_webi K A.c_Web A.c_BadWeb) E all H Q := by
  unfold rMkG
  intro x dx hx hd hne
  rw [ha]
  exact ⟨x, dx, _, _, rfl, upd_same, .inr ⟨m, rfl, h1, h2, .inr ⟨a, ps, rfl, hp.same (mk_same hx hd), hl, hb, (fun e => by rw [hh] at e; cases e), fun _ => k.on (mk_same hx hd)⟩⟩⟩
theorem dst_prs {H : Hp} {y : V} {ps : MC.Pr} (h : Dst 2 H y (trPs ps)) : ∃ q xs, y = .ref q ∧ H q = some (.tup xs) ∧ Paired (PrT H) xs ps := by
  rcases h with h | ⟨q, xs, ts, rfl, hq, et, hp⟩
  · cases h
  · obtain rfl := (Tr.node.inj et)
    refine ⟨q, xs, rfl, hq, ?_⟩
    clear hq et
    revert xs
    induction ps with
    | nil =>
      intro xs hp
      cases hp
      exact .nil
    | cons p ps ih =>
      intro xs hp
      cases hp with
      | cons h t =>
        refine .cons ?_ (ih _ t)
        rcases h with h | ⟨c, ys, us, rfl, hc, eu, hu⟩
        · cases h
        · obtain rfl := Tr.node.inj eu
          cases hu with
          | cons a1 r1 =>
            cases r1 with
            | cons a2 r2 =>
              cases r2
              cases a1
              cases a2
              exact ⟨c, rfl, hc⟩
theorem mk_web (ha : ∀ x, all (.ref x) = [.ref x, .int (m : Int), .ref a]) (h1 : 1 ≤ m) (h2 : m ≤ 13) (hl : ps.length ≤ 12) (hp : PrsA H a ps) (hb : MC.Below m ps) (hh : hang m ps = true) (k : ∀ y H', Same H H' → WebAt H' y A.c_Web m ps → Q (.ref y) H') : rMkG A.c_Web (sp_webi K A.c_Web A.c_BadWeb) E all H Q := by
  unfold rMkG
  intro x dx hx hd hne
  rw [ha]
  refine ⟨x, dx, _, _, rfl, upd_same, .inr ⟨m, rfl, h1, h2, .inr ⟨a, ps, rfl, hp.same (mk_same hx hd), hl, hb, fun _ H' y e1 dt kp => ⟨rfl, ?_⟩, (fun e => by rw [hh] at e; cases e)⟩⟩⟩
  obtain ⟨q, xs, rfl, hq, pp⟩ := dst_prs dt
  exact k x H' (fun b o e => kp b o (ne_of_none e hx) (mk_same hx hd b o e)) ⟨dx, q, xs, e1, hq, pp⟩
end
/-! ### texts -/
theorem H_init_BadText (T : Txt P K mg A) : L2H.FnH P w K mg base CX0 1 A.i_BadText A.d_init_BadText P_init_BadText (sp2 K "line" "item") := by
  refine okH T.F_init_BadText sc_init_BadText (fun vs H Q E h => ?_) (fun cdv A0 outer s H vs Q E p h => ?_)
  · obtain ⟨a, C, v, u, rfl, _⟩ := h
    rfl
  obtain ⟨a, C, v, u, rfl, o, n1, n2, ha, k⟩ := h
  refine ⟨_, (pss_cons (ps_ost (pv 0) (pv 1)) (pss_one (ps_ost (pv 0) (pv 2)))), ?_⟩
  refine ⟨_, rfl, _, rfl, a, C, rfl, o, n1, .inl ⟨ha, fun dx hd hda => ?_⟩⟩
  have e1 : (upd (upd H dx (exd dx [("line", v)])) a (exo a C (some dx))) a = some (exo a C (some dx)) := upd_same
  have e2 : (upd (upd H dx (exd dx [("line", v)])) a (exo a C (some dx))) dx = some (exd dx [("line", v)]) := by rw [upd_ne hda]; exact upd_same
  refine ⟨_, rfl, _, rfl, a, C, rfl, o, n2, .inr ⟨dx, _, e1, e2, by show 1 ≤ 900; decide, ?_⟩⟩
  refine k _ dx hd hda (by rw [upd_ne hda.symm]; exact e1) upd_same ?_
  intro b z n h
  rw [upd_ne (ne_of_none h hd)]
  exact (upd_kp hd hda) b z n h
/-- the text of a number -/
def wd (n : Nat) : Str := Str.ofString (toString (n : Int))
def OutT (A : Ad) (E : XK) (H : Hp) (i : V) : Prop := ∀ d H', H' d = some (.xd [("item", i), ("line", .int 0)]) → Same H H' → E (.ref A.c_BadText) (some d) H'
theorem OutT.on {E : XK} {H H1 : Hp} {i : V} (o : OutT A E H i) (s : Same H H1) : OutT A E H1 i := fun d H' h t => o d H' h (s.trans t)
theorem kindS {H : Hp} {v : V} (h : OkV H v) (ns : ∀ s, v ≠ .str s) : ∃ t, TyX K H v (.type t) ∧ kitB t "str" = some false := by
  cases v with
  | non => exact ⟨_, .base .non, by decide +kernel⟩
  | bl b => exact ⟨_, .base (.bl b), by decide +kernel⟩
  | int b => exact ⟨_, .base (.int b), by decide +kernel⟩
  | str b => exact absurd rfl (ns b)
  | ref a =>
    rcases h with ⟨xs, e⟩ | ⟨xs, e⟩ | ⟨xs, e⟩
    · exact ⟨_, .base (.lst e), by decide +kernel⟩
    · exact ⟨_, .base (.tup e), by decide +kernel⟩
    · exact ⟨_, .base (.dK e), by decide +kernel⟩
  | byt _ => exact h.elim
  | flt _ => exact h.elim
  | ty _ => exact h.elim
/-- what is no text -/
def NoStr (A : Ad) (H : Hp) (v : V) : Prop := (OkV H v ∧ ∀ s, v ≠ .str s) ∨ ∃ x dx fs, v = .ref x ∧ H x = some (.ins A.c_Web dx fs)
def sp_items (A : Ad) : Sp := fun vs H Q E => ∃ v : V, vs = [v] ∧
  ((NoStr A H v ∧ OutT A E H (.int 0)) ∨
   ∃ ws : List Str, v = .str (Txt.join " " ws) ∧ ws ≠ [] ∧ (∀ p ∈ ws, 32 ∉ TL.tl p) ∧ (Txt.join " " ws).length + 2 ≤ sizeLine ∧ ∀ q H', Same H H' → H' q = some (.lst (ws.map V.str)) → Q (.ref q) H')
theorem G_items_of (T : Txt P K mg A) : FnG P w K mg base (L2.CX P w) 3 A.a_items_of A.d_items_of P_items_of (sp_items A) := by
  refine okGX T.F_items_of sc_items_of (fun vs H Q E h => ?_) (fun cdv A0 outer s H vs Q E hr h => ?_)
  · obtain ⟨v, rfl, _⟩ := h
    rfl
  obtain ⟨v, rfl, h⟩ := h
  refine ⟨_, (pss_cons (ps_if (pt_not (pt_val (pe_callB call_isi (by rfl) T.n_isinstance (by decide +kernel) (pa_cons (pv 0) (pa_cons (pe_bltn (v := .ty "str") (u := .type "str") (by rfl) T.n_str (by decide +kernel) rfl) pa_nil))))) (pss_one (ps_raise rfl (takes_of rfl rfl rfl rfl) (pmk_G T.X_BadText.oex T.X_BadText.iC T.X_BadText.tI (G_init_BadText T) (hr.mono (by decide)) rfl T.X_BadText.gC T.b_init_BadText pass0 (pa_cons pe_int (pa_cons pe_int pa_nil))))) pss_nil)
      (pss_one (ps_ret (pe_bm PySem.F.plainAttrs_str PySem.F.slot_str_split PySem.F.type_str_split mt_split (pv 0) (pa_cons pe_str pa_nil))))), ?_⟩
  rcases h with ⟨⟨ok, ns⟩ | ⟨x, dx, fs, rfl, hx⟩, k⟩ | ⟨ws, rfl, h1, h2, h3, k⟩
  · obtain ⟨t, ty, kt⟩ := kindS (K := K) ok ns
    refine ⟨_, rfl, _, _, _, _, _, rfl, .ty "str", ty, kit_ty kt, _, rfl, iteT ?_⟩
    exact ⟨by show 2 ≤ 1000; decide, raise2 T.X_BadText.oex (T.X_BadText.no _ List.mem_cons_self) (T.X_BadText.no _ (List.mem_cons_of_mem _ List.mem_cons_self)) k⟩
  · refine ⟨_, rfl, _, _, _, _, _, rfl, .ty "str", own_ty hx T.K_Web T.I_Web, T.Z_s, _, rfl, iteT ?_⟩
    exact ⟨by show 2 ≤ 1000; decide, raise2 T.X_BadText.oex (T.X_BadText.no _ List.mem_cons_self) (T.X_BadText.no _ (List.mem_cons_of_mem _ List.mem_cons_self)) k⟩
  · refine ⟨_, rfl, _, _, _, _, _, rfl, .ty "str", .base (.str _), kit_ty (show kitB "str" "str" = some true by decide +kernel), _, rfl, iteF ?_⟩
    refine ⟨_, rfl, rfl, _, _, rfl, rfl, rfl, h3, fun q hq => ?_⟩
    have es : Txt.split (Txt.join " " ws) " " = ws := TL.split_join (s := 32) (S := []) (by rfl) (by decide +kernel) h1 h2
    rw [es]
    exact k q _ (Same.new (fun _ _ h => h) hq) upd_same
/-- of what an item is made -/
def Wo (s : Str) : Prop := 32 ∉ TL.tl s ∧ s.length ≤ 5000
theorem numV_ok {s : Str} {H : Hp} : OkV H (MN.numV s) := by
  unfold MN.numV
  split <;> trivial
def sp_numof : Sp := fun vs H Q _ => ∃ s : Str, vs = [.str s] ∧ s.length ≤ 5000 ∧ Q (MN.numV s) H
theorem G_number_of (T : Txt P K mg A) : FnG P w K mg base CX0 1 A.a_number_of A.d_number_of P_number_of sp_numof := by
  refine okG T.F_number_of sc_number_of (fun vs H Q E h => ?_) (fun cdv A0 outer s H vs Q E hr h => ?_)
  · obtain ⟨n, rfl, _⟩ := h
    rfl
  obtain ⟨z, rfl, hl, k⟩ := h
  have z5 : (5000 : Nat) ≤ sizeLine := by decide
  have e45 : Txt.startswith z "-" = decide ((TL.tl z).head? = some 45) := by
    rw [show ("-" : Str) = ⟨#[45]⟩ by decide +kernel]
    exact MN.starts_one z 45
  have bad : MN.okL (TL.tl z) = false → MN.numV z = .non := fun e => by
    unfold MN.numV MN.num
    rw [if_neg (by rw [e]; simp)]
  have good : MN.okL (TL.tl z) = true → MN.numV z = .int (MN.valL (TL.tl z)) := fun e => by
    unfold MN.numV MN.num
    rw [if_pos e]
  have fc := MN.figL_cut z
  have lc := cutS_length z (some 1) none
  refine ⟨_, (pss_cons (ps_set (i := 1) sc_number_of.nd rfl (Or.inl rfl) (pe_ifExp (pt_val (pe_bm PySem.F.plainAttrs_str PySem.F.slot_str_startswith PySem.F.type_str_startswith mt_startswith (pv 0) (pa_cons pe_str pa_nil))) (pe_slice sl_str (pv 0) (po_some pe_int) po_none) (pv 0)))
      (pss_cons (ps_if (PW.pt (pw_or (pt_not (PW.pt (pw_and (pt_val (pe_bm0 PySem.F.plainAttrs_str PySem.F.slot_str_isascii PySem.F.type_str_isascii mt_isascii (pv 1))) (pw_and1 (pt_val (pe_bm0 PySem.F.plainAttrs_str PySem.F.slot_str_isdigit PySem.F.type_str_isdigit mt_isdigit (pv 1))))))) (pw_or1 (pt_cmpR op_gt (pe_callB call_len_str (by rfl) T.n_len (by decide +kernel) (pa_cons (pv 1) pa_nil)) (pe_glob (v := .int 60) rfl T.m_MOST_DIGITS ⟨_, rfl⟩) (nomark _))))) (pss_one (ps_ret pe_non)) pss_nil)
      (pss_cons (ps_if (PW.pt (pw_and (pt_val (pe_bm PySem.F.plainAttrs_str PySem.F.slot_str_startswith PySem.F.type_str_startswith mt_startswith (pv 1) (pa_cons pe_str pa_nil))) (pw_and1 (pt_cmpR op_ne (pv 0) pe_str (nomark _))))) (pss_one (ps_ret pe_non)) pss_nil)
      (pss_one (ps_ret (pe_callTy (T := "int") call_int_str (by rfl) T.n_int (by decide +kernel) (pa_cons (pv 0) pa_nil))))))), ?_⟩
  refine ⟨_, rfl, rfl, _, _, rfl, rfl, _, rfl, ?_⟩
  rw [e45]
  refine ite2 (fun e => ?_) (fun e => ?_)
  · rw [if_pos (of_decide_eq_true e)] at fc
    refine ⟨_, rfl, _, rfl, _, rfl, Nat.le_trans hl z5, ?_⟩
    have ad := MN.ascii_digit (cutS z (some 1) none)
    have s0 : Txt.startswith (cutS z (some 1) none) "0" = decide ((TL.tl (cutS z (some 1) none)).head? = some 48) := by
      rw [show ("0" : Str) = ⟨#[48]⟩ by decide +kernel]
      exact MN.starts_one (cutS z (some 1) none) 48
    have eok : MN.okL (TL.tl z) = ((Txt.isascii (cutS z (some 1) none) && Txt.isdigit (cutS z (some 1) none)) && (decide ((cutS z (some 1) none).length ≤ 60) && !(decide ((TL.tl (cutS z (some 1) none)).head? = some 48) && !decide (TL.tl z = [48])))) := by
      unfold MN.okL
      rw [← fc, ad, TL.len_tl]
    refine ⟨_, rfl, rfl, _, rfl, rfl, trivial, _, rfl, ?_⟩
    cases ha : Txt.isascii (cutS z (some 1) none) with
    | false =>
      rw [ha, Bool.false_and, Bool.false_and] at eok
      rw [bad eok] at k
      exact iteF (iteT k)
    | true =>
      refine iteT ⟨_, rfl, rfl, _, rfl, rfl, trivial, _, rfl, ?_⟩
      cases hd : Txt.isdigit (cutS z (some 1) none) with
      | false =>
        rw [hd, Bool.and_false, Bool.false_and] at eok
        rw [bad eok] at k
        exact iteT k
      | true =>
        rw [ha, hd, Bool.true_and, Bool.true_and] at eok
        refine iteF ⟨_, rfl, _, rfl, (Nat.le_trans lc (Nat.le_trans hl z5)), _, _, rfl, rfl, _, rfl, ?_⟩
        by_cases h60 : (cutS z (some 1) none).length ≤ 60
        · rw [decide_eq_false (by omega)]
          rw [decide_eq_true h60, Bool.true_and] at eok
          refine iteF ⟨_, rfl, rfl, _, _, rfl, rfl, _, rfl, ?_⟩
          rw [s0]
          have last : MN.okL (TL.tl z) = true → tRet (tCB (fun xs H Q => ∃ a n, xs = [V.str a] ∧ intText? a = some n ∧ a.length ≤ 640 ∧ Q (V.int n) H) (tCons (tVar 0) tNil)) { nx := fun x H' => Q V.non H', rt := Q } (List.set (L2.start N_number_of [V.str z]) 1 (some (V.str (cutS z (some 1) none)))) H := fun e => by
            obtain ⟨i1, i2⟩ := MN.int_ok e
            rw [good e] at k
            exact ⟨_, rfl, _, _, rfl, i1, by omega, k⟩
          refine ite2 (fun h0 => ?_) (fun h0 => ?_)
          · rw [h0, Bool.true_and, Bool.not_not] at eok
            refine ⟨_, rfl, ?_⟩
            have ez : decide (V.str z = V.str "0") = decide (TL.tl z = [48]) := by
              by_cases q : TL.tl z = [48]
              · rw [decide_eq_true q]
                exact decide_eq_true (congrArg V.str (TL.ext_tl (by rw [q]; decide +kernel)))
              · rw [decide_eq_false q]
                exact decide_eq_false fun y => q (by rw [V.str.inj y]; decide +kernel)
            refine ⟨rfl, _, rfl, ?_⟩
            rw [ez]
            cases hq : decide (TL.tl z = [48]) with
            | true =>
              rw [hq] at eok
              exact iteF (last eok)
            | false =>
              rw [hq] at eok
              rw [bad eok] at k
              exact iteT k
          · have h0 : decide ((TL.tl (cutS z (some 1) none)).head? = some 48) = false := by
              cases q : decide ((TL.tl (cutS z (some 1) none)).head? = some 48) with
              | false => rfl
              | true => exact absurd q h0
            rw [h0] at eok
            exact last eok
        · rw [decide_eq_true (by omega)]
          rw [decide_eq_false h60, Bool.false_and] at eok
          rw [bad eok] at k
          exact iteT k
  · rw [if_neg (fun q => e (decide_eq_true q))] at fc
    refine ⟨_, rfl, ?_⟩
    have ad := MN.ascii_digit (z)
    have s0 : Txt.startswith (z) "0" = decide ((TL.tl (z)).head? = some 48) := by
      rw [show ("0" : Str) = ⟨#[48]⟩ by decide +kernel]
      exact MN.starts_one (z) 48
    have eok : MN.okL (TL.tl z) = ((Txt.isascii (z) && Txt.isdigit (z)) && (decide ((z).length ≤ 60) && !(decide ((TL.tl (z)).head? = some 48) && !decide (TL.tl z = [48])))) := by
      unfold MN.okL
      rw [← fc, ad, TL.len_tl]
    refine ⟨_, rfl, rfl, _, rfl, rfl, trivial, _, rfl, ?_⟩
    cases ha : Txt.isascii (z) with
    | false =>
      rw [ha, Bool.false_and, Bool.false_and] at eok
      rw [bad eok] at k
      exact iteF (iteT k)
    | true =>
      refine iteT ⟨_, rfl, rfl, _, rfl, rfl, trivial, _, rfl, ?_⟩
      cases hd : Txt.isdigit (z) with
      | false =>
        rw [hd, Bool.and_false, Bool.false_and] at eok
        rw [bad eok] at k
        exact iteT k
      | true =>
        rw [ha, hd, Bool.true_and, Bool.true_and] at eok
        refine iteF ⟨_, rfl, _, rfl, (Nat.le_trans hl z5), _, _, rfl, rfl, _, rfl, ?_⟩
        by_cases h60 : (z).length ≤ 60
        · rw [decide_eq_false (by omega)]
          rw [decide_eq_true h60, Bool.true_and] at eok
          refine iteF ⟨_, rfl, rfl, _, _, rfl, rfl, _, rfl, ?_⟩
          rw [s0]
          have last : MN.okL (TL.tl z) = true → tRet (tCB (fun xs H Q => ∃ a n, xs = [V.str a] ∧ intText? a = some n ∧ a.length ≤ 640 ∧ Q (V.int n) H) (tCons (tVar 0) tNil)) { nx := fun x H' => Q V.non H', rt := Q } (List.set (L2.start N_number_of [V.str z]) 1 (some (V.str (z)))) H := fun e => by
            obtain ⟨i1, i2⟩ := MN.int_ok e
            rw [good e] at k
            exact ⟨_, rfl, _, _, rfl, i1, by omega, k⟩
          refine ite2 (fun h0 => ?_) (fun h0 => ?_)
          · rw [h0, Bool.true_and, Bool.not_not] at eok
            refine ⟨_, rfl, ?_⟩
            have ez : decide (V.str z = V.str "0") = decide (TL.tl z = [48]) := by
              by_cases q : TL.tl z = [48]
              · rw [decide_eq_true q]
                exact decide_eq_true (congrArg V.str (TL.ext_tl (by rw [q]; decide +kernel)))
              · rw [decide_eq_false q]
                exact decide_eq_false fun y => q (by rw [V.str.inj y]; decide +kernel)
            refine ⟨rfl, _, rfl, ?_⟩
            rw [ez]
            cases hq : decide (TL.tl z = [48]) with
            | true =>
              rw [hq] at eok
              exact iteF (last eok)
            | false =>
              rw [hq] at eok
              rw [bad eok] at k
              exact iteT k
          · have h0 : decide ((TL.tl (z)).head? = some 48) = false := by
              cases q : decide ((TL.tl (z)).head? = some 48) with
              | false => rfl
              | true => exact absurd q h0
            rw [h0] at eok
            exact last eok
        · rw [decide_eq_true (by omega)]
          rw [decide_eq_false h60, Bool.false_and] at eok
          rw [bad eok] at k
          exact iteT k
/-! ### items, one after another -/
def ITS (H : Hp) (a : Addr) (ws : List Str) : Prop := H a = some (.lst (ws.map V.str)) ∧ ws.length ≤ 1000 ∧ ∀ x ∈ ws, Wo x
theorem ITS.keep {H H' : Hp} {a : Addr} {ws : List Str} (h : ITS H a ws) (s : Same H H') : ITS H' a ws := ⟨s _ _ h.1, h.2⟩
def sp_itemat (A : Ad) : Sp := fun vs H Q E => ∃ (a : Addr) (ws : List Str) (i : Nat), vs = [.ref a, .int (i : Int)] ∧ ITS H a ws ∧ (∀ x, ws[i]? = some x → Q (.str x) H) ∧ (ws.length ≤ i → OutT A E H (.int (ws.length : Nat)))
theorem G_item_at (T : Txt P K mg A) : FnG P w K mg base (L2.CX P w) 3 A.a_item_at A.d_item_at P_item_at (sp_itemat A) := by
  refine okGX T.F_item_at sc_item_at (fun vs H Q E h => ?_) (fun cdv A0 outer s H vs Q E hr h => ?_)
  · obtain ⟨a, ws, i, rfl, _⟩ := h
    rfl
  obtain ⟨a, ws, i, rfl, ⟨ha, _, _⟩, k, k2⟩ := h
  refine ⟨_, (pss_cons (ps_if (pt_cmpR op_ge (pv 1) (pe_callB call_len_seq (by rfl) T.n_len (by decide +kernel) (pa_cons (pv 0) pa_nil)) (nomark _)) (pss_one (ps_raise rfl (takes_of rfl rfl rfl rfl) (pmk_G T.X_BadText.oex T.X_BadText.iC T.X_BadText.tI (G_init_BadText T) (hr.mono (by decide)) rfl T.X_BadText.gC T.b_init_BadText pass0 (pa_cons pe_int (pa_cons (pe_callB call_len_seq (by rfl) T.n_len (by decide +kernel) (pa_cons (pv 0) pa_nil)) pa_nil))))) pss_nil)
      (pss_one (ps_ret (pe_ix (r := rIxL K) ix_list (pv 0) (pv 1) (fun _ _ => rfl))))), ?_⟩
  refine ⟨_, rfl, _, rfl, a, _, rfl, .inl (SqL.of ha), _, _, rfl, rfl, _, rfl, ?_⟩
  by_cases c : i < ws.length
  · rw [decide_eq_false (by rw [List.length_map]; omega)]
    have hx := List.getElem?_eq_getElem c
    refine iteF ⟨_, rfl, _, rfl, _, _, _, _, rfl, rfl, SqL.of ha, atI_nat (by rw [List.getElem?_map, hx]; rfl), k _ hx⟩
  · rw [decide_eq_true (by rw [List.length_map]; omega)]
    refine iteT ⟨_, rfl, a, _, rfl, .inl (SqL.of ha), by show 2 ≤ 1000; decide, raise2 T.X_BadText.oex (T.X_BadText.no _ List.mem_cons_self) (T.X_BadText.no _ (List.mem_cons_of_mem _ List.mem_cons_self)) ?_⟩
    have := k2 (by omega)
    rw [List.length_map]
    exact this
def wiB (x : Str) (lo hi : V) : Bool := isI (MN.numV x) && (inLo (MN.numV x) lo && inHi (MN.numV x) hi)
def sp_numat (A : Ad) : Sp := fun vs H Q E => ∃ (a : Addr) (ws : List Str) (i : Nat) (lo hi : V), vs = [.ref a, .int (i : Int), lo, hi] ∧ ITS H a ws ∧ Bd lo ∧ Bd hi ∧ (ws.length ≤ i → OutT A E H (.int (ws.length : Nat))) ∧
  ∀ x, ws[i]? = some x → (wiB x lo hi = true → Q (MN.numV x) H) ∧ (wiB x lo hi = false → OutT A E H (.int (i : Int)))
theorem G_number_at (T : Txt P K mg A) : FnG P w K mg base (L2.CX P w) 4 A.a_number_at A.d_number_at P_number_at (sp_numat A) := by
  refine okGX T.F_number_at sc_number_at (fun vs H Q E h => ?_) (fun cdv A0 outer s H vs Q E hr h => ?_)
  · obtain ⟨a, ws, i, lo, hi, rfl, _⟩ := h
    rfl
  obtain ⟨a, ws, i, lo, hi, rfl, ha, bl, bh, k1, k2⟩ := h
  refine ⟨_, (pss_cons (ps_set (i := 4) sc_number_at.nd rfl (Or.inl rfl) (pe_callG (G_number_of T) (hr.mono (by decide)) rfl T.g_number_of T.F_number_of.kp T.b_number_of .nil pass0 (pa_cons (pe_callG (E := E) (G_item_at T) (hr.mono (by decide)) rfl T.g_item_at T.F_item_at.kp T.b_item_at .nil (passes_call (takes_of rfl rfl rfl rfl) (fun _ _ _ _ h => h)) (pa_cons (pv 0) (pa_cons (pv 1) pa_nil))) pa_nil)))
      (pss_cons (ps_if (pt_not (pt_val (pe_callG (G_is_within T) (hr.mono (by decide)) rfl T.g_is_within T.F_is_within.kp T.b_is_within .nil pass0 (pa_cons (pv 4) (pa_cons (pv 2) (pa_cons (pv 3) pa_nil)))))) (pss_one (ps_raise rfl (takes_of rfl rfl rfl rfl) (pmk_G T.X_BadText.oex T.X_BadText.iC T.X_BadText.tI (G_init_BadText T) (hr.mono (by decide)) rfl T.X_BadText.gC T.b_init_BadText pass0 (pa_cons pe_int (pa_cons (pv 1) pa_nil))))) pss_nil)
      (pss_one (ps_ret (pv 4))))), ?_⟩
  refine ⟨_, rfl, _, rfl, a, ws, i, rfl, ha, fun x hx => ?_, k1⟩
  refine ⟨x, rfl, (ha.2.2 x (List.mem_of_getElem? hx)).2, ?_⟩
  refine ⟨_, rfl, _, rfl, _, rfl, MN.numV x, lo, hi, rfl, numV_ok, bl, bh, ?_⟩
  obtain ⟨k2, k3⟩ := k2 x hx
  cases e : wiB x lo hi with
  | true =>
    rw [show (isI (MN.numV x) && (inLo (MN.numV x) lo && inHi (MN.numV x) hi)) = true from e]
    exact ⟨_, rfl, iteF ⟨_, rfl, k2 e⟩⟩
  | false =>
    rw [show (isI (MN.numV x) && (inLo (MN.numV x) lo && inHi (MN.numV x) hi)) = false from e]
    exact ⟨_, rfl, iteT ⟨_, rfl, by show 2 ≤ 1000; decide, raise2 T.X_BadText.oex (T.X_BadText.no _ List.mem_cons_self) (T.X_BadText.no _ (List.mem_cons_of_mem _ List.mem_cons_self)) (k3 e)⟩⟩
def sp_colon (A : Ad) : Sp := fun vs H Q E => ∃ (a : Addr) (ws : List Str) (i : Nat), vs = [.ref a, .int (i : Int)] ∧ ITS H a ws ∧ (ws.length ≤ i → OutT A E H (.int (ws.length : Nat))) ∧ ∀ x, ws[i]? = some x → (x = ":" → Q .non H) ∧ (x ≠ ":" → OutT A E H (.int (i : Int)))
theorem G_read_colon (T : Txt P K mg A) : FnG P w K mg base (L2.CX P w) 4 A.a_read_colon A.d_read_colon P_read_colon (sp_colon A) := by
  refine okGX T.F_read_colon sc_read_colon (fun vs H Q E h => ?_) (fun cdv A0 outer s H vs Q E hr h => ?_)
  · obtain ⟨a, ws, i, rfl, _⟩ := h
    rfl
  obtain ⟨a, ws, i, rfl, ha, k1, k2⟩ := h
  refine ⟨_, (pss_one (ps_if (pt_cmpR op_ne (pe_callG (E := E) (G_item_at T) (hr.mono (by decide)) rfl T.g_item_at T.F_item_at.kp T.b_item_at .nil (passes_call (takes_of rfl rfl rfl rfl) (fun _ _ _ _ h => h)) (pa_cons (pv 0) (pa_cons (pv 1) pa_nil))) pe_str (nomark _)) (pss_one (ps_raise rfl (takes_of rfl rfl rfl rfl) (pmk_G T.X_BadText.oex T.X_BadText.iC T.X_BadText.tI (G_init_BadText T) (hr.mono (by decide)) rfl T.X_BadText.gC T.b_init_BadText pass0 (pa_cons pe_int (pa_cons (pv 1) pa_nil))))) pss_nil)), ?_⟩
  refine ⟨_, rfl, _, rfl, a, ws, i, rfl, ha, fun x hx => ?_, k1⟩
  refine ⟨rfl, _, rfl, ?_⟩
  obtain ⟨k2, k3⟩ := k2 x hx
  by_cases e : x = ":"
  · subst e
    exact iteF (k2 rfl)
  · have ne : (!decide (V.str x = V.str ":")) = true := by
      rw [decide_eq_false (fun y => e (V.str.inj y))]
      rfl
    rw [ne]
    exact iteT ⟨_, rfl, by show 2 ≤ 1000; decide, raise2 T.X_BadText.oex (T.X_BadText.no _ List.mem_cons_self) (T.X_BadText.no _ (List.mem_cons_of_mem _ List.mem_cons_self)) (k3 e)⟩
def sp_rend (A : Ad) : Sp := fun vs H Q E => ∃ (a : Addr) (ws : List Str) (i : Nat), vs = [.ref a, .int (i : Int)] ∧ ITS H a ws ∧ (ws.length ≤ i → Q .non H) ∧ (i < ws.length → OutT A E H (.int (i : Int)))
theorem G_read_end (T : Txt P K mg A) : FnG P w K mg base (L2.CX P w) 3 A.a_read_end A.d_read_end P_read_end (sp_rend A) := by
  refine okGX T.F_read_end sc_read_end (fun vs H Q E h => ?_) (fun cdv A0 outer s H vs Q E hr h => ?_)
  · obtain ⟨a, ws, i, rfl, _⟩ := h
    rfl
  obtain ⟨a, ws, i, rfl, ⟨ha, _, _⟩, k1, k2⟩ := h
  refine ⟨_, (pss_one (ps_if (pt_cmpR op_gt (pe_callB call_len_seq (by rfl) T.n_len (by decide +kernel) (pa_cons (pv 0) pa_nil)) (pv 1) (nomark _)) (pss_one (ps_raise rfl (takes_of rfl rfl rfl rfl) (pmk_G T.X_BadText.oex T.X_BadText.iC T.X_BadText.tI (G_init_BadText T) (hr.mono (by decide)) rfl T.X_BadText.gC T.b_init_BadText pass0 (pa_cons pe_int (pa_cons (pv 1) pa_nil))))) pss_nil)), ?_⟩
  refine ⟨_, rfl, a, _, rfl, .inl (SqL.of ha), _, rfl, _, _, rfl, rfl, _, rfl, ?_⟩
  by_cases e : ws.length ≤ i
  · rw [decide_eq_false (by rw [List.length_map]; omega)]
    exact iteF (k1 e)
  · rw [decide_eq_true (by rw [List.length_map]; omega)]
    exact iteT ⟨_, rfl, by show 2 ≤ 1000; decide, raise2 T.X_BadText.oex (T.X_BadText.no _ List.mem_cons_self) (T.X_BadText.no _ (List.mem_cons_of_mem _ List.mem_cons_self)) (k2 (by omega))⟩
def rLenQ (K : PySem.W.Frag) : List V → Hp → VK → Prop := fun xs H Q => ∃ p ys, xs = [.ref p] ∧ (SqL K H p ys ∨ SqT K H p ys) ∧ Q (.int ys.length) H
theorem exm_self {x : Str} {C fI : Addr} {up : List Addr} {ns fs : List Str} (T : XT K mg x C fI up ns fs) : PySem.W.exmOne K (.ref C) (.ref C) = some true := by
  refine PySem.W.exm_ref T.oex.exC ?_ T.oex.tyC ?_
  · obtain ⟨_, _, _, _, _, _, _, _, _, _, _, _, _, h⟩ := T.cls
    unfold PySem.W.hasDictIn PySem.W.clsIn
    rw [h]
    rfl
  · have e := T.mro (.ref C)
    unfold PySem.W.subIn
    dsimp only
    rw [e, List.contains_cons]
    simp
/-! ### a text read -/
def fl (ps : MC.Pr) : List Nat := ps.flatMap fun p => [p.1, p.2]
theorem fl_len : ∀ ps : MC.Pr, (fl ps).length = 2 * ps.length
  | [] => rfl
  | p :: ps => by
    have ih := fl_len ps
    unfold fl at ih ⊢
    rw [List.flatMap_cons, List.length_append, ih]
    show 2 + 2 * ps.length = 2 * (ps.length + 1)
    omega
theorem fl_at : ∀ (ps : MC.Pr) (k : Nat), (fl ps)[2 * k]? = (ps.map (·.1))[k]? ∧ (fl ps)[2 * k + 1]? = (ps.map (·.2))[k]?
  | [], k => ⟨rfl, rfl⟩
  | p :: ps, 0 => ⟨rfl, rfl⟩
  | p :: ps, k + 1 => by
    have ih := fl_at ps k
    exact ih
theorem fm_congr {α β : Type} {f g : α → Option β} : ∀ {l : List α}, (∀ x ∈ l, f x = g x) → l.filterMap f = l.filterMap g
  | [], _ => rfl
  | a :: l, h => by
    rw [List.filterMap_cons, List.filterMap_cons, h a List.mem_cons_self, fm_congr fun x hx => h x (List.mem_cons_of_mem _ hx)]
theorem pickL (f : Nat → Nat) (xs ys : List V) (h : ∀ k, k < ys.length → xs[f k]? = ys[k]?) : ((List.range ys.length).map f).filterMap (xs[·]?) = ys := by
  rw [List.filterMap_map]
  have e : (List.range ys.length).filterMap (fun k => ys[k]?) = ys := by
    have := PySem.W.krv_all ys.toArray
    simpa using this
  refine Eq.trans (fm_congr fun k hk => ?_) e
  exact h k (List.mem_range.mp hk)
theorem stp_even (ps : MC.Pr) : stpV none (nv (fl ps)) = nv (ps.map (·.1)) := by
  have hl : (nv (fl ps)).length = 2 * ps.length := by rw [List.length_map, fl_len]
  have e := pickL (fun k => 2 * k) (nv (fl ps)) (nv (ps.map (·.1))) fun k hk => by
    rw [List.getElem?_map, (fl_at ps k).1, ← List.getElem?_map]
  have hm : (nv (ps.map (·.1))).length = ps.length := by rw [List.length_map, List.length_map]
  rw [hm] at e
  unfold stpV
  rw [hl]
  have eb : sliceBounds none none (some 2) (2 * ps.length) = (0, ((2 * ps.length : Nat) : Int), 2) := by simp [sliceBounds]
  rw [eb]
  have er : sliceRange 0 ((2 * ps.length : Nat) : Int) 2 = (List.range ps.length).map fun k => 2 * k := by
    unfold sliceRange
    rw [if_pos (by decide)]
    by_cases h0 : ps.length = 0
    · rw [h0]
      rfl
    · rw [if_pos (by omega)]
      show (List.range ((((2 * ps.length : Nat) : Int) - 0 + 2 - 1) / 2).toNat).map _ = _
      rw [show ((((2 * ps.length : Nat) : Int) - 0 + 2 - 1) / 2).toNat = ps.length by omega]
      refine List.map_congr_left fun k _ => ?_
      omega
  rw [er]
  exact e
theorem stp_odd (ps : MC.Pr) : stpV (some 1) (nv (fl ps)) = nv (ps.map (·.2)) := by
  have hl : (nv (fl ps)).length = 2 * ps.length := by rw [List.length_map, fl_len]
  have e := pickL (fun k => 2 * k + 1) (nv (fl ps)) (nv (ps.map (·.2))) fun k hk => by
    rw [List.getElem?_map, (fl_at ps k).2, ← List.getElem?_map]
  have hm : (nv (ps.map (·.2))).length = ps.length := by rw [List.length_map, List.length_map]
  rw [hm] at e
  unfold stpV
  rw [hl]
  by_cases h0 : ps.length = 0
  · have : ps = [] := List.length_eq_zero_iff.mp h0
    subst this
    rfl
  · have eb : sliceBounds (some 1) none (some 2) (2 * ps.length) = (1, ((2 * ps.length : Nat) : Int), 2) := by
      simp [sliceBounds]
      omega
    rw [eb]
    have er : sliceRange 1 ((2 * ps.length : Nat) : Int) 2 = (List.range ps.length).map fun k => 2 * k + 1 := by
      unfold sliceRange
      rw [if_pos (by decide), if_pos (by omega)]
      show (List.range ((((2 * ps.length : Nat) : Int) - 1 + 2 - 1) / 2).toNat).map _ = _
      rw [show ((((2 * ps.length : Nat) : Int) - 1 + 2 - 1) / 2).toNat = ps.length by omega]
      refine List.map_congr_left fun k _ => ?_
      omega
    rw [er]
    exact e
theorem zip_prs : ∀ ps : MC.Pr, (nv (ps.map (·.1))).zip (nv (ps.map (·.2))) = ps.map fun p => (V.int (p.1 : Int), V.int (p.2 : Int))
  | [] => rfl
  | p :: ps => by
    have ih := zip_prs ps
    exact congrArg ((V.int (p.1 : Int), V.int (p.2 : Int)) :: ·) ih
theorem prs_of {H : Hp} : ∀ {ts : List Addr} {ps : MC.Pr}, Paired (fun (t : Addr) (q : V × V) => H t = some (.tup [q.1, q.2])) ts (ps.map fun p => (V.int (p.1 : Int), V.int (p.2 : Int))) → Paired (PrI H) (ts.map V.ref) ps
  | [], [], _ => .nil
  | [], _ :: _, h => by cases h
  | _ :: _, [], h => by cases h
  | t :: ts, p :: ps, .cons h r => .cons ⟨t, rfl, .inr h⟩ (prs_of r)
theorem joinL_le {S : List Nat} (hS : S.length = 1) : ∀ ps : List (List Nat), (∀ p ∈ ps, p.length ≤ 2) → (TL.joinL S ps).length ≤ 3 * ps.length
  | [], _ => Nat.zero_le _
  | [p], h => by
    have := h p List.mem_cons_self
    show p.length ≤ 3
    omega
  | p :: q :: r, h => by
    have h1 := h p List.mem_cons_self
    have h2 := joinL_le hS (q :: r) fun z hz => h z (List.mem_cons_of_mem _ hz)
    show (p ++ (S ++ TL.joinL S (q :: r))).length ≤ _
    rw [List.length_append, List.length_append, hS]
    have : (p :: q :: r).length = (q :: r).length + 1 := rfl
    omega
/-! ### Web.__init__, where a suite may raise on -/
theorem GN_Web___init__ (T : Txt P K mg A) : FnG P w K mg base (L2N.CX P w) 5 A.a_Web___init__ A.d_Web___init__ P_Web___init__ (sp_webi K A.c_Web A.c_BadWeb) := by
  refine okGX T.F_Web___init__ sc_Web___init__ (fun vs H Q E h => ?_) (fun cdv A0 outer s H vs Q E hr h => ?_)
  · obtain ⟨x, dx, pl, tv, rfl, _⟩ := h
    rfl
  obtain ⟨x, dx, pl, tv, rfl, hx, h⟩ := h
  refine ⟨_, (pss_cons (ps_if (pt_not (pt_val (pe_callG (G_is_within T) (hr.mono (by decide)) rfl T.g_is_within T.F_is_within.kp T.b_is_within .nil pass0 (pa_cons (pv 1) (pa_cons pe_int (pa_cons (pe_glob (v := .int 13) rfl T.m_MOST_PLACES ⟨_, rfl⟩) pa_nil)))))) (pss_one (L2N.ps_raise rfl (L2N.takes_of rfl rfl rfl rfl) (pmkN_G T.X_BadWeb.oex T.X_BadWeb.iC T.X_BadWeb.tI (G_init_BadWeb T) (hr.mono (by decide)) rfl T.X_BadWeb.gC T.b_init_BadWeb pass0 (pa_cons pe_str pa_nil)))) pss_nil)
      (pss_cons (ps_if (pt_not (pt_val (pe_callG (G_are_ties T) (hr.mono (by decide)) rfl T.g_are_ties T.F_are_ties.kp T.b_are_ties .nil pass0 (pa_cons (pv 1) (pa_cons (pv 2) pa_nil))))) (pss_one (L2N.ps_raise rfl (L2N.takes_of rfl rfl rfl rfl) (pmkN_G T.X_BadWeb.oex T.X_BadWeb.iC T.X_BadWeb.tI (G_init_BadWeb T) (hr.mono (by decide)) rfl T.X_BadWeb.gC T.b_init_BadWeb pass0 (pa_cons pe_str pa_nil)))) pss_nil)
      (pss_cons (ps_if (pt_not (pt_val (pe_callG (G_hang_together T) (hr.mono (by decide)) rfl T.g_hang_together T.F_hang_together.kp T.b_hang_together .nil pass0 (pa_cons (pv 1) (pa_cons (pv 2) pa_nil))))) (pss_one (L2N.ps_raise rfl (L2N.takes_of rfl rfl rfl rfl) (pmkN_G T.X_BadWeb.oex T.X_BadWeb.iC T.X_BadWeb.tI (G_init_BadWeb T) (hr.mono (by decide)) rfl T.X_BadWeb.gC T.b_init_BadWeb pass0 (pa_cons pe_str pa_nil)))) pss_nil)
      (pss_cons (ps_fld (pv 0) (pv 1) rfl)
      (pss_one (ps_fld (pv 0) (pe_callG (G_fixed T 2) (hr.mono (by decide)) rfl T.g_fixed T.F_fixed.kp T.b_fixed .nil pass0 (pa_cons (pv 2) pa_nil)) rfl)))))), ?_⟩
  rcases h with ⟨ok, pf, out⟩ | ⟨m, rfl, h1, hn, h⟩
  · refine ⟨_, rfl, pl, .int 1, .int 13, rfl, ok, trivial, trivial, ?_⟩
    rw [show (isI pl && (inLo pl (.int 1) && inHi pl (.int 13))) = false from pf]
    exact ⟨_, rfl, iteT ⟨by show 1 ≤ 1000; decide, raise1 T.X_BadWeb.oex (T.X_BadWeb.no _ List.mem_cons_self) out⟩⟩
  · refine ⟨_, rfl, _, .int 1, .int 13, rfl, trivial, trivial, trivial, ?_⟩
    rw [show (isI (V.int (m : Int)) && (inLo (V.int (m : Int)) (.int 1) && inHi (V.int (m : Int)) (.int 13))) = true from placesB_int h1 hn]
    refine ⟨_, rfl, iteF ?_⟩
    rcases h with ⟨ti, tf, out⟩ | ⟨a, ps, rfl, hp, hl, hb, k1, k2⟩
    · refine ⟨_, rfl, _, rfl, _, tv, rfl, ti, fun H1 s1 => ?_⟩
      rw [tf]
      exact ⟨_, rfl, iteT ⟨by show 1 ≤ 1000; decide, raise1 T.X_BadWeb.oex (T.X_BadWeb.no _ List.mem_cons_self) (out.on s1)⟩⟩
    · obtain ⟨ti, tt⟩ := tiesB_prs hp hl hb
      refine ⟨_, rfl, _, rfl, _, _, rfl, ti, fun H1 s1 => ?_⟩
      rw [tt]
      refine ⟨_, rfl, iteF ?_⟩
      refine ⟨_, rfl, _, rfl, m, a, ps, rfl, h1, by omega, hp.same s1, hb, fun H2 s2 => ⟨_, rfl, ?_⟩⟩
      cases hh : hang m ps with
      | false =>
        exact iteT ⟨by show 1 ≤ 1000; decide, raise1 T.X_BadWeb.oex (T.X_BadWeb.no _ List.mem_cons_self) ((k2 hh).on (s1.trans s2))⟩
      | true =>
        refine iteF ?_
        have S2 := s1.trans s2
        have hx2 := S2 _ _ hx
        have pp : putF "places" (V.int (m : Int)) [] = ([("places", V.int (m : Int))] : List (Str × V)) := rfl
        refine ⟨_, rfl, _, rfl, x, A.c_Web, dx, [], rfl, hx2, T.K_Web, T.N_Web_places, by decide, ?_⟩
        rw [pp]
        have hp3 : PrsA (upd H2 x (.ins A.c_Web dx [("places", .int (m : Int))])) a ps := prsA_mono (hp.same S2) fun b xs h => by
          have e : b ≠ x := fun z => by
            subst z
            rcases h with h | h <;> cases hx2.symm.trans h
          rcases h with h | h
          · exact .inl (by rw [upd_ne e]; exact h)
          · exact .inr (by rw [upd_ne e]; exact h)
        refine ⟨_, rfl, .ref a, trPs ps, rfl, src_prs hp3 (by omega), fun y H4 s4 dt => ?_⟩
        have hx4 : H4 x = some (.ins A.c_Web dx [("places", .int (m : Int))]) := s4 _ _ upd_same
        have pt : putF "ties" y ([("places", V.int (m : Int))] : List (Str × V)) = ([("places", V.int (m : Int)), ("ties", y)] : List (Str × V)) := rfl
        refine ⟨_, rfl, x, A.c_Web, dx, _, rfl, hx4, T.K_Web, T.N_Web_ties, by show 1 < 1000; decide, ?_⟩
        rw [pt]
        refine k1 hh _ y upd_same (dt.keep fun b xs h => ?_) ?_
        · have e : b ≠ x := fun z => by
            subst z
            cases hx4.symm.trans h
          rw [upd_ne e]
          exact h
        · intro b o e h
          rw [upd_ne e]
          exact s4 _ _ (by rw [upd_ne e]; exact S2 _ _ h)
/-! ### the first item that cannot stand -/
def fbA (f : Nat → Bool) : Nat → Nat → Option Nat
  | _, 0 => none
  | i, k + 1 => if f i = true then some i else fbA f (i + 1) k
theorem fbA_some {f : Nat → Bool} {j : Nat} : ∀ (k i : Nat), (∀ m, i ≤ m → m < j → f m = false) → f j = true → i ≤ j → j < i + k → fbA f i k = some j
  | 0, i, _, _, h1, h2 => by omega
  | k + 1, i, h, hj, h1, h2 => by
    unfold fbA
    by_cases e : i = j
    · subst e
      rw [if_pos hj]
    · rw [if_neg (by rw [h i (Nat.le_refl _) (by omega)]; simp)]
      exact fbA_some k (i + 1) (fun m h3 h4 => h m (by omega) h4) hj (by omega) (by omega)
theorem fbA_none {f : Nat → Bool} : ∀ (k i : Nat), (∀ m, i ≤ m → m < i + k → f m = false) → fbA f i k = none
  | 0, _, _ => rfl
  | k + 1, i, h => by
    unfold fbA
    rw [if_neg (by rw [h i (Nat.le_refl _) (by omega)]; simp)]
    exact fbA_none k (i + 1) fun m h3 h4 => h m (by omega) (by omega)
def nOf (s : Str) : Nat := (MN.valL (TL.tl s)).toNat
def endOk (n : Nat) (x : Str) : Bool := wiB x (.int 0) (.int ((n : Int) - 1))
def wbad (ws : List Str) (n at_ : Nat) : Bool := decide (at_ = 26) || !(match ws[at_]? with | some x => endOk n x | none => false)
def wstop : List Str → Option Nat
  | [] => some 0
  | s :: r => if wiB s (.int 1) (.int 13) = false then some 0 else match r with
    | [] => some 1
    | z :: rest => if z ≠ ":" then some 1 else match fbA (wbad (s :: z :: rest) (nOf s)) 2 rest.length with
      | some k => some k
      | none => if (rest.length + 2) % 2 = 1 then some (rest.length + 2) else none
theorem wstop_a {z : Str} {r : List Str} (b : wiB z (.int 1) (.int 13) = false) : wstop (z :: r) = some 0 := by
  cases r <;> rw [wstop, if_pos b]
theorem wstop_b {z : Str} (b : ¬ wiB z (.int 1) (.int 13) = false) : wstop [z] = some 1 := by rw [wstop, if_neg b]
theorem wstop_c {z y : Str} {r : List Str} (b : ¬ wiB z (.int 1) (.int 13) = false) (c : y ≠ ":") : wstop (z :: y :: r) = some 1 := by
  rw [wstop, if_neg b]
  show (if y ≠ ":" then _ else _) = _
  rw [if_pos c]
theorem wstop_d {z : Str} {r : List Str} (b : ¬ wiB z (.int 1) (.int 13) = false) : wstop (z :: ":" :: r) = match fbA (wbad (z :: ":" :: r) (nOf z)) 2 r.length with
      | some k => some k
      | none => if (r.length + 2) % 2 = 1 then some (r.length + 2) else none := by
  rw [wstop, if_neg b]
  show (if (":" : Str) ≠ ":" then _ else _) = _
  rw [if_neg (fun q => q rfl)]
def endsOf (ws : List Str) : List Nat := (ws.drop 2).map nOf
/-- an item within bounds tells a number -/
theorem wiB_num {x : Str} {lo hi : Int} (h : wiB x (.int lo) (.int hi) = true) : ∃ z : Int, MN.numV x = .int z ∧ MN.valL (TL.tl x) = z ∧ lo ≤ z ∧ z ≤ hi ∧ MN.okL (TL.tl x) = true := by
  unfold wiB at h
  unfold MN.numV MN.num at *
  by_cases ok : MN.okL (TL.tl x) = true
  · rw [if_pos ok] at h ⊢
    simp only [isI, inLo, inHi, Bool.true_and, Bool.and_eq_true, decide_eq_true_eq] at h
    exact ⟨_, rfl, rfl, h.1, h.2, ok⟩
  · rw [if_neg ok] at h
    simp [isI] at h
theorem wiB_nat {x : Str} {lo hi : Int} (h0 : 0 ≤ lo) (h : wiB x (.int lo) (.int hi) = true) : MN.numV x = .int ((nOf x : Nat) : Int) ∧ lo ≤ (nOf x : Int) ∧ (nOf x : Int) ≤ hi ∧ MN.okL (TL.tl x) = true := by
  obtain ⟨z, e1, e2, h1, h2, ok⟩ := wiB_num h
  unfold nOf
  rw [e2, show ((z.toNat : Nat) : Int) = z by omega]
  exact ⟨e1, h1, h2, ok⟩
theorem endOk_nat {x : Str} {n : Nat} (h : endOk n x = true) : MN.numV x = .int ((nOf x : Nat) : Int) ∧ nOf x < n ∧ MN.okL (TL.tl x) = true := by
  obtain ⟨h1, h2, h3, h4⟩ := wiB_nat (by decide) h
  exact ⟨h1, by omega, h4⟩
theorem fl_of : ∀ (l : List Nat), l.length % 2 = 0 → ∃ ps : MC.Pr, l = fl ps
  | [], _ => ⟨[], rfl⟩
  | [a], h => by simp at h
  | a :: b :: r, h => by
    obtain ⟨ps, e⟩ := fl_of r (by simp at h; omega)
    exact ⟨(a, b) :: ps, by rw [e]; rfl⟩
theorem fl_below {n : Nat} {ps : MC.Pr} (h : ∀ x ∈ fl ps, x < n) : MC.Below n ps := fun p hp =>
  ⟨h p.1 (List.mem_flatMap.mpr ⟨p, hp, List.mem_cons_self⟩), h p.2 (List.mem_flatMap.mpr ⟨p, hp, List.mem_cons_of_mem _ List.mem_cons_self⟩)⟩
theorem join_len {ws : List Str} (hl : ws.length ≤ 200) (h : ∀ x ∈ ws, Wo x) : (Txt.join " " ws).length + 2 ≤ sizeLine := by
  have e : (Txt.join " " ws).length = (TL.joinL (TL.tl " ") (ws.map TL.tl)).length := by
    rw [TL.join_eq, TL.len_tl, TL.tl_join]
  have b := joinL_leS (S := TL.tl " ") (m := 5000) (ws.map TL.tl) fun p hp => by
    obtain ⟨x, hx, rfl⟩ := List.mem_map.mp hp
    have := (h x hx).2
    rw [TL.len_tl] at this
    exact this
  have s1 : (TL.tl " ").length = 1 := by decide +kernel
  rw [s1, List.length_map] at b
  have : ws.length * (5000 + 1) ≤ 200 * 5001 := Nat.mul_le_mul hl (Nat.le_refl _)
  have : (2000000 : Nat) ≤ sizeLine := by decide
  omega
/-- what reading ends in -/
def RdEnd (A : Ad) (E : XK) (H : Hp) (Q : VK) (ws : List Str) : Prop := match wstop ws with
  | some k => OutT A E H (.int (k : Nat))
  | none => ∀ ps : MC.Pr, endsOf ws = fl ps → (hang (nOf (ws.headD "")) ps = true → ∀ y H', Same H H' → WebAt H' y A.c_Web (nOf (ws.headD "")) ps → Q (.ref y) H') ∧ (hang (nOf (ws.headD "")) ps = false → OutT A E H (.int ((ws.length : Nat) - 1 : Int)))
/-- a text that is read, or not -/
def sp_read (A : Ad) : Sp := fun vs H Q E => ∃ v : V, vs = [v] ∧
  ((NoStr A H v ∧ OutT A E H (.int 0)) ∨
   ∃ ws : List Str, v = .str (Txt.join " " ws) ∧ ws ≠ [] ∧ (∀ x ∈ ws, Wo x) ∧ ws.length ≤ 200 ∧ RdEnd A E H Q ws)
theorem G_Web_read (T : Txt P K mg A) : FnG P w K mg base (L2.CX P w) 7 A.a_Web_read A.d_Web_read P_Web_read (sp_read A) := by
  refine okGX T.F_Web_read sc_Web_read (fun vs H Q E h => ?_) (fun cdv A0 outer s H vs Q E hr h => ?_)
  · obtain ⟨v, rfl, _⟩ := h
    rfl
  obtain ⟨v, rfl, h⟩ := h
  refine ⟨_, (pss_cons (ps_set (i := 1) sc_Web_read.nd rfl (Or.inr rfl) (pe_callG (E := E) (G_items_of T) (hr.mono (by decide)) rfl T.g_items_of T.F_items_of.kp T.b_items_of .nil (passes_call (takes_of rfl rfl rfl rfl) (fun _ _ _ _ h => h)) (pa_cons (pv 0) pa_nil)))
      (pss_cons (ps_set (i := 2) sc_Web_read.nd rfl (Or.inr rfl) (pe_callG (E := E) (G_number_at T) (hr.mono (by decide)) rfl T.g_number_at T.F_number_at.kp T.b_number_at .nil (passes_call (takes_of rfl rfl rfl rfl) (fun _ _ _ _ h => h)) (pa_cons (pv 1) (pa_cons pe_int (pa_cons pe_int (pa_cons (pe_glob (v := .int 13) rfl T.m_MOST_PLACES ⟨_, rfl⟩) pa_nil))))))
      (pss_cons (ps_expr (pe_callG (E := E) (G_read_colon T) (hr.mono (by decide)) rfl T.g_read_colon T.F_read_colon.kp T.b_read_colon .nil (passes_call (takes_of rfl rfl rfl rfl) (fun _ _ _ _ h => h)) (pa_cons (pv 1) (pa_cons pe_int pa_nil))))
      (pss_cons (ps_set (i := 3) sc_Web_read.nd rfl (Or.inl rfl) (pe_op op_add pe_int (pe_op op_mul pe_int (pe_glob (v := .int 12) rfl T.m_MOST_TIES ⟨_, rfl⟩))))
      (pss_cons (ps_setLcR (E := E) (i := 4) (own := [("index", 5)]) (g := gName 5) (tt := tYes) (by rfl) sc_Web_read.nd rfl rfl (sw_true rfl rfl rfl (by decide +kernel)) (pi_range2 (by rfl) T.n_range (pa_cons pe_int (pa_cons (pe_callB (call_min2 rfl) (by rfl) T.n_min (by decide +kernel) (pa_cons (pe_callB call_len_seq (by rfl) T.n_len (by decide +kernel) (pa_cons (pv 1) pa_nil)) (pa_cons (pv 3) pa_nil))) pa_nil))) (blkOk_by (N := N_Web_read) (sc := defScope s_Web_read) (by decide +kernel)) rfl rfl (takes_of rfl rfl rfl rfl) (fun _ _ _ _ _ => (pg_name (i := 5) sc_Web_read.nd rfl (Or.inl rfl))) (fun _ _ _ _ _ => pts_nil) (fun _ _ _ _ _ _ px => (pe_callG (E := E) (G_number_at T) (hr.mono (by decide)) rfl T.g_number_at T.F_number_at.kp T.b_number_at .nil px (pa_cons (pv 1) (pa_cons (pv 5) (pa_cons pe_int (pa_cons (pe_op op_sub (pv 2) pe_int) pa_nil)))))))
      (pss_cons (ps_expr (pe_callG (E := E) (G_read_end T) (hr.mono (by decide)) rfl T.g_read_end T.F_read_end.kp T.b_read_end .nil (passes_call (takes_of rfl rfl rfl rfl) (fun _ _ _ _ h => h)) (pa_cons (pv 1) (pa_cons (pv 3) pa_nil))))
      (pss_cons (ps_if (pt_truth (pe_op op_and (pe_callB call_len_seq (by rfl) T.n_len (by decide +kernel) (pa_cons (pv 4) pa_nil)) pe_int) (by intro _; rfl)) (pss_one (ps_raise rfl (takes_of rfl rfl rfl rfl) (pmk_G T.X_BadText.oex T.X_BadText.iC T.X_BadText.tI (G_init_BadText T) (hr.mono (by decide)) rfl T.X_BadText.gC T.b_init_BadText pass0 (pa_cons pe_int (pa_cons (pe_callB call_len_seq (by rfl) T.n_len (by decide +kernel) (pa_cons (pv 1) pa_nil)) pa_nil))))) pss_nil)
      (pss_one (L2H.ps_try_onlyX (c := .ref A.c_BadWeb) (Wout := fun cls d _ H => E cls d H) (tb := fun W => tRet (tMkGS A.c_Web (sp_webi K A.c_Web A.c_BadWeb) (WE W) (tCons (tVar 2) (tCons (tLZip K (tCons (tStp K (tVar 4) tNoPart) (tCons (tStp K (tVar 4) (tPart (tC (.int 1)))) tNil))) tNil)))) (ts := fun a cls d D σ H => tMkO A.c_BadText (sp2 K "line" "item") [] (tCons (tC (.int 0)) (tCons (tOp (rI0 fun i j => V.int (i - j)) (tCB (rLenQ K) (tCons (tVar 1) tNil)) (tC (.int 1))) tNil)) σ H fun cls d H' => E cls d H') rfl rfl ⟨rfl, by decide, .inl T.X_BadWeb.gC⟩ (fun hd => L2H.passesAt_of rfl hd) (takes_of rfl rfl rfl rfl) (fun W pn xe tkN tk _ => (pss_one (ps_ret (pe_mkGS (ES := WE W) T.M_Web (GN_Web___init__ T) (hr.mono (by decide)) rfl T.g_Web T.b_Web___init__ (fun σ => L2N.passAt tkN σ) (pa_cons (pv 2) (pa_cons (pe_lzip rfl (by rfl) T.n_list (by rfl) T.n_zip (pa_cons (pe_stp (pv 4) po_none) (pa_cons (pe_stp (pv 4) (po_some pe_int)) pa_nil))) pa_nil)))))) (fun a oe cls d pn zn hv tk hot => (pss_one (L2H.ps_raiseHN hot tk (L2H.pmk5_oexH T.X_BadText.oex T.X_BadText.iC T.X_BadText.tI (H_init_BadText T) ((hr.mono (by decide)).hot _) hot T.b_init_BadText pass0 rfl T.X_BadText.gC (pa_cons pe_int (pa_cons (pe_op op_sub (pe_callB call_len_seq (by rfl) T.n_len (by decide +kernel) (pa_cons (pv 1) pa_nil)) pe_int) pa_nil))))))))))))))), ?_⟩
  rcases h with ⟨ok, k⟩ | ⟨ws, rfl, ne, wo, lw, h⟩
  · exact ⟨_, rfl, _, rfl, .inl ⟨ok, k⟩⟩
  refine ⟨_, rfl, _, rfl, .inr ⟨ws, rfl, ne, fun p hp => (wo p hp).1, join_len lw wo, fun q1 H1 s1 hq1 => ?_⟩⟩
  have its : ITS H1 q1 ws := ⟨hq1, by omega, wo⟩
  obtain ⟨z0, r, rfl⟩ := List.exists_cons_of_ne_nil ne
  refine ⟨_, rfl, q1, _, 0, .int 1, .int 13, rfl, its, trivial, trivial, (fun c => by simp at c), fun x hx => ?_⟩
  obtain rfl : z0 = x := Option.some.inj hx
  refine ⟨fun ok => ?_, fun bad => ?_⟩
  rotate_left
  · have e : wstop (z0 :: r) = some 0 := wstop_a bad
    unfold RdEnd at h
    rw [e] at h
    exact OutT.on h s1
  obtain ⟨nv0, n1, n13, okn⟩ := wiB_nat (by decide) ok
  have hn0 : ¬ wiB z0 (.int 1) (.int 13) = false := by rw [ok]; simp
  rw [nv0]
  generalize hn : nOf z0 = n at nv0 n1 n13
  refine ⟨_, rfl, q1, _, 1, rfl, its, fun c => ?_, fun x hx => ?_⟩
  · cases r with
    | cons z r => simp at c
    | nil =>
      have e : wstop [z0] = some 1 := wstop_b hn0
      unfold RdEnd at h
      rw [e] at h
      exact OutT.on h s1
  obtain ⟨z1, rest, rfl⟩ : ∃ z1 rest, r = z1 :: rest := by
    cases r with
    | nil => simp at hx
    | cons a b => exact ⟨a, b, rfl⟩
  obtain rfl : z1 = x := Option.some.inj hx
  refine ⟨fun colon => ?_, fun nc => ?_⟩
  rotate_left
  · have e : wstop (z0 :: z1 :: rest) = some 1 := wstop_c hn0 nc
    unfold RdEnd at h
    rw [e] at h
    exact OutT.on h s1
  subst colon
  have e0 : wstop (z0 :: ":" :: rest) = match fbA (wbad (z0 :: ":" :: rest) n) 2 rest.length with
      | some k => some k
      | none => if (rest.length + 2) % 2 = 1 then some (rest.length + 2) else none := by
    rw [← hn]
    exact wstop_d hn0
  have lw2 : (z0 :: ":" :: rest).length = 2 + rest.length := by simp; omega
  have at2 : ∀ i, (z0 :: ":" :: rest)[2 + i]? = rest[i]? := fun i => by
    rw [show 2 + i = i + 1 + 1 by omega]
    rfl
  refine ⟨_, _, rfl, rfl, .inl ⟨by decide, by decide⟩, _, _, rfl, rfl, ?_⟩
  refine ⟨_, rfl, q1, _, rfl, .inl (SqL.of hq1), _, rfl, _, _, rfl, _, _, rfl, ?_⟩
  have lws : ((z0 :: ":" :: rest).map V.str).length = 2 + rest.length := by
    rw [List.length_map]
    exact lw2
  have eM : (if (2 + 2 * 12 : Int) < ((((z0 :: ":" :: rest).map V.str).length : Nat) : Int) then (2 + 2 * 12 : Int) else ((((z0 :: ":" :: rest).map V.str).length : Nat) : Int)) = ((2 + min rest.length 24 : Nat) : Int) := by
    rw [lws]
    split <;> omega
  rw [eM]
  have eN : (((2 + min rest.length 24 : Nat) : Int) - 2).toNat = min rest.length 24 := by omega
  rw [eN]
  refine ⟨⟨by omega, by omega, by omega, by omega⟩, fun D hD => ?_⟩
  refine lc_range (lo := 2) (n := min rest.length 24) (fun i H' => Same H1 H' ∧ (∀ m, m < i → ∃ x, rest[m]? = some x ∧ endOk n x = true) ∧ H' D = some (.lst (nv ((rest.take i).map nOf)))) ⟨Same.new (fun _ _ h => h) hD, (fun m hm => by omega), upd_same⟩ ?_ ?_
  · rintro i H' hi ⟨s2, il, hD2⟩
    have e2 : (2 : Int) + (i : Int) = ((2 + i : Nat) : Int) := by omega
    rw [e2]
    have his : i < rest.length := by omega
    have hx := List.getElem?_eq_getElem his
    generalize rest[i] = x at hx
    have its2 := its.keep s2
    refine ⟨rfl, tYes_of (iteT ⟨_, rfl, _, rfl, _, rfl, _, _, rfl, rfl, q1, _, 2 + i, .int 0, .int ((n : Int) - 1), rfl, its2, trivial, trivial, (fun c => by rw [lw2] at c; omega), fun y hy => ?_⟩)⟩
    rw [at2, hx] at hy
    obtain rfl := Option.some.inj hy
    refine ⟨fun okx => ?_, fun badx => ?_⟩
    · obtain ⟨v1, v2, v3⟩ := endOk_nat okx
      rw [v1]
      refine ⟨_, hD2, ?_, ?_, ?_, ?_⟩
      · rw [List.length_map, List.length_map, List.length_take]
        exact small1000 (by omega)
      · intro b o hb
        rw [upd_ne (ne_of_none hb hD)]
        exact s2 _ _ hb
      · intro m hm
        by_cases c : m < i
        · exact il m c
        · obtain rfl : m = i := by omega
          exact ⟨_, hx, okx⟩
      · rw [upd_same, List.take_succ, hx]
        simp
    · have ef : fbA (wbad (z0 :: ":" :: rest) n) 2 rest.length = some (2 + i) := fbA_some _ _ (fun m h2 hm => by
          obtain ⟨y, hy, oky⟩ := il (m - 2) (by omega)
          have := at2 (m - 2)
          rw [show 2 + (m - 2) = m by omega, hy] at this
          unfold wbad
          rw [this, decide_eq_false (by omega)]
          simp [oky]) (by
          unfold wbad
          rw [at2, hx]
          have badx : endOk n x = false := badx
          simp [badx]) (by omega) (by omega)
      unfold RdEnd at h
      rw [e0, ef] at h
      exact OutT.on h (s1.trans s2)
  · rintro H2 ⟨s2, il, hD2⟩
    have S2 := s1.trans s2
    have its2 := its.keep s2
    refine ⟨_, rfl, _, rfl, q1, _, 26, rfl, its2, fun le => ?_, fun gt => ?_⟩
    rotate_left
    · have ef : fbA (wbad (z0 :: ":" :: rest) n) 2 rest.length = some 26 := fbA_some _ _ (fun m h2 hm => by
          obtain ⟨y, hy, oky⟩ := il (m - 2) (by omega)
          have := at2 (m - 2)
          rw [show 2 + (m - 2) = m by omega, hy] at this
          unfold wbad
          rw [this, decide_eq_false (by omega)]
          simp [oky]) (by
          unfold wbad
          simp) (by omega) (by rw [lw2] at gt; omega)
      unfold RdEnd at h
      rw [e0, ef] at h
      exact OutT.on h S2
    rw [lw2] at le
    have em : min rest.length 24 = rest.length := by omega
    rw [em] at il hD2
    rw [List.take_of_length_le (Nat.le_refl _)] at hD2
    have ef : fbA (wbad (z0 :: ":" :: rest) n) 2 rest.length = none := fbA_none _ _ (fun m h2 hm => by
        obtain ⟨y, hy, oky⟩ := il (m - 2) (by omega)
        have := at2 (m - 2)
        rw [show 2 + (m - 2) = m by omega, hy] at this
        unfold wbad
        rw [this, decide_eq_false (by omega)]
        simp [oky])
    rw [ef] at e0
    have lns : (nv (rest.map nOf)).length = rest.length := by rw [List.length_map, List.length_map]
    have even : ∀ m, m ≤ 24 → Builtin.bitAnd ((m : Nat) : Int) 1 = ((m % 2 : Nat) : Int) := fun m hm => of_decide_eq_true (List.all_eq_true.mp (show (List.range 25).all (fun m => decide (Builtin.bitAnd ((m : Nat) : Int) 1 = ((m % 2 : Nat) : Int))) = true by decide +kernel) m (List.mem_range.mpr (by omega)))
    unfold RdEnd at h
    by_cases odd : rest.length % 2 = 1
    · rw [e0] at h
      simp only [show (rest.length + 2) % 2 = 1 by omega, if_true] at h
      refine ⟨_, rfl, D, _, rfl, .inl (SqL.of hD2), _, _, rfl, rfl, true, ?_, iteT ?_⟩
      · show true = (Builtin.bitAnd (((nv (rest.map nOf)).length : Nat) : Int) 1 != 0)
        rw [lns, even _ (by omega), odd]
        rfl
      · refine ⟨_, rfl, q1, _, rfl, .inl (SqL.of its2.1), by show 2 ≤ 1000; decide, raise2 T.X_BadText.oex (T.X_BadText.no _ List.mem_cons_self) (T.X_BadText.no _ (List.mem_cons_of_mem _ List.mem_cons_self)) ?_⟩
        rw [lws, show 2 + rest.length = rest.length + 2 by omega]
        exact OutT.on h S2
    · rw [e0] at h
      simp only [show ¬ (rest.length + 2) % 2 = 1 by omega, if_false] at h
      obtain ⟨ps, eps⟩ := fl_of (rest.map nOf) (by rw [List.length_map]; omega)
      have fll := fl_len ps
      rw [← eps, List.length_map] at fll
      obtain ⟨k1, k2⟩ := h ps eps
      rw [show (z0 :: ":" :: rest).headD "" = z0 from rfl, hn] at k1 k2
      have hb : MC.Below n ps := fl_below fun x hx => by
        rw [← eps] at hx
        obtain ⟨y, hy, rfl⟩ := List.mem_map.mp hx
        obtain ⟨m, hm, rfl⟩ := List.mem_iff_getElem.mp hy
        obtain ⟨u, hu, oku⟩ := il m hm
        rw [List.getElem?_eq_getElem hm] at hu
        rw [Option.some.inj hu]
        exact (endOk_nat oku).2.1
      rw [eps] at hD2 lns
      refine ⟨_, rfl, D, _, rfl, .inl (SqL.of hD2), _, _, rfl, rfl, false, ?_, iteF ?_⟩
      · show false = (Builtin.bitAnd (((nv (fl ps)).length : Nat) : Int) 1 != 0)
        rw [lns, even _ (by omega), show rest.length % 2 = 0 by omega]
        rfl
      · refine ⟨_, rfl, _, rfl, D, _, rfl, SqL.of hD2, fun p1 hp1 => ⟨_, rfl, D, _, rfl, _, rfl, SqL.of (at_new hD2 hp1), fun p2 hp2 => ?_⟩⟩
        rw [stp_even, stp_odd] at *
        have g1 : (upd (upd H2 p1 (.lst (nv (ps.map (·.1))))) p2 (.lst (nv (ps.map (·.2))))) p1 = some (.lst (nv (ps.map (·.1)))) := at_new upd_same hp2
        refine ⟨p1, p2, _, _, rfl, SqL.of g1, SqL.of upd_same, by rw [List.length_map, List.length_map, List.length_map, List.length_map], fun H3 p ts s3 hp hpr => ?_⟩
        rw [zip_prs] at hpr
        have S3 := S2.trans ((Same.new (Same.new (fun _ _ h => h) hp1) hp2).trans s3)
        have hl : ps.length ≤ 12 := by omega
        have n1 : 1 ≤ n := by omega
        have n13 : n ≤ 13 := by omega
        cases hh : hang n ps with
        | true => exact mk_web (m := n) (fun x => rfl) n1 n13 hl ⟨_, .inl hp, prs_of hpr⟩ hb hh fun y H' s4 hy => k1 hh y H' (S3.trans s4) hy
        | false =>
          refine mk_apart (m := n) (fun x => rfl) n1 n13 hl ⟨_, .inl hp, prs_of hpr⟩ hb hh fun d H' hd s4 => ?_
          refine ⟨true, exm_self T.X_BadWeb, fun _ b hb' => ?_, fun z => by cases z⟩
          refine ⟨_, rfl, q1, _, rfl, .inl (SqL.of (s4 _ _ (s3 _ _ (at_new (at_new its2.1 hp1) hp2)))), _, _, rfl, rfl, by show 2 ≤ 1000; decide, raise2 T.X_BadText.oex (T.X_BadText.no _ List.mem_cons_self) (T.X_BadText.no _ (List.mem_cons_of_mem _ List.mem_cons_self)) ?_⟩
          dsimp only
          rw [List.length_map]
          exact (k2 hh).on (S3.trans s4)
/-! ### tables of numbers -/
abbrev Mt := MB.Mt
/-- a list or a tuple of numbers -/
def RowI (H : Hp) (x : V) (r : List Int) : Prop := ∃ t, x = .ref t ∧ SqX H t (r.map V.int)
theorem RowI.same {H H' : Hp} {x : V} {r : List Int} (h : RowI H x r) (s : Same H H') : RowI H' x r := by
  obtain ⟨t, e, q⟩ := h
  exact ⟨t, e, q.same s⟩
/-- a list or a tuple of such -/
def MatA (H : Hp) (a : Addr) (M : Mt) : Prop := ∃ xs, SqX H a xs ∧ Paired (RowI H) xs M
theorem MatA.same {H H' : Hp} {a : Addr} {M : Mt} (h : MatA H a M) (s : Same H H') : MatA H' a M := by
  obtain ⟨xs, q, p⟩ := h
  exact ⟨xs, q.same s, paired_imp (fun _ _ z => z.same s) p⟩
theorem ixX {H : Hp} {a : Addr} {r : List Int} {i : Nat} {z : Int} {Q : VK} (h : SqX H a (r.map V.int)) (hz : r[i]? = some z) (k : Q (.int z) H) : rIx K (.ref a) (.int (i : Int)) H Q := by
  have e : atI (r.map V.int) (i : Int) = some (.int z) := atI_nat (by rw [List.getElem?_map, hz]; rfl)
  rcases h with h | h
  · exact .inl ⟨_, _, _, _, rfl, rfl, SqL.of h, e, k⟩
  · exact .inr (.inl ⟨_, _, _, _, rfl, rfl, SqT.of h, e, k⟩)
def Bt (b : Nat) (r : List Int) : Prop := ∀ z ∈ r, z.natAbs < 2 ^ b
theorem fdiv_abs {x b : Int} (h : 0 < b) : (x.fdiv b).natAbs ≤ x.natAbs := by
  rw [Int.fdiv_eq_ediv_of_nonneg x (by omega)]
  exact Int.natAbs_ediv_le_natAbs x b
theorem clr_len (b : Int) (top row : List Int) (h : row.length = top.length) : (MB.clr b top row).length = row.length - 1 := by
  unfold MB.clr
  rw [List.length_zipWith, List.length_tail, List.length_tail, h]
  omega
theorem clr_get {b : Int} {top row : List Int} {i : Nat} {t0 r0 t r : Int} (h1 : top[0]? = some t0) (h2 : row[0]? = some r0) (h3 : top[i + 1]? = some t) (h4 : row[i + 1]? = some r) : (MB.clr b top row)[i]? = some ((t0 * r - r0 * t).fdiv b) := by
  cases top with
  | nil => cases h1
  | cons a top =>
    cases row with
    | nil => cases h2
    | cons c row =>
      cases Option.some.inj h1
      cases Option.some.inj h2
      rw [MB.clr_c, List.getElem?_zipWith, show row[i]? = some r from h4, show top[i]? = some t from h3]
theorem clr_bt {a : Nat} {b : Int} {top row : List Int} (hb : 0 < b) (h1 : Bt a top) (h2 : Bt a row) (hl : row.length = top.length) (hne : row ≠ []) : Bt (2 * a + 1) (MB.clr b top row) := by
  intro z hz
  obtain ⟨i, hi, rfl⟩ := List.mem_iff_getElem.mp hz
  have hlen := clr_len b top row hl
  have p0 : 0 < row.length := List.length_pos_iff.mpr hne
  have g := clr_get (b := b) (List.getElem?_eq_getElem (show 0 < top.length by omega)) (List.getElem?_eq_getElem p0) (List.getElem?_eq_getElem (show i + 1 < top.length by omega)) (List.getElem?_eq_getElem (show i + 1 < row.length by omega))
  rw [List.getElem?_eq_getElem hi] at g
  rw [Option.some.inj g]
  have m1 := wide_lt (h1 _ (List.getElem_mem (show 0 < top.length by omega))) (h2 _ (List.getElem_mem (show i + 1 < row.length by omega)))
  have m2 := wide_lt (h2 _ (List.getElem_mem p0)) (h1 _ (List.getElem_mem (show i + 1 < top.length by omega)))
  refine Nat.lt_of_le_of_lt (fdiv_abs hb) ?_
  rw [show 2 * a + 1 = (a + a) + 1 by omega, Nat.pow_succ]
  omega
def sp_cleared : Sp := fun vs H Q _ => ∃ (a b : Addr) (row top : List Int) (before : Int), vs = [.ref a, .ref b, .int 0, .int before] ∧ SqX H a (row.map V.int) ∧ SqX H b (top.map V.int) ∧ row.length = top.length ∧ 1 ≤ row.length ∧ row.length ≤ 5 ∧ 0 < before ∧ before.natAbs < 2 ^ 8000 ∧ Bt 8000 top ∧ Bt 8000 row ∧
  ∀ q H', H q = none → Same H H' → H' q = some (.lst ((MB.clr before top row).map V.int)) → Q (.ref q) H'
theorem G_cleared (T : Txt P K mg A) : FnG P w K mg base CX0 1 A.a_cleared A.d_cleared P_cleared sp_cleared := by
  refine okG T.F_cleared sc_cleared (fun vs H Q E h => ?_) (fun cdv A0 outer s H vs Q E hr h => ?_)
  · obtain ⟨_, _, _, _, _, rfl, _⟩ := h
    rfl
  obtain ⟨a, b, row, top, before, rfl, ha, hb, hl, l1, l5, b0, bb, bt, br, k⟩ := h
  refine ⟨_, (pss_one (ps_ret (pe_lc (own := [("at", 4)]) (g := gName 4) rfl sc_cleared.nd (pi_range1 (by rfl) T.n_range (pa_cons (pe_callB call_len_seq (by rfl) T.n_len (by decide +kernel) (pa_cons (pv 0) pa_nil)) pa_nil)) (blkOk_by (N := N_cleared) (sc := defScope s_cleared) (by decide +kernel)) (fun _ _ _ _ _ => (pg_name (i := 4) sc_cleared.nd rfl (Or.inl rfl))) (fun _ _ _ _ _ => pts_one (pt_cmpR op_ne (pv 4) (pv 2) (nomark _))) (fun _ _ _ _ _ => (pe_op op_fdivW (pe_op op_sub (pe_op op_mulW (pe_ix (r := rIx K) ix_seq (pv 1) (pv 2) (fun _ _ => rfl)) (pe_ix (r := rIx K) ix_seq (pv 0) (pv 4) (fun _ _ => rfl))) (pe_op op_mulW (pe_ix (r := rIx K) ix_seq (pv 0) (pv 2) (fun _ _ => rfl)) (pe_ix (r := rIx K) ix_seq (pv 1) (pv 4) (fun _ _ => rfl)))) (pv 3)))))), ?_⟩
  obtain ⟨oa, hoa⟩ := ha.has
  refine ⟨_, rfl, a, _, rfl, ha.sq, ?_⟩
  refine ⟨_, rfl, ?_⟩
  have el : (row.map V.int).length = row.length := List.length_map ..
  rw [el]
  refine ⟨by omega, by omega, fun D hD => ?_⟩
  have h0 : 0 < row.length := l1
  have t0 : 0 < top.length := by omega
  refine lc_range (lo := 0) (n := row.length) (fun i H' => Same H H' ∧ H' D = some (.lst (((MB.clr before top row).take (i - 1)).map V.int))) ⟨Same.new (fun _ _ h => h) hD, by simpa using (upd_same (H := H) (a := D))⟩ ?_ ?_
  · rintro i H' hi ⟨s2, hD2⟩
    rw [show (0 : Int) + (i : Int) = (i : Int) by omega]
    refine ⟨rfl, _, rfl, _, rfl, rfl, _, rfl, ?_⟩
    cases i with
    | zero =>
      exact iteF ⟨s2, hD2⟩
    | succ i =>
      rw [decide_eq_false (show ¬ V.int ((i + 1 : Nat) : Int) = V.int 0 from fun z => by have := V.int.inj z; omega)]
      have hi1 : i + 1 < top.length := by omega
      have zt0 := List.getElem?_eq_getElem t0
      have zr0 := List.getElem?_eq_getElem h0
      have zt := List.getElem?_eq_getElem hi1
      have zr := List.getElem?_eq_getElem hi
      have cg := clr_get (b := before) zt0 zr0 zt zr
      have b1 := bt _ (List.getElem_mem t0)
      have b2 := br _ (List.getElem_mem hi)
      have b3 := br _ (List.getElem_mem h0)
      have b4 := bt _ (List.getElem_mem hi1)
      generalize top[0] = u0 at *
      generalize row[0] = r0 at *
      generalize top[i + 1] = u1 at *
      generalize row[i + 1] = r1 at *
      have ha2 := ha.same s2
      have hb2 := hb.same s2
      refine iteT ?_
      refine ⟨_, rfl, _, rfl, ixX hb2 zt0 ⟨_, rfl, _, rfl, ixX ha2 zr ⟨_, _, rfl, rfl, wide_mul b1 b2 (by decide) (by decide) (by decide), ?_⟩⟩⟩
      refine ⟨_, rfl, _, rfl, ixX ha2 zr0 ⟨_, rfl, _, rfl, ixX hb2 zt ⟨_, _, rfl, rfl, wide_mul b3 b4 (by decide) (by decide) (by decide), ?_⟩⟩⟩
      refine ⟨_, _, rfl, rfl, _, rfl, _, _, rfl, rfl, wide_div b0 bb (by decide) (by decide), ?_⟩
      refine ⟨_, hD2, ?_, ?_, ?_⟩
      · rw [List.length_map, List.length_take]
        exact small1000 (by omega)
      · intro c o hc
        rw [upd_ne (ne_of_none hc hD)]
        exact s2 _ _ hc
      · rw [upd_same, show i + 1 + 1 - 1 = i + 1 by omega, show i + 1 - 1 = i by omega, List.take_succ, cg, Int.fdiv_eq_ediv_of_nonneg _ (by omega)]
        simp
  · rintro H2 ⟨s2, hD2⟩
    rw [List.take_of_length_le (by rw [clr_len _ _ _ hl]; exact Nat.le_refl _)] at hD2
    exact k _ _ hD s2 hD2
/-! ### the determinants of the first rows and columns -/
def bits (k : Nat) : Nat := match k with | 0 => 210 | k + 1 => 2 * bits k + 1
def Sq (n : Nat) (M : Mt) : Prop := M.length = n ∧ ∀ r ∈ M, r.length = n
def sp_corners : Sp := fun vs H Q _ => ∃ (a : Addr) (M : Mt) (n : Nat), vs = [.ref a] ∧ MatA H a M ∧ 1 ≤ n ∧ n ≤ 5 ∧ Sq n M ∧ (∀ r ∈ M, Bt 210 r) ∧ ∀ q H', Same H H' → H' q = some (.lst ((MB.corners 5 M 1).map V.int)) → Q (.ref q) H'
theorem G_corners_of (T : Txt P K mg A) : FnG P w K mg base CX0 2 A.a_corners_of A.d_corners_of P_corners_of sp_corners := by
  refine okG T.F_corners_of sc_corners_of (fun vs H Q E h => ?_) (fun cdv A0 outer s H vs Q E hr h => ?_)
  · obtain ⟨_, _, _, rfl, _⟩ := h
    rfl
  obtain ⟨a, M, n, rfl, ha, n1, n5, sq, bt, k⟩ := h
  refine ⟨_, (pss_cons (ps_asg (pe_tup (pa_cons (pe_lst pa_nil) (pa_cons (pv 0) (pa_cons pe_int pa_nil)))) (pg_tup rfl (pgs_cons (pg_name (i := 1) sc_corners_of.nd rfl (Or.inl rfl)) (pgs_cons (pg_name (i := 2) sc_corners_of.nd rfl (Or.inl rfl)) (pgs_cons (pg_name (i := 3) sc_corners_of.nd rfl (Or.inr rfl)) pgs_nil)))))
      (pss_cons (ps_while PassesOwn.never (pt_truth (pv 2) (by intro _; rfl)) (pss_cons (ps_asg (pv 2) (pg_star rfl (pg_name (i := 4) sc_corners_of.nd rfl (Or.inr rfl)) (pg_name (i := 5) sc_corners_of.nd rfl (Or.inl rfl))))
      (pss_cons (ps_expr (pe_bm PySem.F.plainAttrs_list PySem.F.slot_list_append PySem.F.type_list_append mt_append (pv 1) (pa_cons (pe_ix (r := rIx K) ix_seq (pv 4) pe_int (fun _ _ => rfl)) pa_nil)))
      (pss_cons (ps_if (pt_cmpR op_le (pe_ix (r := rIx K) ix_seq (pv 4) pe_int (fun _ _ => rfl)) pe_int (nomark _)) (pss_one (ps_ret (pv 1))) pss_nil)
      (pss_one (ps_asg (pe_tup (pa_cons (pe_lc (own := [("row", 6)]) (g := gName 6) (tt := tYes) rfl sc_corners_of.nd (pi_list (pv 5)) (blkOk_by (N := N_corners_of) (sc := defScope s_corners_of) (by decide +kernel)) (fun _ _ _ _ _ => (pg_name (i := 6) sc_corners_of.nd rfl (Or.inl rfl))) (fun _ _ _ _ _ => pts_nil) (fun _ _ _ _ _ => (pe_callG (G_cleared T) (hr.mono (by decide)) rfl T.g_cleared T.F_cleared.kp T.b_cleared .nil pass0 (pa_cons (pv 6) (pa_cons (pv 4) (pa_cons pe_int (pa_cons (pv 3) pa_nil))))))) (pa_cons (pe_ix (r := rIx K) ix_seq (pv 4) pe_int (fun _ _ => rfl)) pa_nil))) (pg_tup rfl (pgs_cons (pg_name (i := 2) sc_corners_of.nd rfl (Or.inl rfl)) (pgs_cons (pg_name (i := 3) sc_corners_of.nd rfl (Or.inr rfl)) pgs_nil)))))))))
      (pss_one (ps_ret (pv 1))))), ?_⟩
  refine ⟨by show 0 ≤ sizeLine; decide, fun f hf => ?_⟩
  have s0 : Same H (upd H f (.lst [])) := Same.new (fun _ _ h => h) hf
  refine ⟨_, rfl, by show 3 ≤ sizeLine; decide, fun q0 hq0 => ?_⟩
  have sA : Same (upd H f (.lst [])) (upd (upd H f (.lst [])) q0 (.tup [.ref f, .ref a, .int 1])) := Same.new (fun _ _ h => h) hq0
  have s1 := s0.trans sA
  refine ⟨q0, _, rfl, SqT.of upd_same, rfl, ?_⟩
  have hf1 := sA _ _ (upd_same (H := H) (a := f) (o := .lst []))
  have fq : f ≠ q0 := ne_of_none (upd_same (H := H) (a := f)) hq0
  have ma : MatA (del (upd (upd H f (.lst [])) q0 (.tup [.ref f, .ref a, .int 1])) f) a M := ha.same fun b o hb => by
    have e : b ≠ f := ne_of_none hb hf
    rw [del_ne e]
    exact s1 _ _ hb
  generalize upd (upd H f (.lst [])) q0 (.tup [.ref f, .ref a, .int 1]) = H1 at s1 hf1 ma
  refine ⟨_, _, rfl, _, _, rfl, _, _, rfl, rfl, ?_⟩
  dsimp only
  refine while_by (fun σ H' => ∃ (v4 v5 v6 : Option V) (kk : Nat) (Mk : Mt) (fnd : List Int) (b : Int) (aL : Addr), σ = [some (.ref a), some (.ref f), some (.ref aL), some (.int b), v4, v5, v6] ∧ Same H H' ∧ H' f = some (.lst (fnd.map V.int)) ∧ fnd.length = kk ∧ kk + Mk.length = n ∧
      MatA (del H' f) aL Mk ∧ Sq Mk.length Mk ∧ (∀ r ∈ Mk, Bt (bits kk) r) ∧ 0 < b ∧ b.natAbs < 2 ^ bits kk ∧ MB.corners 5 M 1 = fnd ++ MB.corners (5 - kk) Mk b)
    (fun _ H' => match H' f with | some (.lst l) => 10 - l.length | _ => 0)
    ⟨none, none, none, 0, M, [], 1, a, rfl, s1, hf1, rfl, by rw [sq.1]; omega, ma, ⟨rfl, by rw [sq.1]; exact sq.2⟩, bt, by decide, by decide, rfl⟩ ?_ ?_
  · rintro σ H2 ⟨v4, v5, v6, kk, Mk, fnd, b, aL, rfl, s2, hf2, hl2, hn2, ⟨xs, hx, hp⟩, sq2, bt2, b0, bb, ec⟩
    have dl : Same (del H2 f) H2 := fun c o hc => by
      by_cases e : c = f
      · rw [e, del_same] at hc
        cases hc
      · rw [del_ne e] at hc
        exact hc
    have hxl := Paired.length hp
    refine ⟨_, rfl, !xs.isEmpty, ?_, ?_⟩
    · rcases hx.same dl with h | h
      · exact .inl ⟨_, SqL.of h, rfl⟩
      · exact .inr (.inl ⟨_, SqT.of h, rfl⟩)
    cases hp with
    | nil =>
      refine iteF ?_
      refine ⟨_, rfl, k _ _ s2 ?_⟩
      rw [hf2, ec]
      have : MB.corners (5 - kk) [] b = [] := by
        cases 5 - kk <;> rfl
      rw [this, List.append_nil]
    | cons hr pr =>
      rename_i x0 r0 xr Mr
      refine iteT ?_
      have hrX : SqA K H2 aL (x0 :: xr) := (hx.same dl).sq
      obtain ⟨t0, rfl, ht0⟩ := hr
      have ht0' := ht0.same dl
      have l0 : r0.length = (r0 :: Mr).length := sq2.2 _ List.mem_cons_self
      obtain ⟨c0, rr, rfl⟩ : ∃ c0 rr, r0 = c0 :: rr := by
        cases r0 with
        | nil => simp at l0
        | cons c0 rr => exact ⟨c0, rr, rfl⟩
      refine ⟨_, rfl, aL, _, xr, rfl, hrX, fun D hD => ?_⟩
      have fD : f ≠ D := ne_of_none hf2 hD
      have sD : Same H2 (upd H2 D (.lst xr)) := Same.new (fun _ _ h => h) hD
      have hf3 := sD _ _ hf2
      have s3 := s2.trans sD
      have ht3 := ht0'.same sD
      have t0f : t0 ≠ f := fun e => by
        rw [e] at ht0
        rcases ht0 with h | h <;> (rw [del_same] at h; cases h)
      have pr3 : Paired (RowI (del (upd H2 D (.lst xr)) f)) xr Mr := paired_imp (fun _ _ z => z.same fun c o hc => by
        have e : c ≠ f := fun e => by rw [e, del_same] at hc; cases hc
        rw [del_ne e] at hc ⊢
        exact sD _ _ hc) pr
      have hD3 : del (upd H2 D (.lst xr)) f D = some (.lst xr) := by
        rw [del_ne (Ne.symm fD)]
        exact upd_same
      generalize upd H2 D (.lst xr) = H3 at sD hf3 s3 ht3 pr3 hD3
      show tSeq _ _ _ _ _
      refine ⟨_, rfl, .inl ⟨rfl, _, SqL.of hf3⟩, _, rfl, ixX (i := 0) ht3 rfl ⟨f, _, _, rfl, rfl, hf3, ?_, ?_⟩⟩
      · rw [List.length_map]
        exact small1000 (by omega)
      show tSeq _ _ _ _ _
      have e4 : upd H3 f (.lst (fnd.map V.int ++ [.int c0])) f = some (.lst ((fnd ++ [c0]).map V.int)) := by rw [upd_same, List.map_append]; rfl
      have k4 : Kp f H3 (upd H3 f (.lst (fnd.map V.int ++ [.int c0]))) := fun c o n h => by rw [upd_ne n]; exact h
      have d4 : ∀ c, del (upd H3 f (.lst (fnd.map V.int ++ [.int c0]))) f c = del H3 f c := fun c => by
        by_cases e : c = f
        · rw [e, del_same, del_same]
        · rw [del_ne e, del_ne e, upd_ne e]
      have s4 : Same H (upd H3 f (.lst (fnd.map V.int ++ [.int c0]))) := fun c o h => k4 c o (ne_of_none h hf) (s3 c o h)
      have ht4 : SqX (upd H3 f (.lst (fnd.map V.int ++ [.int c0]))) t0 ((c0 :: rr).map V.int) := by
        rcases ht3 with h | h
        · exact .inl (k4 _ _ t0f h)
        · exact .inr (k4 _ _ t0f h)
      have pr4 : Paired (RowI (del (upd H3 f (.lst (fnd.map V.int ++ [.int c0]))) f)) xr Mr := paired_imp (fun _ _ z => z.same fun c o h => by rw [d4]; exact h) pr3
      have hD4 : del (upd H3 f (.lst (fnd.map V.int ++ [.int c0]))) f D = some (.lst xr) := by rw [d4]; exact hD3
      generalize upd H3 f (.lst (fnd.map V.int ++ [.int c0])) = H4 at e4 s4 ht4 pr4 hD4
      clear k4 d4
      obtain ⟨j, hj⟩ : ∃ j, 5 - kk = j + 1 := ⟨4 - kk, by simp at hn2; omega⟩
      have tail0 : rr.length = Mr.length := by simpa using l0
      refine ⟨_, rfl, ?_⟩
      refine ixX (i := 0) ht4 rfl ⟨_, _, rfl, rfl, _, rfl, ?_⟩
      by_cases neg : c0 ≤ 0
      · rw [decide_eq_true neg]
        refine iteT ?_
        refine ⟨_, rfl, k _ _ s4 ?_⟩
        rw [e4, ec, hj, MB.cstop neg]
      · rw [decide_eq_false neg]
        refine iteF ?_
        have dl4 : Same (del H4 f) H4 := fun c o hc => by
          by_cases e : c = f
          · rw [e, del_same] at hc
            cases hc
          · rw [del_ne e] at hc
            exact hc
        have hDl := dl4 _ _ hD4
        refine ⟨_, rfl, D, rfl, ⟨_, SqL.of hDl⟩, fun D2 hD2 => ?_⟩
        have fD2 : f ≠ D2 := ne_of_none e4 hD2
        refine lc_list (K := K) (a := D) (xs := xr) (fun i H' => Same H4 H' ∧ ∃ ys, H' D2 = some (.lst ys) ∧ Paired (RowI (del (del H' D2) f)) ys ((Mr.take i).map (MB.clr b (c0 :: rr)))) ⟨Same.new (fun _ _ h => h) hD2, [], upd_same, .nil⟩ (fun i H' _ q => SqL.of (q.1 _ _ hDl)) ?_ ?_
        · rintro i x H' hx' ⟨s5, ys, hD5, py⟩
          obtain ⟨r, hr, t, rfl, ht⟩ := paired_get pr4 hx'
          have hrm : r ∈ Mr := List.mem_of_getElem? hr
          have lr : r.length = (c0 :: rr).length := (sq2.2 r (List.mem_cons_of_mem _ hrm)).trans l0.symm
          have ht5 := (ht.same dl4).same s5
          have lys : ys.length ≤ 5 := by
            rw [Paired.length py, List.length_map, List.length_take]
            simp at hn2
            omega
          have big : bits kk ≤ 8000 := by
            have : kk = 0 ∨ kk = 1 ∨ kk = 2 ∨ kk = 3 ∨ kk = 4 := by simp at hn2; omega
            rcases this with rfl | rfl | rfl | rfl | rfl <;> decide
          have up : ∀ {z : Int}, z.natAbs < 2 ^ bits kk → z.natAbs < 2 ^ 8000 := fun h => Nat.lt_of_lt_of_le h (Nat.pow_le_pow_right (by decide) big)
          refine ⟨rfl, tYes_of (iteT ⟨_, rfl, _, rfl, _, rfl, t, t0, r, c0 :: rr, b, rfl, ht5, ht4.same s5, lr, by simp at lr; omega, by simp at lr hn2; omega, b0, up bb, (fun z hz => up (bt2 _ List.mem_cons_self z hz)), (fun z hz => up (bt2 _ (List.mem_cons_of_mem _ hrm) z hz)), fun q H6 nq s6 hq => ⟨_, s6 _ _ hD5, small1000 (by omega), ?_, ys ++ [.ref q], upd_same, ?_⟩⟩)⟩
          · intro c o hc
            rw [upd_ne (ne_of_none hc hD2)]
            exact s6 _ _ (s5 _ _ hc)
          · have qD : q ≠ D2 := fun e => by rw [e, hD5] at nq; cases nq
            have qf : q ≠ f := fun e => by
              have := s5 _ _ e4
              rw [← e, nq] at this
              cases this
            have sd : Same (del (del H' D2) f) (del (del (upd H6 D2 (.lst (ys ++ [.ref q]))) D2) f) := fun c o hc => by
              have e1 : c ≠ f := fun e => by rw [e, del_same] at hc; cases hc
              rw [del_ne e1] at hc
              have e2 : c ≠ D2 := fun e => by rw [e, del_same] at hc; cases hc
              rw [del_ne e2] at hc
              rw [del_ne e1, del_ne e2, upd_ne e2]
              exact s6 _ _ hc
            rw [List.take_succ, hr, List.map_append]
            refine paired_snoc ?_ (paired_imp (fun _ _ z => z.same sd) py)
            refine ⟨q, rfl, .inl ?_⟩
            rw [del_ne qf, del_ne qD, upd_ne qD]
            exact hq
        · rintro H5 ⟨s5, ys, hD5, py⟩
          rw [List.take_of_length_le (by rw [Paired.length pr4]; exact Nat.le_refl _)] at py
          refine ⟨_, rfl, ?_⟩
          refine ixX (i := 0) (ht4.same s5) rfl ?_
          refine ⟨by show 2 ≤ sizeLine; decide, fun q hq => ⟨q, _, rfl, SqT.of upd_same, rfl, _, _, rfl, _, _, rfl, rfl, ?_⟩⟩
          have hf5 := s5 _ _ e4
          have fq : f ≠ q := ne_of_none hf5 hq
          have Dq : D2 ≠ q := ne_of_none hD5 hq
          have cpos : 0 < c0 := by omega
          refine ⟨⟨_, _, _, kk + 1, Mr.map (MB.clr b (c0 :: rr)), fnd ++ [c0], c0, D2, rfl, ?_, ?_, ?_, ?_, ⟨ys, .inl ?_, ?_⟩, ⟨rfl, ?_⟩, ?_, cpos, ?_, ?_⟩, ?_⟩
          · intro c o h
            exact Same.new (fun _ _ h => h) hq c o (s5 _ _ (s4 _ _ h))
          · rw [upd_ne fq]
            exact hf5
          · rw [List.length_append, hl2]
            rfl
          · rw [List.length_map]
            simp at hn2
            omega
          · rw [del_ne (Ne.symm fD2), upd_ne Dq]
            exact hD5
          · refine paired_imp (fun _ _ z => z.same fun c o hc => ?_) py
            have e1 : c ≠ f := fun e => by rw [e, del_same] at hc; cases hc
            rw [del_ne e1] at hc
            have e2 : c ≠ D2 := fun e => by rw [e, del_same] at hc; cases hc
            rw [del_ne e2] at hc
            rw [del_ne e1]
            exact Same.new (fun _ _ h => h) hq c o hc
          · intro r hr
            obtain ⟨r', hr', rfl⟩ := List.mem_map.mp hr
            have lr : r'.length = (c0 :: rr).length := (sq2.2 r' (List.mem_cons_of_mem _ hr')).trans l0.symm
            rw [clr_len _ _ _ lr, List.length_map, lr]
            simp
            omega
          · intro r hr
            obtain ⟨r', hr', rfl⟩ := List.mem_map.mp hr
            have lr : r'.length = (c0 :: rr).length := (sq2.2 r' (List.mem_cons_of_mem _ hr')).trans l0.symm
            exact clr_bt b0 (bt2 _ List.mem_cons_self) (bt2 _ (List.mem_cons_of_mem _ hr')) lr (fun e => by rw [e] at lr; simp at lr)
          · exact Nat.lt_trans (bt2 _ List.mem_cons_self c0 List.mem_cons_self) (Nat.pow_lt_pow_right (by decide) (by show bits kk < 2 * bits kk + 1; omega))
          · rw [ec, hj, MB.cstep neg, List.append_assoc, show 5 - (kk + 1) = j by omega]
            rfl
          · rw [upd_ne fq, hf5, hf2]
            simp
            simp at hn2
            omega
  · exact fun σ H1 Q1 Q2 hq ⟨x, hx, k, tv, q⟩ => ⟨x, hx, k, tv, hq _ _ q⟩
/-! ### tables -/
theorem matA_seq {H : Hp} {a : Addr} {M : Mt} (h : MatA H a M) : ∃ xs, SqX H a xs ∧ xs.length = M.length ∧ ∀ (i : Nat) (x : V), xs[i]? = some x → ∃ r, M[i]? = some r ∧ RowI H x r := by
  obtain ⟨xs, q, p⟩ := h
  refine ⟨xs, q, Paired.length p, fun i x hx => ?_⟩
  obtain ⟨r, hr, hh⟩ := paired_get p hx
  exact ⟨r, hr, hh⟩
theorem ixXV {H : Hp} {a : Addr} {xs : List V} {i : Nat} {v : V} {Q : VK} (h : SqX H a xs) (hz : xs[i]? = some v) (k : Q v H) : rIx K (.ref a) (.int (i : Int)) H Q := by
  have e : atI xs (i : Int) = some v := atI_nat hz
  rcases h with h | h
  · exact .inl ⟨_, _, _, _, rfl, rfl, SqL.of h, e, k⟩
  · exact .inr (.inl ⟨_, _, _, _, rfl, rfl, SqT.of h, e, k⟩)
def sp_point : Sp := fun vs H Q _ => ∃ (v : V) (r : List Int) (n : Nat), vs = [v, .int (n : Int)] ∧ RowI H v r ∧ r.length = n ∧ n ≤ 900 ∧ ∀ H', Same H H' → Q (.bl true) H'
theorem G_is_point (T : Txt P K mg A) : FnG P w K mg base CX0 3 A.a_is_point A.d_is_point P_is_point sp_point := by
  refine okG T.F_is_point sc_is_point (fun vs H Q E h => ?_) (fun cdv A0 outer s H vs Q E hr h => ?_)
  · obtain ⟨_, _, _, rfl, _⟩ := h
    rfl
  obtain ⟨v, r, n, rfl, ⟨t, rfl, ht⟩, hl, hn, k⟩ := h
  refine ⟨_, (pss_one (ps_ret (pe_and (pe_callG (G_are_integers T) (hr.mono (by decide)) rfl T.g_are_integers T.F_are_integers.kp T.b_are_integers .nil pass0 (pa_cons (pv 0) pa_nil)) (pe_one (pe_cmpR op_eq (pe_callB call_len_seq (by rfl) T.n_len (by decide +kernel) (pa_cons (pv 0) pa_nil)) (pv 1) (nomark _)))))), ?_⟩
  have el : (r.map V.int).length = r.length := List.length_map ..
  refine ⟨_, rfl, _, rfl, ht.ok, ?_, fun H1 s1 => ?_⟩
  · rintro a xs e hx
    cases e
    obtain rfl := ht.inj hx
    refine ⟨by omega, fun x hx => ?_⟩
    obtain ⟨i, _, rfl⟩ := List.mem_map.mp hx
    trivial
  have e : areI H (.ref t) = true := by
    rw [areI_seq, seqOf_sqx ht]
    simp [List.all_map, isI, Function.comp_def]
  rw [e]
  refine ⟨_, rfl, ?_⟩
  refine ⟨_, rfl, t, _, rfl, (ht.same s1).sq, ?_⟩
  refine ⟨_, rfl, rfl, ?_⟩
  rw [el, decide_eq_true (by rw [hl])]
  exact k _ s1
def sp_points : Sp := fun vs H Q _ => ∃ (a : Addr) (M : Mt) (n : Nat), vs = [.ref a, .int (n : Int)] ∧ MatA H a M ∧ Sq n M ∧ n ≤ 900 ∧ ∀ H', Same H H' → Q (.bl true) H'
theorem G_are_points (T : Txt P K mg A) : FnG P w K mg base CX0 4 A.a_are_points A.d_are_points P_are_points sp_points := by
  refine okG T.F_are_points sc_are_points (fun vs H Q E h => ?_) (fun cdv A0 outer s H vs Q E hr h => ?_)
  · obtain ⟨_, _, _, rfl, _⟩ := h
    rfl
  obtain ⟨a, M, n, rfl, hm, sq, hn, k⟩ := h
  refine ⟨_, (pss_cons (ps_if (PW.pt (pw_or (pt_not (pt_val (pe_callB call_isiT (by rfl) T.n_isinstance (by decide +kernel) (pa_cons (pv 0) (pa_cons (pe_tup (pa_cons (pe_bltn (v := .ty "list") (u := .type "list") (by rfl) T.n_list (by decide +kernel) rfl) (pa_cons (pe_bltn (v := .ty "tuple") (u := .type "tuple") (by rfl) T.n_tuple (by decide +kernel) rfl) pa_nil))) pa_nil))))) (pw_or1 (pt_cmpR op_ne (pe_callB call_len_seq (by rfl) T.n_len (by decide +kernel) (pa_cons (pv 0) pa_nil)) (pv 1) (nomark _))))) (pss_one (ps_ret pe_bl)) pss_nil)
      (pss_one (ps_ret (pe_callB (cr_all rfl) (by rfl) T.n_all (by decide +kernel) (pa_cons (pe_lc (own := [("point", 2)]) (g := gName 2) (tt := tYes) rfl sc_are_points.nd (pi_seqV (pv 0)) (blkOk_by (N := N_are_points) (sc := defScope s_are_points) (by decide +kernel)) (fun _ _ _ _ _ => (pg_name (i := 2) sc_are_points.nd rfl (Or.inl rfl))) (fun _ _ _ _ _ => pts_nil) (fun _ _ _ _ _ => (pe_callG (G_is_point T) (hr.mono (by decide)) rfl T.g_is_point T.F_is_point.kp T.b_is_point .nil pass0 (pa_cons (pv 2) (pa_cons (pv 1) pa_nil))))) pa_nil))))), ?_⟩
  refine ⟨_, rfl, by show 2 ≤ sizeLine; decide, fun q1 h1 => ?_⟩
  have s1 : Same H (upd H q1 (.tup [.ty "list", .ty "tuple"])) := Same.new (fun _ _ h => h) h1
  have hm1 := hm.same s1
  have hq1 : (upd H q1 (.tup [.ty "list", .ty "tuple"])) q1 = some (.tup [.ty "list", .ty "tuple"]) := upd_same
  generalize upd H q1 (.tup [.ty "list", .ty "tuple"]) = H1 at s1 hm1 hq1
  obtain ⟨xs, hx, hxl, hrow⟩ := matA_seq hm1
  obtain ⟨T1, ty, _, _, k3⟩ := kindV (K := K) hx.ok
  rw [hx.lt] at k3
  refine ⟨_, _, _, _, _, _, rfl, hq1, .cons (.ty "list") (.cons (.ty "tuple") .nil), ty, k3, _, rfl, ?_⟩
  refine iteF ⟨_, rfl, a, xs, rfl, hx.sq, _, rfl, rfl, _, rfl, ?_⟩
  rw [show (!decide (V.int ((xs.length : Nat) : Int) = V.int (n : Int))) = false by rw [hxl, sq.1]; simp]
  refine iteF ?_
  obtain ⟨oa, hoa⟩ := hx.has
  refine ⟨_, rfl, a, rfl, seq_by hx.sq fun J G W gG D hD => ?_⟩
  refine lc_it W (fun i H' => Same H1 H' ∧ H' D = some (.lst ((List.replicate i true).map V.bl))) ⟨Same.new (fun _ _ h => h) hD, upd_same⟩ (fun i H' _ q => gG H' fun o h => ?_) ?_ ?_
  · rw [← h]
    exact (q.1 _ _ hoa).trans hoa.symm
  · rintro i x H' _ hi ⟨s3, hD3⟩ ⟨rfl, hx'⟩
    obtain ⟨r, hr, rx⟩ := hrow i x hx'
    refine ⟨rfl, tYes_of (iteT ⟨_, rfl, _, rfl, x, r, n, rfl, rx.same s3, sq.2 r (List.mem_of_getElem? hr), hn, fun H4 s4 => ⟨_, s4 _ _ hD3, ?_, ?_, ?_⟩⟩)⟩
    · rw [List.length_map, List.length_replicate]
      have := sq.1
      exact small1000 (by omega)
    · intro b o h
      rw [upd_ne (ne_of_none h hD)]
      exact s4 _ _ (s3 _ _ h)
    · rw [upd_same, List.replicate_succ', List.map_append]
      rfl
  · rintro H' ⟨s3, hD3⟩
    refine ⟨D, _, rfl, SqL.of hD3, ?_⟩
    have z : (List.replicate xs.length true).all id = true := by simp
    rw [z]
    exact k _ (s1.trans s3)
def sp_rows : Sp := fun vs H Q _ => ∃ (a : Addr) (M : Mt) (n : Nat), vs = [.ref a] ∧ MatA H a M ∧ Sq n M ∧ 1 ≤ n ∧ n ≤ 5 ∧ ∀ H', Same H H' → Q (.bl true) H'
theorem G_are_rows (T : Txt P K mg A) : FnG P w K mg base CX0 5 A.a_are_rows A.d_are_rows P_are_rows sp_rows := by
  refine okG T.F_are_rows sc_are_rows (fun vs H Q E h => ?_) (fun cdv A0 outer s H vs Q E hr h => ?_)
  · obtain ⟨_, _, _, rfl, _⟩ := h
    rfl
  obtain ⟨a, M, n, rfl, hm, sq, n1, n5, k⟩ := h
  refine ⟨_, (pss_one (ps_ret (pe_and (pe_callB call_isiT (by rfl) T.n_isinstance (by decide +kernel) (pa_cons (pv 0) (pa_cons (pe_tup (pa_cons (pe_bltn (v := .ty "list") (u := .type "list") (by rfl) T.n_list (by decide +kernel) rfl) (pa_cons (pe_bltn (v := .ty "tuple") (u := .type "tuple") (by rfl) T.n_tuple (by decide +kernel) rfl) pa_nil))) pa_nil))) (pe_and (pe_chain op_le op_le pe_int (pe_callB call_len_seq (by rfl) T.n_len (by decide +kernel) (pa_cons (pv 0) pa_nil)) (pe_glob (v := .int 5) rfl T.m_MOST_ROWS ⟨_, rfl⟩)) (pe_one (pe_callG (G_are_points T) (hr.mono (by decide)) rfl T.g_are_points T.F_are_points.kp T.b_are_points .nil pass0 (pa_cons (pv 0) (pa_cons (pe_callB call_len_seq (by rfl) T.n_len (by decide +kernel) (pa_cons (pv 0) pa_nil)) pa_nil)))))))), ?_⟩
  refine ⟨_, rfl, by show 2 ≤ sizeLine; decide, fun q1 h1 => ?_⟩
  have s1 : Same H (upd H q1 (.tup [.ty "list", .ty "tuple"])) := Same.new (fun _ _ h => h) h1
  have hm1 := hm.same s1
  have hq1 : (upd H q1 (.tup [.ty "list", .ty "tuple"])) q1 = some (.tup [.ty "list", .ty "tuple"]) := upd_same
  generalize upd H q1 (.tup [.ty "list", .ty "tuple"]) = H1 at s1 hm1 hq1
  obtain ⟨xs, hx, hxl, hrow⟩ := matA_seq hm1
  obtain ⟨T1, ty, _, _, k3⟩ := kindV (K := K) hx.ok
  rw [hx.lt] at k3
  have hs := sq.1
  refine ⟨_, _, _, _, _, _, rfl, hq1, .cons (.ty "list") (.cons (.ty "tuple") .nil), ty, k3, _, rfl, ?_⟩
  refine iteT ?_
  refine ⟨_, rfl, a, _, rfl, hx.sq, _, _, rfl, rfl, true, ?_, iteT ⟨_, _, rfl, rfl, true, ?_, iteT ?_⟩⟩
  · exact congrArg V.bl (decide_eq_true (by omega))
  · exact congrArg V.bl (decide_eq_true (by omega))
  refine ⟨_, rfl, _, rfl, a, _, rfl, hx.sq, a, M, n, by rw [hxl, hs]; rfl, hm1, sq, by omega, fun H2 s2 => k _ (s1.trans s2)⟩
def ent (M : Mt) (i j : Nat) : Option Int := (M[i]?).bind (·[j]?)
def Sym (M : Mt) : Prop := ∀ i j : Nat, i < M.length → j < i → ent M i j = ent M j i
def sp_same : Sp := fun vs H Q _ => ∃ (a : Addr) (M : Mt) (n : Nat), vs = [.ref a] ∧ MatA H a M ∧ Sq n M ∧ n ≤ 5 ∧ Sym M ∧ ∀ H', Same H H' → Q (.bl true) H'
theorem G_is_same_both_ways (T : Txt P K mg A) : FnG P w K mg base CX0 1 A.a_is_same_both_ways A.d_is_same_both_ways P_is_same_both_ways sp_same := by
  refine okG T.F_is_same_both_ways sc_is_same_both_ways (fun vs H Q E h => ?_) (fun cdv A0 outer s H vs Q E hr h => ?_)
  · obtain ⟨_, _, _, rfl, _⟩ := h
    rfl
  obtain ⟨a, M, n, rfl, hm, sq, n5, sy, k⟩ := h
  refine ⟨_, (pss_cons (ps_set (i := 1) sc_is_same_both_ways.nd rfl (Or.inl rfl) (pe_callB call_len_seq (by rfl) T.n_len (by decide +kernel) (pa_cons (pv 0) pa_nil)))
      (pss_one (ps_ret (pe_callB (cr_all rfl) (by rfl) T.n_all (by decide +kernel) (pa_cons (pe_lc2 (own := [("at", 2), ("by", 3)]) (vs1 := [3]) (g := gName 2) (tt := tYes) (g1 := gName 3) (tt1 := tYes) rfl sc_is_same_both_ways.nd (pi_range1 (by rfl) T.n_range (pa_cons (pv 1) pa_nil)) (blkOk_by (N := N_is_same_both_ways) (sc := defScope s_is_same_both_ways) (by decide +kernel)) (by decide) (fun _ _ _ _ _ => (pg_name (i := 2) sc_is_same_both_ways.nd rfl (Or.inl rfl))) (fun _ _ _ _ _ => pts_nil) (fun _ _ _ _ _ => (pi_range1 (by rfl) T.n_range (pa_cons (pv 2) pa_nil))) (fun _ _ _ _ _ => (pg_name (i := 3) sc_is_same_both_ways.nd rfl (Or.inl rfl))) (fun _ _ _ _ _ => pts_nil) (fun _ _ _ _ _ => (pe_cmpR op_eq (pe_ix (r := rIx K) ix_seq (pe_ix (r := rIx K) ix_seq (pv 0) (pv 2) (fun _ _ => rfl)) (pv 3) (fun _ _ => rfl)) (pe_ix (r := rIx K) ix_seq (pe_ix (r := rIx K) ix_seq (pv 0) (pv 3) (fun _ _ => rfl)) (pv 2) (fun _ _ => rfl)) (nomark _)))) pa_nil))))), ?_⟩
  obtain ⟨xs, hx, hxl, hrow⟩ := matA_seq hm
  have hs := sq.1
  refine ⟨_, rfl, a, _, rfl, hx.sq, ?_⟩
  rw [hxl, hs]
  obtain ⟨oa, hoa⟩ := hx.has
  refine ⟨_, rfl, _, rfl, by omega, by omega, fun D hD => ?_⟩
  refine walk_gen (walk_range (lo := 0) (n := n)) (fun i H' => Same H H' ∧ ∃ m, m ≤ i * 10 ∧ H' D = some (.lst ((List.replicate m true).map V.bl))) ⟨Same.new (fun _ _ h => h) hD, 0, by omega, upd_same⟩ (fun _ _ _ _ => trivial) ?_ ?_
  · rintro i y H1 _ hi ⟨s1, m, hm1, hD1⟩ ⟨rfl, ey⟩
    obtain rfl : y = V.int (i : Int) := ey.trans (congrArg V.int (by omega))
    refine ⟨rfl, tYes_of (iteT ⟨_, rfl, _, rfl, by omega, by omega, walk_gen (walk_range (lo := 0) (n := i)) (fun j H' => Same H H' ∧ ∃ p, p ≤ m + j ∧ H' D = some (.lst ((List.replicate p true).map V.bl))) ⟨s1, m, by omega, hD1⟩ (fun _ _ _ _ => trivial) ?_ ?_⟩)⟩
    · rintro j z H2 _ hj ⟨s2, p, hp, hD2⟩ ⟨rfl, ez⟩
      obtain rfl : z = V.int (j : Int) := ez.trans (congrArg V.int (by omega))
      have hx2 := hx.same s2
      have gi := List.getElem?_eq_getElem (show i < xs.length by omega)
      have gj := List.getElem?_eq_getElem (show j < xs.length by omega)
      obtain ⟨ri, hri, ti, ei, hti⟩ := hrow _ _ gi
      obtain ⟨rj, hrj, tj, ej, htj⟩ := hrow _ _ gj
      rw [ei] at gi
      rw [ej] at gj
      have li := sq.2 ri (List.mem_of_getElem? hri)
      have lj := sq.2 rj (List.mem_of_getElem? hrj)
      have eij := sy i j (by omega) hj
      unfold ent at eij
      rw [hri, hrj] at eij
      have zi := List.getElem?_eq_getElem (show j < ri.length by omega)
      have zj := List.getElem?_eq_getElem (show i < rj.length by omega)
      simp only [Option.bind_some] at eij
      rw [zi, zj] at eij
      have eij := Option.some.inj eij
      refine ⟨rfl, tYes_of (iteT ?_)⟩
      refine ⟨_, rfl, _, rfl, ixXV hx2 gi ⟨_, rfl, ixX (hti.same s2) zi ?_⟩⟩
      refine ⟨_, rfl, _, rfl, ixXV hx2 gj ⟨_, rfl, ixX (htj.same s2) zj ?_⟩⟩
      refine ⟨rfl, _, hD2, ?_, ?_, p + 1, by omega, ?_⟩
      · rw [List.length_map, List.length_replicate]
        exact small1000 (by omega)
      · intro c o hc
        rw [upd_ne (ne_of_none hc hD)]
        exact s2 _ _ hc
      · rw [upd_same, List.replicate_succ', List.map_append, eij]
        simp
    · rintro H2 ⟨s2, p, hp, hD2⟩
      exact ⟨s2, p, by omega, hD2⟩
  · rintro H1 ⟨s1, m, hm1, hD1⟩
    refine ⟨D, _, rfl, SqL.of hD1, ?_⟩
    have z : (List.replicate m true).all id = true := by simp
    rw [z]
    exact k _ s1
/-! ### Table.__init__ -/
def trMt (M : Mt) : Tr := .node (M.map fun r => .node (r.map fun i => .leaf (.int i)))
theorem src_mt {H : Hp} {a : Addr} {M : Mt} {n : Nat} (h : MatA H a M) (sq : Sq n M) (hn : n ≤ 5) : Src 2 H (.ref a) (trMt M) := by
  obtain ⟨xs, hx, hp⟩ := h
  refine .inr ⟨a, xs, _, rfl, hx, by rw [Paired.length hp, sq.1]; omega, rfl, ?_⟩
  have hl := sq.2
  clear hx sq
  induction hp with
  | nil => exact .nil
  | @cons x r xs M h t ih =>
    obtain ⟨c, rfl, hc⟩ := h
    refine .cons (.inr ⟨c, _, _, rfl, hc, by rw [List.length_map, hl r List.mem_cons_self]; omega, rfl, ?_⟩) (ih fun r hr => hl r (List.mem_cons_of_mem _ hr))
    clear hc ih t hl
    induction r with
    | nil => exact .nil
    | cons z r ih => exact .cons (src_leaf trivial rfl) ih
theorem matA_mono {H H' : Hp} {a : Addr} {M : Mt} (h : MatA H a M) (s : ∀ b xs, SqX H b xs → SqX H' b xs) : MatA H' a M := by
  obtain ⟨xs, q, r⟩ := h
  refine ⟨xs, s _ _ q, paired_imp (fun _ _ z => ?_) r⟩
  obtain ⟨t, e, g⟩ := z
  exact ⟨t, e, s _ _ g⟩
def AllPos (M : Mt) : Prop := ∀ c ∈ MB.corners 5 M 1, 0 < c
def sp_tabi (K : PySem.W.Frag) (C BT : Addr) : Sp := fun vs H Q E => ∃ (x dx a : Addr) (M : Mt) (n : Nat), vs = [.ref x, .ref a] ∧ H x = some (.ins C dx []) ∧ MatA H a M ∧ Sq n M ∧ 1 ≤ n ∧ n ≤ 5 ∧ (∀ r ∈ M, Bt 210 r) ∧ Sym M ∧
  (AllPos M → ∀ H' y d, H' x = some (.ins C dx [("rows", y), ("size", .int (n : Int)), ("determinant", .int d)]) → Dst 2 H' y (trMt M) → Kp x H H' → Q .non H') ∧ (¬ AllPos M → Out E H BT "part" (.str "worth"))
theorem G_Table___init__ (T : Txt P K mg A) : FnG P w K mg base (L2.CX P w) 7 A.a_Table___init__ A.d_Table___init__ P_Table___init__ (sp_tabi K A.c_Table A.c_BadTable) := by
  refine okGX T.F_Table___init__ sc_Table___init__ (fun vs H Q E h => ?_) (fun cdv A0 outer s H vs Q E hr h => ?_)
  · obtain ⟨_, _, _, _, _, rfl, _⟩ := h
    rfl
  obtain ⟨x, dx, a, M, n, rfl, hx, hm, sq, n1, n5, bt, sy, k1, k2⟩ := h
  refine ⟨_, (pss_cons (ps_if (pt_not (pt_val (pe_callG (G_are_rows T) (hr.mono (by decide)) rfl T.g_are_rows T.F_are_rows.kp T.b_are_rows .nil pass0 (pa_cons (pv 1) pa_nil)))) (pss_one (ps_raise rfl (takes_of rfl rfl rfl rfl) (pmk_G T.X_BadTable.oex T.X_BadTable.iC T.X_BadTable.tI (G_init_BadTable T) (hr.mono (by decide)) rfl T.X_BadTable.gC T.b_init_BadTable pass0 (pa_cons pe_str pa_nil)))) pss_nil)
      (pss_cons (ps_if (pt_not (pt_val (pe_callG (G_is_same_both_ways T) (hr.mono (by decide)) rfl T.g_is_same_both_ways T.F_is_same_both_ways.kp T.b_is_same_both_ways .nil pass0 (pa_cons (pv 1) pa_nil)))) (pss_one (ps_raise rfl (takes_of rfl rfl rfl rfl) (pmk_G T.X_BadTable.oex T.X_BadTable.iC T.X_BadTable.tI (G_init_BadTable T) (hr.mono (by decide)) rfl T.X_BadTable.gC T.b_init_BadTable pass0 (pa_cons pe_str pa_nil)))) pss_nil)
      (pss_cons (ps_set (i := 2) sc_Table___init__.nd rfl (Or.inl rfl) (pe_callG (G_corners_of T) (hr.mono (by decide)) rfl T.g_corners_of T.F_corners_of.kp T.b_corners_of .nil pass0 (pa_cons (pv 1) pa_nil)))
      (pss_cons (ps_if (pt_cmpR op_le (pe_callB (cr_min rfl) (by rfl) T.n_min (by decide +kernel) (pa_cons (pv 2) pa_nil)) pe_int (nomark _)) (pss_one (ps_raise rfl (takes_of rfl rfl rfl rfl) (pmk_G T.X_BadTable.oex T.X_BadTable.iC T.X_BadTable.tI (G_init_BadTable T) (hr.mono (by decide)) rfl T.X_BadTable.gC T.b_init_BadTable pass0 (pa_cons pe_str pa_nil)))) pss_nil)
      (pss_cons (ps_fld (pv 0) (pe_callG (G_fixed T 2) (hr.mono (by decide)) rfl T.g_fixed T.F_fixed.kp T.b_fixed .nil pass0 (pa_cons (pv 1) pa_nil)) rfl)
      (pss_cons (ps_fld (pv 0) (pe_callB call_len_seq (by rfl) T.n_len (by decide +kernel) (pa_cons (pv 1) pa_nil)) rfl)
      (pss_one (ps_fld (pv 0) (pe_ix (r := rIxL K) ix_list (pv 2) (pe_un un_neg pe_int) (fun _ _ => rfl)) rfl)))))))), ?_⟩
  refine ⟨_, rfl, a, M, n, rfl, hm, sq, n1, n5, fun H1 s1 => ?_⟩
  refine ⟨_, rfl, iteF ?_⟩
  refine ⟨_, rfl, a, M, n, rfl, hm.same s1, sq, n5, sy, fun H2 s2 => ?_⟩
  refine ⟨_, rfl, iteF ?_⟩
  have S2 := s1.trans s2
  refine ⟨_, rfl, a, M, n, rfl, hm.same S2, n1, n5, sq, bt, fun q H3 s3 hq => ?_⟩
  have cne := MB.corners_ne (M := M) (by rw [sq.1]; exact n1)
  have S3 := S2.trans s3
  refine ⟨_, rfl, q, _, rfl, SqL.of hq, List.length_pos_iff.mpr cne, fun m mm ml => ?_⟩
  refine ⟨_, _, rfl, rfl, _, rfl, ?_⟩
  by_cases ap : AllPos M
  · rw [decide_eq_false (by have := ap m mm; omega)]
    refine iteF ?_
    have hx3 := S3 _ _ hx
    refine ⟨_, rfl, .ref a, trMt M, rfl, src_mt (hm.same S3) sq n5, fun y H4 s4 dt => ?_⟩
    have hx4 := s4 _ _ hx3
    have p1 : putF "rows" y [] = ([("rows", y)] : List (Str × V)) := rfl
    refine ⟨_, rfl, x, A.c_Table, dx, [], rfl, hx4, T.K_Table, T.N_Table_rows, by decide, ?_⟩
    rw [p1]
    obtain ⟨xs, hxs, hxl, _⟩ := matA_seq (hm.same (S3.trans s4))
    have ax : a ≠ x := fun e => by
      rw [e] at hxs
      rcases hxs with h | h <;> cases hx4.symm.trans h
    have hxs5 : SqX (upd H4 x (.ins A.c_Table dx [("rows", y)])) a xs := by
      rcases hxs with h | h
      · exact .inl (by rw [upd_ne ax]; exact h)
      · exact .inr (by rw [upd_ne ax]; exact h)
    refine ⟨_, rfl, a, _, rfl, hxs5.sq, _, rfl, x, A.c_Table, dx, _, rfl, upd_same, T.K_Table, T.N_Table_size, by show 1 < 1000; decide, ?_⟩
    have p2 : putF "size" (V.int ((xs.length : Nat) : Int)) ([("rows", y)] : List (Str × V)) = ([("rows", y), ("size", V.int ((xs.length : Nat) : Int))] : List (Str × V)) := rfl
    rw [p2, hxl, sq.1]
    have qx : q ≠ x := fun e => by
      rw [e, hx3] at hq
      cases hq
    have hq5 : (upd (upd H4 x (.ins A.c_Table dx [("rows", y)])) x (.ins A.c_Table dx [("rows", y), ("size", .int (n : Int))])) q = some (.lst ((MB.corners 5 M 1).map V.int)) := by
      rw [upd_ne qx, upd_ne qx]
      exact s4 _ _ hq
    have lst := (List.dropLast_concat_getLast cne).symm
    have eL : (MB.corners 5 M 1).map V.int = (MB.corners 5 M 1).dropLast.map V.int ++ [V.int ((MB.corners 5 M 1).getLast cne)] := by
      conv => lhs; rw [lst]
      rw [List.map_append]
      rfl
    rw [eL] at hq5
    refine ⟨_, rfl, _, rfl, _, _, _, _, rfl, rfl, SqL.of hq5, atI_last _ _, ?_⟩
    refine ⟨_, rfl, x, A.c_Table, dx, _, rfl, upd_same, T.K_Table, T.N_Table_determinant, by show 2 < 1000; decide, ?_⟩
    have p3 : putF "determinant" (V.int ((MB.corners 5 M 1).getLast cne)) ([("rows", y), ("size", V.int (n : Int))] : List (Str × V)) = ([("rows", y), ("size", V.int (n : Int)), ("determinant", V.int ((MB.corners 5 M 1).getLast cne))] : List (Str × V)) := rfl
    rw [p3]
    refine k1 ap _ y _ upd_same (dt.keep fun b xs h => ?_) ?_
    · have e : b ≠ x := fun z => by
        subst z
        cases hx4.symm.trans h
      rw [upd_ne e, upd_ne e, upd_ne e]
      exact h
    · intro b o e h
      rw [upd_ne e, upd_ne e, upd_ne e]
      exact s4 _ _ (S3 _ _ h)
  · have m0 : m ≤ 0 := by
      by_cases c : m ≤ 0
      · exact c
      · exact absurd (fun d hd => by have := ml d hd; omega) ap
    rw [decide_eq_true m0]
    exact iteT ⟨by show 1 ≤ 1000; decide, raise1 T.X_BadTable.oex (T.X_BadTable.no _ List.mem_cons_self) ((k2 ap).on S3)⟩
/-! ### Table.__init__, where a suite may raise on -/
theorem GN_Table___init__ (T : Txt P K mg A) : FnG P w K mg base (L2N.CX P w) 7 A.a_Table___init__ A.d_Table___init__ P_Table___init__ (sp_tabi K A.c_Table A.c_BadTable) := by
  refine okGX T.F_Table___init__ sc_Table___init__ (fun vs H Q E h => ?_) (fun cdv A0 outer s H vs Q E hr h => ?_)
  · obtain ⟨_, _, _, _, _, rfl, _⟩ := h
    rfl
  obtain ⟨x, dx, a, M, n, rfl, hx, hm, sq, n1, n5, bt, sy, k1, k2⟩ := h
  refine ⟨_, (pss_cons (ps_if (pt_not (pt_val (pe_callG (G_are_rows T) (hr.mono (by decide)) rfl T.g_are_rows T.F_are_rows.kp T.b_are_rows .nil pass0 (pa_cons (pv 1) pa_nil)))) (pss_one (L2N.ps_raise rfl (L2N.takes_of rfl rfl rfl rfl) (pmkN_G T.X_BadTable.oex T.X_BadTable.iC T.X_BadTable.tI (G_init_BadTable T) (hr.mono (by decide)) rfl T.X_BadTable.gC T.b_init_BadTable pass0 (pa_cons pe_str pa_nil)))) pss_nil)
      (pss_cons (ps_if (pt_not (pt_val (pe_callG (G_is_same_both_ways T) (hr.mono (by decide)) rfl T.g_is_same_both_ways T.F_is_same_both_ways.kp T.b_is_same_both_ways .nil pass0 (pa_cons (pv 1) pa_nil)))) (pss_one (L2N.ps_raise rfl (L2N.takes_of rfl rfl rfl rfl) (pmkN_G T.X_BadTable.oex T.X_BadTable.iC T.X_BadTable.tI (G_init_BadTable T) (hr.mono (by decide)) rfl T.X_BadTable.gC T.b_init_BadTable pass0 (pa_cons pe_str pa_nil)))) pss_nil)
      (pss_cons (ps_set (i := 2) sc_Table___init__.nd rfl (Or.inl rfl) (pe_callG (G_corners_of T) (hr.mono (by decide)) rfl T.g_corners_of T.F_corners_of.kp T.b_corners_of .nil pass0 (pa_cons (pv 1) pa_nil)))
      (pss_cons (ps_if (pt_cmpR op_le (pe_callB (cr_min rfl) (by rfl) T.n_min (by decide +kernel) (pa_cons (pv 2) pa_nil)) pe_int (nomark _)) (pss_one (L2N.ps_raise rfl (L2N.takes_of rfl rfl rfl rfl) (pmkN_G T.X_BadTable.oex T.X_BadTable.iC T.X_BadTable.tI (G_init_BadTable T) (hr.mono (by decide)) rfl T.X_BadTable.gC T.b_init_BadTable pass0 (pa_cons pe_str pa_nil)))) pss_nil)
      (pss_cons (ps_fld (pv 0) (pe_callG (G_fixed T 2) (hr.mono (by decide)) rfl T.g_fixed T.F_fixed.kp T.b_fixed .nil pass0 (pa_cons (pv 1) pa_nil)) rfl)
      (pss_cons (ps_fld (pv 0) (pe_callB call_len_seq (by rfl) T.n_len (by decide +kernel) (pa_cons (pv 1) pa_nil)) rfl)
      (pss_one (ps_fld (pv 0) (pe_ix (r := rIxL K) ix_list (pv 2) (pe_un un_neg pe_int) (fun _ _ => rfl)) rfl)))))))), ?_⟩
  refine ⟨_, rfl, a, M, n, rfl, hm, sq, n1, n5, fun H1 s1 => ?_⟩
  refine ⟨_, rfl, iteF ?_⟩
  refine ⟨_, rfl, a, M, n, rfl, hm.same s1, sq, n5, sy, fun H2 s2 => ?_⟩
  refine ⟨_, rfl, iteF ?_⟩
  have S2 := s1.trans s2
  refine ⟨_, rfl, a, M, n, rfl, hm.same S2, n1, n5, sq, bt, fun q H3 s3 hq => ?_⟩
  have cne := MB.corners_ne (M := M) (by rw [sq.1]; exact n1)
  have S3 := S2.trans s3
  refine ⟨_, rfl, q, _, rfl, SqL.of hq, List.length_pos_iff.mpr cne, fun m mm ml => ?_⟩
  refine ⟨_, _, rfl, rfl, _, rfl, ?_⟩
  by_cases ap : AllPos M
  · rw [decide_eq_false (by have := ap m mm; omega)]
    refine iteF ?_
    have hx3 := S3 _ _ hx
    refine ⟨_, rfl, .ref a, trMt M, rfl, src_mt (hm.same S3) sq n5, fun y H4 s4 dt => ?_⟩
    have hx4 := s4 _ _ hx3
    have p1 : putF "rows" y [] = ([("rows", y)] : List (Str × V)) := rfl
    refine ⟨_, rfl, x, A.c_Table, dx, [], rfl, hx4, T.K_Table, T.N_Table_rows, by decide, ?_⟩
    rw [p1]
    obtain ⟨xs, hxs, hxl, _⟩ := matA_seq (hm.same (S3.trans s4))
    have ax : a ≠ x := fun e => by
      rw [e] at hxs
      rcases hxs with h | h <;> cases hx4.symm.trans h
    have hxs5 : SqX (upd H4 x (.ins A.c_Table dx [("rows", y)])) a xs := by
      rcases hxs with h | h
      · exact .inl (by rw [upd_ne ax]; exact h)
      · exact .inr (by rw [upd_ne ax]; exact h)
    refine ⟨_, rfl, a, _, rfl, hxs5.sq, _, rfl, x, A.c_Table, dx, _, rfl, upd_same, T.K_Table, T.N_Table_size, by show 1 < 1000; decide, ?_⟩
    have p2 : putF "size" (V.int ((xs.length : Nat) : Int)) ([("rows", y)] : List (Str × V)) = ([("rows", y), ("size", V.int ((xs.length : Nat) : Int))] : List (Str × V)) := rfl
    rw [p2, hxl, sq.1]
    have qx : q ≠ x := fun e => by
      rw [e, hx3] at hq
      cases hq
    have hq5 : (upd (upd H4 x (.ins A.c_Table dx [("rows", y)])) x (.ins A.c_Table dx [("rows", y), ("size", .int (n : Int))])) q = some (.lst ((MB.corners 5 M 1).map V.int)) := by
      rw [upd_ne qx, upd_ne qx]
      exact s4 _ _ hq
    have lst := (List.dropLast_concat_getLast cne).symm
    have eL : (MB.corners 5 M 1).map V.int = (MB.corners 5 M 1).dropLast.map V.int ++ [V.int ((MB.corners 5 M 1).getLast cne)] := by
      conv => lhs; rw [lst]
      rw [List.map_append]
      rfl
    rw [eL] at hq5
    refine ⟨_, rfl, _, rfl, _, _, _, _, rfl, rfl, SqL.of hq5, atI_last _ _, ?_⟩
    refine ⟨_, rfl, x, A.c_Table, dx, _, rfl, upd_same, T.K_Table, T.N_Table_determinant, by show 2 < 1000; decide, ?_⟩
    have p3 : putF "determinant" (V.int ((MB.corners 5 M 1).getLast cne)) ([("rows", y), ("size", V.int (n : Int))] : List (Str × V)) = ([("rows", y), ("size", V.int (n : Int)), ("determinant", V.int ((MB.corners 5 M 1).getLast cne))] : List (Str × V)) := rfl
    rw [p3]
    refine k1 ap _ y _ upd_same (dt.keep fun b xs h => ?_) ?_
    · have e : b ≠ x := fun z => by
        subst z
        cases hx4.symm.trans h
      rw [upd_ne e, upd_ne e, upd_ne e]
      exact h
    · intro b o e h
      rw [upd_ne e, upd_ne e, upd_ne e]
      exact s4 _ _ (S3 _ _ h)
  · have m0 : m ≤ 0 := by
      by_cases c : m ≤ 0
      · exact c
      · exact absurd (fun d hd => by have := ml d hd; omega) ap
    rw [decide_eq_true m0]
    exact iteT ⟨by show 1 ≤ 1000; decide, raise1 T.X_BadTable.oex (T.X_BadTable.no _ List.mem_cons_self) ((k2 ap).on S3)⟩
/-! ### a table that is read -/
def RowT (H : Hp) (x : V) (r : List Int) : Prop := ∃ t, x = .ref t ∧ H t = some (.tup (r.map V.int))
def TabAt (H : Hp) (x C : Addr) (n : Nat) (M : Mt) : Prop := ∃ dx q xs d, H x = some (.ins C dx [("rows", .ref q), ("size", .int (n : Int)), ("determinant", .int d)]) ∧ H q = some (.tup xs) ∧ Paired (RowT H) xs M
theorem TabAt.keep {H H' : Hp} {x C : Addr} {n : Nat} {M : Mt} (h : TabAt H x C n M) (s : Same H H') : TabAt H' x C n M := by
  obtain ⟨dx, q, xs, d, h1, h2, h3⟩ := h
  exact ⟨dx, q, xs, d, s _ _ h1, s _ _ h2, paired_imp (fun _ _ ⟨t, e, g⟩ => ⟨t, e, s _ _ g⟩) h3⟩
theorem dst_row {H : Hp} : ∀ {r : List Int} {xs : List V}, Paired (Dst 0 H) xs (r.map fun i => Tr.leaf (.int i)) → xs = r.map V.int
  | [], _, .nil => rfl
  | i :: r, _, .cons h t => by
    cases h
    rw [dst_row t]
    rfl
theorem dst_mt {H : Hp} {y : V} {M : Mt} (h : Dst 2 H y (trMt M)) : ∃ q xs, y = .ref q ∧ H q = some (.tup xs) ∧ Paired (RowT H) xs M := by
  rcases h with h | ⟨q, xs, ts, rfl, hq, et, hp⟩
  · cases h
  · obtain rfl := (Tr.node.inj et)
    refine ⟨q, xs, rfl, hq, ?_⟩
    clear hq et
    revert xs
    induction M with
    | nil =>
      intro xs hp
      cases hp
      exact .nil
    | cons r M ih =>
      intro xs hp
      cases hp with
      | cons h t =>
        refine .cons ?_ (ih _ t)
        rcases h with h | ⟨c, ys, us, rfl, hc, eu, hu⟩
        · cases h
        · obtain rfl := Tr.node.inj eu
          rw [dst_row hu] at hc
          exact ⟨c, rfl, hc⟩
section
variable {H : Hp} {Q : VK} {E : XK} {all : V → List V} {n : Nat} {a : Addr} {M : Mt}
theorem mk_tab (ha : ∀ x, all (.ref x) = [.ref x, .ref a]) (h1 : 1 ≤ n) (h2 : n ≤ 5) (hm : MatA H a M) (sq : Sq n M) (bt : ∀ r ∈ M, Bt 210 r) (sy : Sym M) (ap : AllPos M) (k : ∀ y H', Same H H' → TabAt H' y A.c_Table n M → Q (.ref y) H') : rMkG A.c_Table (sp_tabi K A.c_Table A.c_BadTable) E all H Q := by
  unfold rMkG
  intro x dx hx hd hne
  rw [ha]
  refine ⟨x, dx, a, M, n, rfl, upd_same, hm.same (mk_same hx hd), sq, h1, h2, bt, sy, fun _ H' y d e1 dt kp => ⟨rfl, ?_⟩, fun z => absurd ap z⟩
  obtain ⟨q, xs, rfl, hq, pp⟩ := dst_mt dt
  exact k x H' (fun b o e => kp b o (ne_of_none e hx) (mk_same hx hd b o e)) ⟨dx, q, xs, d, e1, hq, pp⟩
theorem mk_low (ha : ∀ x, all (.ref x) = [.ref x, .ref a]) (h1 : 1 ≤ n) (h2 : n ≤ 5) (hm : MatA H a M) (sq : Sq n M) (bt : ∀ r ∈ M, Bt 210 r) (sy : Sym M) (ap : ¬ AllPos M) (k : Out E H A.c_BadTable "part" (.str "worth")) : rMkG A.c_Table (sp_tabi K A.c_Table A.c_BadTable) E all H Q := by
  unfold rMkG
  intro x dx hx hd hne
  rw [ha]
  exact ⟨x, dx, a, M, n, rfl, upd_same, hm.same (mk_same hx hd), sq, h1, h2, bt, sy, fun z => absurd z ap, fun _ => k.on (mk_same hx hd)⟩
end
def tOk (ws : List Str) (n at_ : Nat) : Bool := match ws[2 + at_]? with
  | none => false
  | some x => match MN.num x with
    | none => false
    | some z => !decide (at_ % n < at_ / n) || decide ((ws[2 + n * (at_ % n) + at_ / n]?).bind MN.num = some z)
def tbad (ws : List Str) (n at_ : Nat) : Bool := !tOk ws n at_
def tstop : List Str → Option Nat
  | [] => some 0
  | s :: r => if wiB s (.int 1) (.int 5) = false then some 0 else match r with
    | [] => some 1
    | z :: rest => if z ≠ ":" then some 1 else match fbA (tbad (s :: z :: rest) (nOf s)) 0 (nOf s * nOf s) with
      | some k => some (2 + k)
      | none => if rest.length = nOf s * nOf s then none else some (2 + nOf s * nOf s)
theorem tstop_a {z : Str} {r : List Str} (b : wiB z (.int 1) (.int 5) = false) : tstop (z :: r) = some 0 := by
  cases r <;> rw [tstop, if_pos b]
theorem tstop_b {z : Str} (b : ¬ wiB z (.int 1) (.int 5) = false) : tstop [z] = some 1 := by rw [tstop, if_neg b]
theorem tstop_c {z y : Str} {r : List Str} (b : ¬ wiB z (.int 1) (.int 5) = false) (c : y ≠ ":") : tstop (z :: y :: r) = some 1 := by
  rw [tstop, if_neg b]
  show (if y ≠ ":" then _ else _) = _
  rw [if_pos c]
theorem tstop_d {z : Str} {r : List Str} (b : ¬ wiB z (.int 1) (.int 5) = false) : tstop (z :: ":" :: r) = match fbA (tbad (z :: ":" :: r) (nOf z)) 0 (nOf z * nOf z) with
      | some k => some (2 + k)
      | none => if r.length = nOf z * nOf z then none else some (2 + nOf z * nOf z) := by
  rw [tstop, if_neg b]
  show (if (":" : Str) ≠ ":" then _ else _) = _
  rw [if_neg (fun q => q rfl)]
def valAt (ws : List Str) (k : Nat) : Int := match ws[2 + k]? with | some x => MN.valL (TL.tl x) | none => 0
def rowOf (ws : List Str) (n i : Nat) : List Int := (List.range n).map fun j => valAt ws (i * n + j)
def matOf (ws : List Str) (n : Nat) : Mt := (List.range n).map fun i => rowOf ws n i
theorem dv_ltN : ∀ (n : Nat) (l : List Nat), l.length = n → l.all MN.dig = true → NumText.digitsVal l < 10 ^ n
  | 0, l, hl, _ => by
    obtain rfl := List.length_eq_zero_iff.mp hl
    decide
  | n + 1, l, hl, h => by
    have hne : l ≠ [] := fun e => by rw [e] at hl; cases hl
    obtain ⟨m, c, rfl⟩ : ∃ m c, l = m ++ [c] := ⟨l.dropLast, l.getLast hne, (List.dropLast_concat_getLast hne).symm⟩
    rw [List.all_append, Bool.and_eq_true] at h
    have hc : MN.dig c = true := by simpa using h.2
    unfold MN.dig at hc
    simp only [Bool.and_eq_true, decide_eq_true_eq] at hc
    have := dv_ltN n m (by simpa using hl) h.1
    rw [MN.dv_snoc, Nat.pow_succ]
    omega
theorem dv_lt (l : List Nat) (h : l.all MN.dig = true) : NumText.digitsVal l < 10 ^ l.length := dv_ltN _ l rfl h
theorem val_bt {l : List Nat} (h : MN.okL l = true) : (MN.valL l).natAbs < 2 ^ 210 := by
  have big : (10 : Nat) ^ 60 < 2 ^ 210 := by decide
  rcases MN.okL_cases h with ⟨h1, h2, h3, _⟩ | ⟨r, rfl, h1, h2, h3, _⟩
  · unfold MN.valL
    rw [if_neg (MN.not45 h2)]
    have := dv_lt l h2
    have := Nat.pow_le_pow_right (n := 10) (by decide) h3
    omega
  · show (-((NumText.digitsVal r : Nat) : Int)).natAbs < _
    have := dv_lt r h2
    have := Nat.pow_le_pow_right (n := 10) (by decide) h3
    omega
theorem tOk_val {ws : List Str} {n k : Nat} (h : tOk ws n k = true) : ∃ x, ws[2 + k]? = some x ∧ MN.numV x = .int (valAt ws k) ∧ MN.num x = some (valAt ws k) ∧ MN.okL (TL.tl x) = true ∧ (valAt ws k).natAbs < 2 ^ 210 := by
  unfold tOk at h
  cases hx : ws[2 + k]? with
  | none => rw [hx] at h; cases h
  | some x =>
    rw [hx] at h
    have e : valAt ws k = MN.valL (TL.tl x) := by unfold valAt; rw [hx]
    by_cases ok : MN.okL (TL.tl x) = true
    · have en : MN.num x = some (MN.valL (TL.tl x)) := if_pos ok
      refine ⟨x, rfl, ?_, by rw [en, e], ok, by rw [e]; exact val_bt ok⟩
      unfold MN.numV
      rw [en, e]
    · have en : MN.num x = none := if_neg ok
      dsimp only at h
      rw [en] at h
      cases h
def TRdEnd (A : Ad) (E : XK) (H : Hp) (Q : VK) (ws : List Str) : Prop := match tstop ws with
  | some k => OutT A E H (.int (k : Nat))
  | none => (AllPos (matOf ws (nOf (ws.headD ""))) → ∀ y H', Same H H' → TabAt H' y A.c_Table (nOf (ws.headD "")) (matOf ws (nOf (ws.headD ""))) → Q (.ref y) H') ∧ (¬ AllPos (matOf ws (nOf (ws.headD ""))) → OutT A E H (.int ((ws.length : Nat) - 1 : Int)))
def sp_tread (A : Ad) : Sp := fun vs H Q E => ∃ v : V, vs = [v] ∧
  ((NoStr A H v ∧ OutT A E H (.int 0)) ∨
   ∃ ws : List Str, v = .str (Txt.join " " ws) ∧ ws ≠ [] ∧ (∀ x ∈ ws, Wo x) ∧ ws.length ≤ 200 ∧ TRdEnd A E H Q ws)
theorem rowOf_len (ws : List Str) (n i : Nat) : (rowOf ws n i).length = n := by
  unfold rowOf
  rw [List.length_map, List.length_range]
theorem rowOf_get {ws : List Str} {n i j : Nat} (h : j < n) : (rowOf ws n i)[j]? = some (valAt ws (i * n + j)) := by
  unfold rowOf
  rw [List.getElem?_map, List.getElem?_range h]
  rfl
theorem matOf_get {ws : List Str} {n i : Nat} (h : i < n) : (matOf ws n)[i]? = some (rowOf ws n i) := by
  unfold matOf
  rw [List.getElem?_map, List.getElem?_range h]
  rfl
theorem matOf_sq (ws : List Str) (n : Nat) : Sq n (matOf ws n) := by
  refine ⟨by unfold matOf; rw [List.length_map, List.length_range], fun r hr => ?_⟩
  unfold matOf at hr
  obtain ⟨i, _, rfl⟩ := List.mem_map.mp hr
  exact rowOf_len ws n i
def RowL (H : Hp) (x : V) (r : List Int) : Prop := ∃ t, x = .ref t ∧ H t = some (.lst (r.map V.int))
theorem RowL.same {H H' : Hp} {x : V} {r : List Int} (h : RowL H x r) (s : Same H H') : RowL H' x r := by
  obtain ⟨t, e, q⟩ := h
  exact ⟨t, e, s _ _ q⟩
def sideV (ws : List Str) (n i j : Nat) : V := if j < i then .int (valAt ws (j * n + i)) else .non
def sideL (ws : List Str) (n i : Nat) : List V := (List.range n).map (sideV ws n i)
theorem dm {n i j : Nat} (hj : j < n) : (i * n + j) % n = j ∧ (i * n + j) / n = i := by
  have h0 : 0 < n := by omega
  rw [Nat.mul_comm i n, Nat.mul_add_mod, Nat.mod_eq_of_lt hj, Nat.mul_add_div h0, Nat.div_eq_of_lt hj]
  exact ⟨rfl, rfl⟩
theorem idx_lt {n i j : Nat} (hi : i < n) (hj : j < i) : j * n + i < i * n := by
  have : (j + 1) * n ≤ i * n := Nat.mul_le_mul_right n hj
  rw [Nat.succ_mul] at this
  omega
theorem side_tOk {ws : List Str} {n i j : Nat} {x : Str} (hi : i < n) (hj : j < n) (ok : ∀ k, k < i * n + j → tOk ws n k = true) (hx : ws[2 + (i * n + j)]? = some x) : wiB x (sideV ws n i j) (sideV ws n i j) = tOk ws n (i * n + j) := by
  obtain ⟨e1, e2⟩ := dm (i := i) hj
  unfold tOk sideV
  rw [hx, e1, e2]
  unfold wiB MN.numV
  dsimp only
  cases hn : MN.num x with
  | none => rfl
  | some z =>
    by_cases c : j < i
    · have lt := idx_lt hi c
      obtain ⟨y, hy, _, hz, _⟩ := tOk_val (ok (j * n + i) (by omega))
      rw [show 2 + n * j + i = 2 + (j * n + i) by rw [Nat.mul_comm n j]; omega, hy, if_pos c, decide_eq_true c]
      simp only [Option.bind_some, hz, isI, inLo, inHi, Bool.true_and, Bool.not_true, Bool.false_or]
      by_cases e : valAt ws (j * n + i) = z
      · rw [e]
        simp
      · rw [decide_eq_false (fun q => e (Option.some.inj q))]
        by_cases l : valAt ws (j * n + i) ≤ z
        · rw [decide_eq_true l, decide_eq_false (by omega)]
          rfl
        · rw [decide_eq_false l]
          rfl
    · rw [if_neg c, decide_eq_false c]
      rfl
theorem mat_sym {ws : List Str} {n : Nat} (ok : ∀ k, k < n * n → tOk ws n k = true) : Sym (matOf ws n) := by
  intro i j hi hj
  rw [(matOf_sq ws n).1] at hi
  unfold ent
  rw [matOf_get hi, matOf_get (show j < n by omega)]
  simp only [Option.bind_some]
  rw [rowOf_get (show j < n by omega), rowOf_get hi]
  have b1 : i * n + j < n * n := by
    have : (i + 1) * n ≤ n * n := Nat.mul_le_mul_right n hi
    rw [Nat.succ_mul] at this
    omega
  have lt := idx_lt hi hj
  have k1 := ok _ b1
  obtain ⟨y, hy, _, hz, _⟩ := tOk_val (ok (j * n + i) (by omega))
  obtain ⟨x, hx, _, hw, _⟩ := tOk_val k1
  obtain ⟨e1, e2⟩ := dm (i := i) (show j < n by omega)
  unfold tOk at k1
  rw [hx, e1, e2] at k1
  dsimp only at k1
  rw [hw] at k1
  dsimp only at k1
  rw [decide_eq_true hj, show 2 + n * j + i = 2 + (j * n + i) by rw [Nat.mul_comm n j]; omega, hy] at k1
  simp only [Option.bind_some, hz, Bool.not_true, Bool.false_or, decide_eq_true_eq] at k1
  exact k1.symm
theorem mat_bt {ws : List Str} {n : Nat} (ok : ∀ k, k < n * n → tOk ws n k = true) : ∀ r ∈ matOf ws n, Bt 210 r := by
  intro r hr z hz
  unfold matOf at hr
  obtain ⟨i, hi, rfl⟩ := List.mem_map.mp hr
  have hi := List.mem_range.mp hi
  unfold rowOf at hz
  obtain ⟨j, hj, rfl⟩ := List.mem_map.mp hz
  have hj := List.mem_range.mp hj
  have b1 : i * n + j < n * n := by
    have : (i + 1) * n ≤ n * n := Nat.mul_le_mul_right n hi
    rw [Nat.succ_mul] at this
    omega
  obtain ⟨_, _, _, _, _, b⟩ := tOk_val (ok _ b1)
  exact b
theorem tOk_len {ws : List Str} {n k : Nat} (h : tOk ws n k = true) : 2 + k < ws.length := by
  obtain ⟨x, hx, _⟩ := tOk_val h
  exact (List.getElem?_eq_some_iff.mp hx).1
theorem sideL_get {ws : List Str} {n i j : Nat} (h : j < n) : (sideL ws n i)[j]? = some (sideV ws n i j) := by
  unfold sideL
  rw [List.getElem?_map, List.getElem?_range h]
  rfl
theorem sideL_len (ws : List Str) (n i : Nat) : (sideL ws n i).length = n := by
  unfold sideL
  rw [List.length_map, List.length_range]
theorem sideL_eq {ws : List Str} {n i : Nat} (h : i ≤ n) : (sideL ws n i).take i ++ (List.replicate ((n : Int) - (i : Int)).toNat [V.non]).flatten = sideL ws n i := by
  have e : (List.replicate ((n : Int) - (i : Int)).toNat [V.non]).flatten = List.replicate (n - i) V.non := by
    rw [show ((n : Int) - (i : Int)).toNat = n - i by omega]
    induction n - i with
    | zero => rfl
    | succ k ih =>
      rw [List.replicate_succ, List.flatten_cons, ih]
      rfl
  rw [e]
  have e2 : (sideL ws n i).drop i = List.replicate (n - i) V.non := by
    refine List.ext_getElem? fun j => ?_
    rw [List.getElem?_drop, List.getElem?_replicate]
    by_cases c : i + j < n
    · rw [sideL_get c, if_pos (by omega)]
      unfold sideV
      rw [if_neg (by omega)]
    · rw [if_neg (by omega)]
      exact List.getElem?_eq_none (by rw [sideL_len]; omega)
  rw [← e2, List.take_append_drop]
theorem sideV_bd (ws : List Str) (n i j : Nat) : Bd (sideV ws n i j) := by
  unfold sideV
  split <;> trivial
theorem G_Table_read (T : Txt P K mg A) : FnG P w K mg base (L2.CX P w) 9 A.a_Table_read A.d_Table_read P_Table_read (sp_tread A) := by
  refine okGX T.F_Table_read sc_Table_read (fun vs H Q E h => ?_) (fun cdv A0 outer s H vs Q E hr h => ?_)
  · obtain ⟨v, rfl, _⟩ := h
    rfl
  obtain ⟨v, rfl, h⟩ := h
  refine ⟨_, (pss_cons (ps_set (i := 1) sc_Table_read.nd rfl (Or.inr rfl) (pe_callG (E := E) (G_items_of T) (hr.mono (by decide)) rfl T.g_items_of T.F_items_of.kp T.b_items_of .nil (passes_call (takes_of rfl rfl rfl rfl) (fun _ _ _ _ h => h)) (pa_cons (pv 0) pa_nil)))
      (pss_cons (ps_set (i := 2) sc_Table_read.nd rfl (Or.inl rfl) (pe_callG (E := E) (G_number_at T) (hr.mono (by decide)) rfl T.g_number_at T.F_number_at.kp T.b_number_at .nil (passes_call (takes_of rfl rfl rfl rfl) (fun _ _ _ _ h => h)) (pa_cons (pv 1) (pa_cons pe_int (pa_cons pe_int (pa_cons (pe_glob (v := .int 5) rfl T.m_MOST_ROWS ⟨_, rfl⟩) pa_nil))))))
      (pss_cons (ps_expr (pe_callG (E := E) (G_read_colon T) (hr.mono (by decide)) rfl T.g_read_colon T.F_read_colon.kp T.b_read_colon .nil (passes_call (takes_of rfl rfl rfl rfl) (fun _ _ _ _ h => h)) (pa_cons (pv 1) (pa_cons pe_int pa_nil))))
      (pss_cons (ps_set (i := 3) sc_Table_read.nd rfl (Or.inl rfl) (pe_lst pa_nil))
      (pss_cons (ps_for (passes_of rfl) rfl (pi_range1 (by rfl) T.n_range (pa_cons (pv 2) pa_nil)) (pg_name (i := 4) sc_Table_read.nd rfl (Or.inr rfl)) (pss_cons (ps_set (i := 5) sc_Table_read.nd rfl (Or.inl rfl) (pe_op op_cat (pe_lc (own := [("row", 7)]) (g := gName 7) (tt := tYes) rfl sc_Table_read.nd (pi_list (pv 3)) (blkOk_by (N := N_Table_read) (sc := defScope s_Table_read) (by decide +kernel)) (fun _ _ _ _ _ => (pg_name (i := 7) sc_Table_read.nd rfl (Or.inl rfl))) (fun _ _ _ _ _ => pts_nil) (fun _ _ _ _ _ => (pe_ix (r := rIxL K) ix_list (pv 7) (pv 4) (fun _ _ => rfl)))) (pe_op op_rep (pe_lst (pa_cons pe_non pa_nil)) (pe_op op_sub (pv 2) (pv 4)))))
      (pss_cons (ps_set (i := 6) sc_Table_read.nd rfl (Or.inr rfl) (pe_op op_add pe_int (pe_op op_mul (pv 4) (pv 2))))
      (pss_one (ps_expr (pe_bm PySem.F.plainAttrs_list PySem.F.slot_list_append PySem.F.type_list_append mt_append (pv 3) (pa_cons (pe_lcR (E := E) (own := [("by", 8), ("side", 9)]) (g := gTup K 2 (gCons (gName 8) (gCons (gName 9) gNil))) (tt := tYes) rfl sc_Table_read.nd (pi_enum (by rfl) T.n_enumerate (pa_cons (pv 5) pa_nil)) (blkOk_by (N := N_Table_read) (sc := defScope s_Table_read) (by decide +kernel)) rfl rfl (takes_of rfl rfl rfl rfl) (fun _ _ _ _ _ => (pg_tup rfl (pgs_cons (pg_name (i := 8) sc_Table_read.nd rfl (Or.inl rfl)) (pgs_cons (pg_name (i := 9) sc_Table_read.nd rfl (Or.inl rfl)) pgs_nil)))) (fun _ _ _ _ _ => pts_nil) (fun _ _ _ _ _ _ px => (pe_callG (E := E) (G_number_at T) (hr.mono (by decide)) rfl T.g_number_at T.F_number_at.kp T.b_number_at .nil px (pa_cons (pv 1) (pa_cons (pe_op op_add (pv 6) (pv 8)) (pa_cons (pv 9) (pa_cons (pv 9) pa_nil))))))) pa_nil)))))))
      (pss_cons (ps_expr (pe_callG (E := E) (G_read_end T) (hr.mono (by decide)) rfl T.g_read_end T.F_read_end.kp T.b_read_end .nil (passes_call (takes_of rfl rfl rfl rfl) (fun _ _ _ _ h => h)) (pa_cons (pv 1) (pa_cons (pe_op op_add pe_int (pe_op op_mul (pv 2) (pv 2))) pa_nil))))
      (pss_one (L2H.ps_try_onlyX (c := .ref A.c_BadTable) (Wout := fun cls d _ H => E cls d H) (tb := fun W => tRet (tMkGS A.c_Table (sp_tabi K A.c_Table A.c_BadTable) (WE W) (tCons (tVar 3) tNil))) (ts := fun a cls d D σ H => tMkO A.c_BadText (sp2 K "line" "item") [] (tCons (tC (.int 0)) (tCons (tOp (rI0 fun i j => V.int (i - j)) (tCB (rLenQ K) (tCons (tVar 1) tNil)) (tC (.int 1))) tNil)) σ H fun cls d H' => E cls d H') rfl rfl ⟨rfl, by decide, .inl T.X_BadTable.gC⟩ (fun hd => L2H.passesAt_of rfl hd) (takes_of rfl rfl rfl rfl) (fun W pn xe tkN tk _ => (pss_one (ps_ret (pe_mkGS (ES := WE W) T.M_Table (GN_Table___init__ T) (hr.mono (by decide)) rfl T.g_Table T.b_Table___init__ (fun σ => L2N.passAt tkN σ) (pa_cons (pv 3) pa_nil))))) (fun a oe cls d pn zn hv tk hot => (pss_one (L2H.ps_raiseHN hot tk (L2H.pmk5_oexH T.X_BadText.oex T.X_BadText.iC T.X_BadText.tI (H_init_BadText T) ((hr.mono (by decide)).hot _) hot T.b_init_BadText pass0 rfl T.X_BadText.gC (pa_cons pe_int (pa_cons (pe_op op_sub (pe_callB call_len_seq (by rfl) T.n_len (by decide +kernel) (pa_cons (pv 1) pa_nil)) pe_int) pa_nil)))))))))))))), ?_⟩
  rcases h with ⟨ok, k⟩ | ⟨ws, rfl, ne, wo, lw, h⟩
  · exact ⟨_, rfl, _, rfl, .inl ⟨ok, k⟩⟩
  refine ⟨_, rfl, _, rfl, .inr ⟨ws, rfl, ne, fun p hp => (wo p hp).1, join_len lw wo, fun q1 H1 s1 hq1 => ?_⟩⟩
  have its : ITS H1 q1 ws := ⟨hq1, by omega, wo⟩
  obtain ⟨z0, r, rfl⟩ := List.exists_cons_of_ne_nil ne
  refine ⟨_, rfl, q1, _, 0, .int 1, .int 5, rfl, its, trivial, trivial, (fun c => by simp at c), fun x hx => ?_⟩
  obtain rfl : z0 = x := Option.some.inj hx
  refine ⟨fun ok => ?_, fun bad => ?_⟩
  rotate_left
  · have e : tstop (z0 :: r) = some 0 := tstop_a bad
    unfold TRdEnd at h
    rw [e] at h
    exact OutT.on h s1
  obtain ⟨nv0, n1, n13, okn⟩ := wiB_nat (by decide) ok
  have hn0 : ¬ wiB z0 (.int 1) (.int 5) = false := by rw [ok]; simp
  rw [nv0]
  generalize hn : nOf z0 = n at nv0 n1 n13
  refine ⟨_, rfl, q1, _, 1, rfl, its, fun c => ?_, fun x hx => ?_⟩
  · cases r with
    | cons z r => simp at c
    | nil =>
      have e : tstop [z0] = some 1 := tstop_b hn0
      unfold TRdEnd at h
      rw [e] at h
      exact OutT.on h s1
  obtain ⟨z1, rest, rfl⟩ : ∃ z1 rest, r = z1 :: rest := by
    cases r with
    | nil => simp at hx
    | cons a b => exact ⟨a, b, rfl⟩
  obtain rfl : z1 = x := Option.some.inj hx
  refine ⟨fun colon => ?_, fun nc => ?_⟩
  rotate_left
  · have e : tstop (z0 :: z1 :: rest) = some 1 := tstop_c hn0 nc
    unfold TRdEnd at h
    rw [e] at h
    exact OutT.on h s1
  subst colon
  have e0 : tstop (z0 :: ":" :: rest) = match fbA (tbad (z0 :: ":" :: rest) n) 0 (n * n) with
      | some k => some (2 + k)
      | none => if rest.length = n * n then none else some (2 + n * n) := by
    rw [← hn]
    exact tstop_d hn0
  have lw2 : (z0 :: ":" :: rest).length = 2 + rest.length := by simp; omega
  have hd0 : (z0 :: ":" :: rest).headD "" = z0 := rfl
  generalize hW : (z0 :: ":" :: rest : List Str) = WS at *
  unfold TRdEnd at h
  rw [hd0, hn, e0] at h
  have n5 : n ≤ 5 := by omega
  have n0 : 1 ≤ n := by omega
  refine ⟨by show 0 ≤ sizeLine; decide, fun q2 hq2 => ?_⟩
  have s2 : Same H1 (upd H1 q2 (.lst [])) := Same.new (fun _ _ h => h) hq2
  refine ⟨_, rfl, _, rfl, by omega, by omega, ?_⟩
  refine for_range (lo := 0) (n := n) (fun i σ' H' => ∃ v4 v5 v6 : Option V, σ' = [some (.str (Txt.join " " WS)), some (.ref q1), some (.int (n : Int)), some (.ref q2), v4, v5, v6, none, none, none] ∧ Same H1 H' ∧ (∀ k, k < i * n → tOk WS n k = true) ∧ ∃ xs, H' q2 = some (.lst xs) ∧ Paired (RowL (del H' q2)) xs ((matOf WS n).take i))
    ⟨none, none, none, rfl, s2, (fun k hk => by omega), [], upd_same, .nil⟩ ?_ ?_
  · rintro i σ' H2 hi ⟨v4, v5, v6, rfl, s3, okk, xs, hxs, hp⟩
    rw [show (0 : Int) + (i : Int) = (i : Int) by omega]
    have dl : Same (del H2 q2) H2 := fun c o hc => by
      by_cases e : c = q2
      · rw [e, del_same] at hc
        cases hc
      · rw [del_ne e] at hc
        exact hc
    have hl := Paired.length hp
    rw [List.length_take, (matOf_sq WS n).1] at hl
    refine ⟨_, rfl, q2, rfl, ⟨_, SqL.of hxs⟩, fun D hD => ?_⟩
    refine lc_list (K := K) (a := q2) (xs := xs) (fun j H' => Same H2 H' ∧ H' D = some (.lst (((sideL WS n i).take i).take j))) ⟨Same.new (fun _ _ h => h) hD, upd_same⟩ (fun j H' _ q => SqL.of (q.1 _ _ hxs)) ?_ ?_
    · rintro j x H' hx ⟨s4, hD3⟩
      obtain ⟨r, hr, t, rfl, ht⟩ := paired_get hp hx
      have jx := (List.getElem?_eq_some_iff.mp hx).1
      have ji : j < i := by omega
      rw [List.getElem?_take, if_pos ji, matOf_get (show j < n by omega)] at hr
      obtain rfl := Option.some.inj hr
      have ht' := s4 _ _ (dl _ _ ht)
      have rg : ((rowOf WS n j).map V.int)[i]? = some (V.int (valAt WS (j * n + i))) := by
        rw [List.getElem?_map, rowOf_get hi]
        rfl
      have sg : ((sideL WS n i).take i)[j]? = some (V.int (valAt WS (j * n + i))) := by
        rw [List.getElem?_take, if_pos ji, sideL_get (show j < n by omega)]
        unfold sideV
        rw [if_pos ji]
      refine ⟨rfl, tYes_of (iteT ⟨_, rfl, _, rfl, _, _, _, _, rfl, rfl, SqL.of ht', atI_nat rg, _, hD3, ?_, ?_, ?_⟩)⟩
      · rw [List.length_take, List.length_take, sideL_len]
        exact small1000 (by omega)
      · intro c o hc
        rw [upd_ne (ne_of_none hc hD)]
        exact s4 _ _ hc
      · rw [upd_same, List.take_succ (l := (sideL WS n i).take i), sg]
        rfl
    · rintro H3 ⟨s4, hD3⟩
      rw [show xs.length = i by omega, List.take_take, Nat.min_self] at hD3
      refine ⟨by show 1 ≤ sizeLine; decide, fun p1 hp1 => ?_⟩
      have sp1 : Same H3 (upd H3 p1 (.lst [.non])) := Same.new (fun _ _ h => h) hp1
      refine ⟨_, rfl, _, rfl, _, _, rfl, rfl, p1, _, _, rfl, rfl, upd_same, by omega, by omega, ?_, fun p2 hp2 => ?_⟩
      · have : (1000 : Nat) ≤ sizeLine := by decide
        show 1 * _ ≤ _
        omega
      have sp2 := sp1.trans (Same.new (o := .lst (List.replicate ((n : Int) - (i : Int)).toNat [V.non]).flatten) (fun _ _ h => h) hp2)
      have lf : (List.replicate ((n : Int) - (i : Int)).toNat [V.non]).flatten.length ≤ 10 := by
        have e := congrArg List.length (sideL_eq (ws := WS) (show i ≤ n by omega))
        rw [List.length_append, sideL_len] at e
        omega
      refine ⟨D, p2, _, _, rfl, rfl, sp2 _ _ hD3, upd_same, ?_, fun p3 hp3 => ?_⟩
      · have : (1000 : Nat) ≤ sizeLine := by decide
        rw [List.length_take, sideL_len]
        omega
      rw [sideL_eq (show i ≤ n by omega)]
      have sp3 := sp2.trans (Same.new (o := .lst (sideL WS n i)) (fun _ _ h => h) hp3)
      have hp3' : ∀ G : Hp, (upd G p3 (.lst (sideL WS n i))) p3 = some (.lst (sideL WS n i)) := fun G => upd_same
      replace hp3' := hp3' (upd (upd H3 p1 (.lst [.non])) p2 (.lst (List.replicate ((n : Int) - (i : Int)).toNat [V.non]).flatten))
      generalize upd (upd (upd H3 p1 (.lst [.non])) p2 (.lst (List.replicate ((n : Int) - (i : Int)).toNat [V.non]).flatten)) p3 (.lst (sideL WS n i)) = H4 at sp3 hp3'
      have S4 := s4.trans sp3
      refine ⟨_, rfl, _, rfl, _, _, rfl, rfl, .inl ⟨by omega, by omega⟩, _, _, rfl, rfl, ?_⟩
      have es : (2 : Int) + (i : Int) * (n : Int) = ((2 + i * n : Nat) : Int) := by
        rw [Int.natCast_add, Int.natCast_mul]
        rfl
      dsimp only
      rw [es]
      refine ⟨_, rfl, .inl ⟨rfl, _, SqL.of (S4 _ _ hxs)⟩, _, rfl, p3, _, rfl, SqL.of hp3', fun D4 hD4 => ?_⟩
      refine lc_it (walk_enum (K := K) (a := p3) (xs := sideL WS n i)) (fun j H' => Same H4 H' ∧ (∀ k, k < i * n + j → tOk WS n k = true) ∧ H' D4 = some (.lst (((rowOf WS n i).take j).map V.int))) ⟨Same.new (fun _ _ h => h) hD4, by simpa using okk, upd_same⟩ (fun j H' _ q => SqL.of (q.1 _ _ hp3')) ?_ ?_
      · rintro j x H5 H6 hj ⟨s5, okj, hD5⟩ ⟨TT, x0, y0, rfl, hTT, rfl, e1, e2⟩
        obtain rfl := (Option.some.inj e1)
        have jn : j < n := by rw [sideL_len] at hj; exact hj
        obtain rfl := (Option.some.inj ((show (sideL WS n i)[j]? = some y0 from e2).symm.trans (sideL_get jn)))
        have sT : Same H5 (upd H5 TT (.tup [.int (j : Int), sideV WS n i j])) := Same.new (fun _ _ h => h) hTT
        have hT6 : (upd H5 TT (.tup [.int (j : Int), sideV WS n i j])) TT = some (.tup [.int (j : Int), sideV WS n i j]) := upd_same
        have nTD : H5 D4 ≠ none := by rw [hD5]; simp
        generalize upd H5 TT (.tup [.int (j : Int), sideV WS n i j]) = H6 at sT hT6
        have its6 := its.keep (s3.trans (S4.trans (s5.trans sT)))
        refine ⟨TT, _, rfl, SqT.of hT6, rfl, _, _, rfl, _, _, rfl, rfl, rfl, tYes_of (iteT ?_)⟩
        have ei : ((2 + i * n : Nat) : Int) + (j : Int) = ((2 + (i * n + j) : Nat) : Int) := by omega
        refine ⟨_, rfl, _, rfl, _, rfl, _, _, rfl, rfl, _, rfl, _, rfl, q1, WS, 2 + (i * n + j), sideV WS n i j, sideV WS n i j, ?_, its6, sideV_bd _ _ _ _, sideV_bd _ _ _ _, fun c => ?_, fun x hx => ?_⟩
        · show [V.ref q1, V.int (((2 + i * n : Nat) : Int) + (j : Int)), sideV WS n i j, sideV WS n i j] = _
          rw [ei]
        · have lo : 2 + (i * n + j) ≤ WS.length := by
            by_cases z : i * n + j = 0
            · rw [z, lw2]
              omega
            · have := tOk_len (okj (i * n + j - 1) (by omega))
              omega
          have el : WS.length = 2 + (i * n + j) := by omega
          have ef : fbA (tbad WS n) 0 (n * n) = some (i * n + j) := fbA_some _ _ (fun m _ hm => by unfold tbad; rw [okj m hm]; rfl) (by
            unfold tbad tOk
            rw [List.getElem?_eq_none (by omega)]
            rfl) (Nat.zero_le _) (by
            have : (i + 1) * n ≤ n * n := Nat.mul_le_mul_right n hi
            rw [Nat.succ_mul] at this
            omega)
          rw [ef] at h
          rw [el]
          exact OutT.on h (s1.trans (s3.trans (S4.trans (s5.trans sT))))
        · have eo := side_tOk hi jn okj hx
          refine ⟨fun okx => ?_, fun badx => ?_⟩
          · rw [eo] at okx
            obtain ⟨x', hx', nv', _, _, _⟩ := tOk_val okx
            rw [hx] at hx'
            cases hx'
            rw [nv']
            refine ⟨_, sT _ _ hD5, ?_, ?_, ?_, ?_⟩
            · rw [List.length_map, List.length_take, rowOf_len]
              exact small1000 (by omega)
            · intro c o hc
              rw [upd_ne (ne_of_none hc hD4)]
              exact sT _ _ (s5 _ _ hc)
            · intro k hk
              by_cases c : k < i * n + j
              · exact okj k c
              · obtain rfl : k = i * n + j := by omega
                exact okx
            · rw [upd_same, List.take_succ, rowOf_get jn]
              simp
          · rw [eo] at badx
            have ef : fbA (tbad WS n) 0 (n * n) = some (i * n + j) := fbA_some _ _ (fun m _ hm => by unfold tbad; rw [okj m hm]; rfl) (by
              unfold tbad
              rw [badx]
              rfl) (Nat.zero_le _) (by
              have : (i + 1) * n ≤ n * n := Nat.mul_le_mul_right n hi
              rw [Nat.succ_mul] at this
              omega)
            rw [ef] at h
            exact OutT.on h (s1.trans (s3.trans (S4.trans (s5.trans sT))))
      · rintro H5 ⟨s5, okj, hD5⟩
        rw [sideL_len] at okj hD5
        rw [List.take_of_length_le (by rw [rowOf_len]; exact Nat.le_refl _)] at hD5
        have hq5 := s5 _ _ (S4 _ _ hxs)
        have S5 := S4.trans s5
        have D4q : D4 ≠ q2 := fun e => by
          have := S4 _ _ hxs
          rw [← e, hD4] at this
          cases this
        refine ⟨q2, _, _, rfl, rfl, hq5, small1000 (by omega), _, _, _, rfl, ?_, ?_, _, upd_same, ?_⟩
        · intro c o hc
          rw [upd_ne (ne_of_none hc hq2)]
          exact S5 _ _ (s3 _ _ hc)
        · intro k hk
          rw [Nat.succ_mul] at hk
          exact okj k hk
        · rw [List.take_succ, matOf_get hi]
          refine paired_snoc ⟨D4, rfl, ?_⟩ (paired_imp (fun _ _ z => z.same fun c o hc => ?_) hp)
          · rw [del_ne D4q, upd_ne D4q]
            exact hD5
          · have e : c ≠ q2 := fun e => by rw [e, del_same] at hc; cases hc
            rw [del_ne e] at hc ⊢
            rw [upd_ne e]
            exact S5 _ _ hc
  · rintro σ' H2 ⟨v4, v5, v6, rfl, s3, okk, xs, hxs, hp⟩
    have its2 := its.keep s3
    have S2 := s1.trans s3
    have ef : fbA (tbad WS n) 0 (n * n) = none := fbA_none _ _ fun m _ hm => by
      unfold tbad
      rw [okk m (by omega)]
      rfl
    rw [ef] at h
    have lo : 2 + n * n ≤ WS.length := by
      have : 1 ≤ n * n := Nat.mul_pos n0 n0
      have := tOk_len (okk (n * n - 1) (by omega))
      omega
    rw [lw2] at lo
    have en : (2 : Int) + (n : Int) * (n : Int) = ((2 + n * n : Nat) : Int) := by
      rw [Int.natCast_add, Int.natCast_mul]
      rfl
    refine ⟨_, rfl, _, rfl, _, rfl, _, _, rfl, rfl, .inl ⟨by omega, by omega⟩, _, _, rfl, rfl, q1, WS, 2 + n * n, ?_, its2, fun le => ?_, fun gt => ?_⟩
    · show [V.ref q1, V.int ((2 : Int) + (n : Int) * (n : Int))] = _
      rw [en]
    · have e2 : rest.length = n * n := by omega
      rw [if_pos e2] at h
      obtain ⟨k1, k2⟩ := h
      have dl : Same (del H2 q2) H2 := fun c o hc => by
        by_cases e : c = q2
        · rw [e, del_same] at hc
          cases hc
        · rw [del_ne e] at hc
          exact hc
      rw [List.take_of_length_le (by rw [(matOf_sq WS n).1]; exact Nat.le_refl _)] at hp
      have hm : MatA H2 q2 (matOf WS n) := ⟨xs, .inl hxs, paired_imp (fun _ _ ⟨t, e, g⟩ => ⟨t, e, .inl (dl _ _ g)⟩) hp⟩
      refine ⟨_, rfl, ?_⟩
      by_cases ap : AllPos (matOf WS n)
      · exact mk_tab (fun x => rfl) n0 n5 hm (matOf_sq WS n) (mat_bt okk) (mat_sym okk) ap fun y H' s4 hy => k1 ap y H' (S2.trans s4) hy
      · refine mk_low (fun x => rfl) n0 n5 hm (matOf_sq WS n) (mat_bt okk) (mat_sym okk) ap fun d H' hd s4 => ?_
        refine ⟨true, exm_self T.X_BadTable, fun _ b hb' => ?_, fun z => by cases z⟩
        refine ⟨_, rfl, q1, _, rfl, .inl (SqL.of (s4 _ _ its2.1)), _, _, rfl, rfl, by show 2 ≤ 1000; decide, raise2 T.X_BadText.oex (T.X_BadText.no _ List.mem_cons_self) (T.X_BadText.no _ (List.mem_cons_of_mem _ List.mem_cons_self)) ?_⟩
        dsimp only
        rw [List.length_map]
        exact (k2 ap).on (S2.trans s4)
    · rw [if_neg (by omega)] at h
      exact OutT.on h S2
theorem by15 (f : Nat → Bool) (h : (List.range 15).all f = true) {n : Nat} (h1 : n ≤ 14) : f n = true := List.all_eq_true.mp h n (List.mem_range.mpr (by omega))
/-! ### webs are equal -/
def sp_eq (C : Addr) : Sp := fun vs H Q _ => ∃ (x : Addr) (n : Nat) (ps : MC.Pr) (y : V), vs = [.ref x, y] ∧ WebAt H x C n ps ∧
  (∃ z m qs, y = .ref z ∧ WebAt H z C m qs ∧ Q (.bl (decide (n = m ∧ ps = qs))) H)
theorem G_Web___eq__ (T : Txt P K mg A) : FnG P w K mg base CX0 1 A.a_Web___eq__ A.d_Web___eq__ P_Web___eq__ (sp_eq A.c_Web) := by
  refine okG T.F_Web___eq__ sc_Web___eq__ (fun vs H Q E h => ?_) (fun cdv A0 outer s H vs Q E hr h => ?_)
  · obtain ⟨x, n, ps, y, rfl, _⟩ := h
    rfl
  obtain ⟨x, n, ps, y, rfl, ⟨dx, q, xs, hx, hq, hp⟩, h⟩ := h
  refine ⟨_, (pss_cons (ps_if (pt_not (pt_val (pe_callB call_isi (by rfl) T.n_isinstance (by decide +kernel) (pa_cons (pv 1) (pa_cons (pe_glob (v := .ref A.c_Web) rfl T.g_Web rfl) pa_nil))))) (pss_one (ps_ret pe_bl)) pss_nil)
      (pss_one (ps_ret (pe_and (pe_cmpR op_isSelf (pe_callTy (T := "type") call_typeO (by rfl) T.n_type (by decide +kernel) (pa_cons (pv 0) pa_nil)) (pe_callTy (T := "type") call_typeO (by rfl) T.n_type (by decide +kernel) (pa_cons (pv 1) pa_nil)) (nomark _)) (pe_and (pe_cmpR op_eq (pe_fld (pv 0) rfl) (pe_fld (pv 1) rfl) (nomark _)) (pe_one (pe_cmpR (op_eqD hr.room.units) (pe_fld (pv 0) rfl) (pe_fld (pv 1) rfl) (nomark _)))))))), ?_⟩
  obtain ⟨z, m, qs, rfl, ⟨dz, r, zs, hz, hr', hp'⟩, k⟩ := h
  · refine ⟨_, rfl, _, _, _, _, _, rfl, .own A.c_Web, own_ty hz T.K_Web T.I_Web, kit_self, _, rfl, iteF ?_⟩
    refine ⟨_, rfl, _, _, _, _, rfl, hx, _, rfl, _, _, _, _, rfl, hz, _, rfl, rfl, ?_⟩
    refine ⟨_, rfl, iteT ⟨_, rfl, x, A.c_Web, dx, _, _, rfl, hx, T.K_Web, T.N_Web_places, rfl, _, rfl, z, A.c_Web, dz, _, _, rfl, hz, T.K_Web, T.N_Web_places, rfl, rfl, _, rfl, ?_⟩⟩
    by_cases e : n = m
    · subst e
      rw [decide_eq_true rfl]
      refine iteT ⟨_, rfl, x, A.c_Web, dx, _, _, rfl, hx, T.K_Web, T.N_Web_ties, rfl, _, rfl, z, A.c_Web, dz, _, _, rfl, hz, T.K_Web, T.N_Web_ties, rfl, ?_⟩
      refine ⟨_, _, .tup (SqT.of hq) (dp_prs hp), .tup (SqT.of hr') (dp_prs hp'), shaped_tps _, shaped_tps _, ?_⟩
      rw [eqv_tps]
      simpa using k
    · have e' : ¬ (V.int (n : Int) = V.int (m : Int)) := fun h => e (by
        have := V.int.inj h
        omega)
      rw [decide_eq_false e']
      refine iteF ?_
      have z : decide (n = m ∧ ps = qs) = false := decide_eq_false fun h => e h.1
      rw [z] at k
      exact k
/-! ### tables are equal -/
def dmt (M : Mt) : List PyData := M.map fun r => .tuple (r.map PyData.int)
theorem dp_row {H : Hp} : ∀ r : List Int, DpAll K H (r.map V.int) (r.map PyData.int)
  | [] => .nil
  | z :: r => .cons (.int _) (dp_row r)
theorem dp_mt {H : Hp} : ∀ {xs : List V} {M : Mt}, Paired (RowT H) xs M → DpAll K H xs (dmt M)
  | _, _, .nil => .nil
  | _, _, .cons ⟨t, e, h⟩ r => by
    subst e
    exact .cons (.tup (SqT.of h) (dp_row _)) (dp_mt r)
theorem lay_row : ∀ r : List Int, PyData.canLayAll0 (r.map PyData.int) = true
  | [] => by simp [PyData.canLayAll0]
  | z :: r => by
    have ih := lay_row r
    simp only [List.map_cons, PyData.canLayAll0, ih, PyData.canLay0, Bool.and_self]
theorem lay_mt : ∀ M : Mt, PyData.canLayAll0 (dmt M) = true
  | [] => by simp [dmt, PyData.canLayAll0]
  | r :: M => by
    have ih := lay_mt M
    unfold dmt at ih ⊢
    simp only [List.map_cons, PyData.canLayAll0, ih, PyData.canLay0, lay_row, Bool.and_self]
theorem depth_row : ∀ r : List Int, PyData.depthAll (r.map PyData.int) = 0
  | [] => by simp [PyData.depthAll]
  | z :: r => by
    have ih := depth_row r
    simp only [List.map_cons, PyData.depthAll, ih, PyData.depth]
    rfl
theorem depth_mt : ∀ M : Mt, PyData.depthAll (dmt M) ≤ 1
  | [] => by simp [dmt, PyData.depthAll]
  | r :: M => by
    have ih := depth_mt M
    unfold dmt at ih ⊢
    simp only [List.map_cons, PyData.depthAll, PyData.depth, depth_row]
    omega
theorem shaped_mt (M : Mt) : SeqAt.shaped (.tuple (dmt M)) = true := by
  have := depth_mt M
  unfold SeqAt.shaped
  simp only [PyData.canLay0, PyData.depth, lay_mt, Bool.true_and]
  exact decide_eq_true (by omega)
theorem eqv_row : ∀ r : List Int, PyData.eqvAll (r.map PyData.int) (r.map PyData.int) = true
  | [] => by simp [PyData.eqvAll]
  | z :: r => by
    have ih := eqv_row r
    simp only [List.map_cons, PyData.eqvAll, PyData.eqv, ih, beq_self_eq_true, Bool.and_self]
theorem eqv_mt : ∀ M : Mt, PyData.eqvAll (dmt M) (dmt M) = true
  | [] => by simp [dmt, PyData.eqvAll]
  | r :: M => by
    have ih := eqv_mt M
    unfold dmt at ih ⊢
    simp only [List.map_cons, PyData.eqvAll, PyData.eqv, ih, eqv_row, Bool.and_self]
def sp_teq (C : Addr) : Sp := fun vs H Q _ => ∃ (x z : Addr) (n m : Nat) (M : Mt), vs = [.ref x, .ref z] ∧ TabAt H x C n M ∧ TabAt H z C m M ∧ Q (.bl true) H
theorem G_Table___eq__ (T : Txt P K mg A) : FnG P w K mg base CX0 1 A.a_Table___eq__ A.d_Table___eq__ P_Table___eq__ (sp_teq A.c_Table) := by
  refine okG T.F_Table___eq__ sc_Table___eq__ (fun vs H Q E h => ?_) (fun cdv A0 outer s H vs Q E hr h => ?_)
  · obtain ⟨_, _, _, _, _, rfl, _⟩ := h
    rfl
  obtain ⟨x, z, n, m, M, rfl, ⟨dx, q, xs, d, hx, hq, hp⟩, ⟨dz, r, zs, d2, hz, hr', hp'⟩, k⟩ := h
  refine ⟨_, (pss_cons (ps_if (pt_not (pt_val (pe_callB call_isi (by rfl) T.n_isinstance (by decide +kernel) (pa_cons (pv 1) (pa_cons (pe_glob (v := .ref A.c_Table) rfl T.g_Table rfl) pa_nil))))) (pss_one (ps_ret pe_bl)) pss_nil)
      (pss_one (ps_ret (pe_and (pe_cmpR op_isSelf (pe_callTy (T := "type") call_typeO (by rfl) T.n_type (by decide +kernel) (pa_cons (pv 0) pa_nil)) (pe_callTy (T := "type") call_typeO (by rfl) T.n_type (by decide +kernel) (pa_cons (pv 1) pa_nil)) (nomark _)) (pe_one (pe_cmpR (op_eqD hr.room.units) (pe_fld (pv 0) rfl) (pe_fld (pv 1) rfl) (nomark _))))))), ?_⟩
  refine ⟨_, rfl, _, _, _, _, _, rfl, .own A.c_Table, own_ty hz T.K_Table T.I_Table, kit_self, _, rfl, iteF ?_⟩
  refine ⟨_, rfl, _, _, _, _, rfl, hx, _, rfl, _, _, _, _, rfl, hz, _, rfl, rfl, ?_⟩
  refine ⟨_, rfl, iteT ⟨_, rfl, x, A.c_Table, dx, _, _, rfl, hx, T.K_Table, T.N_Table_rows, rfl, _, rfl, z, A.c_Table, dz, _, _, rfl, hz, T.K_Table, T.N_Table_rows, rfl, ?_⟩⟩
  refine ⟨_, _, .tup (SqT.of hq) (dp_mt hp), .tup (SqT.of hr') (dp_mt hp'), shaped_mt _, shaped_mt _, ?_⟩
  rw [show PyData.eqv (.tuple (dmt M)) (.tuple (dmt M)) = true by simp only [PyData.eqv, eqv_mt]]
  exact k
/-! ### the text of a web -/
def words (n : Nat) (ps : MC.Pr) : List Str := wd n :: ":" :: ps.flatMap fun p => [wd p.1, wd p.2]
def text (n : Nat) (ps : MC.Pr) : Str := Txt.join " " (words n ps)
theorem log_of {i : Int} (h : i.natAbs < 2 ^ 200) : i.natAbs.log2 < 1920 := by
  by_cases h0 : i.natAbs = 0
  · rw [h0]
    decide
  · refine (Nat.log2_lt h0).mpr (Nat.lt_of_lt_of_le h ?_)
    exact Nat.pow_le_pow_right (by decide) (by decide)
theorem log13 {n : Nat} (h : n ≤ 13) : ((n : Int)).natAbs.log2 < 1920 := log_of (by
  have : (14 : Nat) ≤ 2 ^ 200 := by decide
  omega)
theorem wd_len {n : Nat} (h : n ≤ 13) : (wd n).length ≤ 2 := of_decide_eq_true (by15 (fun n => decide ((wd n).length ≤ 2)) (by decide +kernel) (Nat.le_succ_of_le h))
theorem wd_sp {n : Nat} (h : n ≤ 13) : 32 ∉ TL.tl (wd n) := of_decide_eq_true (by15 (fun n => decide (32 ∉ TL.tl (wd n))) (by decide +kernel) (Nat.le_succ_of_le h))
theorem words_mem {n : Nat} {ps : MC.Pr} {x : Str} (hn : n ≤ 13) (hb : MC.Below n ps) (h : x ∈ words n ps) : x.length ≤ 2 ∧ 32 ∉ TL.tl x := by
  rcases List.mem_cons.mp h with rfl | h
  · exact ⟨wd_len hn, wd_sp hn⟩
  · rcases List.mem_cons.mp h with rfl | h
    · exact ⟨by decide, by decide⟩
    · obtain ⟨p, hp, hx⟩ := List.mem_flatMap.mp h
      obtain ⟨h1, h2⟩ := hb p hp
      rcases List.mem_cons.mp hx with rfl | hx
      · exact ⟨wd_len (by omega), wd_sp (by omega)⟩
      · rw [List.mem_singleton.mp hx]
        exact ⟨wd_len (by omega), wd_sp (by omega)⟩
theorem words_len (n : Nat) (ps : MC.Pr) : (words n ps).length = 2 + 2 * ps.length := by
  have e : ∀ ps : MC.Pr, (ps.flatMap fun p => [wd p.1, wd p.2]).length = 2 * ps.length := fun ps => by
    induction ps with
    | nil => rfl
    | cons p r ih =>
      rw [List.flatMap_cons, List.length_append, ih]
      show 2 + 2 * r.length = 2 * (r.length + 1)
      omega
  show (_ + 1) + 1 = _
  rw [e]
  omega
theorem sum_le2 : ∀ (l : List Str), (∀ x ∈ l, x.length ≤ 2) → (l.map (·.length)).sum ≤ 2 * l.length
  | [], _ => by simp
  | x :: r, h => by
    have h1 := h x List.mem_cons_self
    have h2 := sum_le2 r fun y hy => h y (List.mem_cons_of_mem _ hy)
    rw [List.map_cons, List.sum_cons, List.length_cons]
    omega
def sp_str (C : Addr) : Sp := fun vs H Q _ => ∃ (x : Addr) (n : Nat) (ps : MC.Pr), vs = [.ref x] ∧ WebAt H x C n ps ∧ n ≤ 13 ∧ ps.length ≤ 12 ∧ MC.Below n ps ∧ ∀ H', Same H H' → Q (.str (text n ps)) H'
theorem G_Web___str__ (T : Txt P K mg A) : FnG P w K mg base CX0 2 A.a_Web___str__ A.d_Web___str__ P_Web___str__ (sp_str A.c_Web) := by
  refine okG T.F_Web___str__ sc_Web___str__ (fun vs H Q E h => ?_) (fun cdv A0 outer s H vs Q E hr h => ?_)
  · obtain ⟨x, n, ps, rfl, _⟩ := h
    rfl
  obtain ⟨x, n, ps, rfl, ⟨dx, q, xs, hx, hq, hp⟩, hn, hl, hb, k⟩ := h
  refine ⟨_, (pss_one (ps_ret (pe_bm PySem.F.plainAttrs_str PySem.F.slot_str_join PySem.F.type_str_join mt_join pe_str (pa_cons (pe_op op_cat (pe_lst (pa_cons (pe_callTy (T := "str") call_str_int (by rfl) T.n_str (by decide +kernel) (pa_cons (pe_fld (pv 0) rfl) pa_nil)) (pa_cons pe_str pa_nil))) (pe_lc2 (own := [("pair", 1), ("end", 2)]) (vs1 := [2]) (g := gName 1) (tt := tYes) (g1 := gName 2) (tt1 := tYes) (wi1 := iTup K (tVar 1)) rfl sc_Web___str__.nd (pi_tup (pe_fld (pv 0) rfl)) (blkOk_by (N := N_Web___str__) (sc := defScope s_Web___str__) (by decide +kernel)) (by decide) (fun _ _ _ _ _ => (pg_name (i := 1) sc_Web___str__.nd rfl (Or.inl rfl))) (fun _ _ _ _ _ => pts_nil) (fun _ _ _ _ _ => (pi_tup (pv 1))) (fun _ _ _ _ _ => (pg_name (i := 2) sc_Web___str__.nd rfl (Or.inl rfl))) (fun _ _ _ _ _ => pts_nil) (fun _ _ _ _ _ => (pe_callTy (T := "str") call_str_int (by rfl) T.n_str (by decide +kernel) (pa_cons (pv 2) pa_nil))))) pa_nil)))), ?_⟩
  have hxl : xs.length = ps.length := Paired.length hp
  refine ⟨rfl, _, rfl, x, A.c_Web, dx, _, _, rfl, hx, T.K_Web, T.N_Web_places, rfl, _, rfl, log13 hn, ?_⟩
  refine ⟨by show 2 ≤ sizeLine; decide, fun q1 h1 => ?_⟩
  have s1 : Same H (upd H q1 (.lst [.str (wd n), .str ":"])) := Same.new (fun _ _ h => h) h1
  refine ⟨_, rfl, x, A.c_Web, dx, _, _, rfl, s1 _ _ hx, T.K_Web, T.N_Web_ties, rfl, q, rfl, ⟨_, SqT.of (s1 _ _ hq)⟩, fun D hD => ?_⟩
  have nD : H D = none := s1.free hD
  refine walk_gen (walk_tup (K := K) (a := q) (xs := xs)) (fun i H' => Same (upd H q1 (.lst [.str (wd n), .str ":"])) H' ∧ H' D = some (.lst (((ps.take i).flatMap fun p => [wd p.1, wd p.2]).map V.str))) ⟨Same.new (fun _ _ h => h) hD, upd_same⟩ (fun i H' _ q => SqT.of (q.1 _ _ (s1 _ _ hq))) ?_ ?_
  · rintro i y H' _ hi ⟨s2, hD2⟩ ⟨rfl, hy⟩
    obtain ⟨p, hpi, t, rfl, ht⟩ := paired_get hp hy
    obtain ⟨b1, b2⟩ := hb p (List.mem_of_getElem? hpi)
    have ht2 := s2 _ _ (s1 _ _ ht)
    have et : (ps.take (i + 1)).flatMap (fun p => [wd p.1, wd p.2]) = (ps.take i).flatMap (fun p => [wd p.1, wd p.2]) ++ [wd p.1, wd p.2] := by
      rw [List.take_succ, hpi]
      simp
    have el : ((ps.take i).flatMap fun p => [wd p.1, wd p.2]).length ≤ 24 := by
      have := words_len n (ps.take i)
      have e2 : (words n (ps.take i)).length = ((ps.take i).flatMap fun p => [wd p.1, wd p.2]).length + 1 + 1 := rfl
      have := List.length_take_le i ps
      omega
    rw [et]
    generalize ((ps.take i).flatMap fun p => [wd p.1, wd p.2]) = acc at hD2 el
    refine ⟨rfl, tYes_of (iteT ⟨_, rfl, t, rfl, ⟨_, SqT.of ht2⟩, walk_gen (walk_tup (K := K) (a := t) (xs := [V.int (p.1 : Int), .int (p.2 : Int)])) (fun j H'' => Same (upd H q1 (.lst [.str (wd n), .str ":"])) H'' ∧ H'' D = some (.lst ((acc ++ [wd p.1, wd p.2].take j).map V.str))) ⟨s2, by simpa using hD2⟩ (fun j H'' _ q => SqT.of (q.1 _ _ (s1 _ _ ht))) ?_ ?_⟩)⟩
    · rintro j z H'' _ hj ⟨s3, hD3⟩ ⟨rfl, hz⟩
      obtain ⟨m, hm, hm2, rfl⟩ : ∃ m : Nat, m ≤ 13 ∧ [wd p.1, wd p.2][j]? = some (wd m) ∧ z = .int (m : Int) := by
        match j, hj, hz with
        | 0, _, hz => exact ⟨p.1, by omega, rfl, (Option.some.inj hz).symm⟩
        | 1, _, hz => exact ⟨p.2, by omega, rfl, (Option.some.inj hz).symm⟩
      refine ⟨rfl, tYes_of (iteT ⟨_, rfl, _, rfl, log13 hm, _, hD3, ?_, ?_, ?_⟩)⟩
      · rw [List.length_map, List.length_append, List.length_take]
        have e7 : [wd p.1, wd p.2].length = 2 := rfl
        exact small1000 (by omega)
      · intro b o h
        rw [upd_ne (ne_of_none h hD)]
        exact s3 _ _ h
      · rw [upd_same, List.take_succ, hm2]
        simp [wd]
    · rintro H'' ⟨s3, hD3⟩
      exact ⟨s3, hD3⟩
  · rintro H' ⟨s2, hD2⟩
    rw [List.take_of_length_le (by omega)] at hD2
    have hq2 := s2 _ _ (upd_same (a := q1))
    have e2 := words_len n ps
    have e3 : ((ps.flatMap fun p => [wd p.1, wd p.2]).map V.str).length = 2 * ps.length := by
      rw [List.length_map]
      have e4 : (words n ps).length = (ps.flatMap fun p => [wd p.1, wd p.2]).length + 1 + 1 := rfl
      omega
    refine ⟨q1, D, _, _, rfl, rfl, hq2, hD2, ?_, fun p1 hp1 => ?_⟩
    · rw [e3]
      have : (1000 : Nat) ≤ sizeLine := by decide
      show 2 + _ ≤ _
      omega
    · refine ⟨_, p1, words n ps, rfl, rfl, .inl (SqL.of upd_same), ?_, ?_⟩
      · have e5 := sum_le2 (words n ps) fun x hx => (words_mem hn hb hx).1
        have e6 : Str.length (Str.ofString " ") = 1 := rfl
        rw [e6]
        omega
      · exact k _ (s1.trans (s2.trans (Same.new (fun _ _ h => h) hp1)))
/-! ### the text of a table -/
def zw (z : Int) : Str := Str.ofString (toString z)
def twords (n : Nat) (M : Mt) : List Str := wd n :: ":" :: M.flatMap fun r => r.map zw
theorem log_big {i : Int} (h : i.natAbs < 2 ^ 210) : i.natAbs.log2 < 1920 := by
  by_cases h0 : i.natAbs = 0
  · rw [h0]
    decide
  · refine (Nat.log2_lt h0).mpr (Nat.lt_of_lt_of_le h ?_)
    exact Nat.pow_le_pow_right (by decide) (by decide)
theorem fm_len {n : Nat} : ∀ {M : Mt}, (∀ r ∈ M, r.length = n) → (M.flatMap fun r => r.map zw).length = M.length * n
  | [], _ => by simp
  | r :: M, h => by
    rw [List.flatMap_cons, List.length_append, fm_len fun q hq => h q (List.mem_cons_of_mem _ hq), List.length_map, h r List.mem_cons_self, List.length_cons, Nat.succ_mul]
    omega
theorem sum_leN {m : Nat} : ∀ (l : List Str), (∀ x ∈ l, x.length ≤ m) → (l.map (·.length)).sum ≤ l.length * m
  | [], _ => by simp
  | x :: r, h => by
    have h1 := h x List.mem_cons_self
    have h2 := sum_leN r fun y hy => h y (List.mem_cons_of_mem _ hy)
    rw [List.map_cons, List.sum_cons, List.length_cons, Nat.succ_mul]
    omega
def sp_tstr (C : Addr) : Sp := fun vs H Q _ => ∃ (x : Addr) (n : Nat) (M : Mt), vs = [.ref x] ∧ TabAt H x C n M ∧ n ≤ 5 ∧ Sq n M ∧ (∀ r ∈ M, ∀ z ∈ r, z.natAbs < 2 ^ 210 ∧ (zw z).length ≤ 70) ∧ ∀ H', Same H H' → Q (.str (Txt.join " " (twords n M))) H'
theorem G_Table___str__ (T : Txt P K mg A) : FnG P w K mg base CX0 2 A.a_Table___str__ A.d_Table___str__ P_Table___str__ (sp_tstr A.c_Table) := by
  refine okG T.F_Table___str__ sc_Table___str__ (fun vs H Q E h => ?_) (fun cdv A0 outer s H vs Q E hr h => ?_)
  · obtain ⟨_, _, _, rfl, _⟩ := h
    rfl
  obtain ⟨x, n, M, rfl, ⟨dx, q, xs, d, hx, hq, hp⟩, hn, sq, hb, k⟩ := h
  refine ⟨_, (pss_one (ps_ret (pe_bm PySem.F.plainAttrs_str PySem.F.slot_str_join PySem.F.type_str_join mt_join pe_str (pa_cons (pe_op op_cat (pe_lst (pa_cons (pe_callTy (T := "str") call_str_int (by rfl) T.n_str (by decide +kernel) (pa_cons (pe_fld (pv 0) rfl) pa_nil)) (pa_cons pe_str pa_nil))) (pe_lc2 (own := [("row", 1), ("number", 2)]) (vs1 := [2]) (g := gName 1) (tt := tYes) (g1 := gName 2) (tt1 := tYes) (wi1 := iTup K (tVar 1)) rfl sc_Table___str__.nd (pi_tup (pe_fld (pv 0) rfl)) (blkOk_by (N := N_Table___str__) (sc := defScope s_Table___str__) (by decide +kernel)) (by decide) (fun _ _ _ _ _ => (pg_name (i := 1) sc_Table___str__.nd rfl (Or.inl rfl))) (fun _ _ _ _ _ => pts_nil) (fun _ _ _ _ _ => (pi_tup (pv 1))) (fun _ _ _ _ _ => (pg_name (i := 2) sc_Table___str__.nd rfl (Or.inl rfl))) (fun _ _ _ _ _ => pts_nil) (fun _ _ _ _ _ => (pe_callTy (T := "str") call_str_int (by rfl) T.n_str (by decide +kernel) (pa_cons (pv 2) pa_nil))))) pa_nil)))), ?_⟩
  have hxl : xs.length = M.length := Paired.length hp
  have n13 : n ≤ 13 := by omega
  refine ⟨rfl, _, rfl, x, A.c_Table, dx, _, _, rfl, hx, T.K_Table, T.N_Table_size, rfl, _, rfl, log13 n13, ?_⟩
  refine ⟨by show 2 ≤ sizeLine; decide, fun q1 h1 => ?_⟩
  have s1 : Same H (upd H q1 (.lst [.str (wd n), .str ":"])) := Same.new (fun _ _ h => h) h1
  refine ⟨_, rfl, x, A.c_Table, dx, _, _, rfl, s1 _ _ hx, T.K_Table, T.N_Table_rows, rfl, q, rfl, ⟨_, SqT.of (s1 _ _ hq)⟩, fun D hD => ?_⟩
  have tl2 : ∀ i, ((M.take i).flatMap fun r => r.map zw).length ≤ 25 := fun i => by
    rw [fm_len (n := n) fun r hr => sq.2 r (List.mem_of_mem_take hr), List.length_take]
    have : min i M.length * n ≤ 5 * 5 := Nat.mul_le_mul (by have := sq.1; omega) hn
    omega
  refine walk_gen (walk_tup (K := K) (a := q) (xs := xs)) (fun i H' => Same (upd H q1 (.lst [.str (wd n), .str ":"])) H' ∧ H' D = some (.lst (((M.take i).flatMap fun r => r.map zw).map V.str))) ⟨Same.new (fun _ _ h => h) hD, upd_same⟩ (fun i H' _ q => SqT.of (q.1 _ _ (s1 _ _ hq))) ?_ ?_
  · rintro i y H' _ hi ⟨s2, hD2⟩ ⟨rfl, hy⟩
    obtain ⟨r, hri, t, rfl, ht⟩ := paired_get hp hy
    have br := hb r (List.mem_of_getElem? hri)
    have ht2 := s2 _ _ (s1 _ _ ht)
    have et : (M.take (i + 1)).flatMap (fun r => r.map zw) = (M.take i).flatMap (fun r => r.map zw) ++ r.map zw := by
      rw [List.take_succ, hri]
      simp
    have el := tl2 i
    rw [et]
    generalize ((M.take i).flatMap fun r => r.map zw) = acc at hD2 el
    refine ⟨rfl, tYes_of (iteT ⟨_, rfl, t, rfl, ⟨_, SqT.of ht2⟩, walk_gen (walk_tup (K := K) (a := t) (xs := r.map V.int)) (fun j H'' => Same (upd H q1 (.lst [.str (wd n), .str ":"])) H'' ∧ H'' D = some (.lst ((acc ++ (r.map zw).take j).map V.str))) ⟨s2, by simpa using hD2⟩ (fun j H'' _ q => SqT.of (q.1 _ _ (s1 _ _ ht))) ?_ ?_⟩)⟩
    · rintro j z H'' _ hj ⟨s3, hD3⟩ ⟨rfl, hz⟩
      rw [List.getElem?_map] at hz
      obtain ⟨v, hv, rfl⟩ := Option.map_eq_some_iff.mp hz
      have hzw : (r.map zw)[j]? = some (zw v) := by rw [List.getElem?_map, hv]; rfl
      have lr : r.length ≤ 5 := by
        rw [sq.2 r (List.mem_of_getElem? hri)]
        exact hn
      refine ⟨rfl, tYes_of (iteT ⟨_, rfl, _, rfl, log_big (br v (List.mem_of_getElem? hv)).1, _, hD3, ?_, ?_, ?_⟩)⟩
      · rw [List.length_map, List.length_append, List.length_take, List.length_map]
        exact small1000 (by omega)
      · intro b o h
        rw [upd_ne (ne_of_none h hD)]
        exact s3 _ _ h
      · rw [upd_same, List.take_succ, hzw]
        simp [zw]
    · rintro H'' ⟨s3, hD3⟩
      rw [List.length_map, List.take_of_length_le (by rw [List.length_map]; exact Nat.le_refl _)] at hD3
      exact ⟨s3, hD3⟩
  · rintro H' ⟨s2, hD2⟩
    have el := tl2 M.length
    rw [List.take_of_length_le (by omega)] at hD2
    rw [List.take_of_length_le (Nat.le_refl _)] at el
    have hq2 := s2 _ _ (upd_same (a := q1))
    refine ⟨q1, D, _, _, rfl, rfl, hq2, hD2, ?_, fun p1 hp1 => ?_⟩
    · have : (1000 : Nat) ≤ sizeLine := by decide
      show 2 + _ ≤ _
      rw [List.length_map]
      omega
    · refine ⟨_, p1, twords n M, rfl, rfl, .inl (SqL.of upd_same), ?_, ?_⟩
      · have e5 := sum_leN (m := 70) (twords n M) fun x hx => by
          rcases List.mem_cons.mp hx with rfl | hx
          · exact Nat.le_trans (wd_len n13) (by decide)
          · rcases List.mem_cons.mp hx with rfl | hx
            · decide
            · obtain ⟨r, hr, hx⟩ := List.mem_flatMap.mp hx
              obtain ⟨z, hz, rfl⟩ := List.mem_map.mp hx
              exact (hb r hr z hz).2
        have e6 : Str.length (Str.ofString " ") = 1 := rfl
        have e7 : (twords n M).length ≤ 27 := by
          show _ + 1 + 1 ≤ _
          omega
        rw [e6]
        have : (twords n M).length * 70 ≤ 27 * 70 := Nat.mul_le_mul_right _ e7
        omega
      · exact k _ (s1.trans (s2.trans (Same.new (fun _ _ h => h) hp1)))
/-! ### reprs -/
theorem textFrom_le {m : Nat} : ∀ (ts : List Str) (k : Nat) (acc : Str), (∀ t ∈ ts, t.length ≤ m) → (textFrom k acc ts).length ≤ acc.length + ts.length * (m + 2)
  | [], _, _, _ => by show _ ≤ _; simp [textFrom]
  | t :: r, k, acc, h => by
    have ih := textFrom_le r (k + 1) (acc ++ (if k > 0 then ", " else "" : String) ++ t) fun x hx => h x (List.mem_cons_of_mem _ hx)
    have ht := h t List.mem_cons_self
    have e : (acc ++ (Str.ofString (if k > 0 then ", " else "" : String)) ++ t).length ≤ acc.length + 2 + m := by
      rw [strLen_append, strLen_append]
      have : (Str.ofString (if k > 0 then ", " else "" : String)).length ≤ 2 := by split <;> decide
      omega
    show (textFrom (k + 1) _ r).length ≤ _
    rw [List.length_cons, Nat.succ_mul]
    omega
theorem listText_le {m : Nat} {ts : List Str} (h : ∀ t ∈ ts, t.length ≤ m) : (listText ts).length ≤ ts.length * (m + 2) + 3 := by
  unfold listText
  rw [strLen_append]
  have := textFrom_le ts 0 "[" h
  have e1 : (("[" : Str)).length = 1 := rfl
  have e2 : (("]" : Str)).length = 1 := rfl
  omega
@[irreducible] def showW (n : Nat) (ps : MC.Pr) : Str := (PyData.list [.int n, .tuple (dprs ps)]).shown
theorem rep_web {H : Hp} {p q : Addr} {xs : List V} {n : Nat} {ps : MC.Pr} {Q : VK} (h0 : H p = some (.lst [.int (n : Int), .ref q])) (h : H q = some (.tup xs)) (pp : Paired (PrT H) xs ps) (hn : n ≤ 13) (hb : ∀ p ∈ ps, p.1 ≤ 13 ∧ p.2 ≤ 13) (hl : ps.length ≤ 12) (k : Q (.str (showW n ps)) H) : rRepr K [.ref p] H Q ∨ rReprD [.ref p] H Q := by
  unfold showW at k
  refine .inl ⟨_, .list [.int n, .tuple (dprs ps)], rfl, .lst (SqL.of h0) (.cons (.int _) (.cons (.tup (SqT.of h) (dp_prs pp)) .nil)), ?_, ?_, ?_, k⟩
  · simp only [PyData.showable, PyData.showableAll, showable_prs hb, Bool.and_true, decide_eq_true_eq]
    exact log13' hn
  · have := depth_prs ps
    simp only [PyData.depth, PyData.depthAll]
    omega
  · have e : (PyData.tuple (dprs ps)).shown.length ≤ 400 := by
      simp only [PyData.shown, shownAll_map]
      refine Nat.le_trans (tupleText_le (m := 11) fun t ht => ?_) ?_
      · obtain ⟨d, hd, rfl⟩ := List.mem_map.mp ht
        obtain ⟨p, hp, rfl⟩ := List.mem_map.mp hd
        exact show_pr (hb p hp).1 (hb p hp).2
      · unfold dprs
        rw [List.length_map, List.length_map]
        have : ps.length * (11 + 2) ≤ 12 * 13 := Nat.mul_le_mul_right _ hl
        omega
    simp only [PyData.shown, PyData.shownAll] at e ⊢
    refine Nat.le_trans (listText_le (m := 400) fun t ht => ?_) ?_
    · rcases List.mem_cons.mp ht with rfl | ht
      · have := int13 hn
        omega
      · rw [List.mem_singleton.mp ht]
        exact e
    · show 2 * 402 + 3 ≤ _
      decide
theorem show_row {r : List Int} (hl : r.length ≤ 5) (hb : ∀ z ∈ r, z.natAbs < 2 ^ 210 ∧ (zw z).length ≤ 70) : (PyData.tuple (r.map PyData.int)).shown.length ≤ 400 := by
  simp only [PyData.shown, shownAll_map]
  refine Nat.le_trans (tupleText_le (m := 70) fun t ht => ?_) ?_
  · obtain ⟨d, hd, rfl⟩ := List.mem_map.mp ht
    obtain ⟨z, hz, rfl⟩ := List.mem_map.mp hd
    simp only [PyData.shown]
    exact (hb z hz).2
  · rw [List.length_map, List.length_map]
    have : r.length * (70 + 2) ≤ 5 * 72 := Nat.mul_le_mul_right _ hl
    omega
theorem showable_row : ∀ {r : List Int}, (∀ z ∈ r, z.natAbs < 2 ^ 210 ∧ (zw z).length ≤ 70) → PyData.showableAll (r.map PyData.int) = true
  | [], _ => by simp [PyData.showableAll]
  | z :: r, h => by
    have ih := showable_row fun m hm => h m (List.mem_cons_of_mem _ hm)
    simp only [List.map_cons, PyData.showableAll, ih, PyData.showable, Bool.and_true, decide_eq_true_eq]
    exact log_big (h z List.mem_cons_self).1
theorem showable_mt : ∀ {M : Mt}, (∀ r ∈ M, ∀ z ∈ r, z.natAbs < 2 ^ 210 ∧ (zw z).length ≤ 70) → PyData.showableAll (dmt M) = true
  | [], _ => by simp [dmt, PyData.showableAll]
  | r :: M, h => by
    have ih := showable_mt fun m hm => h m (List.mem_cons_of_mem _ hm)
    unfold dmt at ih ⊢
    simp only [List.map_cons, PyData.showableAll, ih, PyData.showable, showable_row (h r List.mem_cons_self), Bool.and_true]
@[irreducible] def showT (n : Nat) (M : Mt) : Str := (PyData.list [.int n, .tuple (dmt M)]).shown
theorem rep_tab {H : Hp} {p q : Addr} {xs : List V} {n : Nat} {M : Mt} {Q : VK} (h0 : H p = some (.lst [.int (n : Int), .ref q])) (h : H q = some (.tup xs)) (pp : Paired (RowT H) xs M) (hn : n ≤ 5) (sq : Sq n M) (hb : ∀ r ∈ M, ∀ z ∈ r, z.natAbs < 2 ^ 210 ∧ (zw z).length ≤ 70) (k : Q (.str (showT n M)) H) : rRepr K [.ref p] H Q ∨ rReprD [.ref p] H Q := by
  unfold showT at k
  refine .inl ⟨_, .list [.int n, .tuple (dmt M)], rfl, .lst (SqL.of h0) (.cons (.int _) (.cons (.tup (SqT.of h) (dp_mt pp)) .nil)), ?_, ?_, ?_, k⟩
  · simp only [PyData.showable, PyData.showableAll, showable_mt hb, Bool.and_true, decide_eq_true_eq]
    exact log13' (by omega)
  · have := depth_mt M
    simp only [PyData.depth, PyData.depthAll]
    omega
  · have e : (PyData.tuple (dmt M)).shown.length ≤ 3000 := by
      simp only [PyData.shown, shownAll_map]
      refine Nat.le_trans (tupleText_le (m := 400) fun t ht => ?_) ?_
      · obtain ⟨d, hd, rfl⟩ := List.mem_map.mp ht
        obtain ⟨r, hr, rfl⟩ := List.mem_map.mp hd
        exact show_row (by rw [sq.2 r hr]; exact hn) (hb r hr)
      · unfold dmt
        rw [List.length_map, List.length_map, sq.1]
        have : n * (400 + 2) ≤ 5 * 402 := Nat.mul_le_mul_right _ hn
        omega
    simp only [PyData.shown, PyData.shownAll] at e ⊢
    refine Nat.le_trans (listText_le (m := 3000) fun t ht => ?_) ?_
    · rcases List.mem_cons.mp ht with rfl | ht
      · have := int13 (n := n) (by omega)
        omega
      · rw [List.mem_singleton.mp ht]
        exact e
    · show 2 * 3002 + 3 ≤ _
      decide
/-! ### the law's numbers -/
theorem lay_strs : ∀ l : List Str, (∀ x ∈ l, PyData.strOk x = true) → PyData.canLayAll0 (l.map PyData.str) = true
  | [], _ => by simp [PyData.canLayAll0]
  | z :: r, h => by
    have ih := lay_strs r fun x hx => h x (List.mem_cons_of_mem _ hx)
    simp only [List.map_cons, PyData.canLayAll0, ih, PyData.canLay0, h z List.mem_cons_self, Bool.and_self]
theorem depth_strs : ∀ l : List Str, PyData.depthAll (l.map PyData.str) = 0
  | [] => by simp [PyData.depthAll]
  | z :: r => by
    have ih := depth_strs r
    simp only [List.map_cons, PyData.depthAll, ih, PyData.depth]
    rfl
theorem shaped_strs (l : List Str) (h : ∀ x ∈ l, PyData.strOk x = true) : SeqAt.shaped (.list (l.map PyData.str)) = true := by
  unfold SeqAt.shaped
  simp only [PyData.canLay0, PyData.depth, lay_strs l h, depth_strs, Bool.true_and]
  decide
theorem dp_strs {H : Hp} : ∀ l : List Str, DpAll K H (l.map V.str) (l.map PyData.str)
  | [] => .nil
  | z :: r => .cons (.str _) (dp_strs r)
theorem eqv_nil (l : List Str) : PyData.eqv (.list (l.map PyData.str)) (.list []) = l.isEmpty := by
  cases l <;> simp [PyData.eqv, PyData.eqvAll]
theorem tenD (c : Nat) : decide (c ∈ ("0123456789" : Str).cps.toList) = MN.dig c := by
  have e : ("0123456789" : Str).cps.toList = [48, 49, 50, 51, 52, 53, 54, 55, 56, 57] := by decide +kernel
  rw [e]
  unfold MN.dig
  by_cases h : 48 ≤ c ∧ c ≤ 57
  · obtain ⟨h1, h2⟩ := h
    rw [decide_eq_true h1, decide_eq_true h2]
    refine decide_eq_true ?_
    simp only [List.mem_cons, List.not_mem_nil, or_false]
    omega
  · have : (decide (48 ≤ c) && decide (c ≤ 57)) = false := by
      simp only [Bool.and_eq_false_iff, decide_eq_false_iff_not]
      omega
    rw [this]
    refine decide_eq_false fun q => ?_
    simp only [List.mem_cons, List.not_mem_nil, or_false] at q
    omega
def Asc (s : Str) : Prop := ∀ c ∈ TL.tl s, c < 128
def sp_lnum : Sp := fun vs H Q _ => ∃ s : Str, vs = [.str s] ∧ s.length ≤ 5000 ∧ Asc s ∧ ∀ H', Same H H' → Q (MN.numV s) H'
theorem G__law_number (T : Txt P K mg A) : FnG P w K mg base CX0 1 A.a__law_number A.d__law_number P__law_number sp_lnum := by
  refine okG T.F__law_number sc__law_number (fun vs H Q E h => ?_) (fun cdv A0 outer s H vs Q E hr h => ?_)
  · obtain ⟨n, rfl, _⟩ := h
    rfl
  obtain ⟨z, rfl, hl, hasc, k⟩ := h
  have z5 : (5000 : Nat) ≤ sizeLine := by decide
  have bad : MN.okL (TL.tl z) = false → MN.numV z = .non := fun e => by
    unfold MN.numV MN.num
    rw [if_neg (by rw [e]; simp)]
  have good : MN.okL (TL.tl z) = true → MN.numV z = .int (MN.valL (TL.tl z)) := fun e => by
    unfold MN.numV MN.num
    rw [if_pos e]
  have fc := MN.figL_cut z
  have lc := cutS_length z (some 1) none
  have asc1 : ∀ c ∈ TL.tl (cutS z (some 1) none), c < 128 := fun c hc => by
    rw [MN.tl_cut1] at hc
    exact hasc c (List.mem_of_mem_drop hc)
  refine ⟨_, (pss_cons (ps_set (i := 1) sc__law_number.nd rfl (Or.inl rfl) (pe_ifExp (pt_cmpR op_eq (pe_slice sl_str (pv 0) po_none (po_some pe_int)) pe_str (nomark _)) (pe_slice sl_str (pv 0) (po_some pe_int) po_none) (pv 0)))
      (pss_cons (ps_if (PW.pt (pw_or (pt_cmpR op_eq (pv 1) pe_str (nomark _)) (pw_or (pt_cmpR op_gt (pe_callB call_len_str (by rfl) T.n_len (by decide +kernel) (pa_cons (pv 1) pa_nil)) pe_int (nomark _)) (pw_or1 (pt_cmpR (op_neD hr.room.units) (pe_lc (own := [("sign", 2)]) (g := gName 2) rfl sc__law_number.nd (pi_str (pv 1)) (blkOk_by (N := N__law_number) (sc := defScope s__law_number) (by decide +kernel)) (fun _ _ _ _ _ => (pg_name (i := 2) sc__law_number.nd rfl (Or.inl rfl))) (fun _ _ _ _ _ => pts_one (pt_cmpR op_notIn_sign (pv 2) pe_str (by rfl))) (fun _ _ _ _ _ => (pv 2))) (pe_lst pa_nil) (nomark _)))))) (pss_one (ps_ret pe_non)) pss_nil)
      (pss_cons (ps_if (PW.pt (pw_and (pt_cmpR op_eq (pe_ix ix_str (pv 1) pe_int (fun _ _ => rfl)) pe_str (nomark _)) (pw_and1 (pt_cmpR op_ne (pv 0) pe_str (nomark _))))) (pss_one (ps_ret pe_non)) pss_nil)
      (pss_one (ps_ret (pe_callTy (T := "int") call_int_str (by rfl) T.n_int (by decide +kernel) (pa_cons (pv 0) pa_nil))))))), ?_⟩
  refine ⟨_, rfl, _, rfl, z, rfl, Nat.le_trans hl z5, rfl, _, rfl, ?_⟩
  have e45 : decide (V.str (cutS z none (some 1)) = V.str "-") = decide ((TL.tl z).head? = some 45) := by
    have et := MN.tl_cut01 z
    by_cases q : (TL.tl z).head? = some 45
    · rw [decide_eq_true q]
      refine decide_eq_true (congrArg V.str (TL.ext_tl ?_))
      rw [et]
      cases h : TL.tl z with
      | nil => rw [h] at q; cases q
      | cons c r =>
        rw [h] at q
        cases Option.some.inj q
        exact (show [45] = TL.tl "-" by decide +kernel)
    · rw [decide_eq_false q]
      refine decide_eq_false fun y => q ?_
      have y := congrArg TL.tl (V.str.inj y)
      rw [et] at y
      cases h : TL.tl z with
      | nil =>
        rw [h] at y
        exact absurd y (by decide +kernel)
      | cons c r =>
        rw [h] at y
        have y : [c] = [45] := y.trans (by decide +kernel)
        rw [List.head?_cons, List.head_eq_of_cons_eq y]
  show if decide (V.str (cutS z none (some 1)) = V.str "-") = true then _ else _
  rw [e45]
  refine ite2 (fun e => ?_) (fun e => ?_)
  · rw [if_pos (of_decide_eq_true e)] at fc
    refine ⟨_, rfl, _, rfl, _, rfl, Nat.le_trans hl z5, ?_⟩
    have hdl : (cutS z (some 1) none).length ≤ 5000 := (Nat.le_trans lc hl)
    have eok : MN.okL (TL.tl z) = ((!(TL.tl (cutS z (some 1) none)).isEmpty && (TL.tl (cutS z (some 1) none)).all MN.dig) && (decide ((TL.tl (cutS z (some 1) none)).length ≤ 60) && !(decide ((TL.tl (cutS z (some 1) none)).head? = some 48) && !decide (TL.tl z = [48])))) := by
      unfold MN.okL
      rw [← fc]
    refine ⟨_, rfl, rfl, _, rfl, ?_⟩
    have ee : decide (V.str (cutS z (some 1) none) = V.str "") = (TL.tl (cutS z (some 1) none)).isEmpty := by
      cases h : TL.tl (cutS z (some 1) none) with
      | nil => exact decide_eq_true (congrArg V.str (TL.ext_tl (by rw [h]; decide +kernel)))
      | cons c r =>
        exact decide_eq_false fun y => by
          have y := congrArg TL.tl (V.str.inj y)
          rw [h] at y
          have y : c :: r = [] := y.trans (by decide +kernel)
          cases y
    rw [ee]
    cases he : (TL.tl (cutS z (some 1) none)).isEmpty with
    | true =>
      rw [he, Bool.not_true, Bool.false_and, Bool.false_and] at eok
      rw [bad eok] at k
      exact iteT (k _ (Same.refl _))
    | false =>
      rw [he, Bool.not_false, Bool.true_and] at eok
      refine iteF ⟨_, rfl, _, rfl, Nat.le_trans hdl z5, _, _, rfl, rfl, _, rfl, ?_⟩
      have l2 := TL.len_tl (cutS z (some 1) none)
      by_cases h60 : (cutS z (some 1) none).length ≤ 60
      · rw [decide_eq_false (by omega)]
        rw [decide_eq_true (show (TL.tl (cutS z (some 1) none)).length ≤ 60 by omega), Bool.true_and] at eok
        refine iteF ⟨_, rfl, _, rfl, fun D hD => ?_⟩
        refine lc_it (walk_str (z := cutS z (some 1) none)) (fun i H' => Same H H' ∧ ∃ l : List Str, (l.length ≤ i ∧ ∀ x ∈ l, PyData.strOk x = true) ∧ H' D = some (.lst (l.map V.str)) ∧ l.isEmpty = ((TL.tl (cutS z (some 1) none)).take i).all MN.dig) ⟨Same.new (fun _ _ h => h) hD, [], ⟨Nat.le_refl _, fun x hx => by cases hx⟩, upd_same, rfl⟩ (fun _ _ _ _ => trivial) ?_ ?_
        · rintro i x H1 _ hi ⟨s2, l, ⟨ll, lo⟩, hD2, el⟩ ⟨rfl, c, hc, rfl⟩
          have hc' : (TL.tl (cutS z (some 1) none))[i]? = some c := by
            rw [← hc]
            exact Array.getElem?_toList
          have hi5 : i < (cutS z (some 1) none).length := hi
          refine ⟨rfl, _, rfl, _, _, rfl, rfl, _, rfl, ?_⟩
          rw [tenD, List.take_succ, hc', List.all_append]
          cases hdg : MN.dig c with
          | true => exact iteF ⟨s2, l, ⟨by omega, lo⟩, hD2, by rw [el]; simp [hdg]⟩
          | false =>
            refine iteT ⟨_, rfl, _, hD2, small1000 (by rw [List.length_map]; omega), ?_, l ++ [⟨#[c]⟩], ⟨by rw [List.length_append]; simp; omega, fun x hx => ?_⟩, by rw [upd_same, List.map_append]; rfl, ?_⟩
            · intro b o hb
              rw [upd_ne (ne_of_none hb hD)]
              exact s2 _ _ hb
            · rcases List.mem_append.mp hx with hx | hx
              · exact lo x hx
              · rw [List.mem_singleton.mp hx]
                unfold PyData.strOk
                rw [MN.all_tl]
                have := asc1 c (List.mem_of_getElem? hc')
                show ([c] : List Nat).all _ = true
                simp
                omega
            · simp [hdg]
        · rintro H2 ⟨s2, l, ⟨ll, lo⟩, hD2, el⟩
          rw [List.take_of_length_le (show (TL.tl (cutS z (some 1) none)).length ≤ (cutS z (some 1) none).cps.size by rw [← l2]; exact Nat.le_refl _)] at el
          refine ⟨by show 0 ≤ sizeLine; decide, fun p hp => ⟨_, _, .lst (SqL.of (at_new hD2 hp)) (dp_strs l), .lst (SqL.of upd_same) .nil, shaped_strs l lo, shaped_strs [] (fun x hx => by cases hx), _, rfl, ?_⟩⟩
          have S2 : Same H (upd H2 p (.lst [])) := s2.trans (Same.new (fun _ _ h => h) hp)
          generalize upd H2 p (.lst []) = H3 at S2
          rw [eqv_nil, el]
          cases hda : (TL.tl (cutS z (some 1) none)).all MN.dig with
          | false =>
            rw [hda, Bool.false_and] at eok
            rw [bad eok] at k
            exact iteT (k _ S2)
          | true =>
            rw [hda, Bool.true_and] at eok
            obtain ⟨c0, r0, h0⟩ : ∃ c0 r0, TL.tl (cutS z (some 1) none) = c0 :: r0 := by
              cases h : TL.tl (cutS z (some 1) none) with
              | nil => rw [h] at he; cases he
              | cons c r => exact ⟨c, r, rfl⟩
            have g0 : atI (TL.tl (cutS z (some 1) none)) ((0 : Nat) : Int) = some c0 := atI_nat (by rw [h0]; rfl)
            refine iteF ⟨_, rfl, _, _, _, rfl, rfl, Nat.le_trans hdl z5, g0, rfl, _, rfl, ?_⟩
            have e48 : decide (V.str ⟨#[c0]⟩ = V.str "0") = decide ((TL.tl (cutS z (some 1) none)).head? = some 48) := by
              rw [h0]
              by_cases q : c0 = 48
              · subst q
                rw [List.head?_cons, decide_eq_true rfl]
                exact decide_eq_true (by decide +kernel)
              · rw [List.head?_cons, decide_eq_false (fun y => q (by
                  have y := congrArg TL.tl (V.str.inj y)
                  have y : [c0] = [48] := y.trans (by decide +kernel)
                  exact List.head_eq_of_cons_eq y)), decide_eq_false (fun y => q (Option.some.inj y))]
            rw [e48]
            have last : MN.okL (TL.tl z) = true → tRet (tCB (fun xs H Q => ∃ a n, xs = [V.str a] ∧ intText? a = some n ∧ a.length ≤ 640 ∧ Q (V.int n) H) (tCons (tVar 0) tNil)) { nx := fun x H' => Q V.non H', rt := Q } (List.set (L2.start N__law_number [V.str z]) 1 (some (V.str (cutS z (some 1) none)))) H3 := fun e => by
              obtain ⟨i1, i2⟩ := MN.int_ok e
              rw [good e] at k
              exact ⟨_, rfl, _, _, rfl, i1, by omega, k _ S2⟩
            cases q : decide ((TL.tl (cutS z (some 1) none)).head? = some 48) with
            | false =>
              rw [q] at eok
              exact iteF (last eok)
            | true =>
              rw [q, Bool.true_and, Bool.not_not] at eok
              have ez : decide (V.str z = V.str "0") = decide (TL.tl z = [48]) := by
                by_cases q : TL.tl z = [48]
                · rw [decide_eq_true q]
                  exact decide_eq_true (congrArg V.str (TL.ext_tl (by rw [q]; decide +kernel)))
                · rw [decide_eq_false q]
                  exact decide_eq_false fun y => q (by rw [V.str.inj y]; decide +kernel)
              refine iteT ⟨_, rfl, rfl, _, rfl, ?_⟩
              rw [ez]
              cases hq : decide (TL.tl z = [48]) with
              | true =>
                rw [hq] at eok
                exact iteF (last eok)
              | false =>
                rw [hq] at eok
                rw [bad eok] at k
                exact iteT (k _ S2)
      · rw [decide_eq_true (by omega)]
        rw [decide_eq_false (show ¬ (TL.tl (cutS z (some 1) none)).length ≤ 60 by omega), Bool.false_and, Bool.and_false] at eok
        rw [bad eok] at k
        exact iteT (k _ (Same.refl _))
  · rw [if_neg (fun q => e (decide_eq_true q))] at fc
    refine ⟨_, rfl, ?_⟩
    have hdl : (z).length ≤ 5000 := hl
    have eok : MN.okL (TL.tl z) = ((!(TL.tl (z)).isEmpty && (TL.tl (z)).all MN.dig) && (decide ((TL.tl (z)).length ≤ 60) && !(decide ((TL.tl (z)).head? = some 48) && !decide (TL.tl z = [48])))) := by
      unfold MN.okL
      rw [← fc]
    refine ⟨_, rfl, rfl, _, rfl, ?_⟩
    have ee : decide (V.str (z) = V.str "") = (TL.tl (z)).isEmpty := by
      cases h : TL.tl (z) with
      | nil => exact decide_eq_true (congrArg V.str (TL.ext_tl (by rw [h]; decide +kernel)))
      | cons c r =>
        exact decide_eq_false fun y => by
          have y := congrArg TL.tl (V.str.inj y)
          rw [h] at y
          have y : c :: r = [] := y.trans (by decide +kernel)
          cases y
    rw [ee]
    cases he : (TL.tl (z)).isEmpty with
    | true =>
      rw [he, Bool.not_true, Bool.false_and, Bool.false_and] at eok
      rw [bad eok] at k
      exact iteT (k _ (Same.refl _))
    | false =>
      rw [he, Bool.not_false, Bool.true_and] at eok
      refine iteF ⟨_, rfl, _, rfl, Nat.le_trans hdl z5, _, _, rfl, rfl, _, rfl, ?_⟩
      have l2 := TL.len_tl (z)
      by_cases h60 : (z).length ≤ 60
      · rw [decide_eq_false (by omega)]
        rw [decide_eq_true (show (TL.tl (z)).length ≤ 60 by omega), Bool.true_and] at eok
        refine iteF ⟨_, rfl, _, rfl, fun D hD => ?_⟩
        refine lc_it (walk_str (z := z)) (fun i H' => Same H H' ∧ ∃ l : List Str, (l.length ≤ i ∧ ∀ x ∈ l, PyData.strOk x = true) ∧ H' D = some (.lst (l.map V.str)) ∧ l.isEmpty = ((TL.tl (z)).take i).all MN.dig) ⟨Same.new (fun _ _ h => h) hD, [], ⟨Nat.le_refl _, fun x hx => by cases hx⟩, upd_same, rfl⟩ (fun _ _ _ _ => trivial) ?_ ?_
        · rintro i x H1 _ hi ⟨s2, l, ⟨ll, lo⟩, hD2, el⟩ ⟨rfl, c, hc, rfl⟩
          have hc' : (TL.tl (z))[i]? = some c := by
            rw [← hc]
            exact Array.getElem?_toList
          have hi5 : i < (z).length := hi
          refine ⟨rfl, _, rfl, _, _, rfl, rfl, _, rfl, ?_⟩
          rw [tenD, List.take_succ, hc', List.all_append]
          cases hdg : MN.dig c with
          | true => exact iteF ⟨s2, l, ⟨by omega, lo⟩, hD2, by rw [el]; simp [hdg]⟩
          | false =>
            refine iteT ⟨_, rfl, _, hD2, small1000 (by rw [List.length_map]; omega), ?_, l ++ [⟨#[c]⟩], ⟨by rw [List.length_append]; simp; omega, fun x hx => ?_⟩, by rw [upd_same, List.map_append]; rfl, ?_⟩
            · intro b o hb
              rw [upd_ne (ne_of_none hb hD)]
              exact s2 _ _ hb
            · rcases List.mem_append.mp hx with hx | hx
              · exact lo x hx
              · rw [List.mem_singleton.mp hx]
                unfold PyData.strOk
                rw [MN.all_tl]
                have := hasc c (List.mem_of_getElem? hc')
                show ([c] : List Nat).all _ = true
                simp
                omega
            · simp [hdg]
        · rintro H2 ⟨s2, l, ⟨ll, lo⟩, hD2, el⟩
          rw [List.take_of_length_le (show (TL.tl (z)).length ≤ (z).cps.size by rw [← l2]; exact Nat.le_refl _)] at el
          refine ⟨by show 0 ≤ sizeLine; decide, fun p hp => ⟨_, _, .lst (SqL.of (at_new hD2 hp)) (dp_strs l), .lst (SqL.of upd_same) .nil, shaped_strs l lo, shaped_strs [] (fun x hx => by cases hx), _, rfl, ?_⟩⟩
          have S2 : Same H (upd H2 p (.lst [])) := s2.trans (Same.new (fun _ _ h => h) hp)
          generalize upd H2 p (.lst []) = H3 at S2
          rw [eqv_nil, el]
          cases hda : (TL.tl (z)).all MN.dig with
          | false =>
            rw [hda, Bool.false_and] at eok
            rw [bad eok] at k
            exact iteT (k _ S2)
          | true =>
            rw [hda, Bool.true_and] at eok
            obtain ⟨c0, r0, h0⟩ : ∃ c0 r0, TL.tl (z) = c0 :: r0 := by
              cases h : TL.tl (z) with
              | nil => rw [h] at he; cases he
              | cons c r => exact ⟨c, r, rfl⟩
            have g0 : atI (TL.tl (z)) ((0 : Nat) : Int) = some c0 := atI_nat (by rw [h0]; rfl)
            refine iteF ⟨_, rfl, _, _, _, rfl, rfl, Nat.le_trans hdl z5, g0, rfl, _, rfl, ?_⟩
            have e48 : decide (V.str ⟨#[c0]⟩ = V.str "0") = decide ((TL.tl (z)).head? = some 48) := by
              rw [h0]
              by_cases q : c0 = 48
              · subst q
                rw [List.head?_cons, decide_eq_true rfl]
                exact decide_eq_true (by decide +kernel)
              · rw [List.head?_cons, decide_eq_false (fun y => q (by
                  have y := congrArg TL.tl (V.str.inj y)
                  have y : [c0] = [48] := y.trans (by decide +kernel)
                  exact List.head_eq_of_cons_eq y)), decide_eq_false (fun y => q (Option.some.inj y))]
            rw [e48]
            have last : MN.okL (TL.tl z) = true → tRet (tCB (fun xs H Q => ∃ a n, xs = [V.str a] ∧ intText? a = some n ∧ a.length ≤ 640 ∧ Q (V.int n) H) (tCons (tVar 0) tNil)) { nx := fun x H' => Q V.non H', rt := Q } (List.set (L2.start N__law_number [V.str z]) 1 (some (V.str (z)))) H3 := fun e => by
              obtain ⟨i1, i2⟩ := MN.int_ok e
              rw [good e] at k
              exact ⟨_, rfl, _, _, rfl, i1, by omega, k _ S2⟩
            cases q : decide ((TL.tl (z)).head? = some 48) with
            | false =>
              rw [q] at eok
              exact iteF (last eok)
            | true =>
              rw [q, Bool.true_and, Bool.not_not] at eok
              have ez : decide (V.str z = V.str "0") = decide (TL.tl z = [48]) := by
                by_cases q : TL.tl z = [48]
                · rw [decide_eq_true q]
                  exact decide_eq_true (congrArg V.str (TL.ext_tl (by rw [q]; decide +kernel)))
                · rw [decide_eq_false q]
                  exact decide_eq_false fun y => q (by rw [V.str.inj y]; decide +kernel)
              refine iteT ⟨_, rfl, rfl, _, rfl, ?_⟩
              rw [ez]
              cases hq : decide (TL.tl z = [48]) with
              | true =>
                rw [hq] at eok
                exact iteF (last eok)
              | false =>
                rw [hq] at eok
                rw [bad eok] at k
                exact iteT (k _ S2)
      · rw [decide_eq_true (by omega)]
        rw [decide_eq_false (show ¬ (TL.tl (z)).length ≤ 60 by omega), Bool.false_and, Bool.and_false] at eok
        rw [bad eok] at k
        exact iteT (k _ (Same.refl _))
/-! ### the law's looks at webs -/
def sp_lis : Sp := fun vs H Q _ => ∃ (s : Str) (lo hi : Int), vs = [.str s, .int lo, .int hi] ∧ s.length ≤ 5000 ∧ Asc s ∧ ∀ H', Same H H' → Q (.bl (wiB s (.int lo) (.int hi))) H'
theorem G__law_is (T : Txt P K mg A) : FnG P w K mg base CX0 2 A.a__law_is A.d__law_is P__law_is sp_lis := by
  refine okG T.F__law_is sc__law_is (fun vs H Q E h => ?_) (fun cdv A0 outer s H vs Q E hr h => ?_)
  · obtain ⟨_, _, _, rfl, _⟩ := h
    rfl
  obtain ⟨z, lo, hi, rfl, hl, ha, k⟩ := h
  refine ⟨_, (pss_cons (ps_set (i := 3) sc__law_is.nd rfl (Or.inl rfl) (pe_callG (G__law_number T) (hr.mono (by decide)) rfl T.g__law_number T.F__law_number.kp T.b__law_number .nil pass0 (pa_cons (pv 0) pa_nil)))
      (pss_one (ps_ret (pe_and (pe_cmpR op_notN (pv 3) pe_non (nomark _)) (pe_one (pe_chain op_le op_le (pv 1) (pv 3) (pv 2))))))), ?_⟩
  refine ⟨_, rfl, z, rfl, hl, ha, fun H1 s1 => ?_⟩
  cases hn : MN.num z with
  | none =>
    have e1 : MN.numV z = .non := by unfold MN.numV; rw [hn]
    have e2 : wiB z (.int lo) (.int hi) = false := by unfold wiB; rw [e1]; rfl
    rw [e1]
    rw [e2] at k
    refine ⟨_, rfl, rfl, _, rfl, ?_⟩
    exact k _ s1
  | some i =>
    have e1 : MN.numV z = .int i := by unfold MN.numV; rw [hn]
    have e2 : wiB z (.int lo) (.int hi) = (decide (lo ≤ i) && decide (i ≤ hi)) := by unfold wiB; rw [e1]; rfl
    rw [e1]
    rw [e2] at k
    refine ⟨_, rfl, rfl, _, rfl, ?_⟩
    refine iteT ?_
    refine ⟨_, rfl, _, rfl, _, _, rfl, rfl, _, rfl, ?_⟩
    by_cases c : lo ≤ i
    · rw [decide_eq_true c, Bool.true_and] at k
      rw [decide_eq_true c]
      exact iteT ⟨_, rfl, _, _, rfl, rfl, k _ s1⟩
    · rw [decide_eq_false c, Bool.false_and] at k
      rw [decide_eq_false c]
      exact iteF (k _ s1)
theorem nv_flat : ∀ ns : List Nat, (nv ns).all flatV = true
  | [] => rfl
  | n :: ns => by
    show (flatV (V.int (n : Int)) && (nv ns).all flatV) = true
    rw [nv_flat ns]
    rfl
theorem inV_nv (n : Nat) : ∀ ns : List Nat, inV (.int (n : Int)) (nv ns) = ns.contains n
  | [] => rfl
  | m :: ns => by
    have ih := inV_nv n ns
    unfold inV at ih ⊢
    rw [List.contains_cons, ← ih]
    show (eqV (V.int (m : Int)) (V.int (n : Int)) || _) = _
    congr 1
    show ((m : Int) == (n : Int)) = (n == m)
    rw [Bool.eq_iff_iff]
    simp only [beq_iff_eq]
    omega
def sp_lhang : Sp := fun vs H Q _ => ∃ (n : Nat) (e : Addr) (ps : MC.Pr), vs = [.int (n : Int), .ref e] ∧ H e = some (.lst (nv (fl ps))) ∧ 1 ≤ n ∧ n ≤ 13 ∧ ps.length ≤ 12 ∧ MC.Below n ps ∧ ∀ H', Same H H' → Q (.bl (hang n ps)) H'
theorem G__law_hangs (T : Txt P K mg A) : FnG P w K mg base CX0 1 A.a__law_hangs A.d__law_hangs P__law_hangs sp_lhang := by
  refine okG T.F__law_hangs sc__law_hangs (fun vs H Q E h => ?_) (fun cdv A0 outer s H vs Q E hr h => ?_)
  · obtain ⟨_, _, _, rfl, _⟩ := h
    rfl
  obtain ⟨n, e, ps, rfl, he, n1, n13, lp, hb, k⟩ := h
  refine ⟨_, (pss_cons (ps_set (i := 2) sc__law_hangs.nd rfl (Or.inl rfl) (pe_lst (pa_cons pe_int pa_nil)))
      (pss_cons (ps_for PassesOwn.never rfl (pi_range1 (by rfl) T.n_range (pa_cons (pv 0) pa_nil)) (pg_name (i := 3) sc__law_hangs.nd rfl (Or.inl rfl)) (pss_one (ps_for PassesOwn.never rfl (pi_zip (by rfl) T.n_zip (pa_cons (pe_stp (pv 1) po_none) (pa_cons (pe_stp (pv 1) (po_some pe_int)) pa_nil))) (pg_tup rfl (pgs_cons (pg_name (i := 4) sc__law_hangs.nd rfl (Or.inl rfl)) (pgs_cons (pg_name (i := 5) sc__law_hangs.nd rfl (Or.inl rfl)) pgs_nil))) (pss_one (ps_if (pt_cmpR op_ne (pe_cmpR op_in_seq (pv 4) (pv 2) (by rfl)) (pe_cmpR op_in_seq (pv 5) (pv 2) (by rfl)) (nomark _)) (pss_one (ps_expr (pe_bm PySem.F.plainAttrs_list PySem.F.slot_list_append PySem.F.type_list_append mt_append (pv 2) (pa_cons (pe_ifExp (pt_cmpR op_in_seq (pv 4) (pv 2) (by rfl)) (pv 5) (pv 4)) pa_nil)))) pss_nil)))))
      (pss_one (ps_ret (pe_cmpR op_eq (pe_callB call_len_seq (by rfl) T.n_len (by decide +kernel) (pa_cons (pv 2) pa_nil)) (pv 0) (nomark _)))))), ?_⟩
  refine ⟨by show 1 ≤ sizeLine; decide, fun f hf => ?_⟩
  have sF : Same H (upd H f (.lst [.int 0])) := Same.new (fun _ _ h => h) hf
  have fe : f ≠ e := fun z => by rw [← z, hf] at he; cases he
  refine ⟨_, rfl, _, rfl, by omega, by omega, ?_⟩
  refine for_range (lo := 0) (n := n) (fun i σ' H' => ∃ u3 u4 u5 : Option V, σ' = [some (.int (n : Int)), some (.ref e), some (.ref f), u3, u4, u5] ∧ Same H H' ∧ H' f = some (.lst (nv (MC.knrs ps i [0]))))
    ⟨none, none, none, rfl, sF, upd_same⟩ ?_ ?_
  · rintro i σ' H1 hi ⟨u3, u4, u5, rfl, s1, hf1⟩
    have he1 := s1 _ _ he
    have kn : MC.Kn n ps (MC.knrs ps i [0]) := (MC.knrs_kn hb i [0] ⟨by simp, fun x hx => by rw [List.mem_singleton.mp hx]; exact ⟨n1, .refl _⟩, List.mem_cons_self⟩).1
    refine ⟨_, rfl, e, _, rfl, SqL.of he1, fun p1 hp1 => ⟨_, rfl, e, _, rfl, _, rfl, SqL.of (at_new he1 hp1), fun p2 hp2 => ?_⟩⟩
    rw [stp_even, stp_odd] at *
    have g1 : (upd (upd H1 p1 (.lst (nv (ps.map (·.1))))) p2 (.lst (nv (ps.map (·.2))))) p1 = some (.lst (nv (ps.map (·.1)))) := at_new upd_same hp2
    have g2 : (upd (upd H1 p1 (.lst (nv (ps.map (·.1))))) p2 (.lst (nv (ps.map (·.2))))) p2 = some (.lst (nv (ps.map (·.2)))) := upd_same
    have s2 : Same H1 (upd (upd H1 p1 (.lst (nv (ps.map (·.1))))) p2 (.lst (nv (ps.map (·.2))))) := Same.new (Same.new (fun _ _ h => h) hp1) hp2
    have f1 : f ≠ p1 := ne_of_none hf1 hp1
    have f2 : f ≠ p2 := fun z => by
      have := Same.new (o := .lst (nv (ps.map (·.1)))) (fun _ _ h => h) hp1 _ _ hf1
      rw [z, hp2] at this
      cases this
    have hf2 := s2 _ _ hf1
    have S2 := s1.trans s2
    generalize upd (upd H1 p1 (.lst (nv (ps.map (·.1))))) p2 (.lst (nv (ps.map (·.2)))) = H2 at g1 g2 s2 hf2 S2
    refine ⟨p1, p2, _, _, rfl, SqL.of g1, SqL.of g2, ?_⟩
    refine RZ.for_zipL (by rw [List.length_map, List.length_map, List.length_map, List.length_map]) (fun j σ' H' => ∃ u4 u5 : Option V, σ' = [some (.int (n : Int)), some (.ref e), some (.ref f), some (.int ((0 : Int) + (i : Int))), u4, u5] ∧ Kp f H2 H' ∧ H' f = some (.lst (nv ((ps.take j).foldl MC.kn1 (MC.knrs ps i [0])))))
      ⟨u4, u5, rfl, Kp.refl _ _, hf2⟩ (fun j σ' H' ⟨_, _, _, kp, _⟩ => ⟨SqL.of (kp _ _ (Ne.symm f1) g1), SqL.of (kp _ _ (Ne.symm f2) g2)⟩) ?_ ?_
    · rintro j x y TT σ' H3 hx hy ⟨u4, u5, rfl, kp, hf3⟩ hTT
      rw [List.getElem?_map, List.getElem?_map] at hx hy
      obtain ⟨a, ha, rfl⟩ := Option.map_eq_some_iff.mp hx
      obtain ⟨b, hb', rfl⟩ := Option.map_eq_some_iff.mp hy
      obtain ⟨p, hp, rfl⟩ := Option.map_eq_some_iff.mp ha
      rw [hp] at hb'
      cases hb'
      have kj := (MC.Kn.fold hb (ps.take j) _ kn fun q hq => List.mem_of_mem_take hq).1
      have kk := (kj.next (List.mem_of_getElem? hp) hb).1
      have tk : (ps.take (j + 1)).foldl MC.kn1 (MC.knrs ps i [0]) = MC.kn1 ((ps.take j).foldl MC.kn1 (MC.knrs ps i [0])) p := by
        rw [List.take_succ, hp, List.foldl_append]
        rfl
      have lk : ((ps.take j).foldl MC.kn1 (MC.knrs ps i [0])).length ≤ 13 := by
        have := MC.sub_len (l2 := List.range n) kj.nd fun x hx => List.mem_range.mpr (kj.ok x hx).1
        rw [List.length_range] at this
        omega
      rw [tk]
      generalize (ps.take j).foldl MC.kn1 (MC.knrs ps i [0]) = L at hf3 kk lk
      have fT : f ≠ TT := ne_of_none hf3 hTT
      have hf4 : (upd H3 TT (.tup [.int (p.1 : Int), .int (p.2 : Int)])) f = some (.lst (nv L)) := by rw [upd_ne fT]; exact hf3
      have kp4 : Kp f H2 (upd H3 TT (.tup [.int (p.1 : Int), .int (p.2 : Int)])) := fun c o nc hc => Same.new (fun _ _ h => h) hTT _ _ (kp c o nc hc)
      have hT4 : (upd H3 TT (.tup [.int (p.1 : Int), .int (p.2 : Int)])) TT = some (.tup [.int (p.1 : Int), .int (p.2 : Int)]) := upd_same
      generalize upd H3 TT (.tup [.int (p.1 : Int), .int (p.2 : Int)]) = H4 at hf4 kp4 hT4
      refine ⟨TT, _, rfl, SqT.of hT4, rfl, _, _, rfl, _, _, rfl, rfl, ?_⟩
      refine ⟨_, rfl, _, rfl, f, _, rfl, .inl (SqL.of hf4), rfl, nv_flat _, _, rfl, _, rfl, f, _, rfl, .inl (SqL.of hf4), rfl, nv_flat _, rfl, _, rfl, ?_⟩
      rw [show (if false = true then !inV (.int (p.1 : Int)) (nv L) else inV (.int (p.1 : Int)) (nv L)) = L.contains p.1 from inV_nv _ _, show (if false = true then !inV (.int (p.2 : Int)) (nv L) else inV (.int (p.2 : Int)) (nv L)) = L.contains p.2 from inV_nv _ _]
      have cc : ∀ x, L.contains x = decide (x ∈ L) := fun x => by
        rw [Bool.eq_iff_iff, List.contains_iff_mem, decide_eq_true_eq]
      have grow : ∀ v : Nat, MC.kn1 L p = L ++ [v] → Kp f H2 (upd H4 f (.lst (nv L ++ [V.int (v : Int)]))) ∧ upd H4 f (.lst (nv L ++ [V.int (v : Int)])) f = some (.lst (nv (MC.kn1 L p))) := fun v ev => by
        refine ⟨kp4.put, ?_⟩
        rw [upd_same, ev]
        show _ = some (HO.lst ((L ++ [v]).map _))
        rw [List.map_append]
        rfl
      have sl : (nv L).length < sizeLine := by rw [List.length_map]; exact small1000 (by omega)
      by_cases h1 : p.1 ∈ L
      · by_cases h2 : p.2 ∈ L
        · rw [cc, cc, decide_eq_true h1, decide_eq_true h2]
          have ev : MC.kn1 L p = L := by unfold MC.kn1; rw [decide_eq_true h1, decide_eq_true h2, if_neg (by simp)]
          rw [ev]
          exact iteF ⟨_, _, rfl, kp4, hf4⟩
        · rw [cc, cc, decide_eq_true h1, decide_eq_false h2]
          have ev : MC.kn1 L p = L ++ [p.2] := by unfold MC.kn1; rw [decide_eq_true h1, decide_eq_false h2, if_pos (by simp), if_pos h1]
          refine iteT ⟨_, rfl, .inl ⟨rfl, _, SqL.of hf4⟩, _, rfl, _, rfl, f, _, rfl, .inl (SqL.of hf4), rfl, nv_flat _, _, rfl, ?_⟩
          rw [show (if false = true then !inV (.int (p.1 : Int)) (nv L) else inV (.int (p.1 : Int)) (nv L)) = L.contains p.1 from inV_nv _ _, cc, decide_eq_true h1]
          obtain ⟨g3, g4⟩ := grow _ ev
          exact iteT ⟨_, rfl, f, _, _, rfl, rfl, hf4, sl, _, _, rfl, g3, g4⟩
      · by_cases h2 : p.2 ∈ L
        · rw [cc, cc, decide_eq_false h1, decide_eq_true h2]
          have ev : MC.kn1 L p = L ++ [p.1] := by unfold MC.kn1; rw [decide_eq_false h1, decide_eq_true h2, if_pos (by simp), if_neg h1]
          refine iteT ⟨_, rfl, .inl ⟨rfl, _, SqL.of hf4⟩, _, rfl, _, rfl, f, _, rfl, .inl (SqL.of hf4), rfl, nv_flat _, _, rfl, ?_⟩
          rw [show (if false = true then !inV (.int (p.1 : Int)) (nv L) else inV (.int (p.1 : Int)) (nv L)) = L.contains p.1 from inV_nv _ _, cc, decide_eq_false h1]
          obtain ⟨g3, g4⟩ := grow _ ev
          exact iteF ⟨_, rfl, f, _, _, rfl, rfl, hf4, sl, _, _, rfl, g3, g4⟩
        · rw [cc, cc, decide_eq_false h1, decide_eq_false h2]
          have ev : MC.kn1 L p = L := by unfold MC.kn1; rw [decide_eq_false h1, decide_eq_false h2, if_neg (by simp)]
          rw [ev]
          exact iteF ⟨_, _, rfl, kp4, hf4⟩
    · rintro σ' H3 ⟨u4, u5, rfl, kp, hf3⟩
      rw [List.length_map, List.length_map, List.take_of_length_le (Nat.le_refl _)] at hf3
      refine ⟨_, _, _, rfl, fun c o hc => kp c o (ne_of_none hc hf) (S2 _ _ hc), ?_⟩
      rw [MC.knrs_succ]
      exact hf3
  · rintro σ' H1 ⟨u3, u4, u5, rfl, s1, hf1⟩
    have e2 : hang n ps = decide ((MC.knrs ps n [0]).length = n) := by
      rw [Bool.eq_iff_iff, decide_eq_true_eq, MC.knrs_whole hb n1, hang_iff]
      exact (MC.names_nm hb).whole.symm
    refine ⟨_, rfl, f, _, rfl, .inl (SqL.of hf1), _, rfl, rfl, ?_⟩
    rw [List.length_map]
    have e3 : decide (V.int (((MC.knrs ps n [0]).length : Nat) : Int) = V.int (n : Int)) = decide ((MC.knrs ps n [0]).length = n) := by
      by_cases c : (MC.knrs ps n [0]).length = n
      · rw [decide_eq_true c]
        exact decide_eq_true (by rw [c])
      · rw [decide_eq_false c]
        exact decide_eq_false fun q => c (by have := V.int.inj q; omega)
    rw [e3, ← e2]
    exact k _ s1
def LIT (H : Hp) (a : Addr) (ws : List Str) : Prop := H a = some (.lst (ws.map V.str)) ∧ ws.length ≤ 200 ∧ ∀ x ∈ ws, Wo x ∧ Asc x
theorem LIT.keep {H H' : Hp} {a : Addr} {ws : List Str} (h : LIT H a ws) (s : Same H H') : LIT H' a ws := ⟨s _ _ h.1, h.2⟩
def optV : Option Nat → V
  | none => .non
  | some k => .int (k : Int)
theorem ixW {H : Hp} {a : Addr} {ws : List Str} {i : Nat} {x : Str} {Q : VK} (h : LIT H a ws) (hx : ws[i]? = some x) (k : Q (.str x) H) : rIxL K (.ref a) (.int (i : Int)) H Q :=
  ⟨_, _, _, _, rfl, rfl, SqL.of h.1, atI_nat (by rw [List.getElem?_map, hx]; rfl), k⟩
theorem ixWi {H : Hp} {a : Addr} {ws : List Str} {i : Nat} {j : Int} {x : Str} {Q : VK} (hj : j = (i : Int)) (h : LIT H a ws) (hx : ws[i]? = some x) (k : Q (.str x) H) : rIxL K (.ref a) (.int j) H Q := by
  subst hj
  exact ixW h hx k
theorem int_of {x : Str} {lo hi : Int} (h0 : 0 ≤ lo) (h : wiB x (.int lo) (.int hi) = true) : PySem.intText? x = some ((nOf x : Nat) : Int) ∧ x.length ≤ 61 := by
  obtain ⟨e1, h1, h2, ok⟩ := wiB_nat h0 h
  obtain ⟨z, e3, e4, _, _, _⟩ := wiB_num h
  have := MN.int_ok ok
  rw [e1] at e3
  rw [e4, ← V.int.inj e3] at this
  exact this
def sp_wst : Sp := fun vs H Q _ => ∃ (a : Addr) (ws : List Str), vs = [.ref a] ∧ LIT H a ws ∧ ws ≠ [] ∧ ∀ H', Same H H' → Q (optV (wstop ws)) H'
theorem G__law_web_stop (T : Txt P K mg A) : FnG P w K mg base CX0 3 A.a__law_web_stop A.d__law_web_stop P__law_web_stop sp_wst := by
  refine okG T.F__law_web_stop sc__law_web_stop (fun vs H Q E h => ?_) (fun cdv A0 outer s H vs Q E hr h => ?_)
  · obtain ⟨_, _, rfl, _⟩ := h
    rfl
  obtain ⟨a, ws, rfl, lit, ne, k⟩ := h
  refine ⟨_, (pss_cons (ps_if (pt_not (pt_val (pe_callG (G__law_is T) (hr.mono (by decide)) rfl T.g__law_is T.F__law_is.kp T.b__law_is .nil pass0 (pa_cons (pe_ix (r := rIxL K) ix_list (pv 0) pe_int (fun _ _ => rfl)) (pa_cons pe_int (pa_cons pe_int pa_nil)))))) (pss_one (ps_ret pe_int)) pss_nil)
      (pss_cons (ps_set (i := 1) sc__law_web_stop.nd rfl (Or.inl rfl) (pe_callTy (T := "int") call_int_str (by rfl) T.n_int (by decide +kernel) (pa_cons (pe_ix (r := rIxL K) ix_list (pv 0) pe_int (fun _ _ => rfl)) pa_nil)))
      (pss_cons (ps_if (PW.pt (pw_or (pt_cmpR op_eq (pe_callB call_len_seq (by rfl) T.n_len (by decide +kernel) (pa_cons (pv 0) pa_nil)) pe_int (nomark _)) (pw_or1 (pt_cmpR op_ne (pe_ix (r := rIxL K) ix_list (pv 0) pe_int (fun _ _ => rfl)) pe_str (nomark _))))) (pss_one (ps_ret pe_int)) pss_nil)
      (pss_cons (ps_for PassesOwn.never rfl (pi_range2 (by rfl) T.n_range (pa_cons pe_int (pa_cons (pe_callB call_len_seq (by rfl) T.n_len (by decide +kernel) (pa_cons (pv 0) pa_nil)) pa_nil))) (pg_name (i := 2) sc__law_web_stop.nd rfl (Or.inl rfl)) (pss_one (ps_if (PW.pt (pw_or (pt_cmpR op_eq (pv 2) pe_int (nomark _)) (pw_or1 (pt_not (pt_val (pe_callG (G__law_is T) (hr.mono (by decide)) rfl T.g__law_is T.F__law_is.kp T.b__law_is .nil pass0 (pa_cons (pe_ix (r := rIxL K) ix_list (pv 0) (pv 2) (fun _ _ => rfl)) (pa_cons pe_int (pa_cons (pe_op op_sub (pv 1) pe_int) pa_nil))))))))) (pss_one (ps_ret (pv 2))) pss_nil)))
      (pss_cons (ps_if (pt_cmpR op_eq (pe_op op_modN (pe_callB call_len_seq (by rfl) T.n_len (by decide +kernel) (pa_cons (pv 0) pa_nil)) pe_int) pe_int (nomark _)) (pss_one (ps_ret (pe_callB call_len_seq (by rfl) T.n_len (by decide +kernel) (pa_cons (pv 0) pa_nil)))) pss_nil)
      (pss_one (ps_ret pe_non))))))), ?_⟩
  obtain ⟨z0, r, rfl⟩ := List.exists_cons_of_ne_nil ne
  have w0 := lit.2.2 z0 List.mem_cons_self
  refine ⟨_, rfl, ?_⟩
  refine ixW (i := 0) lit rfl ⟨z0, 1, 13, rfl, w0.1.2, w0.2, fun H1 s1 => ⟨_, rfl, ?_⟩⟩
  have lit1 := lit.keep s1
  cases ok : wiB z0 (.int 1) (.int 13) with
  | false =>
    have e := k H1 s1
    rw [wstop_a ok] at e
    exact iteT e
  | true =>
    have hn0 : ¬ wiB z0 (.int 1) (.int 13) = false := by rw [ok]; simp
    obtain ⟨i1, i2⟩ := int_of (by decide) ok
    obtain ⟨_, n1, n13, _⟩ := wiB_nat (by decide) ok
    refine iteF ?_
    refine ⟨_, rfl, ixW (i := 0) lit1 rfl ⟨_, _, rfl, i1, by omega, ?_⟩⟩
    refine ⟨_, rfl, a, _, rfl, .inl (SqL.of lit1.1), rfl, _, rfl, ?_⟩
    cases r with
    | nil =>
      have e := k H1 s1
      rw [wstop_b hn0] at e
      exact ite2 (fun _ => iteT e) (fun q => absurd (decide_eq_true rfl) q)
    | cons z1 rest =>
      rw [decide_eq_false (fun q => by have := V.int.inj q; simp at this; omega)]
      refine iteF ⟨_, rfl, ?_⟩
      dsimp only [tC]
      refine ixWi (i := 1) (j := 1) rfl lit1 rfl ?_
      refine ⟨rfl, _, rfl, ?_⟩
      by_cases c : z1 ≠ ":"
      · have e := k H1 s1
        rw [wstop_c hn0 c] at e
        rw [decide_eq_false (fun y => c (V.str.inj y))]
        exact iteT e
      obtain rfl : z1 = ":" := Decidable.not_not.mp c
      rw [decide_eq_true rfl]
      refine iteF ?_
      have ew := wstop_d (r := rest) hn0
      generalize hn : nOf z0 = n at i1 n1 n13 ew
      have lw2 : (z0 :: ":" :: rest).length = 2 + rest.length := by simp; omega
      generalize hW : (z0 :: ":" :: rest : List Str) = WS at *
      have lws := lit.2.1
      have elen : (WS.map V.str).length = 2 + rest.length := by rw [List.length_map, lw2]
      refine ⟨_, rfl, a, _, rfl, .inl (SqL.of lit1.1), _, _, rfl, ?_⟩
      rw [elen]
      refine ⟨⟨by omega, by omega, by omega, by omega⟩, ?_⟩
      rw [show (((2 + rest.length : Nat) : Int) - 2).toNat = rest.length by omega]
      refine for_range (lo := 2) (n := rest.length) (fun i σ' H' => ∃ u2 : Option V, σ' = [some (.ref a), some (.int (n : Int)), u2] ∧ Same H1 H' ∧ ∀ m, 2 ≤ m → m < 2 + i → wbad WS n m = false) ⟨none, rfl, Same.refl _, fun m h1 h2 => by omega⟩ ?_ ?_
      · rintro i σ' H2 hi ⟨u2, rfl, s2, okm⟩
        have S2 := s1.trans s2
        have lit2 := lit1.keep s2
        have ei : (2 : Int) + (i : Int) = ((2 + i : Nat) : Int) := by omega
        rw [ei]
        have found : wbad WS n (2 + i) = true → Q (.int ((2 + i : Nat) : Int)) H2 := fun b => by
          have e := k H2 S2
          rw [ew, fbA_some _ _ okm b (by omega) (by omega)] at e
          exact e
        have found' : ∀ H3, Same H2 H3 → wbad WS n (2 + i) = true → Q (.int ((2 + i : Nat) : Int)) H3 := fun H3 s3 b => by
          have e := k H3 (S2.trans s3)
          rw [ew, fbA_some _ _ okm b (by omega) (by omega)] at e
          exact e
        refine ⟨_, rfl, rfl, _, rfl, ?_⟩
        by_cases c26 : 2 + i = 26
        · rw [decide_eq_true (by rw [c26]; rfl)]
          exact iteT (iteT ⟨_, rfl, found (by unfold wbad; rw [decide_eq_true c26]; rfl)⟩)
        · rw [decide_eq_false (fun q => c26 (by have := V.int.inj q; omega))]
          obtain ⟨x, hx⟩ : ∃ x, WS[2 + i]? = some x := ⟨_, List.getElem?_eq_getElem (by omega)⟩
          have wx := lit.2.2 x (List.mem_of_getElem? hx)
          refine iteF ⟨_, rfl, _, rfl, ?_⟩
          refine ixW lit2 hx ?_
          refine ⟨_, rfl, _, _, rfl, rfl, x, 0, (n : Int) - 1, rfl, wx.1.2, wx.2, fun H3 s3 => ⟨_, rfl, ?_⟩⟩
          have eb : wbad WS n (2 + i) = !endOk n x := by
            unfold wbad
            rw [hx, decide_eq_false c26]
            rfl
          cases okx : wiB x (.int 0) (.int ((n : Int) - 1)) with
          | false =>
            exact iteT ⟨_, rfl, found' H3 s3 (by rw [eb]; show (!wiB x (.int 0) (.int ((n : Int) - 1))) = true; rw [okx]; rfl)⟩
          | true =>
            refine iteF ⟨_, rfl, s2.trans s3, fun m h1 h2 => ?_⟩
            by_cases c : m < 2 + i
            · exact okm m h1 c
            · obtain rfl : m = 2 + i := by omega
              rw [eb]
              show (!wiB x (.int 0) (.int ((n : Int) - 1))) = false
              rw [okx]
              rfl
      · rintro σ' H2 ⟨u2, rfl, s2, okm⟩
        have S2 := s1.trans s2
        have e := k H2 S2
        rw [ew, fbA_none _ _ okm] at e
        dsimp only at e
        refine ⟨_, rfl, a, _, rfl, .inl (SqL.of (lit1.keep s2).1), _, _, rfl, rfl, (fun q => by cases q), rfl, _, rfl, ?_⟩
        rw [elen]
        have em : (((2 + rest.length : Nat) : Int)).fmod 2 = ((((rest.length + 2) % 2 : Nat)) : Int) := by
          rw [show 2 + rest.length = rest.length + 2 by omega]
          exact Int.fmod_eq_emod_of_nonneg _ (by decide)
        by_cases odd : (rest.length + 2) % 2 = 1
        · rw [if_pos odd] at e
          refine ite2 (fun _ => ⟨_, rfl, a, _, rfl, .inl (SqL.of (lit1.keep s2).1), ?_⟩) (fun q => absurd ?_ q)
          · rw [elen, show 2 + rest.length = rest.length + 2 by omega]
            exact e
          · refine decide_eq_true ?_
            dsimp only
            rw [em, odd]
            rfl
        · rw [if_neg odd] at e
          refine ite2 (fun q => absurd (of_decide_eq_true q) fun q => odd ?_) (fun _ => e)
          have q := V.int.inj q
          rw [em] at q
          omega
/-! ### the law's own determinants -/
theorem dp_rows {H : Hp} : ∀ {xs : List V} {M : Mt}, Paired (RowL H) xs M → DpAll K H xs (M.map fun r => .list (r.map PyData.int))
  | [], _, .nil => .nil
  | x :: xs, r :: M, .cons h t => by
    obtain ⟨c, rfl, hc⟩ := h
    exact .cons (.lst (SqL.of hc) (dp_ints r)) (dp_rows t)
theorem lay_rows : ∀ M : Mt, PyData.canLayAll0 (M.map fun r => .list (r.map PyData.int)) = true
  | [] => by simp only [List.map_nil, PyData.canLayAll0]
  | r :: M => by simp only [List.map_cons, PyData.canLayAll0, PyData.canLay0, lay_rows M, layAll_ints, Bool.and_self]
theorem dep_rows : ∀ M : Mt, PyData.depthAll (M.map fun r => .list (r.map PyData.int)) ≤ 1
  | [] => by simp [PyData.depthAll]
  | r :: M => by
    have ih := dep_rows M
    simp only [List.map_cons, PyData.depthAll, PyData.depth, FT.depthAll_ints]
    omega
theorem shaped_rows (M : Mt) : SeqAt.shaped (.list (M.map fun r => .list (r.map PyData.int))) = true := by
  have := dep_rows M
  unfold SeqAt.shaped
  simp only [PyData.canLay0, PyData.depth, lay_rows M, Bool.true_and]
  exact decide_eq_true (by omega)
theorem shaped_nil : SeqAt.shaped (.list []) = true := shaped_ints []
theorem eqv_nilM {α : Type} (f : α → PyData) (l : List α) : PyData.eqv (.list (l.map f)) (.list []) = l.isEmpty := by
  cases l <;> simp [PyData.eqv, PyData.eqvAll]
theorem lsum_drop (f : Nat → Int) : ∀ (i : Nat) (x : Int) (xs : List Int) (acc : Int), MB.lsum f i (x :: xs) acc = MB.lsum f (i + 1) xs (if x = 0 then acc else acc + (1 - 2 * (((i % 2 : Nat)) : Int)) * x * f i) := fun _ _ _ _ => rfl
theorem lsum_bt {c : Nat} (f : Nat → Int) (hf : ∀ i, (f i).natAbs < 2 ^ c) : ∀ (l : List Int) (i : Nat) (acc : Int), Bt 210 l → (MB.lsum f i l acc).natAbs ≤ acc.natAbs + l.length * 2 ^ (210 + c)
  | [], _, acc, _ => by simp [MB.lsum]
  | x :: xs, i, acc, h => by
    have ih := fun a => lsum_bt f hf xs (i + 1) a fun z hz => h z (List.mem_cons_of_mem _ hz)
    rw [lsum_drop]
    have m := wide_lt (h x List.mem_cons_self) (hf i)
    have e : (List.length (x :: xs)) * 2 ^ (210 + c) = xs.length * 2 ^ (210 + c) + 2 ^ (210 + c) := by rw [List.length_cons, Nat.succ_mul]
    rw [e]
    generalize xs.length * 2 ^ (210 + c) = B at *
    generalize 2 ^ (210 + c) = C at *
    split
    · have := ih acc
      omega
    · have h2 := ih (acc + (1 - 2 * (((i % 2 : Nat)) : Int)) * x * f i)
      have h3 : ((1 - 2 * (((i % 2 : Nat)) : Int)) * x * f i).natAbs = (x * f i).natAbs := by
        rcases Nat.mod_two_eq_zero_or_one i with q | q <;> rw [q]
        · simp
        · rw [show (1 - 2 * ((1 : Nat) : Int)) = -1 by rfl, Int.neg_one_mul, Int.neg_mul, Int.natAbs_neg]
      omega
theorem lap_bt : ∀ (k : Nat) (M : Mt), (∀ r ∈ M, Bt 210 r) → (∀ r ∈ M, r.length ≤ 5) → (MB.lap k M).natAbs < 2 ^ (220 * k + 1)
  | 0, _, _, _ => by
    show 1 < 2 ^ 1
    decide
  | k + 1, [], _, _ => by
    show 1 < 2 ^ _
    exact Nat.one_lt_two_pow (by omega)
  | k + 1, r :: rest, hb, hl => by
    show (MB.lsum (fun i => MB.lap k (rest.map (·.eraseIdx i))) 0 r 0).natAbs < _
    have ih : ∀ i, (MB.lap k (rest.map (·.eraseIdx i))).natAbs < 2 ^ (220 * k + 1) := fun i => lap_bt k _ (fun r' hr z hz => by
      obtain ⟨q, hq, rfl⟩ := List.mem_map.mp hr
      exact hb q (List.mem_cons_of_mem _ hq) z (List.mem_of_mem_eraseIdx hz)) fun r' hr => by
      obtain ⟨q, hq, rfl⟩ := List.mem_map.mp hr
      have := hl q (List.mem_cons_of_mem _ hq)
      have := (List.eraseIdx_sublist q i).length_le
      omega
    have b := lsum_bt _ ih r 0 0 (hb r List.mem_cons_self)
    have l5 := hl r List.mem_cons_self
    have e : 2 ^ (220 * (k + 1) + 1) = 512 * 2 ^ (210 + (220 * k + 1)) * 2 := by
      rw [show 220 * (k + 1) + 1 = (9 + (210 + (220 * k + 1))) + 1 by omega, Nat.pow_succ, Nat.pow_add]
    have m := Nat.mul_le_mul_right (2 ^ (210 + (220 * k + 1))) l5
    have p : 0 < 2 ^ (210 + (220 * k + 1)) := Nat.two_pow_pos _
    rw [e]
    generalize 2 ^ (210 + (220 * k + 1)) = C at *
    generalize r.length * C = B at *
    simp only [Int.natAbs_zero] at b
    omega
def MatL (H : Hp) (a : Addr) (M : Mt) : Prop := ∃ xs, H a = some (.lst xs) ∧ Paired (RowL H) xs M
theorem MatL.same {H H' : Hp} {a : Addr} {M : Mt} (h : MatL H a M) (s : Same H H') : MatL H' a M := by
  obtain ⟨xs, q, p⟩ := h
  exact ⟨xs, s _ _ q, paired_imp (fun _ _ z => z.same s) p⟩
theorem mat_nil {H : Hp} {a l : Addr} {M : Mt} {Q : VK} (h : MatL H a M) (hl : H l = some (.lst [])) (k : Q (.bl M.isEmpty) H) : rEqD K (.ref a) (.ref l) H Q := by
  obtain ⟨xs, q, p⟩ := h
  refine ⟨.list (M.map fun r => .list (r.map PyData.int)), .list [], .lst (SqL.of q) (dp_rows p), .lst (SqL.of hl) .nil, shaped_rows M, shaped_nil, ?_⟩
  rw [eqv_nilM]
  exact k
def sp_det (d : Nat) : Sp := fun vs H Q _ => ∃ (a : Addr) (M : Mt), vs = [.ref a] ∧ MatL H a M ∧ Sq d M ∧ d ≤ 5 ∧ (∀ r ∈ M, Bt 210 r) ∧ ∀ H', Same H H' → Q (.int (MB.lap d M)) H'
theorem G_det_0 (T : Txt P K mg A) (F : FnG P w K mg base CX0 0 A.a__law_determinant A.d__law_determinant P__law_determinant (fun _ _ _ _ => False)) : FnG P w K mg base CX0 1 A.a__law_determinant A.d__law_determinant P__law_determinant (sp_det 0) := by
  refine okG T.F__law_determinant sc__law_determinant (fun vs H Q E h => ?_) (fun cdv A0 outer s H vs Q E hr h => ?_)
  · obtain ⟨_, _, rfl, _⟩ := h
    rfl
  obtain ⟨a, M, rfl, hm, sq, _, _, k⟩ := h
  refine ⟨_, (pss_cons (ps_if (pt_cmpR (op_eqD hr.room.units) (pv 0) (pe_lst pa_nil) (nomark _)) (pss_one (ps_ret pe_int)) pss_nil)
      (pss_cons (ps_set (i := 1) sc__law_determinant.nd rfl (Or.inl rfl) pe_int)
      (pss_cons (ps_for PassesOwn.never rfl (pi_enum (by rfl) T.n_enumerate (pa_cons (pe_ix (r := rIxL K) ix_list (pv 0) pe_int (fun _ _ => rfl)) pa_nil)) (pg_tup rfl (pgs_cons (pg_name (i := 2) sc__law_determinant.nd rfl (Or.inr rfl)) (pgs_cons (pg_name (i := 3) sc__law_determinant.nd rfl (Or.inl rfl)) pgs_nil))) (pss_one (ps_if (pt_cmpR op_ne (pv 3) pe_int (nomark _)) (pss_one (ps_set (i := 1) sc__law_determinant.nd rfl (Or.inl rfl) (pe_op op_add (pv 1) (pe_op op_mulW (pe_op op_mul (pe_op op_sub pe_int (pe_op op_mul pe_int (pe_op op_modN (pe_callTy (T := "int") call_int1 (by rfl) T.n_int (by decide +kernel) (pa_cons (pv 2) pa_nil)) pe_int))) (pv 3)) (pe_callG F hr rfl T.g__law_determinant T.F__law_determinant.kp T.b__law_determinant .nil pass0 (pa_cons (pe_lc (own := [("row", 4)]) (g := gName 4) (tt := tYes) rfl sc__law_determinant.nd (pi_list (pe_slice (r := rSlL K) sl_list (pv 0) (po_some pe_int) po_none)) (blkOk_by (N := N__law_determinant) (sc := defScope s__law_determinant) (by decide +kernel)) (fun _ _ _ _ _ => (pg_name (i := 4) sc__law_determinant.nd rfl (Or.inl rfl))) (fun _ _ _ _ _ => pts_nil) (fun _ _ _ _ _ => (pe_op op_cat (pe_slice (r := rSlL K) sl_list (pv 4) po_none (po_some (pv 2))) (pe_slice (r := rSlL K) sl_list (pv 4) (po_some (pe_op op_add (pv 2) pe_int)) po_none)))) pa_nil)))))) pss_nil)))
      (pss_one (ps_ret (pv 1)))))), ?_⟩
  obtain rfl := List.length_eq_zero_iff.mp sq.1
  refine ⟨_, rfl, by show 0 ≤ sizeLine; decide, fun l hl => ?_⟩
  have s1 : Same H (upd H l (.lst [])) := Same.new (fun _ _ h => h) hl
  exact mat_nil (hm.same s1) upd_same ⟨_, rfl, iteT (k _ s1)⟩
theorem G_det_S (T : Txt P K mg A) (d : Nat) (F : FnG P w K mg base CX0 (d + 1) A.a__law_determinant A.d__law_determinant P__law_determinant (sp_det d)) : FnG P w K mg base CX0 (d + 2) A.a__law_determinant A.d__law_determinant P__law_determinant (sp_det (d + 1)) := by
  refine okG T.F__law_determinant sc__law_determinant (fun vs H Q E h => ?_) (fun cdv A0 outer s H vs Q E hr h => ?_)
  · obtain ⟨_, _, rfl, _⟩ := h
    rfl
  obtain ⟨a, M, rfl, hm, sq, d5, bt, k⟩ := h
  refine ⟨_, (pss_cons (ps_if (pt_cmpR (op_eqD hr.room.units) (pv 0) (pe_lst pa_nil) (nomark _)) (pss_one (ps_ret pe_int)) pss_nil)
      (pss_cons (ps_set (i := 1) sc__law_determinant.nd rfl (Or.inl rfl) pe_int)
      (pss_cons (ps_for PassesOwn.never rfl (pi_enum (by rfl) T.n_enumerate (pa_cons (pe_ix (r := rIxL K) ix_list (pv 0) pe_int (fun _ _ => rfl)) pa_nil)) (pg_tup rfl (pgs_cons (pg_name (i := 2) sc__law_determinant.nd rfl (Or.inr rfl)) (pgs_cons (pg_name (i := 3) sc__law_determinant.nd rfl (Or.inl rfl)) pgs_nil))) (pss_one (ps_if (pt_cmpR op_ne (pv 3) pe_int (nomark _)) (pss_one (ps_set (i := 1) sc__law_determinant.nd rfl (Or.inl rfl) (pe_op op_add (pv 1) (pe_op op_mulW (pe_op op_mul (pe_op op_sub pe_int (pe_op op_mul pe_int (pe_op op_modN (pe_callTy (T := "int") call_int1 (by rfl) T.n_int (by decide +kernel) (pa_cons (pv 2) pa_nil)) pe_int))) (pv 3)) (pe_callG F hr rfl T.g__law_determinant T.F__law_determinant.kp T.b__law_determinant .nil pass0 (pa_cons (pe_lc (own := [("row", 4)]) (g := gName 4) (tt := tYes) rfl sc__law_determinant.nd (pi_list (pe_slice (r := rSlL K) sl_list (pv 0) (po_some pe_int) po_none)) (blkOk_by (N := N__law_determinant) (sc := defScope s__law_determinant) (by decide +kernel)) (fun _ _ _ _ _ => (pg_name (i := 4) sc__law_determinant.nd rfl (Or.inl rfl))) (fun _ _ _ _ _ => pts_nil) (fun _ _ _ _ _ => (pe_op op_cat (pe_slice (r := rSlL K) sl_list (pv 4) po_none (po_some (pv 2))) (pe_slice (r := rSlL K) sl_list (pv 4) (po_some (pe_op op_add (pv 2) pe_int)) po_none)))) pa_nil)))))) pss_nil)))
      (pss_one (ps_ret (pv 1)))))), ?_⟩
  obtain ⟨r0, rest, rfl⟩ : ∃ r0 rest, M = r0 :: rest := by
    cases M with
    | nil => exact absurd sq.1 (by simp)
    | cons r0 rest => exact ⟨_, _, rfl⟩
  refine ⟨_, rfl, by show 0 ≤ sizeLine; decide, fun l hl => ?_⟩
  have s1 : Same H (upd H l (.lst [])) := Same.new (fun _ _ h => h) hl
  refine mat_nil (hm.same s1) upd_same ⟨_, rfl, iteF ?_⟩
  replace hm := hm.same s1
  obtain ⟨xs, hx, hp⟩ := hm
  generalize upd H l (.lst []) = H1 at s1 hx hp
  obtain ⟨x0, xr, rfl⟩ : ∃ x0 xr, xs = x0 :: xr := by
    cases xs with
    | nil => cases hp
    | cons a b => exact ⟨a, b, rfl⟩
  obtain ⟨c0, rfl, hc0⟩ : RowL H1 x0 r0 := by cases hp; assumption
  have hpr : Paired (RowL H1) xr rest := by cases hp; assumption
  have l0 : r0.length = d + 1 := sq.2 r0 List.mem_cons_self
  have lr : rest.length = d := by have := sq.1; simpa using this
  have lx := Paired.length hpr
  have a0 : atI (V.ref c0 :: xr) 0 = some (.ref c0) := atI_nat (j := 0) rfl
  refine ⟨_, rfl, a, _, _, _, rfl, rfl, SqL.of hx, a0, c0, _, rfl, SqL.of hc0, ?_⟩
  refine for_it (walk_enum (K := K) (a := c0) (xs := r0.map V.int)) (fun i σ' H' => ∃ (acc : Int) (u2 u3 : Option V), σ' = [some (.ref a), some (.int acc), u2, u3, none] ∧ Same H1 H' ∧ MB.lsum (fun i => MB.lap d (rest.map (·.eraseIdx i))) i (r0.drop i) acc = MB.lap (d + 1) (r0 :: rest)) ⟨0, none, none, rfl, Same.refl _, rfl⟩ (fun i σ' H' _ ⟨_, _, _, _, s2, _⟩ => SqL.of (s2 _ _ hc0)) ?_ ?_
  · rintro i x σ' H2 H3 hi ⟨acc, u2, u3, rfl, s2, ei⟩ ⟨TT, x1, y1, rfl, hTT, rfl, e1, e2⟩
    obtain rfl := Option.some.inj e1
    rw [List.length_map] at hi
    have zr := List.getElem?_eq_getElem hi
    obtain rfl : y1 = V.int r0[i] := by
      have e2 : (r0.map V.int)[i]? = some y1 := e2
      rw [List.getElem?_map, zr] at e2
      exact (Option.some.inj e2).symm
    have bz := bt r0 List.mem_cons_self _ (List.getElem_mem hi)
    have ed : r0.drop i = r0[i] :: r0.drop (i + 1) := List.drop_eq_getElem_cons hi
    rw [ed, lsum_drop] at ei
    generalize r0[i] = z at *
    have sT : Same H2 (upd H2 TT (.tup [.int (i : Int), .int z])) := Same.new (fun _ _ h => h) hTT
    have hT3 : (upd H2 TT (.tup [.int (i : Int), .int z])) TT = some (.tup [.int (i : Int), .int z]) := upd_same
    generalize upd H2 TT (.tup [.int (i : Int), .int z]) = H3 at sT hT3
    have S3 := s2.trans sT
    refine ⟨TT, _, rfl, SqT.of hT3, rfl, _, _, rfl, _, _, rfl, rfl, ?_⟩
    refine ⟨_, rfl, rfl, _, rfl, ?_⟩
    by_cases z0 : z = 0
    · rw [if_pos z0] at ei
      rw [decide_eq_true (show V.int z = V.int 0 by rw [z0])]
      exact iteF ⟨acc, _, _, rfl, S3, ei⟩
    rw [if_neg z0] at ei
    rw [decide_eq_false (show ¬ V.int z = V.int 0 from fun q => z0 (V.int.inj q))]
    refine iteT ?_
    have fm : (i : Int).fmod 2 = ((i % 2 : Nat) : Int) := Int.fmod_eq_emod_of_nonneg _ (by decide)
    refine ⟨_, rfl, _, rfl, .inl ⟨_, rfl, _, _, rfl, rfl, (fun q => by cases q), _, _, rfl, rfl, .inl ⟨by decide, by decide⟩, _, _, rfl, rfl, _, rfl, _, _, rfl, rfl, ?_, ?_⟩⟩
    · rw [fm]
      exact .inl ⟨by omega, by omega⟩
    · dsimp only
      rw [fm]
      refine ⟨_, rfl, _, rfl, a, _, rfl, SqL.of (S3 _ _ hx), fun p1 hp1 => ?_⟩
      rw [show cutV (V.ref c0 :: xr) (some 1) none = xr from cutV_drop _ 1 (by simp)]
      have sp1 : Same H3 (upd H3 p1 (.lst xr)) := Same.new (fun _ _ h => h) hp1
      have hp1' : (upd H3 p1 (.lst xr)) p1 = some (.lst xr) := upd_same
      generalize upd H3 p1 (.lst xr) = H4 at sp1 hp1'
      have S4 := S3.trans sp1
      refine ⟨p1, rfl, ⟨_, SqL.of hp1'⟩, fun D hD => ?_⟩
      refine lc_list (K := K) (a := p1) (xs := xr) (fun j H' => Same H4 H' ∧ ∃ ys, H' D = some (.lst ys) ∧ Paired (RowL (del H' D)) ys ((rest.map (·.eraseIdx i)).take j)) ⟨Same.new (fun _ _ h => h) hD, [], upd_same, .nil⟩ (fun j H' _ q => SqL.of (q.1 _ _ hp1')) ?_ ?_
      · rintro j x H' hxj ⟨s5, ys, hys, hpy⟩
        obtain ⟨r, hr, t, rfl, ht⟩ := paired_get hpr hxj
        have jr := (List.getElem?_eq_some_iff.mp hr).1
        have lrr : r.length = d + 1 := sq.2 r (List.mem_cons_of_mem _ (List.mem_of_getElem? hr))
        have ht' := s5 _ _ (S4 _ _ ht)
        have er : ((rest.map (·.eraseIdx i)).take (j + 1)) = ((rest.map (·.eraseIdx i)).take j) ++ [r.eraseIdx i] := by
          rw [List.take_succ, List.getElem?_map, hr]
          rfl
        have ly := Paired.length hpy
        rw [List.length_take, List.length_map] at ly
        refine ⟨rfl, tYes_of (iteT ⟨_, rfl, _, rfl, _, rfl, t, _, rfl, SqL.of ht', fun p2 hp2 => ?_⟩)⟩
        have sA := Same.new (o := .lst (cutV (r.map V.int) none (some (i : Int)))) (fun _ _ h => h) hp2
        have g2 : (upd H' p2 (.lst (cutV (r.map V.int) none (some (i : Int))))) p2 = some (.lst ((r.map V.int).take i)) := by
          rw [upd_same, cutV_take _ i (by rw [List.length_map]; omega)]
        generalize upd H' p2 (.lst (cutV (r.map V.int) none (some (i : Int)))) = H5 at sA g2
        refine ⟨_, rfl, _, rfl, _, _, rfl, rfl, _, rfl, t, _, rfl, SqL.of (sA _ _ ht'), fun p3 hp3 => ?_⟩
        have sB := sA.trans (Same.new (o := .lst (cutV (r.map V.int) (some ((i : Int) + 1)) none)) (fun _ _ h => h) hp3)
        have g3 : (upd H5 p3 (.lst (cutV (r.map V.int) (some ((i : Int) + 1)) none))) p3 = some (.lst ((r.map V.int).drop (i + 1))) := by
          rw [upd_same, show (i : Int) + 1 = ((i + 1 : Nat) : Int) by omega, cutV_drop _ (i + 1) (by rw [List.length_map]; omega)]
        have g2' := at_new (u := .lst (cutV (r.map V.int) (some ((i : Int) + 1)) none)) g2 hp3
        generalize upd H5 p3 (.lst (cutV (r.map V.int) (some ((i : Int) + 1)) none)) = H6 at sB g3 g2'
        refine ⟨p2, p3, _, _, rfl, rfl, g2', g3, ?_, fun p4 hp4 => ?_⟩
        · have : (1000 : Nat) ≤ sizeLine := by decide
          rw [List.length_take, List.length_drop, List.length_map]
          omega
        have sC := sB.trans (Same.new (o := .lst ((r.map V.int).take i ++ (r.map V.int).drop (i + 1))) (fun _ _ h => h) hp4)
        have g4 : (upd H6 p4 (.lst ((r.map V.int).take i ++ (r.map V.int).drop (i + 1)))) p4 = some (.lst ((r.eraseIdx i).map V.int)) := by
          rw [upd_same, List.eraseIdx_eq_take_drop_succ, List.map_append, List.map_take, List.map_drop]
        generalize upd H6 p4 (.lst ((r.map V.int).take i ++ (r.map V.int).drop (i + 1))) = H7 at sC g4
        have nD : p4 ≠ D := fun e => by
          have := sB _ _ hys
          rw [← e, hp4] at this
          cases this
        refine ⟨_, sC _ _ hys, small1000 (by omega), ?_, ys ++ [.ref p4], upd_same, ?_⟩
        · intro c o hc
          rw [upd_ne (ne_of_none hc hD)]
          exact sC _ _ (s5 _ _ hc)
        · rw [er]
          refine paired_snoc ⟨p4, rfl, ?_⟩ (paired_imp (fun _ _ q => q.same fun c o hc => ?_) hpy)
          · rw [del_ne nD, upd_ne nD]
            exact g4
          · have e : c ≠ D := fun e => by rw [e, del_same] at hc; cases hc
            rw [del_ne e] at hc ⊢
            rw [upd_ne e]
            exact sC _ _ hc
      · rintro H5 ⟨s5, ys, hys, hpy⟩
        rw [lx, List.take_of_length_le (by rw [List.length_map]; exact Nat.le_refl _)] at hpy
        have dl : Same (del H5 D) H5 := fun c o hc => by
          by_cases e : c = D
          · rw [e, del_same] at hc
            cases hc
          · rw [del_ne e] at hc
            exact hc
        have S5 := S4.trans s5
        have btr : ∀ r' ∈ rest.map (·.eraseIdx i), Bt 210 r' := fun r' hr w hw => by
          obtain ⟨q, hq, rfl⟩ := List.mem_map.mp hr
          exact bt q (List.mem_cons_of_mem _ hq) w (List.mem_of_mem_eraseIdx hw)
        have sqr : Sq d (rest.map (·.eraseIdx i)) := ⟨by rw [List.length_map, lr], fun r' hr => by
          obtain ⟨q, hq, rfl⟩ := List.mem_map.mp hr
          have := sq.2 q (List.mem_cons_of_mem _ hq)
          rw [List.length_eraseIdx, if_pos (by omega)]
          omega⟩
        refine ⟨D, _, rfl, ⟨ys, hys, paired_imp (fun _ _ q => q.same dl) hpy⟩, sqr, by omega, btr, fun H6 s6 => ?_⟩
        have lb := lap_bt d _ btr fun r' hr => by
          have := sqr.2 r' hr
          omega
        generalize MB.lap d (rest.map (·.eraseIdx i)) = W at lb ei
        have sg : ((1 - 2 * ((i % 2 : Nat) : Int)) * z).natAbs < 2 ^ 210 := by
          rcases Nat.mod_two_eq_zero_or_one i with q | q <;> rw [q]
          · simpa using bz
          · rw [show (1 - 2 * ((1 : Nat) : Int)) = -1 by rfl, Int.neg_one_mul, Int.natAbs_neg]
            exact bz
        refine ⟨_, _, rfl, rfl, wide_mul sg lb (by decide) (by omega) (by omega), _, _, rfl, rfl, _, _, _, rfl, S5.trans s6, ei⟩
  · rintro σ' H2 ⟨acc, u2, u3, rfl, s2, ei⟩
    rw [List.length_map, List.drop_of_length_le (Nat.le_refl _)] at ei
    have ei : acc = MB.lap (d + 1) (r0 :: rest) := ei
    have e := k H2 (s1.trans s2)
    rw [← ei] at e
    exact ⟨_, rfl, e⟩
def sp_detA : Sp := fun vs H Q E => ∃ d, d ≤ 5 ∧ sp_det d vs H Q E
theorem G_det (T : Txt P K mg A) : ∀ d : Nat, FnG P w K mg base CX0 (d + 1) A.a__law_determinant A.d__law_determinant P__law_determinant (sp_det d)
  | 0 => G_det_0 T ⟨fun _ _ _ _ h => h.elim, fun _ _ _ _ h => h.elim⟩
  | d + 1 => G_det_S T d (G_det T d)
theorem G__law_determinant (T : Txt P K mg A) : FnG P w K mg base CX0 6 A.a__law_determinant A.d__law_determinant P__law_determinant sp_detA :=
  ⟨fun vs H Q E ⟨d, _, h⟩ => (G_det (w := w) (base := base) T d).arity vs H Q E h, fun r e b v ⟨d, hd, h⟩ => ((G_det T d).mono (show d + 1 ≤ 6 by omega)).goes r e b v h⟩
theorem lap_fuel : ∀ (k : Nat) (M : Mt), M.length ≤ k → MB.lap (k + 1) M = MB.lap k M
  | 0, M, h => by
    obtain rfl := List.length_eq_zero_iff.mp (Nat.le_zero.mp h)
    rfl
  | k + 1, [], _ => rfl
  | k + 1, r :: rest, h => by
    have hr : rest.length ≤ k := by simpa using h
    show MB.lsum (fun i => MB.lap (k + 1) (rest.map (·.eraseIdx i))) 0 r 0 = MB.lsum (fun i => MB.lap k (rest.map (·.eraseIdx i))) 0 r 0
    rw [show (fun i => MB.lap (k + 1) (rest.map (·.eraseIdx i))) = (fun i => MB.lap k (rest.map (·.eraseIdx i))) from funext fun i => lap_fuel k _ (by rw [List.length_map]; exact hr)]
theorem lap_le {M : Mt} {k : Nat} (h : M.length ≤ k) : ∀ j, MB.lap (k + j) M = MB.lap k M
  | 0 => rfl
  | j + 1 => by rw [← lap_le h j]; exact lap_fuel (k + j) M (by omega)
theorem lap_5 {M : Mt} {k : Nat} (h : M.length ≤ k) (h5 : k ≤ 5) : MB.lap 5 M = MB.lap k M := by
  have := lap_le h (5 - k)
  rwa [show k + (5 - k) = 5 by omega] at this
/-! ### the law's looks at tables -/
def sp_tst : Sp := fun vs H Q _ => ∃ (a : Addr) (ws : List Str), vs = [.ref a] ∧ LIT H a ws ∧ ws ≠ [] ∧ ∀ H', Same H H' → Q (optV (tstop ws)) H'
theorem G__law_table_stop (T : Txt P K mg A) : FnG P w K mg base CX0 3 A.a__law_table_stop A.d__law_table_stop P__law_table_stop sp_tst := by
  refine okG T.F__law_table_stop sc__law_table_stop (fun vs H Q E h => ?_) (fun cdv A0 outer s H vs Q E hr h => ?_)
  · obtain ⟨_, _, rfl, _⟩ := h
    rfl
  obtain ⟨a, ws, rfl, lit, ne, k⟩ := h
  refine ⟨_, (pss_cons (ps_if (pt_not (pt_val (pe_callG (G__law_is T) (hr.mono (by decide)) rfl T.g__law_is T.F__law_is.kp T.b__law_is .nil pass0 (pa_cons (pe_ix (r := rIxL K) ix_list (pv 0) pe_int (fun _ _ => rfl)) (pa_cons pe_int (pa_cons pe_int pa_nil)))))) (pss_one (ps_ret pe_int)) pss_nil)
      (pss_cons (ps_set (i := 1) sc__law_table_stop.nd rfl (Or.inl rfl) (pe_callTy (T := "int") call_int_str (by rfl) T.n_int (by decide +kernel) (pa_cons (pe_ix (r := rIxL K) ix_list (pv 0) pe_int (fun _ _ => rfl)) pa_nil)))
      (pss_cons (ps_if (PW.pt (pw_or (pt_cmpR op_eq (pe_callB call_len_seq (by rfl) T.n_len (by decide +kernel) (pa_cons (pv 0) pa_nil)) pe_int (nomark _)) (pw_or1 (pt_cmpR op_ne (pe_ix (r := rIxL K) ix_list (pv 0) pe_int (fun _ _ => rfl)) pe_str (nomark _))))) (pss_one (ps_ret pe_int)) pss_nil)
      (pss_cons (ps_for PassesOwn.never rfl (pi_range1 (by rfl) T.n_range (pa_cons (pe_op op_mul (pv 1) (pv 1)) pa_nil)) (pg_name (i := 2) sc__law_table_stop.nd rfl (Or.inl rfl)) (pss_cons (ps_par (i := 3) (j := 4) (by rfl) sc__law_table_stop.nd rfl rfl (by decide) rfl rfl (pa_cons (pe_op op_fdivN (pe_callTy (T := "int") call_int1 (by rfl) T.n_int (by decide +kernel) (pa_cons (pv 2) pa_nil)) (pv 1)) (pa_cons (pe_op op_modN (pe_callTy (T := "int") call_int1 (by rfl) T.n_int (by decide +kernel) (pa_cons (pv 2) pa_nil)) (pv 1)) pa_nil)) (by rfl))
      (pss_one (ps_if (PW.pt (pw_or (pt_cmpR op_eq (pe_op op_add pe_int (pv 2)) (pe_callB call_len_seq (by rfl) T.n_len (by decide +kernel) (pa_cons (pv 0) pa_nil)) (nomark _)) (pw_or (pt_cmpR op_isN (pe_callG (G__law_number T) (hr.mono (by decide)) rfl T.g__law_number T.F__law_number.kp T.b__law_number .nil pass0 (pa_cons (pe_ix (r := rIxL K) ix_list (pv 0) (pe_op op_add pe_int (pv 2)) (fun _ _ => rfl)) pa_nil)) pe_non (nomark _)) (pw_or1 (PW.pt (pw_and (pt_cmpR op_lt (pv 4) (pv 3) (nomark _)) (pw_and1 (pt_cmpR op_ne (pe_callG (G__law_number T) (hr.mono (by decide)) rfl T.g__law_number T.F__law_number.kp T.b__law_number .nil pass0 (pa_cons (pe_ix (r := rIxL K) ix_list (pv 0) (pe_op op_add pe_int (pv 2)) (fun _ _ => rfl)) pa_nil)) (pe_callG (G__law_number T) (hr.mono (by decide)) rfl T.g__law_number T.F__law_number.kp T.b__law_number .nil pass0 (pa_cons (pe_ix (r := rIxL K) ix_list (pv 0) (pe_op op_add (pe_op op_add pe_int (pe_op op_mul (pv 1) (pv 4))) (pv 3)) (fun _ _ => rfl)) pa_nil)) (nomark _))))))))) (pss_one (ps_ret (pe_op op_add pe_int (pv 2)))) pss_nil))))
      (pss_one (ps_ret (pe_ifExp (pt_cmpR op_eq (pe_callB call_len_seq (by rfl) T.n_len (by decide +kernel) (pa_cons (pv 0) pa_nil)) (pe_op op_add pe_int (pe_op op_mul (pv 1) (pv 1))) (nomark _)) pe_non (pe_op op_add pe_int (pe_op op_mul (pv 1) (pv 1)))))))))), ?_⟩
  obtain ⟨z0, r, rfl⟩ := List.exists_cons_of_ne_nil ne
  have w0 := lit.2.2 z0 List.mem_cons_self
  refine ⟨_, rfl, ?_⟩
  refine ixW (i := 0) lit rfl ⟨z0, 1, 5, rfl, w0.1.2, w0.2, fun H1 s1 => ⟨_, rfl, ?_⟩⟩
  have lit1 := lit.keep s1
  cases ok : wiB z0 (.int 1) (.int 5) with
  | false =>
    have e := k H1 s1
    rw [tstop_a ok] at e
    exact iteT e
  | true =>
    have hn0 : ¬ wiB z0 (.int 1) (.int 5) = false := by rw [ok]; simp
    obtain ⟨i1, i2⟩ := int_of (by decide) ok
    obtain ⟨_, n1, n13, _⟩ := wiB_nat (by decide) ok
    refine iteF ?_
    refine ⟨_, rfl, ixW (i := 0) lit1 rfl ⟨_, _, rfl, i1, by omega, ?_⟩⟩
    refine ⟨_, rfl, a, _, rfl, .inl (SqL.of lit1.1), rfl, _, rfl, ?_⟩
    cases r with
    | nil =>
      have e := k H1 s1
      rw [tstop_b hn0] at e
      exact ite2 (fun _ => iteT e) (fun q => absurd (decide_eq_true rfl) q)
    | cons z1 rest =>
      rw [decide_eq_false (fun q => by have := V.int.inj q; simp at this; omega)]
      refine iteF ⟨_, rfl, ?_⟩
      dsimp only [tC]
      refine ixWi (i := 1) (j := 1) rfl lit1 rfl ?_
      refine ⟨rfl, _, rfl, ?_⟩
      by_cases c : z1 ≠ ":"
      · have e := k H1 s1
        rw [tstop_c hn0 c] at e
        rw [decide_eq_false (fun y => c (V.str.inj y))]
        exact iteT e
      obtain rfl : z1 = ":" := Decidable.not_not.mp c
      rw [decide_eq_true rfl]
      refine iteF ?_
      have ew := tstop_d (r := rest) hn0
      generalize hn : nOf z0 = n at i1 n1 n13 ew
      have lw2 : (z0 :: ":" :: rest).length = 2 + rest.length := by simp; omega
      generalize hW : (z0 :: ":" :: rest : List Str) = WS at *
      have lws := lit.2.1
      have elen : (WS.map V.str).length = 2 + rest.length := by rw [List.length_map, lw2]
      have nn : (n : Int) * (n : Int) = ((n * n : Nat) : Int) := (Int.natCast_mul n n).symm
      refine ⟨_, rfl, _, rfl, _, _, rfl, rfl, .inl ⟨by omega, by omega⟩, _, rfl, ?_⟩
      have n25 : n * n ≤ 25 := Nat.mul_le_mul (show n ≤ 5 by omega) (show n ≤ 5 by omega)
      rw [nn]
      refine ⟨by omega, by omega, ?_⟩
      rw [show ((n * n : Nat) : Int).toNat = n * n by omega]
      have n0 : 0 < n := by omega
      refine for_range (lo := 0) (n := n * n) (fun i σ' H' => ∃ u2 u3 u4 : Option V, σ' = [some (.ref a), some (.int (n : Int)), u2, u3, u4] ∧ Same H1 H' ∧ ∀ m, 0 ≤ m → m < 0 + i → tbad WS n m = false) ⟨none, none, none, rfl, Same.refl _, fun m h1 h2 => by omega⟩ ?_ ?_
      · rintro i σ' H2 hi ⟨u2, u3, u4, rfl, s2, okm⟩
        have S2 := s1.trans s2
        have lit2 := lit1.keep s2
        rw [show (0 : Int) + (i : Int) = (i : Int) by omega]
        have found : ∀ H3, Same H2 H3 → tbad WS n i = true → Q (.int ((2 : Int) + (i : Int))) H3 := fun H3 s3 b => by
          have e := k H3 (S2.trans s3)
          rw [show (2 : Int) + (i : Int) = ((2 + i : Nat) : Int) by omega]
          rw [ew, fbA_some _ _ (fun m h1 h2 => okm m h1 (by omega)) b (by omega) (by omega)] at e
          exact e
        have next : tbad WS n i = false → ∀ m, 0 ≤ m → m < 0 + (i + 1) → tbad WS n m = false := fun b m h1 h2 => by
          by_cases c : m < i
          · exact okm m h1 (by omega)
          · obtain rfl : m = i := by omega
            exact b
        have fq : (i : Int).fdiv (n : Int) = ((i / n : Nat) : Int) := by
          rw [Int.fdiv_eq_ediv_of_nonneg _ (by omega)]
          exact (Int.natCast_ediv i n).symm
        have fr : (i : Int).fmod (n : Int) = ((i % n : Nat) : Int) := Int.fmod_eq_emod_of_nonneg _ (by omega)
        have iq : i / n < n := Nat.div_lt_of_lt_mul hi
        have ir : i % n < n := Nat.mod_lt _ n0
        refine ⟨_, rfl, .inl ⟨_, rfl, _, rfl, _, _, rfl, rfl, ⟨by omega, by omega⟩, _, rfl, .inl ⟨_, rfl, _, rfl, _, _, rfl, rfl, by omega, ?_⟩⟩⟩
        dsimp only
        rw [fq, fr]
        refine ⟨_, _, rfl, _, rfl, _, _, rfl, rfl, _, rfl, a, _, rfl, .inl (SqL.of lit2.1), rfl, _, rfl, ?_⟩
        rw [elen]
        by_cases cl : WS.length ≤ 2 + i
        · have e0 : tbad WS n i = true := by
            unfold tbad tOk
            rw [List.getElem?_eq_none cl]
            rfl
          refine ite2 (fun _ => iteT ⟨_, rfl, _, _, rfl, rfl, found H2 (Same.refl _) e0⟩) (fun q => absurd (decide_eq_true ?_) q)
          refine congrArg V.int ?_
          by_cases z : i = 0
          · subst z
            omega
          · have h3 := okm (i - 1) (by omega) (by omega)
            unfold tbad at h3
            have := tOk_len (show tOk WS n (i - 1) = true by simpa using h3)
            omega
        obtain ⟨x, hx⟩ : ∃ x, WS[2 + i]? = some x := ⟨_, List.getElem?_eq_getElem (by omega)⟩
        have wx := lit.2.2 x (List.mem_of_getElem? hx)
        rw [decide_eq_false (fun q => by have := V.int.inj q; omega)]
        dsimp only
        refine ⟨_, rfl, _, rfl, _, _, rfl, rfl, ?_⟩
        refine ixWi (i := 2 + i) (by omega) lit2 hx ⟨x, rfl, wx.1.2, wx.2, fun H3 s3 => ?_⟩
        have lit3 := lit2.keep s3
        have s23 := s2.trans s3
        cases hz : MN.num x with
        | none =>
          have e1 : MN.numV x = .non := by unfold MN.numV; rw [hz]
          have e0 : tbad WS n i = true := by
            unfold tbad tOk
            rw [hx]
            dsimp only
            rw [hz]
            rfl
          rw [e1]
          exact ⟨rfl, _, rfl, ite2 (fun _ => iteT ⟨_, rfl, _, _, rfl, rfl, found H3 s3 e0⟩) (fun q => absurd (decide_eq_true rfl) q)⟩
        | some z =>
          have e1 : MN.numV x = .int z := by unfold MN.numV; rw [hz]
          have e0 : tOk WS n i = (!decide (i % n < i / n) || decide ((WS[2 + n * (i % n) + i / n]?).bind MN.num = some z)) := by
            unfold tOk
            rw [hx]
            dsimp only
            rw [hz]
          rw [e1]
          refine ⟨rfl, _, rfl, ?_⟩
          rw [decide_eq_false (show ¬ V.int z = V.non from fun q => by cases q)]
          dsimp only
          refine ⟨_, rfl, _, rfl, _, _, rfl, rfl, _, rfl, ?_⟩
          by_cases c : i % n < i / n
          · have lt := idx_lt iq c
            have le : i / n * n ≤ i := Nat.div_mul_le_self i n
            have h3 := okm (i % n * n + i / n) (by omega) (by omega)
            unfold tbad at h3
            obtain ⟨y, hy, _, hw, _⟩ := tOk_val (show tOk WS n (i % n * n + i / n) = true by simpa using h3)
            rw [show 2 + n * (i % n) + i / n = 2 + (i % n * n + i / n) by rw [Nat.mul_comm n]; omega, hy, decide_eq_true c] at e0
            simp only [Option.bind_some, hw, Bool.not_true, Bool.false_or] at e0
            generalize valAt WS (i % n * n + i / n) = u at e0 hw
            rw [decide_eq_true (show ((i % n : Nat) : Int) < ((i / n : Nat) : Int) by omega)]
            have wy := lit.2.2 y (List.mem_of_getElem? hy)
            refine ⟨_, rfl, _, rfl, _, _, rfl, rfl, ?_⟩
            refine ixWi (i := 2 + i) (by omega) lit3 hx ⟨x, rfl, wx.1.2, wx.2, fun H4 s4 => ?_⟩
            have lit4 := lit3.keep s4
            rw [e1]
            have nc : (n : Int) * ((i % n : Nat) : Int) = ((n * (i % n) : Nat) : Int) := (Int.natCast_mul n (i % n)).symm
            dsimp only
            refine ⟨_, rfl, _, rfl, _, rfl, _, _, rfl, rfl, .inl ⟨by omega, by omega⟩, _, _, rfl, rfl, _, rfl, _, _, rfl, rfl, ?_⟩
            refine ixWi (i := 2 + (i % n * n + i / n)) (by rw [nc, Nat.mul_comm n]; omega) lit4 hy ⟨y, rfl, wy.1.2, wy.2, fun H5 s5 => ?_⟩
            have e2 : MN.numV y = .int u := by unfold MN.numV; rw [hw]
            rw [e2]
            refine ⟨rfl, _, rfl, ?_⟩
            by_cases q : z = u
            · rw [decide_eq_true (show V.int z = V.int u by rw [q])]
              exact iteF ⟨_, _, _, rfl, s23.trans (s4.trans s5), next (by unfold tbad; rw [e0, q]; simp)⟩
            · rw [decide_eq_false (show ¬ V.int z = V.int u from fun h => q (V.int.inj h))]
              exact iteT ⟨_, rfl, _, _, rfl, rfl, found H5 (s3.trans (s4.trans s5)) (by unfold tbad; rw [e0, decide_eq_false (fun h => q (Option.some.inj h).symm)]; rfl)⟩
          · rw [decide_eq_false (show ¬ ((i % n : Nat) : Int) < ((i / n : Nat) : Int) by omega)]
            dsimp only
            exact iteF ⟨_, _, _, rfl, s23, next (by unfold tbad; rw [e0, decide_eq_false c]; rfl)⟩
      · rintro σ' H2 ⟨u2, u3, u4, rfl, s2, okm⟩
        have S2 := s1.trans s2
        have e := k H2 S2
        rw [ew, fbA_none _ _ okm] at e
        dsimp only at e
        have en : (2 : Int) + ((n * n : Nat) : Int) = ((2 + n * n : Nat) : Int) := by omega
        have lit2 := lit1.keep s2
        refine ⟨_, rfl, a, _, rfl, .inl (SqL.of lit2.1), _, rfl, _, rfl, _, _, rfl, rfl, .inl ⟨by omega, by omega⟩, _, _, rfl, rfl, rfl, _, rfl, ?_⟩
        rw [elen, nn]
        by_cases c : rest.length = n * n
        · rw [if_pos c] at e
          refine ite2 (fun _ => e) (fun q => absurd (decide_eq_true ?_) q)
          show V.int ((2 + rest.length : Nat) : Int) = V.int ((2 : Int) + ((n * n : Nat) : Int))
          rw [c, en]
        · rw [if_neg c] at e
          refine ite2 (fun q => absurd (of_decide_eq_true q) fun q => c ?_) (fun _ => ?_)
          · have q : V.int ((2 + rest.length : Nat) : Int) = V.int ((2 : Int) + ((n * n : Nat) : Int)) := q
            have := V.int.inj q
            omega
          refine ⟨_, rfl, _, rfl, _, _, rfl, rfl, .inl ⟨by omega, by omega⟩, _, _, rfl, rfl, ?_⟩
          dsimp only
          rw [nn, en]
          exact e
theorem cutV_mid (xs : List V) (i j : Nat) (h1 : i ≤ j) (h2 : j ≤ xs.length) : cutV xs (some (i : Int)) (some (j : Int)) = (xs.drop i).take (j - i) := by
  unfold cutV
  rw [HT.sIx_nat, HT.sIx_nat, Nat.min_eq_left h2, Nat.min_eq_left (show i ≤ xs.length by omega)]
theorem int_val {x : Str} {v : Int} (h : MN.num x = some v) : PySem.intText? x = some v ∧ x.length ≤ 61 := by
  unfold MN.num at h
  by_cases ok : MN.okL (TL.tl x) = true
  · rw [if_pos ok] at h
    obtain rfl := Option.some.inj h
    exact MN.int_ok ok
  · rw [if_neg ok] at h
    cases h
def vals (ws : List Str) (m : Nat) : List Int := (List.range m).map (valAt ws)
theorem vals_len (ws : List Str) (m : Nat) : (vals ws m).length = m := by
  unfold vals
  rw [List.length_map, List.length_range]
theorem vals_get {ws : List Str} {m k : Nat} (h : k < m) : (vals ws m)[k]? = some (valAt ws k) := by
  unfold vals
  rw [List.getElem?_map, List.getElem?_range h]
  rfl
theorem vals_row {ws : List Str} {n i : Nat} (h : i < n) : ((vals ws (n * n)).drop (i * n)).take n = rowOf ws n i := by
  have b : (i + 1) * n ≤ n * n := Nat.mul_le_mul_right n h
  rw [Nat.succ_mul] at b
  refine List.ext_getElem? fun j => ?_
  rw [List.getElem?_take]
  by_cases c : j < n
  · rw [if_pos c, List.getElem?_drop, vals_get (by omega), rowOf_get c]
  · rw [if_neg c]
    exact (List.getElem?_eq_none (by rw [rowOf_len]; omega)).symm
def sp_above : Sp := fun vs H Q _ => ∃ (a : Addr) (ws : List Str) (n : Nat) (z0 : Str), vs = [.ref a] ∧ LIT H a ws ∧ ws[0]? = some z0 ∧ wiB z0 (.int 1) (.int 5) = true ∧ nOf z0 = n ∧ ws.length = 2 + n * n ∧ (∀ k, k < n * n → tOk ws n k = true) ∧ ∀ b H', Same H H' → (b = true ↔ AllPos (matOf ws n)) → Q (.bl b) H'
theorem G__law_above (T : Txt P K mg A) : FnG P w K mg base CX0 7 A.a__law_above A.d__law_above P__law_above sp_above := by
  refine okG T.F__law_above sc__law_above (fun vs H Q E h => ?_) (fun cdv A0 outer s H vs Q E hr h => ?_)
  · obtain ⟨_, _, _, _, rfl, _⟩ := h
    rfl
  obtain ⟨a, ws, n, z0, rfl, lit, h0, ok, hn, hl, okk, k⟩ := h
  refine ⟨_, (pss_cons (ps_asg (pe_tup (pa_cons (pe_callTy (T := "int") call_int_str (by rfl) T.n_int (by decide +kernel) (pa_cons (pe_ix (r := rIxL K) ix_list (pv 0) pe_int (fun _ _ => rfl)) pa_nil)) (pa_cons (pe_lc (own := [("item", 4)]) (g := gName 4) (tt := tYes) rfl sc__law_above.nd (pi_list (pe_slice (r := rSlL K) sl_list (pv 0) (po_some pe_int) po_none)) (blkOk_by (N := N__law_above) (sc := defScope s__law_above) (by decide +kernel)) (fun _ _ _ _ _ => (pg_name (i := 4) sc__law_above.nd rfl (Or.inl rfl))) (fun _ _ _ _ _ => pts_nil) (fun _ _ _ _ _ => (pe_callTy (T := "int") call_int_str (by rfl) T.n_int (by decide +kernel) (pa_cons (pv 4) pa_nil)))) pa_nil))) (pg_tup rfl (pgs_cons (pg_name (i := 1) sc__law_above.nd rfl (Or.inr rfl)) (pgs_cons (pg_name (i := 2) sc__law_above.nd rfl (Or.inr rfl)) pgs_nil))))
      (pss_cons (ps_set (i := 3) sc__law_above.nd rfl (Or.inr rfl) (pe_lc (own := [("row", 5)]) (g := gName 5) (tt := tYes) rfl sc__law_above.nd (pi_range1 (by rfl) T.n_range (pa_cons (pv 1) pa_nil)) (blkOk_by (N := N__law_above) (sc := defScope s__law_above) (by decide +kernel)) (fun _ _ _ _ _ => (pg_name (i := 5) sc__law_above.nd rfl (Or.inl rfl))) (fun _ _ _ _ _ => pts_nil) (fun _ _ _ _ _ => (pe_slice (r := rSlL K) sl_list (pv 2) (po_some (pe_op op_mul (pv 1) (pv 5))) (po_some (pe_op op_add (pe_op op_mul (pv 1) (pv 5)) (pv 1)))))))
      (pss_one (ps_ret (pe_cmpR (op_eqD hr.room.units) (pe_lc (own := [("many", 6)]) (g := gName 6) (tt := tTest (tOp (rI0 fun i j => V.bl (decide (i ≤ j))) (tCall sp_detA [] E0 (tCons (tLc (iList K (tSl (rSlL K) (tVar 3) tNoPart (tPart (tVar 6)))) (gName 5) tYes (tSl (rSlL K) (tVar 5) tNoPart (tPart (tVar 6))) [5]) tNil)) (tC (.int 0)))) rfl sc__law_above.nd (pi_range2 (by rfl) T.n_range (pa_cons pe_int (pa_cons (pe_op op_add (pv 1) pe_int) pa_nil))) (blkOk_by (N := N__law_above) (sc := defScope s__law_above) (by decide +kernel)) (fun _ _ _ _ _ => (pg_name (i := 6) sc__law_above.nd rfl (Or.inr rfl))) (fun _ _ _ _ _ => pts_one (pt_cmpR op_le (pe_callG (G__law_determinant T) (hr.mono (by decide)) rfl T.g__law_determinant T.F__law_determinant.kp T.b__law_determinant .nil pass0 (pa_cons (pe_lc (own := [("row", 5)]) (g := gName 5) (tt := tYes) rfl sc__law_above.nd (pi_list (pe_slice (r := rSlL K) sl_list (pv 3) po_none (po_some (pv 6)))) (blkOk_by (by rfl)) (fun _ _ _ _ _ => (pg_name (i := 5) sc__law_above.nd rfl (Or.inl rfl))) (fun _ _ _ _ _ => pts_nil) (fun _ _ _ _ _ => (pe_slice (r := rSlL K) sl_list (pv 5) po_none (po_some (pv 6))))) pa_nil)) pe_int (nomark _))) (fun _ _ _ _ _ => (pv 6))) (pe_lst pa_nil) (nomark _)))))), ?_⟩
  obtain ⟨i1, i2⟩ := int_of (by decide) ok
  obtain ⟨_, n1, n5, _⟩ := wiB_nat (by decide) ok
  rw [hn] at i1 n1 n5
  have n25 : n * n ≤ 25 := Nat.mul_le_mul (show n ≤ 5 by omega) (show n ≤ 5 by omega)
  have lm : (ws.map V.str).length = 2 + n * n := by rw [List.length_map, hl]
  refine ⟨_, rfl, ixW (i := 0) lit h0 ⟨_, _, rfl, i1, by omega, ?_⟩⟩
  refine ⟨_, rfl, _, rfl, a, _, rfl, SqL.of lit.1, fun p1 hp1 => ?_⟩
  rw [show cutV (ws.map V.str) (some 2) none = (ws.map V.str).drop 2 from cutV_drop _ 2 (by omega)]
  have s1 : Same H (upd H p1 (.lst ((ws.map V.str).drop 2))) := Same.new (fun _ _ h => h) hp1
  have g1 : (upd H p1 (.lst ((ws.map V.str).drop 2))) p1 = some (.lst ((ws.map V.str).drop 2)) := upd_same
  generalize upd H p1 (.lst ((ws.map V.str).drop 2)) = H1 at s1 g1
  refine ⟨p1, rfl, ⟨_, SqL.of g1⟩, fun D hD => ?_⟩
  refine lc_list (K := K) (a := p1) (xs := (ws.map V.str).drop 2) (fun j H' => Same H1 H' ∧ H' D = some (.lst (((vals ws (n * n)).take j).map V.int))) ⟨Same.new (fun _ _ h => h) hD, upd_same⟩ (fun j H' _ q => SqL.of (q.1 _ _ g1)) ?_ ?_
  · rintro j x H' hx ⟨s2, hD2⟩
    rw [List.getElem?_drop, List.getElem?_map] at hx
    obtain ⟨x, hx1, rfl⟩ := Option.map_eq_some_iff.mp hx
    have jn : j < n * n := by have := (List.getElem?_eq_some_iff.mp hx1).1; omega
    obtain ⟨x', hx', _, hv, _⟩ := tOk_val (okk j jn)
    rw [hx1] at hx'
    cases hx'
    obtain ⟨iv, il⟩ := int_val hv
    refine ⟨rfl, tYes_of (iteT ⟨_, rfl, _, _, rfl, iv, by omega, _, hD2, ?_, ?_, ?_⟩)⟩
    · rw [List.length_map, List.length_take, vals_len]
      exact small1000 (by omega)
    · intro c o hc
      rw [upd_ne (ne_of_none hc hD)]
      exact s2 _ _ hc
    · rw [upd_same, List.take_succ, vals_get jn]
      simp
  · rintro H2 ⟨s2, hD2⟩
    rw [List.length_drop, lm, List.take_of_length_le (by rw [vals_len]; omega)] at hD2
    refine ⟨by show 2 ≤ sizeLine; decide, fun q hq => ?_⟩
    have S2 := s1.trans (s2.trans (Same.new (o := .tup [.int (n : Int), .ref D]) (fun _ _ h => h) hq))
    refine ⟨q, _, rfl, SqT.of upd_same, rfl, ?_⟩
    replace hD2 := at_new (u := .tup [.int (n : Int), .ref D]) hD2 hq
    generalize upd H2 q (.tup [.int (n : Int), .ref D]) = H3 at S2 hD2
    refine ⟨_, _, rfl, _, _, rfl, rfl, ?_⟩
    refine ⟨_, rfl, _, rfl, by omega, by omega, fun F hF => ?_⟩
    refine lc_range (lo := 0) (n := n) (fun i H' => Same H3 H' ∧ ∃ ys, H' F = some (.lst ys) ∧ Paired (RowL (del H' F)) ys ((matOf ws n).take i)) ⟨Same.new (fun _ _ h => h) hF, [], upd_same, .nil⟩ ?_ ?_
    · rintro i H' hi ⟨s4, ys, hys, hpy⟩
      rw [show (0 : Int) + (i : Int) = (i : Int) by omega]
      have ni : (n : Int) * (i : Int) = ((i * n : Nat) : Int) := by rw [Int.natCast_mul, Int.mul_comm]
      have b : (i + 1) * n ≤ n * n := Nat.mul_le_mul_right n hi
      rw [Nat.succ_mul] at b
      have lv : ((vals ws (n * n)).map V.int).length = n * n := by rw [List.length_map, vals_len]
      have cc : cutV ((vals ws (n * n)).map V.int) (some ((n : Int) * (i : Int))) (some ((n : Int) * (i : Int) + (n : Int))) = (rowOf ws n i).map V.int := by
        rw [ni, show ((i * n : Nat) : Int) + (n : Int) = ((i * n + n : Nat) : Int) by omega, cutV_mid _ _ _ (by omega) (by omega), show i * n + n - i * n = n by omega, ← List.map_drop, ← List.map_take, vals_row hi]
      have ly := Paired.length hpy
      rw [List.length_take, (matOf_sq ws n).1] at ly
      refine ⟨rfl, tYes_of (iteT ⟨_, rfl, _, rfl, _, rfl, _, _, rfl, rfl, .inl ⟨by omega, by omega⟩, _, rfl, _, rfl, _, rfl, _, _, rfl, rfl, .inl ⟨by omega, by omega⟩, _, rfl, _, _, rfl, rfl, _, rfl, D, _, rfl, SqL.of (s4 _ _ hD2), fun p hp => ?_⟩)⟩
      dsimp only
      rw [cc]
      have sA := Same.new (o := .lst ((rowOf ws n i).map V.int)) (fun _ _ h => h) hp
      have g4 : (upd H' p (.lst ((rowOf ws n i).map V.int))) p = some (.lst ((rowOf ws n i).map V.int)) := upd_same
      generalize upd H' p (.lst ((rowOf ws n i).map V.int)) = H7 at sA g4
      have nD : p ≠ F := fun e => by
        rw [← e, hp] at hys
        cases hys
      refine ⟨_, sA _ _ hys, small1000 (by omega), ?_, ys ++ [.ref p], upd_same, ?_⟩
      · intro c o hc
        rw [upd_ne (ne_of_none hc hF)]
        exact sA _ _ (s4 _ _ hc)
      · rw [List.take_succ, matOf_get hi]
        refine paired_snoc ⟨p, rfl, ?_⟩ (paired_imp (fun _ _ q => q.same fun c o hc => ?_) hpy)
        · rw [del_ne nD, upd_ne nD]
          exact g4
        · have e : c ≠ F := fun e => by rw [e, del_same] at hc; cases hc
          rw [del_ne e] at hc ⊢
          rw [upd_ne e]
          exact sA _ _ hc
    · rintro H4 ⟨s4, ys, hys, hpy⟩
      rw [List.take_of_length_le (by rw [(matOf_sq ws n).1]; exact Nat.le_refl _)] at hpy
      have dl : Same (del H4 F) H4 := fun c o hc => by
        by_cases e : c = F
        · rw [e, del_same] at hc
          cases hc
        · rw [del_ne e] at hc
          exact hc
      replace hpy : Paired (RowL H4) ys (matOf ws n) := paired_imp (fun _ _ q => q.same dl) hpy
      have S4 := S2.trans s4
      have sq := matOf_sq ws n
      have bt := mat_bt okk
      have pi := MB.pos_iff (M := matOf ws n) (by rw [sq.1]; omega) (by rw [sq.1]; omega) (fun r hr => by rw [sq.1, sq.2 r hr])
      rw [sq.1] at pi
      generalize matOf ws n = M at hpy k sq bt pi
      dsimp only
      refine ⟨_, rfl, _, _, rfl, rfl, _, _, rfl, ⟨by omega, by omega, by omega, by omega⟩, fun G hG => ?_⟩
      dsimp only
      rw [show ((n : Int) + 1 - 1).toNat = n by omega]
      refine lc_range (lo := 1) (n := n) (fun i H' => Same H4 H' ∧ ∃ l : List Int, H' G = some (.lst (l.map V.int)) ∧ l.length ≤ i ∧ (l = [] ↔ ∀ m, m < i → 0 < MB.lap 5 (MB.lead (m + 1) M))) ⟨Same.new (fun _ _ h => h) hG, [], upd_same, Nat.le_refl _, by simp⟩ ?_ ?_
      · rintro i H' hi ⟨s5, l, hlG, ll, hiff⟩
        rw [show (1 : Int) + (i : Int) = ((i + 1 : Nat) : Int) by omega]
        have hys' := s5 _ _ hys
        have lyn := Paired.length hpy
        rw [sq.1] at lyn
        refine ⟨rfl, _, rfl, _, rfl, _, rfl, F, _, rfl, SqL.of hys', fun p hp => ?_⟩
        rw [cutV_take _ (i + 1) (by omega)]
        have sA := Same.new (o := .lst (ys.take (i + 1))) (fun _ _ h => h) hp
        have g5 : (upd H' p (.lst (ys.take (i + 1)))) p = some (.lst (ys.take (i + 1))) := upd_same
        generalize upd H' p (.lst (ys.take (i + 1))) = H5 at sA g5
        have S5 := s5.trans sA
        have le1 : (ys.take (i + 1)).length = i + 1 := by rw [List.length_take]; omega
        have ll1 : (MB.lead (i + 1) M).length = i + 1 := by unfold MB.lead; rw [List.length_map, List.length_take, sq.1]; omega
        refine ⟨p, rfl, ⟨_, SqL.of g5⟩, fun D4 hD4 => ?_⟩
        refine lc_list (K := K) (a := p) (xs := ys.take (i + 1)) (fun j H' => Same H5 H' ∧ ∃ zs, H' D4 = some (.lst zs) ∧ Paired (RowL (del H' D4)) zs ((MB.lead (i + 1) M).take j)) ⟨Same.new (fun _ _ h => h) hD4, [], upd_same, .nil⟩ (fun j H' _ q => SqL.of (q.1 _ _ g5)) ?_ ?_
        · rintro j x H6 hx ⟨s6, zs, hzs, hpz⟩
          have ji : j < i + 1 := by have := (List.getElem?_eq_some_iff.mp hx).1; omega
          rw [List.getElem?_take, if_pos ji] at hx
          obtain ⟨r, hr, t, rfl, ht⟩ := paired_get hpy hx
          have lrn := sq.2 r (List.mem_of_getElem? hr)
          have ht6 := s6 _ _ (S5 _ _ ht)
          have er : (MB.lead (i + 1) M)[j]? = some (r.take (i + 1)) := by
            unfold MB.lead
            rw [List.getElem?_map, List.getElem?_take, if_pos ji, hr]
            rfl
          have lz := Paired.length hpz
          rw [List.length_take, ll1] at lz
          refine ⟨rfl, tYes_of (iteT ⟨_, rfl, _, rfl, _, rfl, t, _, rfl, SqL.of ht6, fun p2 hp2 => ?_⟩)⟩
          rw [cutV_take _ (i + 1) (by rw [List.length_map]; omega), ← List.map_take]
          have sB := Same.new (o := .lst ((r.take (i + 1)).map V.int)) (fun _ _ h => h) hp2
          have g7 : (upd H6 p2 (.lst ((r.take (i + 1)).map V.int))) p2 = some (.lst ((r.take (i + 1)).map V.int)) := upd_same
          generalize upd H6 p2 (.lst ((r.take (i + 1)).map V.int)) = H7 at sB g7
          have nD : p2 ≠ D4 := fun e => by
            rw [← e, hp2] at hzs
            cases hzs
          refine ⟨_, sB _ _ hzs, small1000 (by omega), ?_, zs ++ [.ref p2], upd_same, ?_⟩
          · intro c o hc
            rw [upd_ne (ne_of_none hc hD4)]
            exact sB _ _ (s6 _ _ hc)
          · rw [List.take_succ, er]
            refine paired_snoc ⟨p2, rfl, ?_⟩ (paired_imp (fun _ _ q => q.same fun c o hc => ?_) hpz)
            · rw [del_ne nD, upd_ne nD]
              exact g7
            · have e : c ≠ D4 := fun e => by rw [e, del_same] at hc; cases hc
              rw [del_ne e] at hc ⊢
              rw [upd_ne e]
              exact sB _ _ hc
        · rintro H6 ⟨s6, zs, hzs, hpz⟩
          rw [le1, List.take_of_length_le (by omega)] at hpz
          have dl : Same (del H6 D4) H6 := fun c o hc => by
            by_cases e : c = D4
            · rw [e, del_same] at hc
              cases hc
            · rw [del_ne e] at hc
              exact hc
          have bl : ∀ r ∈ MB.lead (i + 1) M, Bt 210 r := fun r hr z hz => by
            unfold MB.lead at hr
            obtain ⟨r', hr', rfl⟩ := List.mem_map.mp hr
            exact bt r' (List.mem_of_mem_take hr') z (List.mem_of_mem_take hz)
          have sl : Sq (i + 1) (MB.lead (i + 1) M) := ⟨ll1, fun r hr => by
            unfold MB.lead at hr
            obtain ⟨r', hr', rfl⟩ := List.mem_map.mp hr
            have := sq.2 r' (List.mem_of_mem_take hr')
            rw [List.length_take]
            omega⟩
          refine ⟨i + 1, by omega, D4, _, rfl, ⟨zs, hzs, paired_imp (fun _ _ q => q.same dl) hpz⟩, sl, by omega, bl, fun H7 s7 => ?_⟩
          have S7 : Same H' H7 := sA.trans (s6.trans s7)
          have e5 := lap_5 (M := MB.lead (i + 1) M) (k := i + 1) (by omega) (by omega)
          have nG : ∀ (l' : List V), Same H4 (upd H7 G (.lst l')) := fun l' c o hc => by
            rw [upd_ne (ne_of_none hc hG)]
            exact S7 _ _ (s5 _ _ hc)
          refine ⟨_, _, rfl, rfl, _, rfl, ?_⟩
          dsimp only
          by_cases c : MB.lap (i + 1) (MB.lead (i + 1) M) ≤ 0
          · rw [decide_eq_true c]
            refine iteT ⟨_, rfl, _, S7 _ _ hlG, ?_, nG _, l ++ [((i + 1 : Nat) : Int)], ?_, ?_, ?_⟩
            · rw [List.length_map]
              exact small1000 (by omega)
            · rw [upd_same, List.map_append]
              rfl
            · rw [List.length_append]
              show l.length + 1 ≤ i + 1
              omega
            · constructor
              · intro q
                simp at q
              · intro q
                have := q i (by omega)
                rw [e5] at this
                omega
          · rw [decide_eq_false c]
            refine iteF ⟨s5.trans S7, l, S7 _ _ hlG, by omega, ?_⟩
            rw [hiff]
            constructor
            · intro q m hm
              by_cases e : m = i
              · rw [e, e5]
                omega
              · exact q m (by omega)
            · intro q m hm
              exact q m (by omega)
      · rintro H5 ⟨s5, l, hlG, ll, hiff⟩
        have S5 := S4.trans s5
        refine ⟨by show 0 ≤ sizeLine; decide, fun q hq => ?_⟩
        have sN := S5.trans (Same.new (o := .lst []) (fun _ _ h => h) hq)
        refine ⟨.list (l.map PyData.int), .list ([].map PyData.int), .lst (SqL.of (at_new hlG hq)) (dp_ints l), .lst (SqL.of upd_same) (dp_ints []), shaped_ints _, shaped_ints [], ?_⟩
        rw [eqv_list]
        refine k _ _ sN ?_
        rw [decide_eq_true_eq, hiff]
        exact pi.symm
/-! ### what is heard -/
/-- where an error goes that is heard -/
def HE (A : Ad) (Q : VK) : XK := fun cls d H' => ∃ dd v, cls = .ref A.c_BadText ∧ d = some dd ∧ H' dd = some (.xd [("item", v), ("line", .int 0)]) ∧ ∀ t H'', Same H' H'' → H'' t = some (.tup [.int 0, v]) → Q (.ref t) H''
def THeard (A : Ad) : (XK → Hp → VK → Prop) → Hp → VK → Prop := fun tl H Q => ∀ R : VK, tl (HE A Q) H R
/-- such an error, kept -/
def Kept (K : PySem.W.Frag) (mg : Str → Option Value) (H : Hp) (a : Addr) (x : Str) (ns fs : List Str) (gs : List (Str × V)) : Prop := ∃ (C fI : Addr) (up : List Addr), XT K mg x C fI up ns fs ∧ ExC H a C gs
section
variable {x y y2 y3 : Str} {ns fs : List Str} {gs : List (Str × V)} {H : Hp} {a D D2 D3 p : Addr} {Q : VK}
theorem Kept.one (e : Kept K mg H a x ns fs gs) (c : Cn K mg D y) (b : Bool) (hb : (x :: ns).contains y = b) (k : Q (.bl b) H) : rIsi K [.ref a, .ref D] H Q ∨ rIsiC K mg [.ref a, .ref D] H Q := by
  obtain ⟨C, fI, up, T, ev⟩ := e
  refine .inr ?_
  unfold rIsiC
  exact ⟨a, C, fI, gs, x, up, ns, fs, .ref D, .ref D, b, rfl, ev, T, .own D, by rw [T.kit c, hb], k⟩
theorem Kept.get (e : Kept K mg H a x ns fs gs) {f : Str} {v : V} (hf : f ∈ fs) (l : gs.lookup f = some v) (k : Q v H) : rXc K f (.ref a) H Q := by
  obtain ⟨C, fI, up, T, ev⟩ := e
  unfold rXc
  exact ⟨a, C, gs, v, rfl, T.xf, T.no f hf, ev, l, k⟩
theorem Kept.keep {H' : Hp} (e : Kept K mg H a x ns fs gs) (s : Same H H') : Kept K mg H' a x ns fs gs := by
  obtain ⟨C, fI, up, T, ev⟩ := e
  exact ⟨C, fI, up, T, ev.keep s⟩
end
theorem pss_never {X : Cx} {b : List Stmt} : PSs X b (fun _ _ _ => False) := ⟨fun _ _ _ _ _ _ h => h.elim⟩
theorem heard_gives {X : Cx} {k : Nat} {g : Addr} {q : Str} (T : Txt P X.K X.mg A) : GivesG X N__law_heard (k + 1) "_law_heard" (defScope s__law_heard) g (defBody s__law_heard) "ask" q (THeard A) := by
  intro cdg f c' s H Q tl hr act hc h
  refine ⟨_, pss_cons (ps_set (i := 1) sc__law_heard.nd rfl (Or.inl rfl) pe_non) (pss_cons (ps_try_keep (X := (cxOf CX0 X.prog X.w X.K X.mg X.base N__law_heard "_law_heard" (defScope s__law_heard) g cdg X.A X.stack s H E0).nox) (i := 2) (c := .ref A.c_NetError) (Wout := fun _ _ _ _ => False)
     (tb := fun W D σ H => ∃ Ech : XK, (∀ cls d H', Ech cls d H' → W cls d σ H') ∧ σ[0]? = some (some (.ref f)) ∧ H c' = some (CodeO c' q) ∧ tl Ech H (fun _ H' => D.nx σ H'))
     (ts := fun a cls d => tAsg (tVar 2) (gName 1))
     rfl rfl sc__law_heard.nd rfl rfl ⟨rfl, by decide, .inl T.C_NetError.g⟩ L2.takes0 (fun W pn xe tk _ => ?_)
     (fun a cls d pn => pss_one (ps_set (i := 1) sc__law_heard.nd rfl (Or.inl rfl) (pv 2)))) ((pss_cons (ps_if (pt_cmpR op_isN (pv 1) pe_non (nomark _)) (pss_one (ps_ret pe_non)) pss_nil)
      (pss_one (ps_ret (pe_ifExp (pt_val (pe_callB call_isi1 (by rfl) T.n_isinstance (by decide +kernel) (pa_cons (pv 1) (pa_cons (pe_glob (v := .ref A.c_BadText) rfl T.X_BadText.gC rfl) pa_nil)))) (pe_tup (pa_cons (pe_xc (pv 1)) (pa_cons (pe_xc (pv 1)) pa_nil))) (pe_tup (pa_cons pe_str (pa_cons pe_non pa_nil))))))))), ?_⟩
  · refine ⟨fun pins s' σ H' D I h' => ?_⟩
    obtain ⟨Ech, hW, h1, h2, h3⟩ := h'
    exact (pss_one (ps_expr (act W pn xe Ech _ _ tk))).run pins s' σ H' D I ⟨hW, h1, h2, h3⟩
  · unfold THeard at h
    refine ⟨HE A Q, fun cls d H' hE => ?_, rfl, hc, ?_⟩
    · obtain ⟨dd, v, rfl, rfl, hdd, kk⟩ := hE
      refine ⟨true, PySem.W.exm_ref T.E_1 T.E_2 T.E_3 T.X_sBadText, fun _ a ha => ?_, fun z => by cases z⟩
      have s0 : Same H' (upd H' a (exK a (.ref A.c_BadText) (some dd))) := Same.new (fun _ _ h => h) ha
      have kp : Kept X.K X.mg (upd H' a (exK a (.ref A.c_BadText) (some dd))) a "BadText" ["NetError"] ["line", "item"] [("item", v), ("line", .int 0)] := ⟨_, _, _, T.X_BadText, dd, upd_same, s0 _ _ hdd⟩
      generalize upd H' a (exK a (.ref A.c_BadText) (some dd)) = H1 at s0 kp
      refine ⟨_, rfl, ?_⟩
      refine ⟨_, rfl, rfl, _, rfl, iteF ?_⟩
      refine ⟨_, rfl, kp.one T.X_BadText.cnm true (by decide) ⟨_, rfl, iteT ?_⟩⟩
      refine ⟨_, rfl, kp.get List.mem_cons_self rfl ⟨_, rfl, kp.get (List.mem_cons_of_mem _ List.mem_cons_self) rfl ⟨by show 2 ≤ sizeLine; decide, fun t ht => ?_⟩⟩⟩
      exact kk t _ (s0.trans (Same.new (fun _ _ h => h) ht)) upd_same
    · exact h _
/-- a draw: an int below m; the bag's own list alone is changed -/
def sp_tip : Sp := fun vs H Q _ => ∃ (p c : Addr) (n : Nat) (m : Int), vs = [.ref p, .int m] ∧ Bg H p c n ∧ n ≤ 100000 ∧ 1 ≤ m ∧ m < 1073741824 ∧
  ∀ (x : Int) (H' : Hp), 0 ≤ x → x < m → Kp p H H' → Bg H' p c (n + 1) → Q (.int x) H'
theorem G__law_serve (T : Txt P K mg A) : FnG P w K mg base CX0 1 A.a__law_serve A.d__law_serve P__law_serve sp_tip := by
  refine okG T.F__law_serve sc__law_serve (fun vs H Q E h => ?_) (fun cdv A0 outer s H vs Q E hr h => ?_)
  · obtain ⟨p, c, n, m, rfl, _⟩ := h
    rfl
  obtain ⟨p, c, n, m, rfl, ⟨npc, ms, t, l, hp, hc, hms, t0, tn⟩, hn, m0, m1, k⟩ := h
  have t1 : t ≤ 100000 := by omega
  have hm : m ≠ 0 ∧ m.natAbs < 1073741824 := by omega
  refine ⟨_, (pss_cons (ps_if (pt_cmpR op_gt (pe_ix (r := rIxL K) ix_list (pv 0) pe_int (fun _ _ => rfl)) pe_int (nomark _)) (pss_cons (ps_set (i := 2) sc__law_serve.nd rfl (Or.inl rfl) (pe_callTy (T := "int") call_int1 (by rfl) T.n_int (by decide +kernel) (pa_cons (pe_ix (r := rIxL K) ix_list (pv 0) pe_int (fun _ _ => rfl)) pa_nil)))
      (pss_cons (ps_asg (pe_op op_fdivN (pv 2) (pv 1)) (pg_sub (pv 0) pe_int set_list))
      (pss_one (ps_ret (pe_op op_modN (pe_callTy (T := "int") call_int1 (by rfl) T.n_int (by decide +kernel) (pa_cons (pv 2) pa_nil)) (pv 1)))))) pss_nil)
      (pss_cons (ps_set (i := 3) sc__law_serve.nd rfl (Or.inl rfl) (pe_ix (r := rIxL K) ix_list (pv 0) pe_int (fun _ _ => rfl)))
      (pss_cons (ps_asg (pe_op op_add (pv 3) pe_int) (pg_sub (pv 0) pe_int set_list))
      (pss_cons (ps_set (i := 4) sc__law_serve.nd rfl (Or.inl rfl) (pe_op op_add (pe_op op_mul pe_int (pv 3)) pe_int))
      (pss_cons (ps_if (pt_cmpR (op_neD hr.room.units) (pe_ix (r := rIxL K) ix_list (pv 0) pe_int (fun _ _ => rfl)) (pe_lst pa_nil) (nomark _)) (pss_one (ps_set (i := 4) sc__law_serve.nd rfl (Or.inl rfl) (pe_ix (r := rIxL K) ix_list (pe_ix (r := rIxL K) ix_list (pv 0) pe_int (fun _ _ => rfl)) (pe_op op_modN (pe_callTy (T := "int") call_int1 (by rfl) T.n_int (by decide +kernel) (pa_cons (pv 3) pa_nil)) (pe_callB call_len_seq (by rfl) T.n_len (by decide +kernel) (pa_cons (pe_ix (r := rIxL K) ix_list (pv 0) pe_int (fun _ _ => rfl)) pa_nil))) (fun _ _ => rfl)))) pss_nil)
      (pss_cons (ps_if (PW.pt (pw_and (pt_cmpR op_lt (pv 3) (pe_callB call_len_seq (by rfl) T.n_len (by decide +kernel) (pa_cons (pe_ix (r := rIxL K) ix_list (pv 0) pe_int (fun _ _ => rfl)) pa_nil)) (nomark _)) (pw_and1 (pt_cmpR op_ge (pe_callB call_abs (by rfl) T.n_abs (by decide +kernel) (pa_cons (pv 4) pa_nil)) (pe_op op_pow pe_int pe_int) (nomark _))))) (pss_cons (ps_set (i := 2) sc__law_serve.nd rfl (Or.inl rfl) (pe_op op_add (pe_op op_mul pe_int (pe_op op_sub (pe_callB call_abs (by rfl) T.n_abs (by decide +kernel) (pa_cons (pe_callTy (T := "int") call_int1 (by rfl) T.n_int (by decide +kernel) (pa_cons (pv 4) pa_nil)) pa_nil)) (pe_op op_pow pe_int pe_int))) (pe_callTy (T := "int") call_int1 (by rfl) T.n_int (by decide +kernel) (pa_cons (pe_cmpR op_lt (pv 4) pe_int (nomark _)) pa_nil))))
      (pss_cons (ps_asg (pe_op op_fdivN (pv 2) (pv 1)) (pg_sub (pv 0) pe_int set_list))
      (pss_one (ps_ret (pe_op op_modN (pe_callTy (T := "int") call_int1 (by rfl) T.n_int (by decide +kernel) (pa_cons (pv 2) pa_nil)) (pv 1)))))) pss_nil)
      (pss_cons (ps_set (i := 5) sc__law_serve.nd rfl (Or.inl rfl) (pe_op op_modN (pe_callTy (T := "int") call_int1 (by rfl) T.n_int (by decide +kernel) (pa_cons (pe_op op_pow (pe_op op_add (pe_op op_add (pe_op op_modN (pe_callTy (T := "int") call_int1 (by rfl) T.n_int (by decide +kernel) (pa_cons (pv 4) pa_nil)) pe_int) (pe_op op_mul pe_int (pv 3))) pe_int) pe_int) pa_nil)) pe_int))
      (pss_cons (ps_set (i := 5) sc__law_serve.nd rfl (Or.inl rfl) (pe_op op_modN (pe_callTy (T := "int") call_int1 (by rfl) T.n_int (by decide +kernel) (pa_cons (pe_op op_pow (pe_op op_add (pe_op op_add (pe_op op_mul (pv 5) (pe_op op_add (pe_op op_mul pe_int (pv 3)) pe_int)) (pe_op op_mul (pe_op op_mul pe_int (pv 3)) (pv 3))) pe_int) pe_int) pa_nil)) pe_int))
      (pss_one (ps_ret (pe_op op_modN (pe_callTy (T := "int") call_int1 (by rfl) T.n_int (by decide +kernel) (pa_cons (pe_op op_fdivN (pv 5) pe_int) pa_nil)) (pv 1)))))))))))), ?_⟩
  refine ⟨_, rfl, _, _, _, _, rfl, rfl, SqL.of hp, rfl, _, _, rfl, rfl, _, rfl, ite2 (fun _ => ?_) (fun _ => ?_)⟩
  · refine ⟨_, rfl, _, _, _, _, rfl, rfl, SqL.of hp, rfl, Or.inl ⟨_, rfl, ?_⟩⟩
    refine ⟨_, rfl, _, rfl, _, _, rfl, rfl, hm, _, rfl, _, _, _, _, rfl, rfl, hp, rfl, ?_⟩
    refine ⟨_, rfl, Or.inl ⟨_, rfl, _, rfl, _, _, rfl, rfl, hm.1, ?_⟩⟩
    exact k _ _ (mod_fits m0).1 (mod_fits m0).2 (Kp.refl p H).put ⟨npc, ms, t, _, upd_same, (Kp.refl p H).put c _ npc hc, hms, t0, by omega⟩
  · refine ⟨_, rfl, _, _, _, _, rfl, rfl, SqL.of hp, rfl, ?_⟩
    refine ⟨_, rfl, _, _, rfl, rfl, _, rfl, _, _, _, _, rfl, rfl, hp, rfl, ?_⟩
    refine ⟨_, rfl, _, _, rfl, rfl, .inl ⟨by decide, by decide⟩, _, _, rfl, rfl, ?_⟩
    have k1 : Kp p H (upd H p (.lst [.ref c, .int (t + 1), .int l])) := (Kp.refl p H).put
    have hp1 : (upd H p (.lst [.ref c, .int (t + 1), .int l])) p = some (.lst [.ref c, .int (t + 1), .int l]) := upd_same
    have hc1 := k1 c _ npc hc
    try dsimp only
    refine seq_cut (fun σ' H' => ∃ x : Int, σ' = [some (.ref p), some (.int m), none, some (.int t), some (.int x), none] ∧ Kp p H H' ∧ H' p = some (.lst [.ref c, .int (t + 1), .int l]) ∧ H' c = some (.lst (ms.map V.int))) (fun N hN => ?_) ?_
    · refine ⟨_, rfl, _, _, _, _, rfl, rfl, SqL.of hp1, rfl, Nat.zero_le _, fun q hq => ?_⟩
      have hp2 := at_new (u := .lst []) hp1 hq
      have hc2 := at_new (u := .lst []) hc1 hq
      refine ⟨.list (ms.map PyData.int), .list ([].map PyData.int), .lst (SqL.of hc2) (dp_ints ms), .lst (SqL.of upd_same) (dp_ints []), shaped_ints _, shaped_ints [], ?_⟩
      rw [eqv_list]
      refine ⟨_, rfl, ?_⟩
      by_cases e : ms = []
      · rw [decide_eq_true e]
        exact iteF (hN _ _ ⟨_, rfl, k1.new hq, hp2, hc2⟩)
      · rw [decide_eq_false e]
        obtain ⟨x, hx⟩ := at_mod t e
        have hl : ((ms.map V.int).length : Int) ≠ 0 := by
          rw [List.length_map]
          have := List.length_pos_iff.mpr e
          omega
        have hx' : atI (ms.map V.int) (t.fmod ((ms.map V.int).length : Int)) = some (.int x) := by
          rw [List.length_map]
          exact hx
        refine iteT ⟨_, rfl, _, _, _, _, rfl, rfl, SqL.of hp2, rfl, _, rfl, Or.inl ⟨_, rfl, _, rfl, _, _, _, _, rfl, rfl, SqL.of hp2, rfl, _, _, rfl, .inl (SqL.of hc2), _, _, rfl, rfl, hl, _, _, _, _, rfl, rfl, SqL.of hc2, hx', ?_⟩⟩
        exact hN _ _ ⟨x, rfl, k1.new hq, hp2, hc2⟩
    · rintro σ' H2 ⟨x, rfl, k2, hp2, hc2⟩
      try dsimp only
      refine seq_cut (fun σ' H' => σ' = [some (.ref p), some (.int m), none, some (.int t), some (.int x), none] ∧ H' = H2) (fun N hN => ?_) ?_
      · refine ⟨_, rfl, _, rfl, _, _, _, _, rfl, rfl, SqL.of hp2, rfl, _, _, rfl, .inl (SqL.of hc2), _, _, rfl, rfl, _, rfl, ite2 (fun _ => ?_) (fun _ => iteF (hN _ _ ⟨rfl, rfl⟩))⟩
        refine ⟨_, rfl, _, rfl, _, _, rfl, rfl, ⟨by decide, by decide, by decide⟩, _, _, rfl, rfl, _, rfl, ite2 (fun _ => ?_) (fun _ => hN _ _ ⟨rfl, rfl⟩)⟩
        refine ⟨_, rfl, Or.inl ⟨_, rfl, _, rfl, _, _, rfl, rfl, ⟨by decide, by decide, by decide⟩, _, _, rfl, rfl, _, _, rfl, rfl, .inl ⟨by decide, by decide⟩, _, rfl, _, _, rfl, rfl, Or.inr ⟨_, rfl, _, _, rfl, rfl, ?_⟩⟩⟩
        refine ⟨_, rfl, _, rfl, _, _, rfl, rfl, hm, _, rfl, _, _, _, _, rfl, rfl, hp2, rfl, ?_⟩
        refine ⟨_, rfl, Or.inl ⟨_, rfl, _, rfl, _, _, rfl, rfl, hm.1, ?_⟩⟩
        exact k _ _ (mod_fits m0).1 (mod_fits m0).2 k2.put ⟨npc, ms, t + 1, _, upd_same, k2.put c _ npc hc, hms, by omega, by omega⟩
      · rintro _ _ ⟨rfl, rfl⟩
        refine ⟨_, rfl, Or.inl ⟨_, rfl, _, _, rfl, rfl, by dsimp only; decide, _, rfl, _, _, rfl, rfl, .inl ⟨by decide, by decide⟩, _, _, rfl, rfl, _, _, rfl, rfl, _, _, rfl, rfl, ⟨by decide, by decide, ?_⟩, Or.inl ⟨_, rfl, _, _, rfl, rfl, by dsimp only; decide, ?_⟩⟩⟩
        · have := mod_fits (i := x) (m := 2147483563) (by decide)
          omega
        dsimp only
        generalize hy : Int.fmod ((x.fmod 2147483563 + 80071 * t + 9041) ^ (5 : Int).toNat) 2147483549 = y
        have hy2 : 0 ≤ y ∧ y < 2147483549 := hy ▸ mod_fits (by decide)
        clear hy
        have f1 : 0 ≤ y * (2 * t + 6037) := Int.mul_nonneg hy2.1 (by omega)
        have f2 : y * (2 * t + 6037) ≤ 2147483549 * (2 * t + 6037) := Int.mul_le_mul_of_nonneg_right (by omega) (by omega)
        have f3 : 0 ≤ 120047 * t * t := Int.mul_nonneg (by omega) t0
        have f4 : 120047 * t * t ≤ 120047 * 100000 * t := Int.mul_le_mul_of_nonneg_right (by omega) t0
        refine ⟨_, rfl, _, rfl, _, _, rfl, rfl, .inl ⟨by decide, by decide⟩, _, _, rfl, rfl, _, _, rfl, rfl, .inl ⟨by omega, by omega⟩, _, rfl, _, _, rfl, rfl, .inl ⟨by decide, by decide⟩, _, rfl, _, _, rfl, rfl, .inl ⟨by omega, by omega⟩, _, _, rfl, rfl, _, _, rfl, rfl, _, _, rfl, rfl, ⟨by decide, by decide, by omega⟩, Or.inl ⟨_, rfl, _, _, rfl, rfl, by dsimp only; decide, ?_⟩⟩
        refine ⟨_, rfl, _, _, rfl, rfl, ⟨by decide, by decide⟩, Or.inl ⟨_, rfl, _, rfl, _, _, rfl, rfl, hm.1, ?_⟩⟩
        exact k _ _ (mod_fits m0).1 (mod_fits m0).2 k2 ⟨npc, ms, t + 1, _, hp2, hc2, hms, by omega, by omega⟩

/-- the bag is made -/
def sp_bag (K : PySem.W.Frag) : Sp := fun vs H Q _ => ∃ (a : Addr) (ns : List Int), vs = [.ref a] ∧ SqL K H a (ns.map V.int) ∧ ns.length ≤ 63 ∧
  ∀ (p c : Addr) (H' : Hp), Same H H' → H p = none → H c = none → Bg H' p c 0 → Q (.ref p) H'
theorem G__law_decanter (T : Txt P K mg A) : FnG P w K mg base CX0 1 A.a__law_decanter A.d__law_decanter P__law_decanter (sp_bag K) := by
  refine okG T.F__law_decanter sc__law_decanter (fun vs H Q E h => ?_) (fun cdv A0 outer s H vs Q E hr h => ?_)
  · obtain ⟨a, ns, rfl, _⟩ := h
    rfl
  obtain ⟨a, ns, rfl, hS, hl, k⟩ := h
  refine ⟨_, (pss_one (ps_ret (pe_lst (pa_cons (pe_lc (own := [("cell", 1)]) (g := gName 1) (tt := tYes) rfl sc__law_decanter.nd (pi_list (pe_slice (r := rSlL K) sl_list (pv 0) po_none (po_some pe_int))) (blkOk_by (N := N__law_decanter) (sc := defScope s__law_decanter) (by decide +kernel)) (fun _ _ _ _ _ => (pg_name (i := 1) sc__law_decanter.nd rfl (Or.inl rfl))) (fun _ _ _ _ _ => pts_nil) (fun _ _ _ _ _ => (pe_callTy (T := "int") call_int1 (by rfl) T.n_int (by decide +kernel) (pa_cons (pv 1) pa_nil)))) (pa_cons pe_int (pa_cons pe_int pa_nil)))))), ?_⟩
  refine ⟨_, rfl, _, rfl, a, _, rfl, hS, fun q hq => ?_⟩
  obtain ⟨ms, em, lm⟩ : ∃ ms : List Int, cutV (ns.map V.int) none (some 60) = ms.map V.int ∧ ms.length ≤ 63 := by
    refine ⟨(ns.drop (HT.sIx ns.length 0 none)).take (HT.sIx ns.length ns.length (some 60) - HT.sIx ns.length 0 none), ?_, ?_⟩
    · unfold cutV
      rw [List.length_map, List.map_take, List.map_drop]
    · rw [List.length_take, List.length_drop]
      omega
  rw [em]
  refine ⟨q, rfl, ⟨_, SqL.of upd_same⟩, fun D hD => ?_⟩
  have s1 : Same H (upd H q (.lst (ms.map V.int))) := Same.new (fun _ _ h => h) hq
  have nD : H D = none := s1.free hD
  have nqD : q ≠ D := ne_of_none upd_same hD
  refine lc_list (K := K) (a := q) (xs := ms.map V.int) (fun i H' => Same H H' ∧ H' q = some (.lst (ms.map V.int)) ∧ H' D = some (.lst ((ms.take i).map V.int)))
    ⟨Same.new s1 hD, by rw [upd_ne nqD, upd_same], upd_same⟩ (fun i H' _ h => SqL.of h.2.1) ?_ ?_
  · rintro i x H' hx ⟨s2, hq2, hD2⟩
    obtain ⟨z, hz, rfl⟩ : ∃ z, ms[i]? = some z ∧ x = V.int z := by
      rw [List.getElem?_map] at hx
      cases e : ms[i]? with
      | none => rw [e] at hx; cases hx
      | some z => rw [e] at hx; exact ⟨z, rfl, (Option.some.inj hx).symm⟩
    have hi : i < ms.length := (List.getElem?_eq_some_iff.mp hz).1
    refine ⟨rfl, tYes_of (iteT ⟨_, rfl, Or.inl ⟨_, rfl, _, hD2, ?_, ?_, ?_, ?_⟩⟩)⟩
    · rw [List.length_map, List.length_take]
      exact small1000 (by omega)
    · intro b o h
      rw [upd_ne (ne_of_none h nD)]
      exact s2 _ _ h
    · rw [upd_ne nqD]
      exact hq2
    · rw [upd_same, List.take_succ, hz]
      simp
  · rintro H' ⟨s2, hq2, hD2⟩
    refine ⟨by show 3 ≤ sizeLine; decide, fun p hp => ?_⟩
    rw [List.take_of_length_le (by rw [List.length_map]; exact Nat.le_refl _)] at hD2
    have npD : D ≠ p := ne_of_none hD2 hp
    refine k p D _ (Same.new s2 hp) (s2.free hp) nD ⟨npD, ms, 0, 0, upd_same, ?_, lm, Int.le_refl _, Int.le_refl _⟩
    rw [upd_ne npD]
    exact hD2
/-- one of some -/
def sp_some : Sp := fun vs H Q _ => ∃ (p c q : Addr) (n : Nat) (xs : List V), vs = [.ref p, .ref q] ∧ Bg H p c n ∧ n ≤ 100000 ∧ H q = some (.lst xs) ∧ q ≠ p ∧ 1 ≤ xs.length ∧ xs.length ≤ 1000 ∧
  ∀ (v : V) (H' : Hp), v ∈ xs → Kp p H H' → Bg H' p c (n + 1) → Q v H'
theorem G__law_one_of (T : Txt P K mg A) : FnG P w K mg base CX0 2 A.a__law_one_of A.d__law_one_of P__law_one_of sp_some := by
  refine okG T.F__law_one_of sc__law_one_of (fun vs H Q E h => ?_) (fun cdv A0 outer s H vs Q E hr h => ?_)
  · obtain ⟨p, c, q, n, xs, rfl, _⟩ := h
    rfl
  obtain ⟨p, c, q, n, xs, rfl, bg, hn, hq, nqp, h1, h2, k⟩ := h
  refine ⟨_, (pss_one (ps_ret (pe_ix (r := rIxL K) ix_list (pv 1) (pe_callG (G__law_serve T) (hr.mono (by decide)) rfl T.g__law_serve T.F__law_serve.kp T.b__law_serve .nil pass0 (pa_cons (pv 0) (pa_cons (pe_callB call_len_seq (by rfl) T.n_len (by decide +kernel) (pa_cons (pv 1) pa_nil)) pa_nil))) (fun _ _ => rfl)))), ?_⟩
  refine ⟨_, rfl, _, rfl, _, rfl, _, _, rfl, .inl (SqL.of hq), p, c, n, _, rfl, bg, hn, by omega, by omega, fun x H' x0 x1 kp bg' => ?_⟩
  obtain ⟨j, rfl⟩ : ∃ j : Nat, x = (j : Int) := ⟨x.toNat, by omega⟩
  have hj : j < xs.length := by omega
  refine ⟨_, _, _, _, rfl, rfl, SqL.of (kp q _ nqp hq), atI_nat (List.getElem?_eq_getElem hj), ?_⟩
  exact k _ _ (List.getElem_mem hj) kp bg'

/-! ### the law's texts -/
theorem kp_free {p : Addr} {H H' : Hp} {t : Addr} {o : HO} (k : Kp p H H') (hp : H' p = some o) (h : H' t = none) : H t = none := by
  cases e : H t with
  | none => rfl
  | some u =>
    have n : t ≠ p := fun z => by rw [z, hp] at h; cases h
    have := k t u n e
    rw [h] at this
    cases this
theorem bg_not {H : Hp} {p c q : Addr} {n : Nat} (b : Bg H p c n) (hq : H q = none) : q ≠ p ∧ q ≠ c := by
  obtain ⟨⟨o, h1⟩, ⟨u, h2⟩⟩ := b.has
  exact ⟨(fun z => by rw [z, h1] at hq; cases hq), (fun z => by rw [z, h2] at hq; cases hq)⟩
theorem num_word {n : Nat} (h : n < 10 ^ 60) : (∀ c ∈ TL.numL n, 48 ≤ c ∧ c ≤ 57) ∧ (TL.numL n).length ≤ 60 := by
  refine ⟨fun c hc => ?_, TL.numL_len (by decide) h⟩
  by_cases q : c < 48 ∨ 57 < c
  · exact absurd hc (TL.numL_free q)
  · omega
theorem int_word {i : Int} (h : i.natAbs < 10 ^ 60) : Wo (Str.ofString (toString i)) ∧ Asc (Str.ofString (toString i)) := by
  have key : (∀ c ∈ TL.tl (Str.ofString (toString i)), 45 ≤ c ∧ c ≤ 57) ∧ (TL.tl (Str.ofString (toString i))).length ≤ 61 := by
    obtain ⟨d1, d2⟩ := num_word h
    by_cases c : 0 ≤ i
    · rw [show i = ((i.natAbs : Nat) : Int) by omega, TL.tl_num]
      exact ⟨fun c hc => by have := d1 c hc; omega, by omega⟩
    · rw [show i = -((i.natAbs : Nat) : Int) by omega, MN.ofs_neg _ (by omega)]
      refine ⟨fun c hc => ?_, by rw [List.length_cons]; omega⟩
      rcases List.mem_cons.mp hc with rfl | hc
      · omega
      · have := d1 c hc
        omega
  have len : (TL.tl (Str.ofString (toString i))).length = (Str.ofString (toString i)).length := rfl
  exact ⟨⟨fun hm => by have := key.1 _ hm; omega, by omega⟩, fun c hc => by have := key.1 _ hc; omega⟩
theorem lg2 {i : Int} (h : i.natAbs < 10 ^ 60) : i.natAbs.log2 < 1920 := by
  by_cases z : i.natAbs = 0
  · rw [z]
    decide
  · rw [Nat.log2_lt z]
    exact Nat.lt_trans h (by decide)
theorem colon_word : Wo (":" : Str) ∧ Asc (":" : Str) := ⟨⟨by decide +kernel, by decide +kernel⟩, by unfold Asc; decide +kernel⟩
def GoodW (x : Str) : Prop := Wo x ∧ Asc x
def LW (H : Hp) (a : Addr) (ws : List Str) (m : Nat) : Prop := H a = some (.lst (ws.map V.str)) ∧ ws ≠ [] ∧ ws.length ≤ m ∧ ∀ x ∈ ws, GoodW x
theorem RowL.kp {p c : Addr} {n : Nat} {H H' : Hp} {x : V} {r : List Int} (h : RowL H x r) (b : Bg H p c n) (k : Kp p H H') : RowL H' x r := by
  obtain ⟨t, rfl, q⟩ := h
  obtain ⟨_, ms, t1, l1, e1, _⟩ := b
  refine ⟨t, rfl, k t _ (fun z => ?_) q⟩
  rw [z, e1] at q
  cases r with
  | nil => cases q
  | cons a r => cases q
def Two (r : List Int) : Prop := ∃ a b : Int, r = [a, b] ∧ a.natAbs < 1000 ∧ b.natAbs < 1000
theorem mem_places {v : V} {x : Int} (h : v ∈ [V.int 3, .int 1, .int 2, .int 5, .int 4, .int (1 + x)]) (x0 : 0 ≤ x) (x1 : x < 11) : ∃ n : Nat, v = .int (n : Int) ∧ 1 ≤ n ∧ n ≤ 11 := by
  simp only [List.mem_cons, List.not_mem_nil, or_false] at h
  rcases h with rfl | rfl | rfl | rfl | rfl | rfl
  · exact ⟨3, rfl, by omega, by omega⟩
  · exact ⟨1, rfl, by omega, by omega⟩
  · exact ⟨2, rfl, by omega, by omega⟩
  · exact ⟨5, rfl, by omega, by omega⟩
  · exact ⟨4, rfl, by omega, by omega⟩
  · exact ⟨(1 + x).toNat, by congr 1; omega, by omega, by omega⟩
/-- the rows of a list that stands at D -/
def RowsD (H : Hp) (D : Addr) (M : Mt) : Prop := ∃ xs, H D = some (.lst xs) ∧ Paired (RowL (del H D)) xs M
theorem rows_kp {p c D : Addr} {n : Nat} {H H' : Hp} {M : Mt} (h : RowsD H D M) (b : Bg H p c n) (np : D ≠ p) (nc : D ≠ c) (k : Kp p H H') : RowsD H' D M := by
  obtain ⟨xs, h1, h2⟩ := h
  have b' : Bg (del H D) p c n := b.same (del_ne np.symm) (del_ne nc.symm)
  have k' : Kp p (del H D) (del H' D) := fun a o na ha => by
    have e : a ≠ D := fun e => by rw [e, del_same] at ha; cases ha
    rw [del_ne e] at ha ⊢
    exact k a o na ha
  exact ⟨xs, k _ _ np h1, paired_imp (fun _ _ z => z.kp b' k') h2⟩
theorem rows_add {D t : Addr} {H : Hp} {M : Mt} {r : List Int} (h : RowsD H D M) (ht : H t = some (.lst (r.map V.int))) (nt : t ≠ D) : ∃ xs, H D = some (.lst xs) ∧ xs.length = M.length ∧ RowsD (upd H D (.lst (xs ++ [.ref t]))) D (M ++ [r]) := by
  obtain ⟨xs, h1, h2⟩ := h
  refine ⟨xs, h1, Paired.length h2, _, upd_same, paired_snoc ⟨t, rfl, by rw [del_ne nt, upd_ne nt]; exact ht⟩ (paired_imp (fun _ _ z => z.same fun a o ha => ?_) h2)⟩
  have e : a ≠ D := fun e => by rw [e, del_same] at ha; cases ha
  rw [del_ne e] at ha ⊢
  rw [upd_ne e]
  exact ha
theorem rows_new {D t : Addr} {H : Hp} {M : Mt} {o : HO} (h : RowsD H D M) (ht : H t = none) : RowsD (upd H t o) D M := by
  obtain ⟨xs, h1, h2⟩ := h
  have s : Same H (upd H t o) := Same.new (fun _ _ h => h) ht
  refine ⟨xs, s _ _ h1, paired_imp (fun _ _ z => z.same fun a o' ha => ?_) h2⟩
  have e : a ≠ D := fun e => by rw [e, del_same] at ha; cases ha
  rw [del_ne e] at ha ⊢
  exact s _ _ ha
theorem rows_len {D : Addr} {H : Hp} {M : Mt} {xs : List V} (h : RowsD H D M) (e : H D = some (.lst xs)) : xs.length = M.length := by
  obtain ⟨ys, h1, h2⟩ := h
  rw [h1] at e
  cases e
  exact Paired.length h2
theorem rows_same {D : Addr} {H : Hp} {M : Mt} {xs : List V} (h : Paired (RowL (del H D)) xs M) : Paired (RowL H) xs M := paired_imp (fun _ _ z => z.same fun c o hc => by
    by_cases e : c = D
    · rw [e, del_same] at hc
      cases hc
    · rw [del_ne e] at hc
      exact hc) h
theorem rows_ne {H : Hp} {a l : Addr} {M : Mt} {Q : VK} (h : RowsD H a M) (hl : H l = some (.lst [])) (k : Q (.bl (!M.isEmpty)) H) : rNeD K (.ref a) (.ref l) H Q := by
  obtain ⟨xs, q, p⟩ := h
  refine ⟨.list (M.map fun r => .list (r.map PyData.int)), .list [], .lst (SqL.of q) (dp_rows (rows_same p)), .lst (SqL.of hl) .nil, shaped_rows M, shaped_nil, ?_⟩
  rw [eqv_nilM]
  exact k
theorem rows_off {D f : Addr} {H : Hp} {M : Mt} {ws : List Str} {o : HO} (h : RowsD H D M) (n : f ≠ D) (hf : H f = some (.lst (ws.map V.str))) (ne : ws ≠ []) : RowsD (upd H f o) D M := by
  obtain ⟨xs, h1, h2⟩ := h
  refine ⟨xs, by rw [upd_ne n.symm]; exact h1, paired_imp (fun _ r z => ?_) h2⟩
  obtain ⟨t, rfl, q⟩ := z
  have nt : t ≠ D := fun e => by rw [e, del_same] at q; cases q
  have nf : t ≠ f := fun e => by
    rw [del_ne nt, e, hf] at q
    obtain ⟨w, wr, rfl⟩ := List.exists_cons_of_ne_nil ne
    have q := HO.lst.inj (Option.some.inj q)
    have q0 := congrArg List.head? q
    rw [List.head?_map, List.head?_map] at q0
    cases r with
    | nil => cases q0
    | cons a r => cases q0
  refine ⟨t, rfl, ?_⟩
  rw [del_ne nt] at q ⊢
  rw [upd_ne nf]
  exact q
theorem rows_same' {D : Addr} {H H' : Hp} {M : Mt} (h : RowsD H D M) (s : Same H H') : RowsD H' D M := by
  obtain ⟨xs, h1, h2⟩ := h
  refine ⟨xs, s _ _ h1, paired_imp (fun _ _ z => z.same fun a o ha => ?_) h2⟩
  have e : a ≠ D := fun e => by rw [e, del_same] at ha; cases ha
  rw [del_ne e] at ha ⊢
  exact s _ _ ha
def wS (z : Int) : Str := Str.ofString (toString z)
theorem seqIx {j n : Nat} (h : j < n) : seqIndex? (j : Int) n = some j := by
  unfold seqIndex?
  simp
  omega
theorem paired_erase {α β : Type} {R : α → β → Prop} : ∀ {xs : List α} {ys : List β}, Paired R xs ys → ∀ k, Paired R (xs.eraseIdx k) (ys.eraseIdx k)
  | _, _, .nil, k => by rw [List.eraseIdx_nil, List.eraseIdx_nil]; exact .nil
  | _, _, .cons h t, 0 => t
  | _, _, .cons h t, k + 1 => .cons h (paired_erase t k)
def sp_lweb : Sp := fun vs H Q _ => ∃ (p c : Addr) (m : Nat), vs = [.ref p] ∧ Bg H p c m ∧ m ≤ 90000 ∧
  ∀ (a : Addr) (ws : List Str) (H' : Hp), Kp p H H' → Bg H' p c (m + 100) → LW H' a ws 26 → a ≠ p → Q (.ref a) H'
theorem G__law_web (T : Txt P K mg A) : FnG P w K mg base CX0 3 A.a__law_web A.d__law_web P__law_web sp_lweb := by
  refine okG T.F__law_web sc__law_web (fun vs H Q E h => ?_) (fun cdv A0 outer s H vs Q E hr h => ?_)
  · obtain ⟨p, c, m, rfl, _⟩ := h
    rfl
  obtain ⟨p, c, m, rfl, bg, hm, k⟩ := h
  refine ⟨_, (pss_cons (ps_set (i := 1) sc__law_web.nd rfl (Or.inl rfl) (pe_callG (G__law_one_of T) (hr.mono (by decide)) rfl T.g__law_one_of T.F__law_one_of.kp T.b__law_one_of .nil pass0 (pa_cons (pv 0) (pa_cons (pe_lst (pa_cons pe_int (pa_cons pe_int (pa_cons pe_int (pa_cons pe_int (pa_cons pe_int (pa_cons (pe_op op_add pe_int (pe_callG (G__law_serve T) (hr.mono (by decide)) rfl T.g__law_serve T.F__law_serve.kp T.b__law_serve .nil pass0 (pa_cons (pv 0) (pa_cons pe_int pa_nil)))) pa_nil))))))) pa_nil))))
      (pss_cons (ps_setLc (i := 2) (own := [("place", 6)]) (g := gName 6) (tt := tYes) (by rfl) sc__law_web.nd rfl rfl (sw_true rfl rfl rfl (by decide +kernel)) (pi_range2 (by rfl) T.n_range (pa_cons pe_int (pa_cons (pv 1) pa_nil))) (blkOk_by (N := N__law_web) (sc := defScope s__law_web) (by decide +kernel)) (fun _ _ _ _ _ => (pg_name (i := 6) sc__law_web.nd rfl (Or.inl rfl))) (fun _ _ _ _ _ => pts_nil) (fun _ _ _ _ _ => (pe_lst (pa_cons (pe_callG (G__law_serve T) (hr.mono (by decide)) rfl T.g__law_serve T.F__law_serve.kp T.b__law_serve .nil pass0 (pa_cons (pv 0) (pa_cons (pv 6) pa_nil))) (pa_cons (pv 6) pa_nil)))))
      (pss_cons (ps_while PassesOwn.never (PW.pt (pw_and (pt_cmpR op_lt (pe_callB call_len_seq (by rfl) T.n_len (by decide +kernel) (pa_cons (pv 2) pa_nil)) pe_int (nomark _)) (pw_and1 (pt_cmpR op_gt (pe_callG (G__law_serve T) (hr.mono (by decide)) rfl T.g__law_serve T.F__law_serve.kp T.b__law_serve .nil pass0 (pa_cons (pv 0) (pa_cons pe_int pa_nil))) pe_int (nomark _))))) (pss_one (ps_expr (pe_bm PySem.F.plainAttrs_list PySem.F.slot_list_append PySem.F.type_list_append mt_append (pv 2) (pa_cons (pe_lst (pa_cons (pe_callG (G__law_serve T) (hr.mono (by decide)) rfl T.g__law_serve T.F__law_serve.kp T.b__law_serve .nil pass0 (pa_cons (pv 0) (pa_cons (pv 1) pa_nil))) (pa_cons (pe_callG (G__law_serve T) (hr.mono (by decide)) rfl T.g__law_serve T.F__law_serve.kp T.b__law_serve .nil pass0 (pa_cons (pv 0) (pa_cons (pv 1) pa_nil))) pa_nil))) pa_nil)))))
      (pss_cons (ps_par (i := 3) (j := 4) (by rfl) sc__law_web.nd rfl rfl (by decide) rfl rfl (pa_cons (pv 2) (pa_cons (pe_lst (pa_cons (pe_callTy (T := "str") call_str_int (by rfl) T.n_str (by decide +kernel) (pa_cons (pv 1) pa_nil)) (pa_cons pe_str pa_nil))) pa_nil)) (by rfl))
      (pss_cons (ps_while PassesOwn.never (pt_cmpR (op_neD hr.room.units) (pv 3) (pe_lst pa_nil) (nomark _)) (pss_cons (ps_set (i := 5) sc__law_web.nd rfl (Or.inl rfl) (pe_bm PySem.F.plainAttrs_list PySem.F.slot_list_pop PySem.F.type_list_pop mt_popAt (pv 3) (pa_cons (pe_callG (G__law_serve T) (hr.mono (by decide)) rfl T.g__law_serve T.F__law_serve.kp T.b__law_serve .nil pass0 (pa_cons (pv 0) (pa_cons (pe_callB call_len_seq (by rfl) T.n_len (by decide +kernel) (pa_cons (pv 3) pa_nil)) pa_nil))) pa_nil)))
      (pss_one (ps_expr (pe_bm PySem.F.plainAttrs_list PySem.F.slot_list_extend PySem.F.type_list_extend mt_extend (pv 4) (pa_cons (pe_lc (own := [("place", 6)]) (g := gName 6) (tt := tYes) rfl sc__law_web.nd (pi_list (pe_ifExp (pt_cmpR op_eq (pe_callG (G__law_serve T) (hr.mono (by decide)) rfl T.g__law_serve T.F__law_serve.kp T.b__law_serve .nil pass0 (pa_cons (pv 0) (pa_cons pe_int pa_nil))) pe_int (nomark _)) (pv 5) (pe_revL (pv 5)))) (blkOk_by (N := N__law_web) (sc := defScope s__law_web) (by decide +kernel)) (fun _ _ _ _ _ => (pg_name (i := 6) sc__law_web.nd rfl (Or.inl rfl))) (fun _ _ _ _ _ => pts_nil) (fun _ _ _ _ _ => (pe_callTy (T := "str") call_str_int (by rfl) T.n_str (by decide +kernel) (pa_cons (pv 6) pa_nil)))) pa_nil))))))
      (pss_one (ps_ret (pv 4)))))))), ?_⟩
  refine ⟨_, rfl, _, rfl, p, c, m, 11, rfl, bg, by omega, by decide, by decide, fun x H1 x0 x1 kp1 bg1 => ?_⟩
  refine ⟨_, _, rfl, rfl, by show 6 ≤ sizeLine; decide, fun q hq => ?_⟩
  obtain ⟨nqp, nqc⟩ := bg_not bg1 hq
  refine ⟨p, c, q, m + 1, _, rfl, bg1.new hq, by omega, upd_same, nqp, by show 1 ≤ 6; decide, by show 6 ≤ 1000; decide, fun v H2 hv kp2 bg2 => ?_⟩
  obtain ⟨n, rfl, n1, n11⟩ := mem_places hv x0 x1
  have k2 : Kp p H H2 := (kp1.new hq).trans kp2
  refine ⟨_, rfl, _, _, rfl, ⟨by omega, by omega, by omega, by omega⟩, fun D hD => ?_⟩
  have nDH : H D = none := kp_free k2 bg2.has.1.choose_spec hD
  obtain ⟨nDp, nDc⟩ := bg_not bg2 hD
  have off : ∀ {H' : Hp} {o : HO}, Kp p H H' → Kp p H (upd H' D o) := fun kp b o' nb hb => by
    rw [upd_ne (ne_of_none hb nDH)]
    exact kp b o' nb hb
  rw [show ((n : Int) - 1).toNat = n - 1 by omega]
  refine lc_range (lo := 1) (n := n - 1) (fun i H' => Kp p H H' ∧ Bg H' p c (m + 2 + i) ∧ ∃ M : Mt, RowsD H' D M ∧ M.length = i ∧ ∀ r ∈ M, Two r) ⟨k2.new hD, bg2.new hD, [], ⟨[], upd_same, .nil⟩, rfl, fun r hr => by cases hr⟩ ?_ ?_
  · rintro i H3 hi ⟨kp3, bg3, M, rd, lM, tw⟩
    refine ⟨rfl, tYes_of (iteT ?_)⟩
    rw [show (1 : Int) + (i : Int) = ((i + 1 : Nat) : Int) by omega]
    refine ⟨_, rfl, _, rfl, p, c, _, _, rfl, bg3, by omega, by omega, by omega, fun y H4 y0 y1 kp4 bg4 => ⟨_, rfl, by show 2 ≤ sizeLine; decide, fun t ht => ?_⟩⟩
    have rd4 := rows_new (o := .lst [.int y, .int ((i + 1 : Nat) : Int)]) (rows_kp rd bg3 nDp nDc kp4) ht
    obtain ⟨xs, e1, e2, rd5⟩ := rows_add (r := [y, ((i + 1 : Nat) : Int)]) (t := t) rd4 upd_same (fun e => by
      obtain ⟨ys, h1, _⟩ := rows_kp rd bg3 nDp nDc kp4
      rw [← e, ht] at h1
      cases h1)
    refine ⟨xs, e1, small1000 (by omega), off ((kp3.trans kp4).new ht), ((bg4.new ht).oth nDp.symm nDc.symm).le (by omega), _, rd5, by rw [List.length_append, lM]; rfl, fun r hr => ?_⟩
    rcases List.mem_append.mp hr with hr | hr
    · exact tw r hr
    · rw [List.mem_singleton.mp hr]
      exact ⟨_, _, rfl, by omega, by omega⟩
  · rintro H3 ⟨kp3, bg3, M, rd, lM, tw⟩
    dsimp only
    refine seq_cut (fun σ H' => ∃ M : Mt, σ = [some (.ref p), some (.int (n : Int)), some (.ref D), none, none, none, none] ∧ Kp p H H' ∧ M.length ≤ 12 ∧ Bg H' p c (m + 60) ∧ RowsD H' D M ∧ ∀ r ∈ M, Two r) (fun N hN => ?_) ?_
    · refine ⟨fun kk σ H' => ∃ M : Mt, σ = [some (.ref p), some (.int (n : Int)), some (.ref D), none, none, none, none] ∧ Kp p H H' ∧ M.length ≤ 12 ∧ kk + M.length = 12 ∧ Bg H' p c (m + 13 + 3 * M.length) ∧ RowsD H' D M ∧ ∀ r ∈ M, Two r, ⟨12 - M.length, M, rfl, kp3, by omega, by omega, bg3.le (by omega), rd, tw⟩, ?_⟩
      clear lM rd tw kp3 bg3
      clear M
      · rintro kk σ H4 ⟨M, rfl, kp4, lM, lk, bg4, rd, tw⟩
        obtain ⟨xs, hxs, hpp⟩ := id rd
        have lx := rows_len rd hxs
        refine ⟨_, rfl, D, xs, rfl, .inl (SqL.of hxs), _, _, rfl, rfl, _, rfl, ?_⟩
        by_cases c12 : M.length < 12
        · rw [decide_eq_true (show ((xs.length : Nat) : Int) < 12 by omega)]
          refine ite2 (fun _ => ?_) (fun q => absurd rfl q)
          refine ⟨_, rfl, p, c, _, 4, rfl, bg4, by omega, by decide, by decide, fun y H5 y0 y1 kp5 bg5 => ⟨_, _, rfl, rfl, _, rfl, ite2 (fun _ => ⟨fun σ H' => ∃ M : Mt, σ = [some (.ref p), some (.int (n : Int)), some (.ref D), none, none, none, none] ∧ Kp p H H' ∧ M.length ≤ 12 ∧ (kk - 1) + M.length = 12 ∧ Bg H' p c (m + 13 + 3 * M.length) ∧ RowsD H' D M ∧ ∀ r ∈ M, Two r, fun σ' H' h => ⟨kk - 1, by omega, h⟩, ?_⟩) (fun _ => ?_)⟩⟩
          · have rd5 := rows_kp rd bg4 nDp nDc kp5
            obtain ⟨xs5, hx5, _⟩ := id rd5
            refine ⟨_, rfl, .inl ⟨rfl, _, SqL.of hx5⟩, _, rfl, _, rfl, p, c, _, _, rfl, bg5, by omega, by omega, by omega, fun u H6 u0 u1 kp6 bg6 => ?_⟩
            refine ⟨_, rfl, _, rfl, p, c, _, _, rfl, bg6, by omega, by omega, by omega, fun v H7 v0 v1 kp7 bg7 => ⟨by show 2 ≤ sizeLine; decide, fun t ht => ?_⟩⟩
            have rd7 := rows_kp (rows_kp rd5 bg5 nDp nDc kp6) bg6 nDp nDc kp7
            have nt : t ≠ D := fun e => by
              obtain ⟨ys, h1, _⟩ := rd7
              rw [← e, ht] at h1
              cases h1
            obtain ⟨xs8, e1, e2, rd8⟩ := rows_add (r := [u, v]) (t := t) (rows_new (o := .lst [.int u, .int v]) rd7 ht) upd_same nt
            refine ⟨D, xs8, _, rfl, rfl, e1, small1000 (by omega), _, rfl, off (((kp4.trans kp5).trans (kp6.trans kp7)).new ht), by rw [List.length_append]; show M.length + 1 ≤ 12; omega, by rw [List.length_append]; show kk - 1 + (M.length + 1) = 12; omega, ((bg7.new ht).oth nDp.symm nDc.symm).le (by rw [List.length_append]; show _ ≤ m + 13 + 3 * (M.length + 1); omega), rd8, fun r hr => ?_⟩
            · rcases List.mem_append.mp hr with hr | hr
              · exact tw r hr
              · rw [List.mem_singleton.mp hr]
                exact ⟨_, _, rfl, by omega, by omega⟩
          · exact hN _ _ ⟨M, rfl, kp4.trans kp5, lM, bg5.le (by omega), rows_kp rd bg4 nDp nDc kp5, tw⟩
        · rw [decide_eq_false (show ¬ ((xs.length : Nat) : Int) < 12 by omega)]
          refine ite2 (fun q => by cases q) (fun _ => ?_)
          exact hN _ _ ⟨M, rfl, kp4, lM, bg4.le (by omega), rd, tw⟩
    · clear lM rd tw kp3 bg3
      clear M
      rintro σ H4 ⟨M, rfl, kp4, lM, bg4, rd, tw⟩
      refine ⟨_, rfl, _, rfl, _, rfl, lg2 (by have : (1000 : Nat) < 10 ^ 60 := by decide
                                              omega), by show 2 ≤ sizeLine; decide, fun f hf => ⟨_, _, rfl, ?_⟩⟩
      obtain ⟨nfp, nfc⟩ := bg_not bg4 hf
      have nfH : H f = none := kp_free kp4 bg4.has.1.choose_spec hf
      have nfD : f ≠ D := fun e => by
        obtain ⟨ys, h1, _⟩ := rd
        rw [← e, hf] at h1
        cases h1
      have big : (1000 : Nat) < 10 ^ 60 := by decide
      have lw0 : LW (upd H4 f (.lst [.str (Str.ofString (toString (n : Int))), .str ":"])) f [Str.ofString (toString (n : Int)), ":"] 2 := ⟨upd_same, by simp, Nat.le_refl _, fun x hx => by
        rcases List.mem_cons.mp hx with rfl | hx
        · exact int_word (by omega)
        · rw [List.mem_singleton.mp hx]
          exact colon_word⟩
      refine ⟨fun kk σ H' => ∃ (v5 : Option V) (M : Mt) (ws : List Str), σ = [some (.ref p), some (.int (n : Int)), some (.ref D), some (.ref D), some (.ref f), v5, none] ∧ Kp p H H' ∧ M.length = kk ∧ kk ≤ 12 ∧ Bg H' p c (m + 60 + 2 * (12 - kk)) ∧ RowsD H' D M ∧ (∀ r ∈ M, Two r) ∧ LW H' f ws (2 + 2 * (12 - kk)), ⟨M.length, none, M, _, rfl, kp4.new hf, rfl, lM, (bg4.new hf).le (by omega), rows_new rd hf, tw, lw0.1, lw0.2.1, Nat.le_trans lw0.2.2.1 (by omega), lw0.2.2.2⟩, ?_⟩
      clear lw0 lM rd tw kp4 bg4
      clear M
      rintro kk σ H5 ⟨v5, M, ws, rfl, kp5, lM, lk, bg5, rd, tw, lw⟩
      obtain ⟨xs, hxs, hpp⟩ := id rd
      have lx := rows_len rd hxs
      refine ⟨_, rfl, Nat.zero_le _, fun q0 hq0 => ?_⟩
      refine rows_ne (rows_new rd hq0) upd_same ⟨_, rfl, ?_⟩
      cases M with
      | nil =>
        refine ⟨_, rfl, k f ws _ (kp5.new hq0) ((bg5.new hq0).le (by omega)) ⟨at_new lw.1 hq0, lw.2.1, Nat.le_trans lw.2.2.1 (by omega), lw.2.2.2⟩ nfp⟩
      | cons r0 Mr =>
        refine iteT ⟨fun σ H' => ∃ (v5 : Option V) (M : Mt) (ws : List Str), σ = [some (.ref p), some (.int (n : Int)), some (.ref D), some (.ref D), some (.ref f), v5, none] ∧ Kp p H H' ∧ M.length = kk - 1 ∧ kk - 1 ≤ 12 ∧ Bg H' p c (m + 60 + 2 * (12 - (kk - 1))) ∧ RowsD H' D M ∧ (∀ r ∈ M, Two r) ∧ LW H' f ws (2 + 2 * (12 - (kk - 1))), fun σ' H' h => ⟨kk - 1, by have : kk = Mr.length + 1 := lM.symm; omega, h⟩, ?_⟩
        have kpos : 1 ≤ kk := by have : kk = Mr.length + 1 := lM.symm; omega
        have rd0 := rows_new (o := .lst []) rd hq0
        have hx0 := at_new (u := .lst []) hxs hq0
        have lw0 := at_new (u := .lst []) lw.1 hq0
        have kp0 := kp5.new (o := .lst []) hq0
        have bg0 := bg5.new (o := .lst []) hq0
        generalize upd H5 q0 (.lst []) = H6 at rd0 hx0 lw0 kp0 bg0
        have lM' : xs.length = kk := lx.trans lM
        refine ⟨_, rfl, .inl ⟨rfl, _, SqL.of hx0⟩, _, rfl, _, rfl, D, _, rfl, .inl (SqL.of hx0), p, c, _, _, rfl, bg0, by omega, by omega, by omega, fun x H7 x0 x1 kp7 bg7 => ?_⟩
        obtain ⟨j, rfl⟩ : ∃ j : Nat, x = (j : Int) := ⟨x.toNat, by omega⟩
        have hj : j < xs.length := by omega
        have hlj : xs[j]? = some xs[j] := List.getElem?_eq_getElem hj
        have hx7 := kp7 _ _ nDp hx0
        have rd7 := rows_kp rd0 bg0 nDp nDc kp7
        have lw7 := kp7 _ _ nfp lw0
        refine ⟨D, xs, _, j, xs[j], rfl, rfl, hx7, by omega, by omega, seqIx hj, hlj, ?_⟩
        obtain ⟨xs', e1, hpp7⟩ := id rd7
        rw [hx7] at e1
        cases e1
        obtain ⟨r, hr, t, et, ht⟩ := paired_get hpp7 hlj
        have ntD : t ≠ D := fun e => by rw [e, del_same] at ht; cases ht
        have ntf : t ≠ f := fun e => by
          rw [del_ne ntD, e, lw7] at ht
          obtain ⟨a1, b1, rfl, _⟩ := tw r (List.mem_of_getElem? hr)
          obtain ⟨w0, wr, rfl⟩ := List.exists_cons_of_ne_nil lw.2.1
          simp at ht
        obtain ⟨a1, b1, rfl, sa, sb⟩ := tw r (List.mem_of_getElem? hr)
        rw [et]
        rw [del_ne ntD] at ht
        have rd8 : RowsD (upd H7 D (.lst (xs.eraseIdx j))) D ((r0 :: Mr).eraseIdx j) := ⟨_, upd_same, paired_imp (fun _ _ z => z.same fun a o ha => by
          have e : a ≠ D := fun e => by rw [e, del_same] at ha; cases ha
          rw [del_ne e] at ha ⊢
          rw [upd_ne e]
          exact ha) (paired_erase hpp7 j)⟩
        have lw8 : (upd H7 D (.lst (xs.eraseIdx j))) f = some (.lst (ws.map V.str)) := by rw [upd_ne nfD]; exact lw7
        have ht8 : (upd H7 D (.lst (xs.eraseIdx j))) t = some (.lst [.int a1, .int b1]) := by rw [upd_ne ntD]; exact ht
        have kp8 : Kp p H (upd H7 D (.lst (xs.eraseIdx j))) := off (kp0.trans kp7)
        have bg8 := bg7.oth (o := .lst (xs.eraseIdx j)) nDp.symm nDc.symm
        have lM8 : ((r0 :: Mr).eraseIdx j).length = kk - 1 := by rw [List.length_eraseIdx, if_pos (by omega), lM]
        generalize upd H7 D (.lst (xs.eraseIdx j)) = H8 at rd8 lw8 ht8 kp8 bg8
        have tw8 : ∀ r ∈ (r0 :: Mr).eraseIdx j, Two r := fun r hr => tw r (List.mem_of_mem_eraseIdx hr)
        generalize (r0 :: Mr).eraseIdx j = M8 at rd8 lM8 tw8
        refine ⟨_, rfl, .inl ⟨rfl, _, SqL.of lw8⟩, _, rfl, p, c, _, 2, rfl, bg8, by omega, by decide, by decide, fun y H9 y0 y1 kp9 bg9 => ⟨rfl, _, rfl, ?_⟩⟩
        refine ite2 (fun _ => ⟨_, rfl, t, rfl, ⟨_, SqL.of (kp9 _ _ (fun z => by obtain ⟨_, ms, t1, l1, e1, _⟩ := bg8; rw [z, e1] at ht8; cases ht8) ht8)⟩, fun E hE => ?_⟩) (fun _ => ⟨_, rfl, t, _, rfl, SqL.of (kp9 _ _ (fun z => by obtain ⟨_, ms, t1, l1, e1, _⟩ := bg8; rw [z, e1] at ht8; cases ht8) ht8), fun pr hpr => ⟨pr, rfl, ⟨_, SqL.of upd_same⟩, fun E hE => ?_⟩⟩)
        · have hu := kp9 _ _ (fun z => by obtain ⟨_, ms, t1, l1, e1, _⟩ := bg8; rw [z, e1] at ht8; cases ht8) ht8
          obtain ⟨Hn, en⟩ : ∃ Hn, Hn = H9 := ⟨_, rfl⟩
          have sn : Same H9 Hn := en ▸ Same.refl _
          rw [← en] at hu hE ⊢
          refine lc_list (K := K) (a := t) (xs := [.int a1, .int b1]) (fun i H' => Same Hn H' ∧ H' E = some (.lst (([a1, b1].take i).map fun z => V.str (wS z)))) ⟨Same.new (fun _ _ h => h) hE, upd_same⟩ (fun i H' _ q => SqL.of (q.1 _ _ hu)) ?_ ?_
          · rintro i x H' hx ⟨s1, hE1⟩
            obtain ⟨z, hz, rfl⟩ : ∃ z : Int, [a1, b1][i]? = some z ∧ x = V.int z := by
              have this : ([a1, b1].map V.int)[i]? = some x := hx
              rw [List.getElem?_map] at this
              obtain ⟨z, h1, h2⟩ := Option.map_eq_some_iff.mp this
              exact ⟨z, h1, h2.symm⟩
            have i2 : i < 2 := (List.getElem?_eq_some_iff.mp hz).1
            have zs : z.natAbs < 1000 := by
              rcases List.mem_cons.mp (List.mem_of_getElem? hz) with rfl | h
              · assumption
              · rw [List.mem_singleton.mp h]
                assumption
            refine ⟨rfl, tYes_of (iteT ⟨_, rfl, _, rfl, lg2 (by omega), _, hE1, ?_, ?_, ?_⟩)⟩
            · rw [List.length_map, List.length_take]
              exact small1000 (by show min i 2 ≤ 1000; omega)
            · intro c o hc
              rw [upd_ne (ne_of_none hc hE)]
              exact s1 _ _ hc
            · rw [upd_same, List.take_succ, hz]
              simp [wS]
          · rintro H' ⟨s1, hE1⟩
            have hE1 : H' E = some (.lst [.str (wS a1), .str (wS b1)]) := hE1
            have hf1 := s1 _ _ (sn _ _ (kp9 _ _ nfp lw8))
            have ssn : Same H9 H' := sn.trans s1
            refine ⟨f, E, ws.map V.str, _, rfl, rfl, hf1, hE1, ?_, _, M8, ws ++ [wS a1, wS b1], rfl, ?_, lM8, by omega, ((bg9.keep ssn).oth nfp.symm nfc.symm).le (by omega), rows_off (rows_same' (rows_kp rd8 bg8 nDp nDc kp9) ssn) nfD hf1 lw.2.1, tw8, by rw [upd_same, List.map_append]; rfl, by simp, by rw [List.length_append]; have := lw.2.2.1; show ws.length + 2 ≤ _; omega, fun x hx => ?_⟩
            · have := lw.2.2.1
              have h1000 : (1000 : Nat) ≤ sizeLine := by decide
              rw [List.length_map]
              show ws.length + 2 ≤ _
              omega
            · intro b o nb h
              rw [upd_ne (fun z => by rw [z, nfH] at h; cases h)]
              exact ssn _ _ ((kp8.trans kp9) b o nb h)
            · rcases List.mem_append.mp hx with h | h
              · exact lw.2.2.2 x h
              · rcases List.mem_cons.mp h with rfl | h
                · exact int_word (by omega)
                · rw [List.mem_singleton.mp h]
                  exact int_word (by omega)
        · have hu : (upd H9 pr (.lst [.int b1, .int a1])) pr = some (.lst [.int b1, .int a1]) := upd_same
          have sn : Same H9 (upd H9 pr (.lst [.int b1, .int a1])) := Same.new (fun _ _ h => h) hpr
          change upd H9 pr (.lst [.int b1, .int a1]) E = none at hE
          rw [show (HO.lst [V.int a1, V.int b1].reverse) = HO.lst [.int b1, .int a1] from rfl]
          generalize upd H9 pr (.lst [.int b1, .int a1]) = Hn at hu sn hE
          refine lc_list (K := K) (a := pr) (xs := [.int b1, .int a1]) (fun i H' => Same Hn H' ∧ H' E = some (.lst (([b1, a1].take i).map fun z => V.str (wS z)))) ⟨Same.new (fun _ _ h => h) hE, upd_same⟩ (fun i H' _ q => SqL.of (q.1 _ _ hu)) ?_ ?_
          · rintro i x H' hx ⟨s1, hE1⟩
            obtain ⟨z, hz, rfl⟩ : ∃ z : Int, [b1, a1][i]? = some z ∧ x = V.int z := by
              have this : ([b1, a1].map V.int)[i]? = some x := hx
              rw [List.getElem?_map] at this
              obtain ⟨z, h1, h2⟩ := Option.map_eq_some_iff.mp this
              exact ⟨z, h1, h2.symm⟩
            have i2 : i < 2 := (List.getElem?_eq_some_iff.mp hz).1
            have zs : z.natAbs < 1000 := by
              rcases List.mem_cons.mp (List.mem_of_getElem? hz) with rfl | h
              · assumption
              · rw [List.mem_singleton.mp h]
                assumption
            refine ⟨rfl, tYes_of (iteT ⟨_, rfl, _, rfl, lg2 (by omega), _, hE1, ?_, ?_, ?_⟩)⟩
            · rw [List.length_map, List.length_take]
              exact small1000 (by show min i 2 ≤ 1000; omega)
            · intro c o hc
              rw [upd_ne (ne_of_none hc hE)]
              exact s1 _ _ hc
            · rw [upd_same, List.take_succ, hz]
              simp [wS]
          · rintro H' ⟨s1, hE1⟩
            have hE1 : H' E = some (.lst [.str (wS b1), .str (wS a1)]) := hE1
            have hf1 := s1 _ _ (sn _ _ (kp9 _ _ nfp lw8))
            have ssn : Same H9 H' := sn.trans s1
            refine ⟨f, E, ws.map V.str, _, rfl, rfl, hf1, hE1, ?_, _, M8, ws ++ [wS b1, wS a1], rfl, ?_, lM8, by omega, ((bg9.keep ssn).oth nfp.symm nfc.symm).le (by omega), rows_off (rows_same' (rows_kp rd8 bg8 nDp nDc kp9) ssn) nfD hf1 lw.2.1, tw8, by rw [upd_same, List.map_append]; rfl, by simp, by rw [List.length_append]; have := lw.2.2.1; show ws.length + 2 ≤ _; omega, fun x hx => ?_⟩
            · have := lw.2.2.1
              have h1000 : (1000 : Nat) ≤ sizeLine := by decide
              rw [List.length_map]
              show ws.length + 2 ≤ _
              omega
            · intro b o nb h
              rw [upd_ne (fun z => by rw [z, nfH] at h; cases h)]
              exact ssn _ _ ((kp8.trans kp9) b o nb h)
            · rcases List.mem_append.mp hx with h | h
              · exact lw.2.2.2 x h
              · rcases List.mem_cons.mp h with rfl | h
                · exact int_word (by omega)
                · rw [List.mem_singleton.mp h]
                  exact int_word (by omega)
/-! ### the law's tables -/
def RowsB (H0 H : Hp) (R : Addr) (n B : Nat) : Prop := ∃ xs, H R = some (.lst xs) ∧ xs.length = n ∧ ∀ x ∈ xs, ∃ (t : Addr) (r : List Int), x = .ref t ∧ H0 t = none ∧ t ≠ R ∧ H t = some (.lst (r.map V.int)) ∧ r.length = n ∧ ∀ z ∈ r, z.natAbs ≤ B
theorem RowsB.le {H0 H : Hp} {R : Addr} {n B C : Nat} (h : RowsB H0 H R n B) (hb : B ≤ C) : RowsB H0 H R n C := by
  obtain ⟨xs, h1, h2, h3⟩ := h
  refine ⟨xs, h1, h2, fun x hx => ?_⟩
  obtain ⟨t, r, e, e0, e1, e2, e3, e4⟩ := h3 x hx
  exact ⟨t, r, e, e0, e1, e2, e3, fun z hz => Nat.le_trans (e4 z hz) hb⟩
theorem RowsB.kp {H0 H H' : Hp} {R p : Addr} {n B : Nat} (h : RowsB H0 H R n B) (h0 : H0 p ≠ none) (hR : H0 R = none) (k : Kp p H H') : RowsB H0 H' R n B := by
  obtain ⟨xs, h1, h2, h3⟩ := h
  refine ⟨xs, k _ _ (fun e => h0 (e ▸ hR)) h1, h2, fun x hx => ?_⟩
  obtain ⟨t, r, e, e0, e1, e2, e3, e4⟩ := h3 x hx
  exact ⟨t, r, e, e0, e1, k _ _ (fun z => h0 (z ▸ e0)) e2, e3, e4⟩
theorem RowsB.same {H0 H H' : Hp} {R : Addr} {n B : Nat} (h : RowsB H0 H R n B) (k : Same H H') : RowsB H0 H' R n B := by
  obtain ⟨xs, h1, h2, h3⟩ := h
  refine ⟨xs, k _ _ h1, h2, fun x hx => ?_⟩
  obtain ⟨t, r, e, e0, e1, e2, e3, e4⟩ := h3 x hx
  exact ⟨t, r, e, e0, e1, k _ _ e2, e3, e4⟩
/-- an item of a row set anew -/
theorem RowsB.set {H0 H : Hp} {R t : Addr} {n B C : Nat} {r : List Int} {j : Nat} {v : Int} (h : RowsB H0 H R n B) (hR : t ≠ R) (hr : r.length = n) (hb : ∀ z ∈ r, z.natAbs ≤ B) (hv : v.natAbs ≤ C) (hc : B ≤ C) : RowsB H0 (upd H t (.lst ((r.set j v).map V.int))) R n C := by
  obtain ⟨xs, h1, h2, h3⟩ := h
  refine ⟨xs, by rw [upd_ne (Ne.symm hR)]; exact h1, h2, fun x hx => ?_⟩
  obtain ⟨u, q, e, e0, e1, e2, e3, e4⟩ := h3 x hx
  by_cases eq : u = t
  · subst eq
    refine ⟨u, r.set j v, e, e0, e1, upd_same, by rw [List.length_set]; exact hr, fun z hz => ?_⟩
    rcases List.mem_or_eq_of_mem_set hz with h | rfl
    · exact Nat.le_trans (hb z h) hc
    · exact hv
  · exact ⟨u, q, e, e0, e1, by rw [upd_ne eq]; exact e2, e3, fun z hz => Nat.le_trans (e4 z hz) hc⟩
theorem RowsB.row {H0 H : Hp} {R : Addr} {n B i : Nat} (h : RowsB H0 H R n B) (hi : i < n) : ∃ (xs : List V) (t : Addr) (r : List Int), H R = some (.lst xs) ∧ atI xs (i : Int) = some (.ref t) ∧ H0 t = none ∧ t ≠ R ∧ H t = some (.lst (r.map V.int)) ∧ r.length = n ∧ ∀ z ∈ r, z.natAbs ≤ B := by
  obtain ⟨xs, h1, h2, h3⟩ := h
  have hx : xs[i]? = some xs[i] := List.getElem?_eq_getElem (by omega)
  obtain ⟨t, r, e, e0, e1, e2, e3, e4⟩ := h3 _ (List.getElem_mem (show i < xs.length by omega))
  exact ⟨xs, t, r, h1, by rw [← e]; exact atI_nat hx, e0, e1, e2, e3, e4⟩
theorem mem_sizes {v : V} (h : v ∈ [V.int 2, .int 3, .int 1, .int 4, .int 5]) : ∃ n : Nat, v = .int (n : Int) ∧ 1 ≤ n ∧ n ≤ 5 := by
  simp only [List.mem_cons, List.not_mem_nil, or_false] at h
  rcases h with rfl | rfl | rfl | rfl | rfl
  · exact ⟨2, rfl, by omega, by omega⟩
  · exact ⟨3, rfl, by omega, by omega⟩
  · exact ⟨1, rfl, by omega, by omega⟩
  · exact ⟨4, rfl, by omega, by omega⟩
  · exact ⟨5, rfl, by omega, by omega⟩
theorem rep0 (n : Nat) : (List.replicate n [V.int 0]).flatten = (List.replicate n (0 : Int)).map V.int := by
  induction n with
  | zero => rfl
  | succ k ih =>
    rw [List.replicate_succ, List.flatten_cons, ih, List.replicate_succ]
    rfl
theorem RowsB.mark {H0 H : Hp} {R F : Addr} {n B : Nat} {o : HO} (h : RowsB H0 H R n B) (hF : H F = none) : RowsB (upd H0 F o) H R n B := by
  obtain ⟨xs, h1, h2, h3⟩ := h
  refine ⟨xs, h1, h2, fun x hx => ?_⟩
  obtain ⟨t, r, e, e0, e1, e2, e3, e4⟩ := h3 x hx
  exact ⟨t, r, e, by rw [upd_ne (ne_of_none e2 hF)]; exact e0, e1, e2, e3, e4⟩
theorem RowsB.unmark {H0 H : Hp} {R F : Addr} {n B : Nat} {o : HO} (h : RowsB (upd H0 F o) H R n B) : RowsB H0 H R n B := by
  obtain ⟨xs, h1, h2, h3⟩ := h
  refine ⟨xs, h1, h2, fun x hx => ?_⟩
  obtain ⟨t, r, e, e0, e1, e2, e3, e4⟩ := h3 x hx
  have n : t ≠ F := fun z => by rw [z, upd_same] at e0; cases e0
  rw [upd_ne n] at e0
  exact ⟨t, r, e, e0, e1, e2, e3, e4⟩
theorem upd_none {H : Hp} {F t : Addr} {o : HO} (h : upd H F o t = none) : t ≠ F ∧ H t = none := by
  have n : t ≠ F := fun z => by rw [z, upd_same] at h; cases h
  rw [upd_ne n] at h
  exact ⟨n, h⟩
theorem ixN_at {n j : Nat} (hj : j < n) : ixN n (j : Int) = some j := by
  unfold ixN
  rw [if_pos (by omega), if_pos (by omega)]
  simp
theorem RowsB.off {H0 H : Hp} {R f : Addr} {n B : Nat} {o o' : HO} (h : RowsB (upd H0 f o) H R n B) (nR : R ≠ f) : RowsB (upd H0 f o) (upd H f o') R n B := by
  obtain ⟨xs, h1, h2, h3⟩ := h
  refine ⟨xs, by rw [upd_ne nR]; exact h1, h2, fun x hx => ?_⟩
  obtain ⟨t, r, e, e0, e1, e2, e3, e4⟩ := h3 x hx
  exact ⟨t, r, e, e0, e1, by rw [upd_ne (upd_none e0).1]; exact e2, e3, e4⟩
theorem mul3 {a b d : Int} (ha : a.natAbs ≤ 3 * 10 ^ 18) (hb : b.natAbs ≤ 2) (hd : d.natAbs ≤ 2) : (a * b * d).natAbs ≤ 2 * 10 ^ 19 := by
  rw [Int.natAbs_mul, Int.natAbs_mul]
  have h1 := Nat.mul_le_mul (Nat.mul_le_mul ha hb) hd
  omega
def sp_ltab : Sp := fun vs H Q _ => ∃ (p c : Addr) (m : Nat), vs = [.ref p] ∧ Bg H p c m ∧ m ≤ 90000 ∧
  ∀ (a : Addr) (ws : List Str) (H' : Hp), Kp p H H' → Bg H' p c (m + 100) → LW H' a ws 27 → a ≠ p → Q (.ref a) H'
theorem G__law_table (T : Txt P K mg A) : FnG P w K mg base CX0 3 A.a__law_table A.d__law_table P__law_table sp_ltab := by
  refine okG T.F__law_table sc__law_table (fun vs H Q E h => ?_) (fun cdv A0 outer s H vs Q E hr h => ?_)
  · obtain ⟨p, c, m, rfl, _⟩ := h
    rfl
  obtain ⟨p, c, m, rfl, bg, hm, k⟩ := h
  refine ⟨_, (pss_cons (ps_set (i := 1) sc__law_table.nd rfl (Or.inr rfl) (pe_callG (G__law_one_of T) (hr.mono (by decide)) rfl T.g__law_one_of T.F__law_one_of.kp T.b__law_one_of .nil pass0 (pa_cons (pv 0) (pa_cons (pe_lst (pa_cons pe_int (pa_cons pe_int (pa_cons pe_int (pa_cons pe_int (pa_cons pe_int pa_nil)))))) pa_nil))))
      (pss_cons (ps_par (i := 2) (j := 3) (by rfl) sc__law_table.nd rfl rfl (by decide) rfl rfl (pa_cons (pe_lc (own := [("row", 10)]) (g := gName 10) (tt := tYes) rfl sc__law_table.nd (pi_range1 (by rfl) T.n_range (pa_cons (pv 1) pa_nil)) (blkOk_by (N := N__law_table) (sc := defScope s__law_table) (by decide +kernel)) (fun _ _ _ _ _ => (pg_name (i := 10) sc__law_table.nd rfl (Or.inl rfl))) (fun _ _ _ _ _ => pts_nil) (fun _ _ _ _ _ => (pe_op op_rep (pe_lst (pa_cons pe_int pa_nil)) (pv 1)))) (pa_cons (pe_callG (G__law_one_of T) (hr.mono (by decide)) rfl T.g__law_one_of T.F__law_one_of.kp T.b__law_one_of .nil pass0 (pa_cons (pv 0) (pa_cons (pe_lst (pa_cons pe_int (pa_cons pe_int (pa_cons (pe_op op_pow pe_int pe_int) pa_nil)))) pa_nil))) pa_nil)) (by rfl))
      (pss_cons (ps_for PassesOwn.never rfl (pi_range1 (by rfl) T.n_range (pa_cons (pe_op op_add (pv 1) (pe_callG (G__law_serve T) (hr.mono (by decide)) rfl T.g__law_serve T.F__law_serve.kp T.b__law_serve .nil pass0 (pa_cons (pv 0) (pa_cons pe_int pa_nil)))) pa_nil)) (pg_name (i := 4) sc__law_table.nd rfl (Or.inl rfl)) (pss_cons (ps_par (i := 5) (j := 6) (by rfl) sc__law_table.nd rfl rfl (by decide) rfl rfl (pa_cons (pe_lc (own := [("at", 11)]) (g := gName 11) (tt := tYes) rfl sc__law_table.nd (pi_range1 (by rfl) T.n_range (pa_cons (pv 1) pa_nil)) (blkOk_by (N := N__law_table) (sc := defScope s__law_table) (by decide +kernel)) (fun _ _ _ _ _ => (pg_name (i := 11) sc__law_table.nd rfl (Or.inl rfl))) (fun _ _ _ _ _ => pts_nil) (fun _ _ _ _ _ => (pe_op op_sub (pe_callG (G__law_serve T) (hr.mono (by decide)) rfl T.g__law_serve T.F__law_serve.kp T.b__law_serve .nil pass0 (pa_cons (pv 0) (pa_cons pe_int pa_nil))) pe_int))) (pa_cons (pe_op op_mul (pv 3) (pe_op op_add pe_int (pe_callG (G__law_serve T) (hr.mono (by decide)) rfl T.g__law_serve T.F__law_serve.kp T.b__law_serve .nil pass0 (pa_cons (pv 0) (pa_cons pe_int pa_nil))))) pa_nil)) (by rfl))
      (pss_one (ps_for PassesOwn.never rfl (pi_range1 (by rfl) T.n_range (pa_cons (pv 1) pa_nil)) (pg_name (i := 7) sc__law_table.nd rfl (Or.inl rfl)) (pss_one (ps_for PassesOwn.never rfl (pi_range1 (by rfl) T.n_range (pa_cons (pv 1) pa_nil)) (pg_name (i := 8) sc__law_table.nd rfl (Or.inl rfl)) (pss_one (ps_asg (pe_op op_add (pe_ix (r := rIxL K) ix_list (pe_ix (r := rIxL K) ix_list (pv 2) (pv 7) (fun _ _ => rfl)) (pv 8) (fun _ _ => rfl)) (pe_op op_mul (pe_op op_mul (pv 6) (pe_ix (r := rIxL K) ix_list (pv 5) (pv 7) (fun _ _ => rfl))) (pe_ix (r := rIxL K) ix_list (pv 5) (pv 8) (fun _ _ => rfl)))) (pg_sub (pe_ix (r := rIxL K) ix_list (pv 2) (pv 7) (fun _ _ => rfl)) (pv 8) set_list)))))))))
      (pss_cons (ps_for PassesOwn.never rfl (pi_range1 (by rfl) T.n_range (pa_cons (pv 1) pa_nil)) (pg_name (i := 7) sc__law_table.nd rfl (Or.inl rfl)) (pss_one (ps_asg (pe_op op_add (pe_op op_add (pe_ix (r := rIxL K) ix_list (pe_ix (r := rIxL K) ix_list (pv 2) (pv 7) (fun _ _ => rfl)) (pv 7) (fun _ _ => rfl)) pe_int) (pe_callG (G__law_serve T) (hr.mono (by decide)) rfl T.g__law_serve T.F__law_serve.kp T.b__law_serve .nil pass0 (pa_cons (pv 0) (pa_cons pe_int pa_nil)))) (pg_sub (pe_ix (r := rIxL K) ix_list (pv 2) (pv 7) (fun _ _ => rfl)) (pv 7) set_list))))
      (pss_cons (ps_set (i := 9) sc__law_table.nd rfl (Or.inl rfl) (pe_lst (pa_cons (pe_callTy (T := "str") call_str_int (by rfl) T.n_str (by decide +kernel) (pa_cons (pv 1) pa_nil)) (pa_cons pe_str pa_nil))))
      (pss_cons (ps_for PassesOwn.never rfl (pi_list (pv 2)) (pg_name (i := 10) sc__law_table.nd rfl (Or.inl rfl)) (pss_one (ps_expr (pe_bm PySem.F.plainAttrs_list PySem.F.slot_list_extend PySem.F.type_list_extend mt_extend (pv 9) (pa_cons (pe_lc (own := [("number", 12)]) (g := gName 12) (tt := tYes) rfl sc__law_table.nd (pi_list (pv 10)) (blkOk_by (N := N__law_table) (sc := defScope s__law_table) (by decide +kernel)) (fun _ _ _ _ _ => (pg_name (i := 12) sc__law_table.nd rfl (Or.inl rfl))) (fun _ _ _ _ _ => pts_nil) (fun _ _ _ _ _ => (pe_callTy (T := "str") call_str_int (by rfl) T.n_str (by decide +kernel) (pa_cons (pv 12) pa_nil)))) pa_nil)))))
      (pss_one (ps_ret (pv 9))))))))), ?_⟩
  have pH : H p ≠ none := by obtain ⟨o, h⟩ := bg.has.1; rw [h]; simp
  have cH : H c ≠ none := by obtain ⟨o, h⟩ := bg.has.2; rw [h]; simp
  refine ⟨_, rfl, by show 5 ≤ sizeLine; decide, fun q hq => ?_⟩
  obtain ⟨nqp, nqc⟩ := bg_not bg hq
  refine ⟨p, c, q, m, _, rfl, bg.new hq, by omega, upd_same, nqp, by show 1 ≤ 5; decide, by show 5 ≤ 1000; decide, fun v H2 hv kp2 bg2 => ?_⟩
  obtain ⟨n, rfl, n1, n5⟩ := mem_sizes hv
  have k2 : Kp p H H2 := ((Kp.refl p H).new hq).trans kp2
  refine ⟨_, rfl, _, rfl, by omega, by omega, fun D hD => ?_⟩
  have nDH : H D = none := kp_free k2 bg2.has.1.choose_spec hD
  obtain ⟨nDp, nDc⟩ := bg_not bg2 hD
  have offD : ∀ {H' : Hp} {o : HO}, Kp p H H' → Kp p H (upd H' D o) := fun kp b o' nb hb => by
    rw [upd_ne (ne_of_none hb nDH)]
    exact kp b o' nb hb
  refine lc_range (lo := 0) (n := n) (fun i H' => Kp p H H' ∧ Bg H' p c (m + 1) ∧ ∃ xs, H' D = some (.lst xs) ∧ xs.length = i ∧ ∀ x ∈ xs, ∃ (t : Addr) (r : List Int), x = .ref t ∧ H t = none ∧ t ≠ D ∧ H' t = some (.lst (r.map V.int)) ∧ r.length = n ∧ ∀ z ∈ r, z.natAbs ≤ 0) ⟨k2.new hD, bg2.new hD, [], upd_same, rfl, fun x hx => by cases hx⟩ ?_ ?_
  · rintro i H3 hi ⟨kp3, bg3, xs, hxs, lx, px⟩
    refine ⟨rfl, tYes_of (iteT ⟨by show 1 ≤ sizeLine; decide, fun p1 hp1 => ⟨_, rfl, p1, _, _, rfl, rfl, upd_same, by omega, by omega, ?_, fun p2 hp2 => ?_⟩⟩)⟩
    · have : (1000 : Nat) ≤ sizeLine := by decide
      show 1 * _ ≤ _
      omega
    have sA : Same H3 (upd (upd H3 p1 (.lst [.int 0])) p2 (.lst (List.replicate (n : Int).toNat [V.int 0]).flatten)) := Same.new (Same.new (fun _ _ h => h) hp1) hp2
    have g2 : (upd (upd H3 p1 (.lst [.int 0])) p2 (.lst (List.replicate (n : Int).toNat [V.int 0]).flatten)) p2 = some (.lst ((List.replicate n (0 : Int)).map V.int)) := by
      rw [upd_same, ← rep0]
      rfl
    have p2H : H p2 = none := kp_free (kp3.new hp1) (bg3.new hp1).has.1.choose_spec hp2
    have p2D : p2 ≠ D := fun e => by
      have := Same.new (o := .lst [.int 0]) (fun _ _ h => h) hp1 _ _ hxs
      rw [← e, hp2] at this
      cases this
    have bg4 := (bg3.new (o := .lst [.int 0]) hp1).new (o := .lst (List.replicate (n : Int).toNat [V.int 0]).flatten) hp2
    generalize upd (upd H3 p1 (.lst [.int 0])) p2 (.lst (List.replicate (n : Int).toNat [V.int 0]).flatten) = H4 at sA g2 bg4
    have kp4 : Kp p H H4 := fun b o nb hb => sA _ _ (kp3 b o nb hb)
    refine ⟨xs, sA _ _ hxs, small1000 (by omega), offD kp4, bg4.oth nDp.symm nDc.symm, _, upd_same, by rw [List.length_append, lx]; rfl, fun x hx => ?_⟩
    rcases List.mem_append.mp hx with hx | hx
    · obtain ⟨t, r, e, e0, e1, e2, e3, e4⟩ := px x hx
      exact ⟨t, r, e, e0, e1, by rw [upd_ne e1]; exact sA _ _ e2, e3, e4⟩
    · rw [List.mem_singleton.mp hx]
      exact ⟨p2, _, rfl, p2H, p2D, by rw [upd_ne p2D]; exact g2, List.length_replicate, fun z hz => by rw [List.eq_of_mem_replicate hz]; exact Nat.le_refl _⟩
  · rintro H3 ⟨kp3, bg3, rb⟩
    have rb : RowsB H H3 D n 0 := rb
    have big : (1000 : Nat) < 10 ^ 60 := by decide
    refine ⟨_, rfl, _, _, rfl, rfl, ⟨by decide, by decide, by decide⟩, by show 3 ≤ sizeLine; decide, fun q hq => ?_⟩
    obtain ⟨nqp, nqc⟩ := bg_not bg3 hq
    refine ⟨p, c, q, _, _, rfl, bg3.new hq, by omega, upd_same, nqp, by show 1 ≤ 3; decide, by show 3 ≤ 1000; decide, fun v H4 hv kp4 bg4 => ?_⟩
    obtain ⟨b, rfl, b0, b18⟩ : ∃ b : Int, v = .int b ∧ 0 ≤ b ∧ b ≤ 10 ^ 18 := by
      simp only [List.mem_cons, List.not_mem_nil, or_false] at hv
      rcases hv with rfl | rfl | rfl
      · exact ⟨1, rfl, by decide, by decide⟩
      · exact ⟨1, rfl, by decide, by decide⟩
      · exact ⟨_, rfl, by decide, by decide⟩
    have rb4 := (rb.same (Same.new (o := .lst [.int 1, .int 1, .int (10 ^ (18 : Int).toNat)]) (fun _ _ h => h) hq)).kp pH nDH kp4
    have kpH4 : Kp p H H4 := (kp3.new hq).trans kp4
    refine ⟨_, _, rfl, ?_⟩
    refine ⟨_, rfl, _, rfl, p, c, _, 3, rfl, bg4, by omega, by decide, by decide, fun x H5 x0 x1 kp5 bg5 => ?_⟩
    refine ⟨_, _, rfl, rfl, _, rfl, by omega, by omega, ?_⟩
    refine for_range (lo := 0) (n := (((n : Int) + x).toNat)) (fun i σ' H' => ∃ u4 u5 u6 u7 u8 : Option V, σ' = [some (.ref p), some (.int (n : Int)), some (.ref D), some (.int b), u4, u5, u6, u7, u8, none, none, none, none] ∧ Kp p H H' ∧ Bg H' p c (m + 3 + 6 * i) ∧ RowsB H H' D n (i * 25 * (2 * 10 ^ 19))) ⟨none, none, none, none, none, rfl, kpH4.trans kp5, bg5, (rb4.kp pH nDH kp5).le (by omega)⟩ ?_ ?_
    · clear rb rb4 kp5 bg5 kp4 bg4 kpH4 kp3 bg3
      rintro i σ' H6 hi ⟨u4, u5, u6, u7, u8, rfl, kp6, bg6, rb6⟩
      have i7 : i < 7 := by omega
      refine ⟨_, rfl, _, rfl, by omega, by omega, fun F hF => ?_⟩
      have nFH : H F = none := kp_free kp6 bg6.has.1.choose_spec hF
      obtain ⟨nFp, nFc⟩ := bg_not bg6 hF
      have offF : ∀ {H' : Hp} {o : HO}, Kp p H H' → Kp p H (upd H' F o) := fun kp b o' nb hb => by
        rw [upd_ne (ne_of_none hb nFH)]
        exact kp b o' nb hb
      have nFD : D ≠ F := fun e => by
        obtain ⟨xs, h1, _⟩ := rb6
        rw [e, hF] at h1
        cases h1
      have rb7 : RowsB (upd H F (.lst [])) (upd H6 F (.lst [])) D n (i * 25 * (2 * 10 ^ 19)) := (rb6.mark hF).off nFD
      have uD : upd H F (.lst []) D = none := by rw [upd_ne nFD]; exact nDH
      have pU : upd H F (.lst []) p ≠ none := by rw [upd_ne nFp.symm]; exact pH
      refine lc_range (lo := 0) (n := n) (fun j H' => Kp p H H' ∧ Bg H' p c (m + 3 + 6 * i + j) ∧ RowsB (upd H F (.lst [])) H' D n (i * 25 * (2 * 10 ^ 19)) ∧ ∃ ds : List Int, H' F = some (.lst (ds.map V.int)) ∧ ds.length = j ∧ ∀ z ∈ ds, z.natAbs ≤ 2) ⟨kp6.new hF, bg6.new hF, rb7, [], upd_same, rfl, fun z hz => by cases hz⟩ ?_ ?_
      · rintro j H7 hj ⟨kp7, bg7, rb7, ds, hds, ld, bd⟩
        refine ⟨rfl, tYes_of (iteT ⟨_, rfl, p, c, _, 5, rfl, bg7, by omega, by decide, by decide, fun y H8 y0 y1 kp8 bg8 => ⟨_, _, rfl, rfl, _, kp8 _ _ nFp hds, ?_, offF (kp7.trans kp8), ?_, (rb7.kp pU uD kp8).off nFD, ds ++ [y - 2], ?_, by rw [List.length_append, ld]; rfl, fun z hz => ?_⟩⟩)⟩
        · rw [List.length_map]
          exact small1000 (by omega)
        · exact (bg8.oth nFp.symm nFc.symm).le (by omega)
        · rw [upd_same, List.map_append]
          rfl
        · rcases List.mem_append.mp hz with hz | hz
          · exact bd z hz
          · rw [List.mem_singleton.mp hz]
            omega
      · rintro H7 ⟨kp7, bg7, rb7, ds, hds, ld, bd⟩
        refine ⟨_, rfl, _, rfl, p, c, _, 3, rfl, bg7, by omega, by decide, by decide, fun y H8 y0 y1 kp8 bg8 => ⟨_, _, rfl, rfl, _, _, rfl, rfl, .inr ⟨by omega, by omega⟩, _, _, rfl, ?_⟩⟩
        have ht : (b * (1 + y)).natAbs ≤ 3 * 10 ^ 18 := by
          rw [Int.natAbs_mul]
          exact Nat.le_trans (Nat.mul_le_mul (show b.natAbs ≤ 10 ^ 18 by omega) (show (1 + y).natAbs ≤ 3 by omega)) (by decide)
        dsimp only
        generalize b * (1 + y) = tm at ht
        have hds8 := kp8 _ _ nFp hds
        have rb8 := rb7.kp pU uD kp8
        have kp88 := kp7.trans kp8
        refine ⟨_, rfl, _, rfl, by omega, by omega, ?_⟩
        refine for_range (lo := 0) (n := n) (fun j σ' H' => ∃ u7 u8 : Option V, σ' = [some (.ref p), some (.int (n : Int)), some (.ref D), some (.int b), some (.int ((0 : Int) + (i : Int))), some (.ref F), some (.int tm), u7, u8, none, none, none, none] ∧ Kp p H H' ∧ Bg H' p c (m + 3 + 6 * (i + 1)) ∧ RowsB (upd H F (.lst [])) H' D n (i * 25 * (2 * 10 ^ 19) + j * 5 * (2 * 10 ^ 19)) ∧ H' F = some (.lst (ds.map V.int))) ⟨u7, u8, rfl, kp88, bg8.le (by omega), rb8.le (by omega), hds8⟩ ?_ ?_
        · clear rb8 rb7 hds hds8 bg7 bg8 kp7 kp8 kp88
          rintro j σ' H9 hj ⟨u7, u8, rfl, kp9, bg9, rb9, hds9⟩
          rw [show (0 : Int) + (j : Int) = (j : Int) by omega]
          refine ⟨_, rfl, _, rfl, by omega, by omega, ?_⟩
          refine for_range (lo := 0) (n := n) (fun l σ' H' => ∃ u8 : Option V, σ' = [some (.ref p), some (.int (n : Int)), some (.ref D), some (.int b), some (.int ((0 : Int) + (i : Int))), some (.ref F), some (.int tm), some (.int (j : Int)), u8, none, none, none, none] ∧ Kp p H H' ∧ Bg H' p c (m + 3 + 6 * (i + 1)) ∧ RowsB (upd H F (.lst [])) H' D n (i * 25 * (2 * 10 ^ 19) + j * 5 * (2 * 10 ^ 19) + l * (2 * 10 ^ 19)) ∧ H' F = some (.lst (ds.map V.int))) ⟨u8, rfl, kp9, bg9, rb9.le (by omega), hds9⟩ ?_ ?_
          · clear rb9 hds9 bg9 kp9
            rintro l σ' H10 hl ⟨u8, rfl, kp10, bg10, rb10, hds10⟩
            rw [show (0 : Int) + (l : Int) = (l : Int) by omega]
            obtain ⟨xs, t, r, hD10, at1, t0, tD, ht10, lr, br⟩ := rb10.row hj
            obtain ⟨tF, tH⟩ := upd_none t0
            have zl : r[l]? = some (r[l]'(by omega)) := List.getElem?_eq_getElem (by omega)
            have bl := br _ (List.getElem_mem (show l < r.length by omega))
            have d1 : ds[j]? = some (ds[j]'(by omega)) := List.getElem?_eq_getElem (by omega)
            have b1 := bd _ (List.getElem_mem (show j < ds.length by omega))
            have d2 : ds[l]? = some (ds[l]'(by omega)) := List.getElem?_eq_getElem (by omega)
            have b2 := bd _ (List.getElem_mem (show l < ds.length by omega))
            generalize r[l]'(by omega) = rv at *
            generalize ds[j]'(by omega) = dj at *
            generalize ds[l]'(by omega) = dl at *
            have ai : ∀ {L : List Int} {i : Nat} {z : Int}, L[i]? = some z → atI (L.map V.int) (i : Int) = some (.int z) := fun h => atI_nat (by rw [List.getElem?_map, h]; rfl)
            refine ⟨_, rfl, _, rfl, _, _, _, _, rfl, rfl, SqL.of hD10, at1, _, rfl, _, _, _, _, rfl, rfl, SqL.of ht10, ai zl, ?_⟩
            refine ⟨_, rfl, _, rfl, _, rfl, _, _, _, _, rfl, rfl, SqL.of hds10, ai d1, _, _, rfl, rfl, .inr ⟨by omega, by omega⟩, _, rfl, _, rfl, _, _, _, _, rfl, rfl, SqL.of hds10, ai d2, _, _, rfl, rfl, .inr ⟨by omega, by omega⟩, _, _, rfl, rfl, ?_⟩
            have m3 := mul3 ht b1 b2
            generalize tm * dj * dl = pr at m3
            refine ⟨_, rfl, _, rfl, _, _, _, _, rfl, rfl, SqL.of hD10, at1, _, rfl, t, _, _, l, rfl, rfl, ht10, ixN_at (by rw [List.length_map]; omega), ?_⟩
            have es : (r.map V.int).set l (V.int (rv + pr)) = (r.set l (rv + pr)).map V.int := by rw [List.map_set]
            dsimp only
            rw [es]
            refine ⟨_, rfl, ?_, ?_, rb10.set tD lr br (by omega) (by omega), by rw [upd_ne (Ne.symm tF)]; exact hds10⟩
            · intro a o na ha
              rw [upd_ne (ne_of_none ha tH)]
              exact kp10 a o na ha
            · exact bg10.oth (fun e => pH (e ▸ tH)) (fun e => cH (e ▸ tH))
          · rintro σ' H10 ⟨u8, rfl, kp10, bg10, rb10, hds10⟩
            exact ⟨_, _, rfl, kp10, bg10, rb10.le (by omega), hds10⟩
        · rintro σ' H9 ⟨u7, u8, rfl, kp9, bg9, rb9, hds9⟩
          exact ⟨_, _, _, _, _, rfl, kp9, bg9, rb9.unmark.le (by omega)⟩
    · rintro σ' H6 ⟨u4, u5, u6, u7, u8, rfl, kp6, bg6, rb6⟩
      have rb6 := rb6.le (C := 175 * (2 * 10 ^ 19)) (by omega)
      have bg6 := bg6.le (m := m + 45) (by omega)
      refine ⟨_, rfl, _, rfl, by omega, by omega, ?_⟩
      refine for_range (lo := 0) (n := n) (fun i σ' H' => ∃ u4 u5 u6 u7 u8 : Option V, σ' = [some (.ref p), some (.int (n : Int)), some (.ref D), some (.int b), u4, u5, u6, u7, u8, none, none, none, none] ∧ Kp p H H' ∧ Bg H' p c (m + 45 + i) ∧ RowsB H H' D n (175 * (2 * 10 ^ 19) + 2 * i)) ⟨_, _, _, _, _, rfl, kp6, bg6, rb6⟩ ?_ ?_
      · clear rb6 bg6 kp6 rb rb4 kp5 bg5 kp4 bg4 kpH4 kp3 bg3
        rintro i σ' H6 hi ⟨u4, u5, u6, u7, u8, rfl, kp6, bg6, rb6⟩
        rw [show (0 : Int) + (i : Int) = (i : Int) by omega]
        obtain ⟨xs, t, r, hD6, at1, t0, tD, ht6, lr, br⟩ := rb6.row hi
        have zl : r[i]? = some (r[i]'(by omega)) := List.getElem?_eq_getElem (by omega)
        have bl := br _ (List.getElem_mem (show i < r.length by omega))
        generalize r[i]'(by omega) = rv at *
        have ai : ∀ {L : List Int} {i : Nat} {z : Int}, L[i]? = some z → atI (L.map V.int) (i : Int) = some (.int z) := fun h => atI_nat (by rw [List.getElem?_map, h]; rfl)
        have tp : t ≠ p := fun e => pH (e ▸ t0)
        have tc : t ≠ c := fun e => cH (e ▸ t0)
        refine ⟨_, rfl, _, rfl, _, _, _, _, rfl, rfl, SqL.of hD6, at1, _, rfl, _, _, _, _, rfl, rfl, SqL.of ht6, ai zl, _, _, rfl, rfl, ?_⟩
        refine ⟨_, rfl, p, c, _, 2, rfl, bg6, by omega, by decide, by decide, fun y H7 y0 y1 kp7 bg7 => ⟨_, _, rfl, rfl, ?_⟩⟩
        have hD7 := kp7 _ _ nDp hD6
        have ht7 := kp7 _ _ tp ht6
        refine ⟨_, rfl, _, rfl, _, _, _, _, rfl, rfl, SqL.of hD7, at1, _, rfl, t, _, _, i, rfl, rfl, ht7, ixN_at (by rw [List.length_map]; omega), ?_⟩
        have es : (r.map V.int).set i (V.int (rv + 1 + y)) = (r.set i (rv + 1 + y)).map V.int := by rw [List.map_set]
        dsimp only
        rw [es]
        refine ⟨_, _, _, _, _, rfl, ?_, (bg7.oth tp.symm tc.symm).le (by omega), (rb6.kp pH nDH kp7).set tD lr br (by omega) (by omega)⟩
        intro a o na ha
        rw [upd_ne (ne_of_none ha t0)]
        exact (kp6.trans kp7) a o na ha
      · clear rb6 bg6 kp6 rb rb4 kp5 bg5 kp4 bg4 kpH4 kp3 bg3
        rintro σ' H6 ⟨u4, u5, u6, u7, u8, rfl, kp6, bg6, rb6⟩
        refine ⟨_, rfl, _, rfl, lg2 (by omega), by show 2 ≤ sizeLine; decide, fun f hf => ?_⟩
        obtain ⟨nfp, nfc⟩ := bg_not bg6 hf
        have nfH : H f = none := kp_free kp6 bg6.has.1.choose_spec hf
        have nfD : D ≠ f := fun e => by
          obtain ⟨ys, h1, _⟩ := rb6
          rw [e, hf] at h1
          cases h1
        have lw0 : LW (upd H6 f (.lst [.str (wS (n : Int)), .str ":"])) f [wS (n : Int), ":"] 2 := ⟨upd_same, by simp, Nat.le_refl _, fun x hx => by
          rcases List.mem_cons.mp hx with rfl | hx
          · exact int_word (by omega)
          · rw [List.mem_singleton.mp hx]
            exact colon_word⟩
        have rb7 := (rb6.mark (o := .lst []) hf).off (o' := .lst [.str (wS (n : Int)), .str ":"]) nfD
        have uD : upd H f (.lst []) D = none := by rw [upd_ne nfD]; exact nDH
        have pU : upd H f (.lst []) p ≠ none := by rw [upd_ne nfp.symm]; exact pH
        have kp7 : Kp p H (upd H6 f (.lst [.str (wS (n : Int)), .str ":"])) := kp6.new hf
        have bg7 := bg6.new (o := .lst [.str (wS (n : Int)), .str ":"]) hf
        change Kp p H (upd H6 f (.lst [.str (Str.ofString (toString (n : Int))), .str ":"])) at kp7
        obtain ⟨xs, hxs, lxs, _⟩ := id rb7
        refine ⟨_, rfl, D, rfl, ⟨_, SqL.of hxs⟩, ?_⟩
        refine for_list (K := K) (a := D) (xs := xs) (fun i σ' H' => ∃ (u4 u5 u6 u7 u8 u10 : Option V) (ws : List Str), σ' = [some (.ref p), some (.int (n : Int)), some (.ref D), some (.int b), u4, u5, u6, u7, u8, some (.ref f), u10, none, none] ∧ Kp p H H' ∧ Bg H' p c (m + 45 + n) ∧ RowsB (upd H f (.lst [])) H' D n (175 * (2 * 10 ^ 19) + 2 * n) ∧ H' D = some (.lst xs) ∧ LW H' f ws (2 + n * i)) ⟨_, _, _, _, _, _, _, rfl, kp7, bg7, rb7, hxs, lw0.1, lw0.2.1, Nat.le_trans lw0.2.2.1 (by omega), lw0.2.2.2⟩ (fun i σ' H' _ ⟨_, _, _, _, _, _, _, _, _, _, _, h, _⟩ => SqL.of h) ?_ ?_
        · clear rb7 lw0 kp7 bg7 hxs rb6
          rintro i x σ' H7 hx ⟨u4, u5, u6, u7, u8, u10, ws, rfl, kp7, bg7, rb7, hxs, lw⟩
          obtain ⟨xs', e1, _, px⟩ := id rb7
          rw [hxs] at e1
          cases e1
          have hi := (List.getElem?_eq_some_iff.mp hx).1
          have i5 : i < n := by omega
          obtain ⟨t, r, rfl, t0, tD, ht, lr, br⟩ := px x (List.mem_of_getElem? hx)
          obtain ⟨tf, tH⟩ := upd_none t0
          have lwl := lw.2.2.1
          have nb : n * i ≤ 25 := Nat.mul_le_mul n5 (show i ≤ 5 by omega)
          refine ⟨_, rfl, .inl ⟨rfl, _, SqL.of lw.1⟩, _, rfl, t, rfl, ⟨_, SqL.of ht⟩, fun G hG => ?_⟩
          refine lc_list (K := K) (a := t) (xs := r.map V.int) (fun j H' => Same H7 H' ∧ H' G = some (.lst (((r.take j).map wS).map V.str))) ⟨Same.new (fun _ _ h => h) hG, upd_same⟩ (fun j H' _ q => SqL.of (q.1 _ _ ht)) ?_ ?_
          · rintro j x H' hx ⟨s1, hE1⟩
            rw [List.getElem?_map] at hx
            obtain ⟨z, hz, rfl⟩ := Option.map_eq_some_iff.mp hx
            have zb := br z (List.mem_of_getElem? hz)
            have j5 : j < r.length := (List.getElem?_eq_some_iff.mp hz).1
            refine ⟨rfl, tYes_of (iteT ⟨_, rfl, _, rfl, lg2 (by omega), _, hE1, ?_, ?_, ?_⟩)⟩
            · rw [List.length_map, List.length_map, List.length_take]
              exact small1000 (by omega)
            · intro c o hc
              rw [upd_ne (ne_of_none hc hG)]
              exact s1 _ _ hc
            · rw [upd_same, List.take_succ, hz]
              simp [wS]
          · rintro H' ⟨s1, hE1⟩
            rw [List.length_map, List.take_of_length_le (Nat.le_refl _)] at hE1
            refine ⟨f, G, _, _, rfl, rfl, s1 _ _ lw.1, hE1, ?_, _, _, _, _, _, _, ws ++ r.map wS, rfl, ?_, (bg7.keep s1).oth nfp.symm nfc.symm, (rb7.same s1).off nfD, ?_, ?_, ?_, ?_, ?_⟩
            · have h1000 : (1000 : Nat) ≤ sizeLine := by decide
              rw [List.length_map, List.length_map, List.length_map]
              omega
            · intro a o na ha
              rw [upd_ne (ne_of_none ha nfH)]
              exact s1 _ _ (kp7 a o na ha)
            · rw [upd_ne nfD]
              exact s1 _ _ hxs
            · rw [upd_same, List.map_append]
            · intro q
              exact lw.2.1 (List.append_eq_nil_iff.mp q).1
            · rw [List.length_append, List.length_map, lr, Nat.mul_succ]
              omega
            · intro x hx
              rcases List.mem_append.mp hx with h | h
              · exact lw.2.2.2 x h
              · obtain ⟨z, hz, rfl⟩ := List.mem_map.mp h
                have := br z hz
                exact int_word (by omega)
        · rintro σ' H7 ⟨u4, u5, u6, u7, u8, u10, ws, rfl, kp7, bg7, rb7, hxs', lw⟩
          rw [lxs] at lw
          have nn : n * n ≤ 25 := Nat.mul_le_mul n5 n5
          exact ⟨_, rfl, k f ws _ kp7 (bg7.le (by omega)) ⟨lw.1, lw.2.1, Nat.le_trans lw.2.2.1 (by omega), lw.2.2.2⟩ nfp⟩
/-! ### words bent -/
theorem fold_tl : ∀ (l : List (Array Nat)) (acc : Array Nat), (l.foldl (· ++ ·) acc).toList = acc.toList ++ (l.map (·.toList)).flatten
  | [], acc => by simp
  | a :: l, acc => by
    rw [List.foldl_cons, fold_tl l, Array.toList_append, List.map_cons, List.flatten_cons, List.append_assoc]
theorem many_tl (a : Str) (n : Nat) : TL.tl (FT.manyS a n) = (List.replicate n (TL.tl a)).flatten := by
  unfold TL.tl FT.manyS
  rw [fold_tl, List.map_replicate]
  rfl
theorem nine_tl (n : Nat) : TL.tl (FT.manyS "9" n) = List.replicate n 57 := by
  rw [many_tl, show TL.tl ("9" : Str) = [57] by decide +kernel]
  induction n with
  | zero => rfl
  | succ k ih =>
    rw [List.replicate_succ, List.flatten_cons, ih, List.replicate_succ]
    rfl
theorem len_tl (s : Str) : s.length = (TL.tl s).length := rfl
theorem nine_len (n : Nat) : (FT.manyS "9" n).length = n := by rw [len_tl, nine_tl, List.length_replicate]
theorem nine_good {n : Nat} (h : n ≤ 5000) : GoodW (FT.manyS "9" n) := by
  refine ⟨⟨?_, by rw [nine_len]; exact h⟩, ?_⟩
  · rw [nine_tl]
    intro q
    have := List.eq_of_mem_replicate q
    omega
  · unfold Asc
    rw [nine_tl]
    intro c hc
    rw [List.eq_of_mem_replicate hc]
    decide
theorem minus_good : GoodW (("-" : Str) ++ FT.manyS "9" 60) := by
  have e : TL.tl (("-" : Str) ++ FT.manyS "9" 60) = 45 :: List.replicate 60 57 := by
    have e2 : TL.tl (("-" : Str) ++ FT.manyS "9" 60) = TL.tl "-" ++ TL.tl (FT.manyS "9" 60) := by
      show (("-" : Str).cps ++ (FT.manyS "9" 60).cps).toList = _
      rw [Array.toList_append]
    rw [e2, nine_tl]
    rfl
  refine ⟨⟨?_, ?_⟩, ?_⟩
  · rw [e]
    decide
  · rw [len_tl, e]
    decide
  · unfold Asc
    rw [e]
    decide
section
variable {H : Hp} {a b : Addr} {ws vs : List Str} {i j : Nat} {Q : VK}
theorem catL (ha : H a = some (.lst (ws.map V.str))) (hb : H b = some (.lst (vs.map V.str))) (l : ws.length + vs.length ≤ 1000) (k : ∀ q H', Same H H' → H' q = some (.lst ((ws ++ vs).map V.str)) → Q (.ref q) H') : rCat (.ref a) (.ref b) H Q := by
  refine ⟨a, b, _, _, rfl, rfl, ha, hb, ?_, fun q hq => k q _ (Same.new (fun _ _ h => h) hq) (by rw [upd_same, List.map_append])⟩
  have : (1000 : Nat) ≤ sizeLine := by decide
  rw [List.length_map, List.length_map]
  omega
theorem slT (ha : H a = some (.lst (ws.map V.str))) (h : i ≤ ws.length) (k : ∀ q H', Same H H' → H' q = some (.lst ((ws.take i).map V.str)) → Q (.ref q) H') : rSlL K (.ref a) none (some (i : Int)) H Q := by
  refine ⟨a, _, rfl, SqL.of ha, fun q hq => k q _ (Same.new (fun _ _ h => h) hq) ?_⟩
  rw [upd_same, cutV_take _ _ (by rw [List.length_map]; exact h), List.map_take]
theorem slD (ha : H a = some (.lst (ws.map V.str))) (h : i ≤ ws.length) (k : ∀ q H', Same H H' → H' q = some (.lst ((ws.drop i).map V.str)) → Q (.ref q) H') : rSlL K (.ref a) (some (i : Int)) none H Q := by
  refine ⟨a, _, rfl, SqL.of ha, fun q hq => k q _ (Same.new (fun _ _ h => h) hq) ?_⟩
  rw [upd_same, cutV_drop _ _ (by rw [List.length_map]; exact h), List.map_drop]
theorem slM (ha : H a = some (.lst (ws.map V.str))) (k : ∀ (q : Addr) (H' : Hp) (us : List Str), Same H H' → H' q = some (.lst (us.map V.str)) → us.length ≤ ws.length → (∀ x ∈ us, x ∈ ws) → Q (.ref q) H') : rSlL K (.ref a) (some (i : Int)) (some (j : Int)) H Q := by
  refine ⟨a, _, rfl, SqL.of ha, fun q hq => k q _ ((ws.drop (HT.sIx (ws.map V.str).length 0 (some (i : Int)))).take (HT.sIx (ws.map V.str).length (ws.map V.str).length (some (j : Int)) - HT.sIx (ws.map V.str).length 0 (some (i : Int)))) (Same.new (fun _ _ h => h) hq) ?_ ?_ ?_⟩
  · rw [upd_same]
    unfold cutV
    rw [List.map_take, List.map_drop]
  · rw [List.length_take, List.length_drop]
    omega
  · exact fun x hx => List.mem_of_mem_drop (List.mem_of_mem_take hx)
theorem slE (ha : H a = some (.lst (ws.map V.str))) (k : ∀ (q : Addr) (H' : Hp) (us : List Str), Same H H' → H' q = some (.lst (us.map V.str)) → us.length ≤ ws.length → (∀ x ∈ us, x ∈ ws) → Q (.ref q) H') : rSlL K (.ref a) (some (i : Int)) none H Q := by
  refine ⟨a, _, rfl, SqL.of ha, fun q hq => k q _ ((ws.drop (HT.sIx (ws.map V.str).length 0 (some (i : Int)))).take (HT.sIx (ws.map V.str).length (ws.map V.str).length none - HT.sIx (ws.map V.str).length 0 (some (i : Int)))) (Same.new (fun _ _ h => h) hq) ?_ ?_ ?_⟩
  · rw [upd_same]
    unfold cutV
    rw [List.map_take, List.map_drop]
  · rw [List.length_take, List.length_drop]
    omega
  · exact fun x hx => List.mem_of_mem_drop (List.mem_of_mem_take hx)
end
def ODD : List Str := ["", "5", "0", "1", "13", "14", "00", "01", "-1", "-0", "+1", "1.0", ":", "::", "a", "1\n", "\t1", "10", "1_0", "1,", "(1)"]
def goodB (x : Str) : Bool := decide (32 ∉ TL.tl x) && (decide (x.length ≤ 5000) && (TL.tl x).all fun c => decide (c < 128))
theorem good_of {x : Str} (h : goodB x = true) : GoodW x := by
  unfold goodB at h
  simp only [Bool.and_eq_true, decide_eq_true_eq, List.all_eq_true] at h
  exact ⟨⟨h.1, h.2.1⟩, h.2.2⟩
theorem odd_good : ∀ x ∈ ODD, GoodW x := fun x hx => good_of (List.all_eq_true.mp (show ODD.all goodB = true by decide +kernel) x hx)
theorem two_good : ∀ x ∈ (["--1", "2", "3", "-2", "None"] : List Str), GoodW x := fun x hx => good_of (List.all_eq_true.mp (show (["--1", "2", "3", "-2", "None"] : List Str).all goodB = true by decide +kernel) x hx)
def TEN (old : Str) : List Str := [FT.manyS "9" 61, FT.manyS "9" 60, ("-" : Str) ++ FT.manyS "9" 60, FT.manyS "9" 4000, "--1", "2", "3", "-2", "None", old]
theorem ten_good {old : Str} (ga : GoodW old) : ∀ x ∈ TEN old, GoodW x := fun x hx => by
  unfold TEN at hx
  rcases List.mem_cons.mp hx with rfl | hx
  · exact nine_good (by decide)
  rcases List.mem_cons.mp hx with rfl | hx
  · exact nine_good (by decide)
  rcases List.mem_cons.mp hx with rfl | hx
  · exact minus_good
  rcases List.mem_cons.mp hx with rfl | hx
  · exact nine_good (by decide)
  rcases List.mem_append.mp (show x ∈ (["--1", "2", "3", "-2", "None"] : List Str) ++ [old] from hx) with h | h
  · exact two_good x h
  · rw [List.mem_singleton.mp h]
    exact ga
def sp_bent : Sp := fun vs H Q _ => ∃ (p c : Addr) (m : Nat) (a : Addr) (ws : List Str), vs = [.ref p, .ref a] ∧ Bg H p c m ∧ m ≤ 90000 ∧ LW H a ws 27 ∧ a ≠ p ∧
  ∀ (a' : Addr) (ws' : List Str) (H' : Hp), Kp p H H' → Bg H' p c (m + 10) → H' a' = some (.lst (ws'.map V.str)) → a' ≠ p → ws'.length ≤ 90 → (∀ x ∈ ws', GoodW x) → Q (.ref a') H'
theorem G__law_bent (T : Txt P K mg A) : FnG P w K mg base CX0 3 A.a__law_bent A.d__law_bent P__law_bent sp_bent := by
  refine okG T.F__law_bent sc__law_bent (fun vs H Q E h => ?_) (fun cdv A0 outer s H vs Q E hr h => ?_)
  · obtain ⟨_, _, _, _, _, rfl, _⟩ := h
    rfl
  obtain ⟨p, c, m, a, ws, rfl, bg, hm, lw, nap, k⟩ := h
  refine ⟨_, (pss_cons (ps_par (i := 2) (j := 3) (by rfl) sc__law_bent.nd rfl rfl (by decide) rfl rfl (pa_cons (pe_callG (G__law_serve T) (hr.mono (by decide)) rfl T.g__law_serve T.F__law_serve.kp T.b__law_serve .nil pass0 (pa_cons (pv 0) (pa_cons (pe_callB call_len_seq (by rfl) T.n_len (by decide +kernel) (pa_cons (pv 1) pa_nil)) pa_nil))) (pa_cons (pe_callG (G__law_serve T) (hr.mono (by decide)) rfl T.g__law_serve T.F__law_serve.kp T.b__law_serve .nil pass0 (pa_cons (pv 0) (pa_cons pe_int pa_nil))) pa_nil)) (by rfl))
      (pss_cons (ps_set (i := 4) sc__law_bent.nd rfl (Or.inl rfl) (pe_lst (pa_cons pe_str (pa_cons pe_str (pa_cons pe_str (pa_cons pe_str (pa_cons pe_str (pa_cons pe_str (pa_cons pe_str (pa_cons pe_str (pa_cons pe_str (pa_cons pe_str (pa_cons pe_str (pa_cons pe_str (pa_cons pe_str (pa_cons pe_str (pa_cons pe_str (pa_cons pe_str (pa_cons pe_str (pa_cons pe_str (pa_cons pe_str (pa_cons pe_str (pa_cons pe_str pa_nil)))))))))))))))))))))))
      (pss_cons (ps_set (i := 5) sc__law_bent.nd rfl (Or.inl rfl) (pe_callG (G__law_one_of T) (hr.mono (by decide)) rfl T.g__law_one_of T.F__law_one_of.kp T.b__law_one_of .nil pass0 (pa_cons (pv 0) (pa_cons (pe_op op_cat (pv 4) (pe_lst (pa_cons (pe_op op_mulS pe_str pe_int) (pa_cons (pe_op op_mulS pe_str pe_int) (pa_cons (pe_op op_add_str pe_str (pe_op op_mulS pe_str pe_int)) (pa_cons (pe_op op_mulS pe_str pe_int) (pa_cons pe_str (pa_cons pe_str (pa_cons pe_str (pa_cons pe_str (pa_cons pe_str (pa_cons (pe_ix (r := rIxL K) ix_list (pv 1) (pv 2) (fun _ _ => rfl)) pa_nil)))))))))))) pa_nil))))
      (pss_cons (ps_if (pt_cmpR op_lt (pv 3) pe_int (nomark _)) (pss_one (ps_ret (pe_op op_cat (pe_op op_cat (pe_slice (r := rSlL K) sl_list (pv 1) po_none (po_some (pv 2))) (pe_lst (pa_cons (pv 5) pa_nil))) (pe_slice (r := rSlL K) sl_list (pv 1) (po_some (pe_op op_add (pv 2) pe_int)) po_none)))) pss_nil)
      (pss_cons (ps_if (pt_cmpR op_eq (pv 3) pe_int (nomark _)) (pss_one (ps_ret (pe_op op_cat (pe_op op_cat (pe_slice (r := rSlL K) sl_list (pv 1) po_none (po_some (pv 2))) (pe_lst (pa_cons (pv 5) pa_nil))) (pe_slice (r := rSlL K) sl_list (pv 1) (po_some (pv 2)) po_none)))) pss_nil)
      (pss_cons (ps_if (pt_cmpR op_eq (pv 3) pe_int (nomark _)) (pss_one (ps_ret (pe_op op_cat (pe_slice (r := rSlL K) sl_list (pv 1) po_none (po_some (pv 2))) (pe_slice (r := rSlL K) sl_list (pv 1) (po_some (pe_op op_add (pv 2) pe_int)) po_none)))) pss_nil)
      (pss_cons (ps_if (pt_cmpR op_eq (pv 3) pe_int (nomark _)) (pss_one (ps_ret (pe_op op_cat (pe_op op_cat (pe_slice (r := rSlL K) sl_list (pv 1) po_none (po_some (pv 2))) (pe_revL (pe_slice (r := rSlL K) sl_list (pv 1) (po_some (pv 2)) (po_some (pe_op op_add (pv 2) pe_int))))) (pe_slice (r := rSlL K) sl_list (pv 1) (po_some (pe_op op_add (pv 2) pe_int)) po_none)))) pss_nil)
      (pss_cons (ps_if (pt_cmpR op_eq (pv 3) pe_int (nomark _)) (pss_one (ps_ret (pe_op op_cat (pe_slice (r := rSlL K) sl_list (pv 1) po_none (po_some (pe_op op_add (pv 2) pe_int))) (pe_slice (r := rSlL K) sl_list (pv 1) (po_some (pv 2)) po_none)))) pss_nil)
      (pss_one (ps_ret (pe_ifExp (pt_cmpR op_eq (pv 3) pe_int (nomark _)) (pe_slice (r := rSlL K) sl_list (pv 1) po_none (po_some (pv 2))) (pe_op op_cat (pv 1) (pe_lst (pa_cons (pv 5) pa_nil)))))))))))))), ?_⟩
  have l1 : 1 ≤ ws.length := List.length_pos_iff.mpr lw.2.1
  have l27 := lw.2.2.1
  refine ⟨_, rfl, _, rfl, a, _, rfl, .inl (SqL.of lw.1), p, c, m, _, rfl, bg, by omega, by rw [List.length_map]; omega, by rw [List.length_map]; omega, fun x H1 x0 x1 kp1 bg1 => ⟨_, rfl, p, c, _, 8, rfl, bg1, by omega, by decide, by decide, fun way H2 y0 y1 kp2 bg2 => ⟨_, _, rfl, ?_⟩⟩⟩
  rw [List.length_map] at x1
  obtain ⟨at_, rfl⟩ : ∃ j : Nat, x = (j : Int) := ⟨x.toNat, by omega⟩
  have ha : at_ < ws.length := by omega
  have wa : ws[at_]? = some (ws[at_]) := List.getElem?_eq_getElem ha
  have ga := lw.2.2.2 _ (List.getElem_mem ha)
  generalize ws[at_] = old at wa ga
  refine ⟨by show 21 ≤ sizeLine; decide, fun o ho => ?_⟩
  have s2 : Kp p H (upd H2 o (.lst (ODD.map V.str))) := (kp1.trans kp2).new ho
  have bg3 : Bg (upd H2 o (.lst (ODD.map V.str))) p c (m + 2) := bg2.new ho
  have ho3 : (upd H2 o (.lst (ODD.map V.str))) o = some (.lst (ODD.map V.str)) := upd_same
  change Kp p H (upd H2 o (.lst (ODD.map V.str))) at s2
  refine ⟨_, rfl, _, rfl, ?_⟩
  show tLst _ _ (upd H2 o (.lst (ODD.map V.str))) _
  have lw3 := s2 _ _ nap lw.1
  generalize upd H2 o (.lst (ODD.map V.str)) = H3 at s2 bg3 ho3 lw3
  have h4000 : (5000 : Nat) ≤ sizeLine := by decide
  refine ⟨"9", 61, rfl, rfl, by decide, by decide, by decide +kernel, by decide +kernel, by rw [nine_len]; exact Nat.le_trans (by decide) h4000, ?_⟩
  refine ⟨"9", 60, rfl, rfl, by decide, by decide, by decide +kernel, by decide +kernel, by rw [nine_len]; exact Nat.le_trans (by decide) h4000, ?_⟩
  refine ⟨"9", 60, rfl, rfl, by decide, by decide, by decide +kernel, by decide +kernel, by rw [nine_len]; exact Nat.le_trans (by decide) h4000, _, _, rfl, rfl, by rw [nine_len]; exact Nat.le_trans (by decide +kernel) h4000, ?_⟩
  refine ⟨"9", 4000, rfl, rfl, by decide, by decide, by decide +kernel, by decide +kernel, by rw [nine_len]; exact Nat.le_trans (by decide) h4000, ?_⟩
  refine ⟨_, rfl, _, rfl, _, _, _, _, rfl, rfl, SqL.of lw3, atI_nat (by rw [List.getElem?_map, wa]; rfl), by show 10 ≤ sizeLine; decide, fun o2 ho2 => ?_⟩
  change rCat (.ref o) (.ref o2) (upd H3 o2 (.lst ((TEN old).map V.str))) _
  have s4 : Kp p H (upd H3 o2 (.lst ((TEN old).map V.str))) := s2.new ho2
  have bg4 : Bg (upd H3 o2 (.lst ((TEN old).map V.str))) p c (m + 2) := bg3.new ho2
  refine catL (at_new ho3 ho2) upd_same (by show 21 + 10 ≤ 1000; decide) fun q H5 s5 hq5 => ?_
  have nqp : q ≠ p := fun e => by
    obtain ⟨_, ms, t1, l1, e1, _⟩ := bg4
    rw [e, s5 _ _ e1] at hq5
    cases hq5
  have kp5 : Kp p H H5 := fun b o nb hb => s5 _ _ (s4 b o nb hb)
  have bg5 := bg4.keep s5
  refine ⟨p, c, q, m + 2, _, rfl, bg5, by omega, hq5, nqp, by show 1 ≤ 31; decide, by show 31 ≤ 1000; decide, fun v H6 hv kp6 bg6 => ?_⟩
  obtain ⟨new, hn, rfl⟩ := List.mem_map.mp hv
  have gn : GoodW new := by
    rcases List.mem_append.mp hn with h | h
    · exact odd_good _ h
    · exact ten_good ga _ h
  have kp66 := kp5.trans kp6
  have lw6 := kp66 _ _ nap lw.1
  clear hv hn kp6 hq5 lw3 ho3 s5 s4 bg4 bg5 kp5 s2
  have fin : ∀ (q : Addr) (H' : Hp) (us : List Str), Same H6 H' → H' q = some (.lst (us.map V.str)) → us.length ≤ 90 → (∀ x ∈ us, x ∈ ws ∨ x = new) → Q (.ref q) H' := fun q H' us s h1 h2 h3 => by
    refine k q us H' (fun b o nb hb => s _ _ (kp66 b o nb hb)) ((bg6.keep s).le (by omega)) h1 (fun e => ?_) h2 fun x hx => ?_
    · obtain ⟨_, ms, t1, l1, e1, _⟩ := bg6
      rw [e, s _ _ e1] at h1
      cases us with
      | nil => cases h1
      | cons u us => cases h1
    · rcases h3 x hx with h | rfl
      · exact lw.2.2.2 x h
      · exact gn
  clear k
  have one : ∀ {H' : Hp} {t : Addr}, H' t = none → (upd H' t (.lst [.str new])) t = some (.lst ([new].map V.str)) := fun _ => upd_same
  have tk : ∀ {i : Nat} {x : Str}, x ∈ ws.take i → x ∈ ws := fun h => List.mem_of_mem_take h
  have dr : ∀ {i : Nat} {x : Str}, x ∈ ws.drop i → x ∈ ws := fun h => List.mem_of_mem_drop h
  have i1 : (at_ : Int) + 1 = ((at_ + 1 : Nat) : Int) := by omega
  have i2 : (at_ : Int) + 2 = ((at_ + 2 : Nat) : Int) := by omega
  refine ⟨_, rfl, _, _, rfl, rfl, _, rfl, ite2 (fun _ => ?_) (fun _ => ?_)⟩
  · refine ⟨_, rfl, _, rfl, _, rfl, slT lw6 (by omega) fun u1 H7 s7 h7 => ⟨_, rfl, by show 1 ≤ sizeLine; decide, fun t ht => ?_⟩⟩
    have sA : Same H7 (upd H7 t (.lst [.str new])) := Same.new (fun _ _ h => h) ht
    have h1 := one ht
    have h7' := sA _ _ h7
    have lwA := sA _ _ (s7 _ _ lw6)
    generalize upd H7 t (.lst [.str new]) = H8 at sA h1 h7' lwA
    refine catL h7' h1 (by simp; omega) fun u2 H9 s9 h9 => ?_
    refine ⟨_, rfl, _, rfl, _, _, rfl, rfl, _, rfl, ?_⟩
    dsimp only [tNoPart]
    rw [i1]
    refine slD (s9 _ _ lwA) (by omega) fun u3 HA s10 h10 => ?_
    refine catL (s10 _ _ h9) h10 (by simp; omega) fun u4 HB s11 h11 => ?_
    refine fin u4 HB _ (s7.trans (sA.trans (s9.trans (s10.trans s11)))) h11 (by simp; omega) fun x hx => ?_
    simp only [List.mem_append, List.mem_singleton] at hx
    rcases hx with (h | h) | h
    · exact .inl (tk h)
    · exact .inr h
    · exact .inl (dr h)
  refine ⟨_, rfl, rfl, _, rfl, ite2 (fun _ => ?_) (fun _ => ?_)⟩
  · refine ⟨_, rfl, _, rfl, _, rfl, slT lw6 (by omega) fun u1 H7 s7 h7 => ⟨_, rfl, by show 1 ≤ sizeLine; decide, fun t ht => ?_⟩⟩
    have sA : Same H7 (upd H7 t (.lst [.str new])) := Same.new (fun _ _ h => h) ht
    have h1 := one ht
    have h7' := sA _ _ h7
    have lwA := sA _ _ (s7 _ _ lw6)
    generalize upd H7 t (.lst [.str new]) = H8 at sA h1 h7' lwA
    refine catL h7' h1 (by simp; omega) fun u2 H9 s9 h9 => ?_
    refine ⟨_, rfl, _, rfl, _, rfl, ?_⟩
    dsimp only [tNoPart]
    refine slD (s9 _ _ lwA) (by omega) fun u3 HA s10 h10 => ?_
    refine catL (s10 _ _ h9) h10 (by simp; omega) fun u4 HB s11 h11 => ?_
    refine fin u4 HB _ (s7.trans (sA.trans (s9.trans (s10.trans s11)))) h11 (by simp; omega) fun x hx => ?_
    simp only [List.mem_append, List.mem_singleton] at hx
    rcases hx with (h | h) | h
    · exact .inl (tk h)
    · exact .inr h
    · exact .inl (dr h)
  refine ⟨_, rfl, rfl, _, rfl, ite2 (fun _ => ?_) (fun _ => ?_)⟩
  · refine ⟨_, rfl, _, rfl, _, rfl, slT lw6 (by omega) fun u1 H7 s7 h7 => ?_⟩
    refine ⟨_, rfl, _, rfl, _, _, rfl, rfl, _, rfl, ?_⟩
    dsimp only [tNoPart]
    rw [i1]
    refine slD (s7 _ _ lw6) (by omega) fun u3 HA s10 h10 => ?_
    refine catL (s10 _ _ h7) h10 (by simp; omega) fun u4 HB s11 h11 => ?_
    refine fin u4 HB _ (s7.trans (s10.trans s11)) h11 (by simp; omega) fun x hx => ?_
    rcases List.mem_append.mp hx with h | h
    · exact .inl (tk h)
    · exact .inl (dr h)
  refine ⟨_, rfl, rfl, _, rfl, ite2 (fun _ => ?_) (fun _ => ?_)⟩
  · refine ⟨_, rfl, _, rfl, _, rfl, slT lw6 (by omega) fun u1 H7 s7 h7 => ?_⟩
    refine ⟨_, rfl, _, rfl, _, rfl, _, rfl, _, _, rfl, rfl, _, rfl, ?_⟩
    dsimp only
    rw [i2]
    refine slM (s7 _ _ lw6) fun u2 H8 us s8 h8 lus mus => ?_
    refine ⟨u2, _, rfl, SqL.of h8, fun u3 hu3 => ?_⟩
    rw [← List.map_reverse]
    have sA : Same H8 (upd H8 u3 (.lst (us.reverse.map V.str))) := Same.new (fun _ _ h => h) hu3
    have hA : (upd H8 u3 (.lst (us.reverse.map V.str))) u3 = some (.lst (us.reverse.map V.str)) := upd_same
    generalize upd H8 u3 (.lst (us.reverse.map V.str)) = H9 at sA hA
    refine catL (sA _ _ (s8 _ _ h7)) hA (by simp; omega) fun u4 HB s11 h11 => ?_
    refine ⟨_, rfl, _, rfl, _, _, rfl, rfl, _, rfl, ?_⟩
    dsimp only [tNoPart]
    rw [i2]
    refine slE (s11 _ _ (sA _ _ (s8 _ _ (s7 _ _ lw6)))) fun u5 HC vs s12 h12 lvs mvs => ?_
    refine catL (s12 _ _ h11) h12 (by simp; omega) fun u6 HD s13 h13 => ?_
    refine fin u6 HD _ (s7.trans (s8.trans (sA.trans (s11.trans (s12.trans s13))))) h13 (by simp; omega) fun x hx => ?_
    rcases List.mem_append.mp hx with h | h
    · rcases List.mem_append.mp h with h | h
      · exact .inl (tk h)
      · exact .inl (mus x (List.mem_reverse.mp h))
    · exact .inl (mvs x h)
  refine ⟨_, rfl, rfl, _, rfl, ite2 (fun _ => ?_) (fun _ => ?_)⟩
  · refine ⟨_, rfl, _, rfl, _, _, rfl, rfl, _, rfl, ?_⟩
    dsimp only
    rw [i1]
    refine slT lw6 (by omega) fun u1 H7 s7 h7 => ?_
    refine ⟨_, rfl, _, rfl, _, rfl, ?_⟩
    dsimp only [tNoPart]
    refine slD (s7 _ _ lw6) (by omega) fun u3 HA s10 h10 => ?_
    refine catL (s10 _ _ h7) h10 (by simp; omega) fun u4 HB s11 h11 => ?_
    refine fin u4 HB _ (s7.trans (s10.trans s11)) h11 (by simp; omega) fun x hx => ?_
    rcases List.mem_append.mp hx with h | h
    · exact .inl (tk h)
    · exact .inl (dr h)
  refine ⟨_, rfl, rfl, _, rfl, ite2 (fun _ => ?_) (fun _ => ?_)⟩
  · refine ⟨_, rfl, _, rfl, _, rfl, slT lw6 (by omega) fun u1 H7 s7 h7 => ?_⟩
    exact fin u1 H7 _ s7 h7 (by simp; omega) fun x hx => .inl (tk hx)
  · refine ⟨_, rfl, _, rfl, by show 1 ≤ sizeLine; decide, fun t ht => ?_⟩
    have sA : Same H6 (upd H6 t (.lst [.str new])) := Same.new (fun _ _ h => h) ht
    refine catL (sA _ _ lw6) (one ht) (by simp; omega) fun u4 HB s11 h11 => ?_
    refine fin u4 HB _ (sA.trans s11) h11 (by simp; omega) fun x hx => ?_
    rcases List.mem_append.mp hx with h | h
    · exact .inl h
    · exact .inr (List.mem_singleton.mp h)
/-- the tables of the lambdas -/
def lqn (f : Str) : Str := (f ++ ".<locals>.") ++ "<lambda>"
def tabs (A : Ad) : List (Addr × Str) := [(A.t__law_web_right, lqn "_law_web_right"), (A.t__law_table_right, lqn "_law_table_right"), (A.t_law, lqn "law")]
theorem nodup_u : ∀ {L : List (Addr × Str)}, (L.map (·.1)).Nodup → ∀ {P : Addr} {q : Str}, (P, q) ∈ L → ∀ p ∈ L, p.1 = P → p.2 = q
  | [], _, _, _, h, _, _, _ => by cases h
  | (P0, q0) :: L, nd, P, q, h, p, hp, e => by
    rw [List.map_cons, List.nodup_cons] at nd
    rcases List.mem_cons.mp h with h | h
    · cases h
      rcases List.mem_cons.mp hp with rfl | hp
      · rfl
      · exact absurd (List.mem_map.mpr ⟨p, hp, e⟩) nd.1
    · rcases List.mem_cons.mp hp with rfl | hp
      · exact absurd (List.mem_map.mpr ⟨_, h, e.symm⟩) nd.1
      · exact nodup_u nd.2 h p hp e
abbrev NE (A : Ad) : Prop := ((tabs A).map (·.1)).Nodup
theorem tabs_u0 (ne : NE A) : ∀ p ∈ tabs A, p.1 = A.t__law_web_right → p.2 = lqn "_law_web_right" := nodup_u ne (List.mem_cons_self : (A.t__law_web_right, lqn "_law_web_right") ∈ tabs A)
theorem tabs_u1 (ne : NE A) : ∀ p ∈ tabs A, p.1 = A.t__law_table_right → p.2 = lqn "_law_table_right" := nodup_u ne (List.mem_cons_of_mem _ List.mem_cons_self : (A.t__law_table_right, lqn "_law_table_right") ∈ tabs A)
theorem tabs_u2 (ne : NE A) : ∀ p ∈ tabs A, p.1 = A.t_law → p.2 = lqn "law" := nodup_u ne (List.mem_cons_of_mem _ (List.mem_cons_of_mem _ List.mem_cons_self) : (A.t_law, lqn "law") ∈ tabs A)
/-- all but the tables and what stands at p stay -/
def KT (p : Addr) (H H' : Hp) : Prop := ∀ b o, b ≠ p → H b = some o → (∀ ps, o ≠ .tbl ps) → H' b = some o
theorem bg_ext {H H1 : Hp} {p c : Addr} {n : Nat} (b : Bg H p c n) (e : ExtN H H1) : Bg H1 p c n := by
  obtain ⟨ne, ms, t, l, h1, h2, h3⟩ := b
  exact ⟨ne, ms, t, l, e _ _ h1 (fun _ z => by cases z), e _ _ h2 (fun _ z => by cases z), h3⟩
/-- all but lists stay -/
def SameN (H H' : Hp) : Prop := ∀ b o, H b = some o → (∀ zs, o ≠ .lst zs) → H' b = some o
theorem tabs_keep {L : List (Addr × Str)} {H H' : Hp} (t : Tabs L H) (s : SameN H H') : Tabs L H' := fun p hp => by
  obtain ⟨ps, h1, h2, h3⟩ := t p hp
  refine ⟨ps, s _ _ h1 (fun _ z => by cases z), h2, fun pos cv hc => ?_⟩
  obtain ⟨c, e1, e2⟩ := h3 pos cv hc
  refine ⟨c, e1, s _ _ e2 (fun zs z => ?_)⟩
  unfold CodeO at z
  cases z
theorem kp_n {H H' : Hp} {p : Addr} {op : List V} (k : Kp p H H') (hp : H p = some (.lst op)) : SameN H H' := fun b o h n => k _ _ (fun z => by rw [z, hp] at h; exact n _ (Option.some.inj h).symm) h
def oneK {α : Type} : List α → List α → List α := fun us ws => us ++ ws
theorem kb_Web_read_text (T : Txt P K mg A) : KBinds K A.d_Web_read P_Web_read ["text"] oneK oneK :=
  kbindsF T.F_Web_read (fun r q => Vals.append r q) fun _ _ _ _ _ _ us ws hl => match us, ws, hl with
    | [], [_], _ => rfl
    | [_], [], _ => rfl
theorem kb_Table_read_text (T : Txt P K mg A) : KBinds K A.d_Table_read P_Table_read ["text"] oneK oneK :=
  kbindsF T.F_Table_read (fun r q => Vals.append r q) fun _ _ _ _ _ _ us ws hl => match us, ws, hl with
    | [], [_], _ => rfl
    | [_], [], _ => rfl
theorem LIT.extN {H H' : Hp} {a : Addr} {ws : List Str} (h : LIT H a ws) (e : ExtN H H') : LIT H' a ws := ⟨e _ _ h.1 (fun _ z => by cases z), h.2⟩
theorem Same.extN {H H' : Hp} (s : Same H H') : ExtN H H' := fun b o h _ => s b o h
theorem room65 {k : Nat} {A0 : Around} (h : RG k A0) : A0.units + 65 < cLine := by
  have := h.room.un
  omega
/-! ### what a stop tells -/
theorem fbA_inv {f : Nat → Bool} : ∀ (k i j : Nat), fbA f i k = some j → f j = true ∧ i ≤ j ∧ j < i + k ∧ ∀ m, i ≤ m → m < j → f m = false
  | 0, i, j, h => by cases h
  | k + 1, i, j, h => by
    unfold fbA at h
    by_cases c : f i = true
    · rw [if_pos c] at h
      obtain rfl := Option.some.inj h
      exact ⟨c, Nat.le_refl _, by omega, fun m h1 h2 => by omega⟩
    · rw [if_neg c] at h
      obtain ⟨h1, h2, h3, h4⟩ := fbA_inv k (i + 1) j h
      refine ⟨h1, by omega, by omega, fun m a b => ?_⟩
      by_cases e : m = i
      · rw [e]
        simpa using c
      · exact h4 m (by omega) b
theorem fbA_inv0 {f : Nat → Bool} : ∀ (k i : Nat), fbA f i k = none → ∀ m, i ≤ m → m < i + k → f m = false
  | 0, i, _, m, h1, h2 => by omega
  | k + 1, i, h, m, h1, h2 => by
    unfold fbA at h
    by_cases c : f i = true
    · rw [if_pos c] at h
      cases h
    · rw [if_neg c] at h
      by_cases e : m = i
      · rw [e]
        simpa using c
      · exact fbA_inv0 k (i + 1) h m (by omega) (by omega)
theorem wbad_f {ws : List Str} {n m : Nat} (h : wbad ws n m = false) : m ≠ 26 ∧ ∃ x, ws[m]? = some x ∧ endOk n x = true := by
  unfold wbad at h
  simp only [Bool.or_eq_false_iff, decide_eq_false_iff_not, Bool.not_eq_false'] at h
  refine ⟨h.1, ?_⟩
  cases hx : ws[m]? with
  | none => rw [hx] at h; exact absurd h.2 (by simp)
  | some x => rw [hx] at h; exact ⟨x, rfl, h.2⟩
theorem wstop_head {ws : List Str} {P : Option Nat → Prop} (nw : ws ≠ []) (hp : P (wstop ws)) (h0 : ¬ P (some 0)) (h1 : ¬ P (some 1)) : ∃ (z0 : Str) (rest : List Str), ws = z0 :: ":" :: rest ∧ wiB z0 (.int 1) (.int 13) = true ∧ P (match fbA (wbad ws (nOf z0)) 2 rest.length with
      | some k => some k
      | none => if (rest.length + 2) % 2 = 1 then some (rest.length + 2) else none) := by
  obtain ⟨z0, r, rfl⟩ := List.exists_cons_of_ne_nil nw
  by_cases b : wiB z0 (.int 1) (.int 13) = false
  · rw [wstop_a b] at hp
    exact absurd hp h0
  cases r with
  | nil =>
    rw [wstop_b b] at hp
    exact absurd hp h1
  | cons z rest =>
    by_cases c : z = ":"
    · subst c
      rw [wstop_d b] at hp
      exact ⟨z0, rest, rfl, by simpa using b, hp⟩
    · rw [wstop_c b c] at hp
      exact absurd hp h1
theorem wstop_none {ws : List Str} (nw : ws ≠ []) (h : wstop ws = none) : ∃ (z0 : Str) (rest : List Str), ws = z0 :: ":" :: rest ∧ wiB z0 (.int 1) (.int 13) = true ∧ rest.length % 2 = 0 ∧ rest.length ≤ 24 ∧ ∀ x ∈ rest, endOk (nOf z0) x = true := by
  obtain ⟨z0, rest, rfl, b, hp⟩ := wstop_head (P := fun o => o = none) nw h (by simp) (by simp)
  cases hf : fbA (wbad (z0 :: ":" :: rest) (nOf z0)) 2 rest.length with
  | some k => rw [hf] at hp; cases hp
  | none =>
    rw [hf] at hp
    dsimp only at hp
    by_cases odd : (rest.length + 2) % 2 = 1
    · rw [if_pos odd] at hp
      cases hp
    · have g := fbA_inv0 _ _ hf
      refine ⟨z0, rest, rfl, b, by omega, ?_, fun x hx => ?_⟩
      · by_cases c : rest.length ≤ 24
        · exact c
        · exact absurd rfl (wbad_f (g 26 (by omega) (by omega))).1
      · obtain ⟨i, hi, rfl⟩ := List.mem_iff_getElem.mp hx
        obtain ⟨_, y, hy, ok⟩ := wbad_f (g (i + 2) (by omega) (by omega))
        have e : (z0 :: ":" :: rest)[i + 2]? = rest[i]? := rfl
        rw [e, List.getElem?_eq_getElem hi] at hy
        rw [Option.some.inj hy]
        exact ok
theorem wstop_26 {ws : List Str} (nw : ws ≠ []) (h : wstop ws = some 26) : ∃ (z0 : Str) (rest : List Str), ws = z0 :: ":" :: rest ∧ wiB z0 (.int 1) (.int 13) = true ∧ 24 < rest.length ∧ ∀ x ∈ rest.take 24, endOk (nOf z0) x = true := by
  obtain ⟨z0, rest, rfl, b, hp⟩ := wstop_head (P := fun o => o = some 26) nw h (by simp) (by simp)
  cases hf : fbA (wbad (z0 :: ":" :: rest) (nOf z0)) 2 rest.length with
  | some k =>
    rw [hf] at hp
    obtain rfl := Option.some.inj hp
    obtain ⟨_, _, h3, h4⟩ := fbA_inv _ _ _ hf
    refine ⟨z0, rest, rfl, b, by omega, fun x hx => ?_⟩
    obtain ⟨i, hi, rfl⟩ := List.mem_iff_getElem.mp hx
    rw [List.length_take] at hi
    obtain ⟨_, y, hy, ok⟩ := wbad_f (h4 (i + 2) (by omega) (by omega))
    have e : (z0 :: ":" :: rest)[i + 2]? = rest[i]? := rfl
    rw [e, List.getElem?_eq_getElem (by omega)] at hy
    rw [List.getElem_take, Option.some.inj hy]
    exact ok
  | none =>
    rw [hf] at hp
    dsimp only at hp
    by_cases odd : (rest.length + 2) % 2 = 1
    · rw [if_pos odd] at hp
      have := Option.some.inj hp
      omega
    · rw [if_neg odd] at hp
      cases hp
theorem end_int {n : Nat} {x : Str} (h : endOk n x = true) : PySem.intText? x = some ((nOf x : Nat) : Int) ∧ x.length ≤ 61 ∧ nOf x < n := by
  obtain ⟨i1, i2⟩ := int_of (by decide) h
  obtain ⟨_, _, h3, _⟩ := wiB_nat (by decide) h
  exact ⟨i1, i2, by omega⟩
theorem wd_back {lo hi : Int} {x : Str} (h0 : 0 ≤ lo) (h : wiB x (.int lo) (.int hi) = true) : wd (nOf x) = x := by
  obtain ⟨_, _, h3, ok⟩ := wiB_nat h0 h
  obtain ⟨z, e1, e2, h1, h2, _⟩ := wiB_num h
  have := MN.text_back ok
  have e : ((nOf x : Nat) : Int) = MN.valL (TL.tl x) := by
    unfold nOf
    omega
  unfold wd
  rw [e]
  exact this
theorem fm_wd : ∀ ps : MC.Pr, (ps.flatMap fun p => [wd p.1, wd p.2]) = (fl ps).map wd
  | [] => rfl
  | p :: ps => by
    have ih := fm_wd ps
    unfold fl at ih ⊢
    rw [List.flatMap_cons, List.flatMap_cons, List.map_append, ih]
    rfl
theorem words_back {z0 : Str} {rest : List Str} {ps : MC.Pr} {n : Nat} (b : wiB z0 (.int 1) (.int 13) = true) (hn : nOf z0 = n) (he : ∀ x ∈ rest, endOk n x = true) (hf : rest.map nOf = fl ps) : words n ps = z0 :: ":" :: rest := by
  unfold words
  rw [fm_wd, ← hf, List.map_map, ← hn, wd_back (by decide) b]
  congr 2
  have : ∀ l : List Str, (∀ x ∈ l, endOk n x = true) → l.map (wd ∘ nOf) = l := fun l => by
    induction l with
    | nil => intro _; rfl
    | cons x l ih =>
      intro h
      rw [List.map_cons, ih fun y hy => h y (List.mem_cons_of_mem _ hy)]
      show wd (nOf x) :: l = x :: l
      rw [wd_back (by decide) (h x List.mem_cons_self)]
  exact this rest he
theorem fl_inj : ∀ {ps qs : MC.Pr}, fl ps = fl qs → ps = qs
  | [], [], _ => rfl
  | [], q :: qs, h => by cases h
  | p :: ps, [], h => by cases h
  | p :: ps, q :: qs, h => by
    have h : p.1 :: p.2 :: fl ps = q.1 :: q.2 :: fl qs := h
    obtain ⟨h1, h⟩ := List.cons.inj h
    obtain ⟨h2, h⟩ := List.cons.inj h
    rw [fl_inj h, show p = q from Prod.ext h1 h2]
theorem join_ok {ws : List Str} (hl : ws.length ≤ 200) (h : ∀ x ∈ ws, Wo x) : (ws.map (·.length)).sum + ws.length * (Str.ofString " ").length ≤ 16777216 := by
  have := sum_leN (m := 5000) ws fun x hx => (h x hx).2
  have e : (Str.ofString " ").length = 1 := rfl
  rw [e]
  omega
theorem shaped_row (r : List Int) : SeqAt.shaped (.tuple (r.map PyData.int)) = true := by
  unfold SeqAt.shaped
  simp only [PyData.canLay0, PyData.depth, lay_row, depth_row]
  rfl
section
variable {H : Hp} {x y : Addr} {r : List Int} {Q : VK}
theorem eq_tup (hx : H x = some (.tup (r.map V.int))) (hy : H y = some (.tup (r.map V.int))) (k : Q (.bl true) H) : rEqD K (.ref x) (.ref y) H Q := by
  refine ⟨.tuple (r.map PyData.int), .tuple (r.map PyData.int), .tup (SqT.of hx) (dp_row r), .tup (SqT.of hy) (dp_row r), shaped_row r, shaped_row r, ?_⟩
  rw [show PyData.eqv (.tuple (r.map PyData.int)) (.tuple (r.map PyData.int)) = true by simp only [PyData.eqv, eqv_row]]
  exact k
theorem in_tup {a b : Addr} {r1 r2 : List Int} (hx : H x = some (.tup (r.map V.int))) (ha : H a = some (.tup (r1.map V.int))) (hb : H b = some (.tup (r2.map V.int))) (hy : H y = some (.tup [.ref a, .ref b])) (e : r1 = r ∨ r2 = r) (k : Q (.bl true) H) : rInT K (.ref x) (.ref y) H Q := by
  refine ⟨.tuple (r.map PyData.int), [.tuple (r1.map PyData.int), .tuple (r2.map PyData.int)], .tup (SqT.of hx) (dp_row r), .tup (SqT.of hy) (.cons (.tup (SqT.of ha) (dp_row r1)) (.cons (.tup (SqT.of hb) (dp_row r2)) .nil)), shaped_row r, shaped_mt [r1, r2], ?_⟩
  have ev : ∀ q : List Int, q = r → PyData.eqv (.tuple (q.map PyData.int)) (.tuple (r.map PyData.int)) = true := fun q e => by
    subst e
    simp only [PyData.eqv, eqv_row]
  have : ([PyData.tuple (r1.map PyData.int), PyData.tuple (r2.map PyData.int)].any fun z => PyData.eqv z (.tuple (r.map PyData.int))) = true := by
    rw [List.any_cons, List.any_cons]
    rcases e with e | e
    · rw [ev _ e]
      rfl
    · rw [ev _ e]
      simp
  rw [this]
  exact k
end
/-- such a text is heard -/
theorem heard_web {σ : L2.St} {H : Hp} {Q : VK} {ws : List Str} {i : Int} (h1 : σ[1]? = some (some (.str (Txt.join " " ws)))) (nw : ws ≠ []) (hl : ws.length ≤ 200) (wo : ∀ x ∈ ws, Wo x) (rd : ∀ E H R, OutT A E H (.int i) → RdEnd A E H R ws) (tb : Tabs (tabs A) H)
    (k : ∀ t H1 H', ExtN H H1 → Same H1 H' → Tabs (tabs A) H' → H' t = some (.tup ([0, i].map V.int)) → Q (.ref t) H') : tLam (tabs A) (THeard A) (fun E => tSM A.c_Web (sp_read A) E (tC (.ref A.c_Web)) (tCons (tVar 1) tNil)) σ H Q := by
  refine ⟨tb, fun H1 e1 tb1 => ?_⟩
  unfold THeard
  intro R
  refine ⟨rfl, _, h1, _, rfl, .inr ⟨ws, rfl, nw, wo, hl, rd _ _ _ fun d H' hd s => ⟨d, .int i, rfl, rfl, hd, fun t H'' s2 ht => ?_⟩⟩⟩
  exact k t H1 H'' e1 (s.trans s2) (tb1.ext (s.trans s2)) ht
theorem heard_tab {σ : L2.St} {H : Hp} {Q : VK} {ws : List Str} {i : Int} (h1 : σ[1]? = some (some (.str (Txt.join " " ws)))) (nw : ws ≠ []) (hl : ws.length ≤ 200) (wo : ∀ x ∈ ws, Wo x) (rd : ∀ E H R, OutT A E H (.int i) → TRdEnd A E H R ws) (tb : Tabs (tabs A) H)
    (k : ∀ t H1 H', ExtN H H1 → Same H1 H' → Tabs (tabs A) H' → H' t = some (.tup ([0, i].map V.int)) → Q (.ref t) H') : tLam (tabs A) (THeard A) (fun E => tSM A.c_Table (sp_tread A) E (tC (.ref A.c_Table)) (tCons (tVar 1) tNil)) σ H Q := by
  refine ⟨tb, fun H1 e1 tb1 => ?_⟩
  unfold THeard
  intro R
  refine ⟨rfl, _, h1, _, rfl, .inr ⟨ws, rfl, nw, wo, hl, rd _ _ _ fun d H' hd s => ⟨d, .int i, rfl, rfl, hd, fun t H'' s2 ht => ?_⟩⟩⟩
  exact k t H1 H'' e1 (s.trans s2) (tb1.ext (s.trans s2)) ht
/-! ### what the law says of a web's text -/
theorem ints_lc {v0 v1 v2 v3 v4 v5 v6 v7 v8 : Option V} {p D : Addr} {us : List Str} {n : Nat} {H1 : Hp} {Qd : Hp → Prop} (g1 : H1 p = some (.lst (us.map V.str))) (hD : H1 D = none) (he : ∀ x ∈ us, endOk n x = true) (hl : us.length ≤ 200)
    (k : ∀ H', Same H1 H' → H' D = some (.lst (nv (us.map nOf))) → Qd H') : ∃ W : Nat → Nat → Hp → Prop, (∃ m, W 0 m (upd H1 D (.lst []))) ∧ ∀ i m H, W i m H →
      ((Itl K p).stop i H ∧ Qd H) ∨ ((Itl K p).go i H ∧ ∃ Nx : Hp → Prop, (∀ H', Nx H' → ∃ m', m' < m ∧ W (i + 1) m' H') ∧ ∀ x H', (Itl K p).yld i H x H' → gName 6 x (wipe [v0, v1, v2, v3, v4, v5, v6, v7, v8] [6]) H' fun σ2 H2 => wipe σ2 [6] = wipe [v0, v1, v2, v3, v4, v5, v6, v7, v8] [6] ∧ tYes σ2 H2 fun b H3 =>
        if b = true then tCB (fun xs H Q => ∃ a n, xs = [V.str a] ∧ intText? a = some n ∧ a.length ≤ 640 ∧ Q (V.int n) H) (tCons (tVar 6) tNil) σ2 H3 fun y H4 => ∃ acc, H4 D = some (.lst acc) ∧ acc.length < sizeLine ∧ Nx (upd H4 D (.lst (acc ++ [y]))) else Nx H3) := by
  refine lc_list (K := K) (a := p) (xs := us.map V.str) (fun j H' => Same H1 H' ∧ H' D = some (.lst (nv ((us.take j).map nOf)))) ⟨Same.new (fun _ _ h => h) hD, upd_same⟩ (fun j H' _ q => SqL.of (q.1 _ _ g1)) ?_ ?_
  · rintro j x H' hx ⟨s2, hD2⟩
    rw [List.getElem?_map] at hx
    obtain ⟨x, hx1, rfl⟩ := Option.map_eq_some_iff.mp hx
    obtain ⟨iv, il, _⟩ := end_int (he x (List.mem_of_getElem? hx1))
    have jl := (List.getElem?_eq_some_iff.mp hx1).1
    refine ⟨rfl, tYes_of (iteT ⟨_, rfl, _, _, rfl, iv, by omega, _, hD2, ?_, ?_, ?_⟩)⟩
    · unfold nv
      rw [List.length_map, List.length_map, List.length_take]
      exact small1000 (by omega)
    · intro c o hc
      rw [upd_ne (ne_of_none hc hD)]
      exact s2 _ _ hc
    · rw [upd_same, List.take_succ, hx1]
      simp [nv]
  · rintro H3 ⟨s2, hD2⟩
    rw [List.length_map, List.take_of_length_le (Nat.le_refl _)] at hD2
    exact k H3 s2 hD2
theorem hang_call {v1 v2 v3 v4 v5 v6 v7 v8 : Option V} {a : Addr} {ws us : List Str} {z0 : Str} {n : Nat} {ps : MC.Pr} {th : TO} {ho : Option Int} {H : Hp} {Q : VK} (hth : ∀ σ H Q, Q ho H → th σ H Q) (lit : LIT H a ws) (h0 : ws[0]? = some z0) (b : wiB z0 (.int 1) (.int 13) = true) (hn : nOf z0 = n)
    (hus : cutV (ws.map V.str) (some 2) ho = us.map V.str) (he : ∀ x ∈ us, endOk n x = true) (hl : us.length ≤ 24) (hf : us.map nOf = fl ps) (k : ∀ H', Same H H' → Q (.bl (hang n ps)) H') :
    tCall sp_lhang [] E0 (tCons (tCB (fun xs H Q => ∃ a n, xs = [V.str a] ∧ intText? a = some n ∧ a.length ≤ 640 ∧ Q (V.int n) H) (tCons (tOp (rIxL K) (tVar 0) (tC (V.int 0))) tNil)) (tCons (tLc (iList K (tSl (rSlL K) (tVar 0) (tPart (tC (V.int 2))) th)) (gName 6) tYes (tCB (fun xs H Q => ∃ a n, xs = [V.str a] ∧ intText? a = some n ∧ a.length ≤ 640 ∧ Q (V.int n) H) (tCons (tVar 6) tNil)) [6]) tNil)) [some (.ref a), v1, v2, v3, v4, v5, v6, v7, v8] H Q := by
  obtain ⟨i1, i2⟩ := int_of (by decide) b
  obtain ⟨_, n1, n13, _⟩ := wiB_nat (by decide) b
  rw [hn] at i1 n1 n13
  refine ⟨_, rfl, ixW (i := 0) lit h0 ⟨_, _, rfl, i1, by omega, ?_⟩⟩
  refine ⟨_, rfl, _, rfl, ?_⟩
  refine hth _ _ _ ⟨a, _, rfl, SqL.of lit.1, fun p hp => ?_⟩
  rw [hus]
  have s1 : Same H (upd H p (.lst (us.map V.str))) := Same.new (fun _ _ h => h) hp
  have g1 : (upd H p (.lst (us.map V.str))) p = some (.lst (us.map V.str)) := upd_same
  generalize upd H p (.lst (us.map V.str)) = H1 at s1 g1
  refine ⟨p, rfl, ⟨_, SqL.of g1⟩, fun D hD => ?_⟩
  refine ints_lc g1 hD he (by omega) fun H2 s2 hD2 => ?_
  rw [hf] at hD2
  have lp : ps.length ≤ 12 := by
    have := congrArg List.length hf
    rw [List.length_map, fl_len] at this
    omega
  have hb : MC.Below n ps := fl_below fun x hx => by
    rw [← hf] at hx
    obtain ⟨y, hy, rfl⟩ := List.mem_map.mp hx
    exact (end_int (he y hy)).2.2
  exact ⟨n, D, ps, rfl, hD2, by omega, by omega, lp, hb, fun H3 s3 => k H3 (s1.trans (s2.trans s3))⟩
theorem eqO_webs (T : Txt P K mg A) {H : Hp} {x y : Addr} {n m : Nat} {ps qs : MC.Pr} {Q : VK} (hx : WebAt H x A.c_Web n ps) (hy : WebAt H y A.c_Web m qs) (k : Q (.bl (decide (n = m ∧ ps = qs))) H) : rEqO A.c_Web (sp_eq A.c_Web) (.ref x) (.ref y) H Q := by
  obtain ⟨dx, q, xs, h1, h2⟩ := id hx
  obtain ⟨dy, r, ys, h3, h4⟩ := id hy
  unfold rEqO
  exact ⟨x, dx, _, rfl, h1, .inr (.inr ⟨dy, _, h3⟩), x, n, ps, .ref y, rfl, hx, y, m, qs, rfl, hy, _, rfl, k⟩
theorem str_web {H : Hp} {x : Addr} {n : Nat} {ps : MC.Pr} {Q : VK} (hx : WebAt H x A.c_Web n ps) (hn : n ≤ 13) (hl : ps.length ≤ 12) (hb : MC.Below n ps) (k : ∀ H', Same H H' → Q (.str (text n ps)) H') : rStrO A.c_Web (sp_str A.c_Web) [.ref x] H Q := by
  obtain ⟨dx, q, xs, h1, h2⟩ := id hx
  unfold rStrO
  exact ⟨x, dx, _, rfl, h1, x, n, ps, rfl, hx, hn, hl, hb, fun H' s => ⟨_, rfl, k H' s⟩⟩
def sp_wr (A : Ad) : Sp := fun vs H Q _ => ∃ (a : Addr) (ws : List Str), vs = [.ref a] ∧ LIT H a ws ∧ ws ≠ [] ∧ Tabs (tabs A) H ∧ ∀ H', ExtN H H' → Tabs (tabs A) H' → Q (.bl true) H'
theorem G__law_web_right (T : Txt P K mg A) (TB : TabB base mg A.k__law_web_right A.t__law_web_right) (ne : NE A) : FnG P w K mg base CX0 15 A.a__law_web_right A.d__law_web_right P__law_web_right (sp_wr A) := by
  refine okGC T.F__law_web_right sc__law_web_right (fun vs H Q E h => ?_) (fun A0 outer s H vs Q E hr h => ?_)
  · obtain ⟨_, _, rfl, _⟩ := h
    rfl
  obtain ⟨a, ws, rfl, lit, nw, tb, k⟩ := h
  refine ⟨_, (pss_cons (ps_asg (pe_tup (pa_cons (pe_bm PySem.F.plainAttrs_str PySem.F.slot_str_join PySem.F.type_str_join mt_join pe_str (pa_cons (pv 0) pa_nil)) (pa_cons (pe_callG (G__law_web_stop T) (hr.mono (by decide)) rfl T.g__law_web_stop T.F__law_web_stop.kp T.b__law_web_stop .nil pass0 (pa_cons (pv 0) pa_nil)) pa_nil))) (pg_tup rfl (pgs_cons (pg_name (i := 1) sc__law_web_right.nd rfl (Or.inr rfl)) (pgs_cons (pg_name (i := 2) sc__law_web_right.nd rfl (Or.inl rfl)) pgs_nil))))
      (pss_cons (ps_if (PW.pt (pw_and (pt_cmpR op_eq (pv 2) pe_int (nomark _)) (pw_and1 (pt_not (pt_val (pe_callG (G__law_hangs T) (hr.mono (by decide)) rfl T.g__law_hangs T.F__law_hangs.kp T.b__law_hangs .nil pass0 (pa_cons (pe_callTy (T := "int") call_int_str (by rfl) T.n_int (by decide +kernel) (pa_cons (pe_ix (r := rIxL K) ix_list (pv 0) pe_int (fun _ _ => rfl)) pa_nil)) (pa_cons (pe_lc (own := [("item", 6)]) (g := gName 6) (tt := tYes) rfl sc__law_web_right.nd (pi_list (pe_slice (r := rSlL K) sl_list (pv 0) (po_some pe_int) (po_some pe_int))) (blkOk_by (N := N__law_web_right) (sc := defScope s__law_web_right) (by decide +kernel)) (fun _ _ _ _ _ => (pg_name (i := 6) sc__law_web_right.nd rfl (Or.inl rfl))) (fun _ _ _ _ _ => pts_nil) (fun _ _ _ _ _ => (pe_callTy (T := "int") call_int_str (by rfl) T.n_int (by decide +kernel) (pa_cons (pv 6) pa_nil)))) pa_nil)))))))) (pss_one (ps_ret (pe_cmpR (op_inT (room65 hr)) (pe_lamG (T := tabs A) (t := fun E => (tSM A.c_Web (sp_read A) E (tC (.ref A.c_Web)) (tCons (tVar 1) tNil))) rfl T.g__law_heard T.F__law_heard T.b__law_heard sc__law_heard rfl (Or.inl rfl) (heard_gives T) TB rfl List.mem_cons_self (tabs_u0 ne) (k := 12) (hr.mono (by decide)) (lamS_by (sc := defScope s__law_web_right) (by decide +kernel)) rfl (fun _ _ _ _ _ => rfl) (fun A1 outer1 s1 H1 E1 f1 c1 hr1 => (pe_smeth (E := E1) (pe_glob (v := .ref A.c_Web) rfl T.g_Web rfl) T.S_Web_read (G_Web_read T) (hr1.mono (by decide)) T.F_Web_read.kp T.b_Web_read (passes_call (takes_of rfl rfl rfl rfl) (fun _ _ _ _ h => h)) (pa_cons (pv 1) pa_nil)))) (pe_tup (pa_cons (pe_tup (pa_cons pe_int (pa_cons pe_int pa_nil))) (pa_cons (pe_tup (pa_cons pe_int (pa_cons pe_int pa_nil))) pa_nil))) (by rfl)))) pss_nil)
      (pss_cons (ps_if (PW.pt (pw_and (pt_cmpR op_isN (pv 2) pe_non (nomark _)) (pw_and1 (pt_not (pt_val (pe_callG (G__law_hangs T) (hr.mono (by decide)) rfl T.g__law_hangs T.F__law_hangs.kp T.b__law_hangs .nil pass0 (pa_cons (pe_callTy (T := "int") call_int_str (by rfl) T.n_int (by decide +kernel) (pa_cons (pe_ix (r := rIxL K) ix_list (pv 0) pe_int (fun _ _ => rfl)) pa_nil)) (pa_cons (pe_lc (own := [("item", 6)]) (g := gName 6) (tt := tYes) rfl sc__law_web_right.nd (pi_list (pe_slice (r := rSlL K) sl_list (pv 0) (po_some pe_int) po_none)) (blkOk_by (N := N__law_web_right) (sc := defScope s__law_web_right) (by decide +kernel)) (fun _ _ _ _ _ => (pg_name (i := 6) sc__law_web_right.nd rfl (Or.inl rfl))) (fun _ _ _ _ _ => pts_nil) (fun _ _ _ _ _ => (pe_callTy (T := "int") call_int_str (by rfl) T.n_int (by decide +kernel) (pa_cons (pv 6) pa_nil)))) pa_nil)))))))) (pss_cons (ps_if (pt_cmpR op_eq (pe_callB call_len_seq (by rfl) T.n_len (by decide +kernel) (pa_cons (pv 0) pa_nil)) pe_int (nomark _)) (pss_one (ps_ret (pe_cmpR (op_inT (room65 hr)) (pe_lamG (T := tabs A) (t := fun E => (tSM A.c_Web (sp_read A) E (tC (.ref A.c_Web)) (tCons (tVar 1) tNil))) rfl T.g__law_heard T.F__law_heard T.b__law_heard sc__law_heard rfl (Or.inl rfl) (heard_gives T) TB rfl List.mem_cons_self (tabs_u0 ne) (k := 12) (hr.mono (by decide)) (lamS_by (sc := defScope s__law_web_right) (by decide +kernel)) rfl (fun _ _ _ _ _ => rfl) (fun A1 outer1 s1 H1 E1 f1 c1 hr1 => (pe_smeth (E := E1) (pe_glob (v := .ref A.c_Web) rfl T.g_Web rfl) T.S_Web_read (G_Web_read T) (hr1.mono (by decide)) T.F_Web_read.kp T.b_Web_read (passes_call (takes_of rfl rfl rfl rfl) (fun _ _ _ _ h => h)) (pa_cons (pv 1) pa_nil)))) (pe_tup (pa_cons (pe_tup (pa_cons pe_int (pa_cons pe_int pa_nil))) (pa_cons (pe_tup (pa_cons pe_int (pa_cons pe_int pa_nil))) pa_nil))) (by rfl)))) pss_nil)
      (pss_one (ps_set (i := 2) sc__law_web_right.nd rfl (Or.inl rfl) (pe_op op_sub (pe_callB call_len_seq (by rfl) T.n_len (by decide +kernel) (pa_cons (pv 0) pa_nil)) pe_int)))) pss_nil)
      (pss_cons (ps_if (pt_cmpR op_notN (pv 2) pe_non (nomark _)) (pss_one (ps_ret (pe_cmpR (op_eqD hr.room.units) (pe_lamG (T := tabs A) (t := fun E => (tSM A.c_Web (sp_read A) E (tC (.ref A.c_Web)) (tCons (tVar 1) tNil))) rfl T.g__law_heard T.F__law_heard T.b__law_heard sc__law_heard rfl (Or.inl rfl) (heard_gives T) TB rfl List.mem_cons_self (tabs_u0 ne) (k := 12) (hr.mono (by decide)) (lamS_by (sc := defScope s__law_web_right) (by decide +kernel)) rfl (fun _ _ _ _ _ => rfl) (fun A1 outer1 s1 H1 E1 f1 c1 hr1 => (pe_smeth (E := E1) (pe_glob (v := .ref A.c_Web) rfl T.g_Web rfl) T.S_Web_read (G_Web_read T) (hr1.mono (by decide)) T.F_Web_read.kp T.b_Web_read (passes_call (takes_of rfl rfl rfl rfl) (fun _ _ _ _ h => h)) (pa_cons (pv 1) pa_nil)))) (pe_tup (pa_cons pe_int (pa_cons (pv 2) pa_nil))) (nomark _)))) pss_nil)
      (pss_cons (ps_par (i := 3) (j := 4) (by rfl) sc__law_web_right.nd rfl rfl (by decide) rfl rfl (pa_cons (pe_smethK0 (E := fun _ _ _ => False) (pe_glob (v := .ref A.c_Web) rfl T.g_Web rfl) T.S_Web_read (G_Web_read T) (hr.mono (by decide)) T.F_Web_read.kp (kb_Web_read_text T) (passes_call (W := fun _ _ _ _ => False) L2.takes0 (fun _ _ _ _ h => h)) (pk_cons (pv 1) pk_nil)) (pa_cons (pe_lc (own := [("item", 6)]) (g := gName 6) (tt := tYes) rfl sc__law_web_right.nd (pi_list (pe_slice (r := rSlL K) sl_list (pv 0) (po_some pe_int) po_none)) (blkOk_by (N := N__law_web_right) (sc := defScope s__law_web_right) (by decide +kernel)) (fun _ _ _ _ _ => (pg_name (i := 6) sc__law_web_right.nd rfl (Or.inl rfl))) (fun _ _ _ _ _ => pts_nil) (fun _ _ _ _ _ => (pe_callTy (T := "int") call_int_str (by rfl) T.n_int (by decide +kernel) (pa_cons (pv 6) pa_nil)))) pa_nil)) (by rfl))
      (pss_cons (ps_set (i := 5) sc__law_web_right.nd rfl (Or.inl rfl) (pe_callTy (T := "tuple") call_tuple_of (by rfl) T.n_tuple (by decide +kernel) (pa_cons (pe_lc (own := [("one", 7), ("other", 8)]) (g := gTup K 2 (gCons (gName 7) (gCons (gName 8) gNil))) (tt := tYes) rfl sc__law_web_right.nd (pi_zip (by rfl) T.n_zip (pa_cons (pe_stp (pv 4) po_none) (pa_cons (pe_stp (pv 4) (po_some pe_int)) pa_nil))) (blkOk_by (N := N__law_web_right) (sc := defScope s__law_web_right) (by decide +kernel)) (fun _ _ _ _ _ => (pg_tup rfl (pgs_cons (pg_name (i := 7) sc__law_web_right.nd rfl (Or.inl rfl)) (pgs_cons (pg_name (i := 8) sc__law_web_right.nd rfl (Or.inl rfl)) pgs_nil)))) (fun _ _ _ _ _ => pts_nil) (fun _ _ _ _ _ => (pe_tup (pa_cons (pv 7) (pa_cons (pv 8) pa_nil))))) pa_nil)))
      (pss_one (ps_ret (pe_and (pe_cmpR op_eq (pe_callTy (T := "str") (call_strO T.O_s_Web T.O_f_Web (G_Web___str__ T) (hr.mono (by decide)) T.b_Web___str__ pass0) (by rfl) T.n_str (by decide +kernel) (pa_cons (pv 3) pa_nil)) (pv 1) (nomark _)) (pe_and (pe_cmpR op_eq (pe_callB (call_repr2 hr.gd hr.room.units) (by rfl) T.n_repr (by decide +kernel) (pa_cons (pe_lst (pa_cons (pe_fld (pv 3) rfl) (pa_cons (pe_fld (pv 3) rfl) pa_nil))) pa_nil)) (pe_callB (call_repr2 hr.gd hr.room.units) (by rfl) T.n_repr (by decide +kernel) (pa_cons (pe_lst (pa_cons (pe_callTy (T := "int") call_int_str (by rfl) T.n_int (by decide +kernel) (pa_cons (pe_ix (r := rIxL K) ix_list (pv 0) pe_int (fun _ _ => rfl)) pa_nil)) (pa_cons (pv 5) pa_nil))) pa_nil)) (nomark _)) (pe_one (pe_cmpR (op_eqO T.O_eq_Web (G_Web___eq__ T) (hr.mono (by decide)) T.b_Web___eq__ pass0 T.O_l_Web T.O_t_Web) (pv 3) (pe_mkG (E := fun _ _ _ => False) T.M_Web (G_Web___init__ T) (hr.mono (by decide)) rfl T.g_Web T.b_Web___init__ (passes_call (W := fun _ _ _ _ => False) L2.takes0 (fun _ _ _ _ h => h)) (pa_cons (pe_callTy (T := "int") call_int_str (by rfl) T.n_int (by decide +kernel) (pa_cons (pe_ix (r := rIxL K) ix_list (pv 0) pe_int (fun _ _ => rfl)) pa_nil)) (pa_cons (pe_callTy (T := "list") call_list_of (by rfl) T.n_list (by decide +kernel) (pa_cons (pv 5) pa_nil)) pa_nil))) (nomark _))))))))))))), ?_⟩
  have wo : ∀ x ∈ ws, Wo x := fun x hx => (lit.2.2 x hx).1
  refine ⟨rfl, _, rfl, _, a, ws, rfl, rfl, .inl (SqL.of lit.1), join_ok lit.2.1 wo, ?_⟩
  refine ⟨_, rfl, a, ws, rfl, lit, nw, fun H1 s1 => ⟨by show 2 ≤ sizeLine; decide, fun q hq => ?_⟩⟩
  have s2 : Same H (upd H1 q (.tup [.str (Txt.join " " ws), optV (wstop ws)])) := s1.trans (Same.new (fun _ _ h => h) hq)
  have hq2 : (upd H1 q (.tup [.str (Txt.join " " ws), optV (wstop ws)])) q = some (.tup [.str (Txt.join " " ws), optV (wstop ws)]) := upd_same
  generalize upd H1 q (.tup [.str (Txt.join " " ws), optV (wstop ws)]) = H2 at s2 hq2
  refine ⟨q, _, rfl, SqT.of hq2, rfl, _, _, rfl, _, _, rfl, rfl, ?_⟩
  have lit2 := lit.keep s2
  have tb2 : Tabs (tabs A) H2 := tb.ext s2
  replace k : ∀ H', ExtN H2 H' → Tabs (tabs A) H' → Q (.bl true) H' := fun H' e t => k H' ((Same.extN s2).trans e) t
  clear hq2 hq s1 s2 tb
  -- a stop that is no 26
  cases hst : wstop ws with
  | some kk =>
    have rd : ∀ E H R, OutT A E H (.int (kk : Int)) → RdEnd A E H R ws := fun E H R o => by
      unfold RdEnd
      rw [hst]
      exact o
    have last : ∀ (σ : L2.St) (H3 : Hp), Same H2 H3 → σ[1]? = some (some (.str (Txt.join " " ws))) → σ[2]? = some (some (.int (kk : Int))) → (tOp (rEqD K) (tLam (tabs A) (THeard A) fun E => tSM A.c_Web (sp_read A) E (tC (.ref A.c_Web)) (tCons (tVar 1) tNil)) (tTup (tCons (tC (.int 0)) (tCons (tVar 2) tNil)))) σ H3 Q := fun σ H3 s3 h1 h2 => by
      refine heard_web h1 nw lit.2.1 wo rd (tb2.ext s3) fun t G1 G2 e1 s4 tb4 ht => ?_
      refine ⟨_, h2, by show 2 ≤ sizeLine; decide, fun p hp => ?_⟩
      have s5 : Same G2 (upd G2 p (.tup [.int 0, .int (kk : Int)])) := Same.new (fun _ _ h => h) hp
      exact eq_tup (s5 _ _ ht) upd_same (k _ (((Same.extN s3).trans e1).trans (Same.extN (s4.trans s5))) (tb4.ext s5))
    have isn : ¬ (optV (some kk) = V.non) := fun z => by cases z
    refine ⟨_, rfl, rfl, _, rfl, ?_⟩
    by_cases c26 : kk = 26
    · subst c26
      refine ite2 (fun _ => ?_) (fun q => absurd (decide_eq_true rfl) q)
      obtain ⟨z0, rest, e, b, hl, he⟩ := wstop_26 nw hst
      obtain ⟨ps, hf⟩ := fl_of ((rest.take 24).map nOf) (by rw [List.length_map, List.length_take, Nat.min_eq_left (by omega)])
      have hcut : cutV (ws.map V.str) (some 2) (some 26) = (rest.take 24).map V.str := by
        have lm : 26 ≤ (ws.map V.str).length := by rw [List.length_map, e]; simp; omega
        rw [show cutV (ws.map V.str) (some 2) (some 26) = ((ws.map V.str).drop 2).take (26 - 2) from cutV_mid _ 2 26 (by omega) lm, e]
        exact List.map_take.symm
      refine hang_call (th := tPart (tC (.int 26))) (ho := some 26) (ws := ws) (fun _ _ _ q => ⟨_, rfl, q⟩) lit2 (by rw [e]; rfl) b rfl hcut he (by rw [List.length_take]; omega) hf fun H3 s3 => ⟨_, rfl, ?_⟩
      cases hang (nOf z0) ps with
      | false =>
        refine iteT ?_
        refine heard_web rfl nw lit.2.1 wo rd (tb2.ext s3) fun t G1 G2 e1 s4 tb4 ht => ?_
        refine ⟨by show 2 ≤ sizeLine; decide, fun p1 h1 => ⟨by show 2 ≤ sizeLine; decide, fun p2 h2 => ⟨by show 2 ≤ sizeLine; decide, fun p3 h3 => ?_⟩⟩⟩
        have sA : Same G2 (upd G2 p1 (.tup [.int 0, .int 25])) := Same.new (fun _ _ h => h) h1
        have sB : Same (upd G2 p1 (.tup [.int 0, .int 25])) (upd (upd G2 p1 (.tup [.int 0, .int 25])) p2 (.tup [.int 0, .int 26])) := Same.new (fun _ _ h => h) h2
        have sC : Same (upd (upd G2 p1 (.tup [.int 0, .int 25])) p2 (.tup [.int 0, .int 26])) (upd (upd (upd G2 p1 (.tup [.int 0, .int 25])) p2 (.tup [.int 0, .int 26])) p3 (.tup [.ref p1, .ref p2])) := Same.new (fun _ _ h => h) h3
        have s5 := sA.trans (sB.trans sC)
        exact in_tup (r := [0, 26]) (r1 := [0, 25]) (r2 := [0, 26]) (s5 _ _ ht) (sC _ _ (sB _ _ upd_same)) (sC _ _ upd_same) upd_same (.inr rfl) (k _ (((Same.extN s3).trans e1).trans (Same.extN (s4.trans s5))) (tb4.ext s5))
      | true =>
        refine iteF ?_
        refine ⟨_, rfl, rfl, _, rfl, ite2 (fun q => absurd (of_decide_eq_true q) isn) (fun _ => ?_)⟩
        refine ⟨_, rfl, rfl, _, rfl, ?_⟩
        rw [decide_eq_false isn]
        exact iteT (last _ H3 s3 rfl rfl)
    · refine ite2 (fun q => absurd (of_decide_eq_true q) fun q => c26 (by have := V.int.inj q; omega)) (fun _ => ?_)
      refine iteF ?_
      refine ⟨_, rfl, rfl, _, rfl, ite2 (fun q => absurd (of_decide_eq_true q) isn) (fun _ => ?_)⟩
      refine iteF ?_
      refine ⟨_, rfl, rfl, _, rfl, ?_⟩
      rw [decide_eq_false isn]
      exact iteT (last _ H2 (Same.refl _) rfl rfl)
  | none =>
    obtain ⟨z0, rest, e, b, ev, l24, he⟩ := wstop_none nw hst
    obtain ⟨ps, hf⟩ := fl_of (rest.map nOf) (by rw [List.length_map]; exact ev)
    have lw : ws.length = 2 + rest.length := by rw [e]; simp; omega
    have lm : (ws.map V.str).length = 2 + rest.length := by rw [List.length_map, lw]
    have h0 : ws[0]? = some z0 := by rw [e]; rfl
    have hcut : cutV (ws.map V.str) (some 2) none = rest.map V.str := by
      rw [show cutV (ws.map V.str) (some 2) none = (ws.map V.str).drop 2 from cutV_drop _ 2 (by omega), e]
      rfl
    have ends : endsOf ws = fl ps := by
      rw [← hf, e]
      rfl
    have hh : ws.headD "" = z0 := by rw [e]; rfl
    generalize hn : nOf z0 = n at he
    refine ⟨_, rfl, rfl, _, rfl, ite2 (fun q => absurd (of_decide_eq_true q) (fun z => by cases z)) (fun _ => ?_)⟩
    refine iteF ?_
    refine ⟨_, rfl, rfl, _, rfl, ite2 (fun _ => ?_) (fun q => absurd (decide_eq_true rfl) q)⟩
    refine hang_call (th := tNoPart) (ho := none) (ws := ws) (fun _ _ _ q => q) lit2 h0 b hn hcut he l24 hf fun H3 s3 => ⟨_, rfl, ?_⟩
    have lit3 := lit2.keep s3
    cases hg : hang n ps with
    | false =>
      have rd : ∀ E H R, OutT A E H (.int ((ws.length : Nat) - 1 : Int)) → RdEnd A E H R ws := fun E H R o => by
        unfold RdEnd
        rw [hst]
        intro qs hqs
        rw [ends] at hqs
        rw [hh, hn, ← fl_inj hqs]
        exact ⟨fun h => absurd h (by rw [hg]; simp), fun _ => o⟩
      refine iteT ?_
      refine ⟨_, rfl, a, _, rfl, .inl (SqL.of lit3.1), rfl, _, rfl, ?_⟩
      rw [lm]
      by_cases rn : rest.length = 0
      · refine ite2 (fun _ => ?_) (fun q => absurd (decide_eq_true (show V.int ((2 + rest.length : Nat) : Int) = V.int 2 by rw [rn]; rfl)) q)
        refine heard_web rfl nw lit.2.1 wo rd (tb2.ext s3) fun t G1 G2 e1 s4 tb4 ht => ?_
        refine ⟨by show 2 ≤ sizeLine; decide, fun p1 h1 => ⟨by show 2 ≤ sizeLine; decide, fun p2 h2 => ⟨by show 2 ≤ sizeLine; decide, fun p3 h3 => ?_⟩⟩⟩
        have sA : Same G2 (upd G2 p1 (.tup [.int 0, .int 1])) := Same.new (fun _ _ h => h) h1
        have sB : Same (upd G2 p1 (.tup [.int 0, .int 1])) (upd (upd G2 p1 (.tup [.int 0, .int 1])) p2 (.tup [.int 0, .int 2])) := Same.new (fun _ _ h => h) h2
        have sC : Same (upd (upd G2 p1 (.tup [.int 0, .int 1])) p2 (.tup [.int 0, .int 2])) (upd (upd (upd G2 p1 (.tup [.int 0, .int 1])) p2 (.tup [.int 0, .int 2])) p3 (.tup [.ref p1, .ref p2])) := Same.new (fun _ _ h => h) h3
        have s5 := sA.trans (sB.trans sC)
        exact in_tup (r := [0, (ws.length : Int) - 1]) (r1 := [0, 1]) (r2 := [0, 2]) (s5 _ _ ht) (sC _ _ (sB _ _ upd_same)) (sC _ _ upd_same) upd_same (.inl (by rw [lw, rn]; rfl)) (k _ (((Same.extN s3).trans e1).trans (Same.extN (s4.trans s5))) (tb4.ext s5))
      · refine ite2 (fun q => absurd (of_decide_eq_true q) fun q => rn (by have := V.int.inj q; omega)) (fun _ => ?_)
        refine ⟨_, rfl, a, _, rfl, .inl (SqL.of lit3.1), _, _, rfl, rfl, ?_⟩
        dsimp only
        rw [lm, ← lw]
        refine ⟨_, rfl, rfl, _, rfl, ?_⟩
        rw [decide_eq_false (show ¬ V.int ((ws.length : Int) - 1) = V.non from fun z => by cases z)]
        refine iteT ?_
        refine heard_web rfl nw lit.2.1 wo rd (tb2.ext s3) fun t G1 G2 e1 s4 tb4 ht => ?_
        refine ⟨_, rfl, by show 2 ≤ sizeLine; decide, fun p hp => ?_⟩
        have s5 : Same G2 (upd G2 p (.tup [.int 0, .int ((ws.length : Int) - 1)])) := Same.new (fun _ _ h => h) hp
        exact eq_tup (s5 _ _ ht) upd_same (k _ (((Same.extN s3).trans e1).trans (Same.extN (s4.trans s5))) (tb4.ext s5))
    | true =>
      have rd : ∀ (R : VK), (∀ y H', Same H3 H' → WebAt H' y A.c_Web n ps → R (.ref y) H') → RdEnd A (fun _ _ _ => False) H3 R ws := fun R o => by
        unfold RdEnd
        rw [hst]
        intro qs hqs
        rw [ends] at hqs
        rw [hh, hn, ← fl_inj hqs]
        exact ⟨fun _ => o, fun h => absurd h (by rw [hg]; simp)⟩
      refine iteF ?_
      refine ⟨_, rfl, rfl, _, rfl, ite2 (fun q => by cases q) (fun _ => ?_)⟩
      obtain ⟨i1, i2⟩ := int_of (by decide) b
      obtain ⟨_, n1, n13, _⟩ := wiB_nat (by decide) b
      rw [hn] at i1 n1 n13
      have lp : ps.length ≤ 12 := by
        have := congrArg List.length hf
        rw [List.length_map, fl_len] at this
        omega
      have hb : MC.Below n ps := fl_below fun x hx => by
        rw [← hf] at hx
        obtain ⟨y, hy, rfl⟩ := List.mem_map.mp hx
        exact (end_int (he y hy)).2.2
      refine ⟨rfl, _, rfl, _, rfl, .inr ⟨ws, rfl, nw, wo, lit.2.1, rd _ fun y H4 s4 wy => ?_⟩⟩
      have lit4 := lit3.keep s4
      have S4 := s3.trans s4
      refine ⟨_, rfl, _, rfl, a, _, rfl, SqL.of lit4.1, fun p1 hp1 => ?_⟩
      rw [hcut]
      have sA : Same H4 (upd H4 p1 (.lst (rest.map V.str))) := Same.new (fun _ _ h => h) hp1
      have g1 : (upd H4 p1 (.lst (rest.map V.str))) p1 = some (.lst (rest.map V.str)) := upd_same
      generalize upd H4 p1 (.lst (rest.map V.str)) = H5 at sA g1
      refine ⟨p1, rfl, ⟨_, SqL.of g1⟩, fun D hD => ?_⟩
      refine ints_lc g1 hD he (by omega) fun H6 s6 hD6 => ⟨_, _, rfl, ?_⟩
      rw [hf] at hD6
      have S6 := S4.trans (sA.trans s6)
      have wy6 := wy.keep (sA.trans s6)
      have lit6 := lit2.keep S6
      clear g1 sA hp1 hD
      refine ⟨_, rfl, D, _, rfl, SqL.of hD6, fun p1 hp1 => ⟨_, rfl, D, _, rfl, _, rfl, SqL.of (at_new hD6 hp1), fun p2 hp2 => ?_⟩⟩
      rw [stp_even, stp_odd] at *
      have g1 : (upd (upd H6 p1 (.lst (nv (ps.map (·.1))))) p2 (.lst (nv (ps.map (·.2))))) p1 = some (.lst (nv (ps.map (·.1)))) := at_new upd_same hp2
      have g2 : (upd (upd H6 p1 (.lst (nv (ps.map (·.1))))) p2 (.lst (nv (ps.map (·.2))))) p2 = some (.lst (nv (ps.map (·.2)))) := upd_same
      have s7 : Same H6 (upd (upd H6 p1 (.lst (nv (ps.map (·.1))))) p2 (.lst (nv (ps.map (·.2))))) := Same.new (Same.new (fun _ _ h => h) hp1) hp2
      generalize upd (upd H6 p1 (.lst (nv (ps.map (·.1))))) p2 (.lst (nv (ps.map (·.2)))) = H7 at g1 g2 s7
      refine ⟨p1, p2, _, _, rfl, SqL.of g1, SqL.of g2, fun L hL => ?_⟩
      refine lc_it (walk_zip (K := K) (a := p1) (b := p2) (xs := nv (ps.map (·.1))) (ys := nv (ps.map (·.2))) (n := ps.length) (by simp [nv])) (fun j H' => Same H7 H' ∧ ∃ zs, H' L = some (.lst zs) ∧ Paired (PrT H') zs (ps.take j)) ⟨Same.new (fun _ _ h => h) hL, [], upd_same, .nil⟩ (fun j H' _ q => ⟨SqL.of (q.1 _ _ g1), SqL.of (q.1 _ _ g2)⟩) ?_ ?_
      · rintro j x H8 H9 hj ⟨s8, zs, hzs, pp⟩ ⟨TT, x1, y1, rfl, hTT, rfl, e1, e2⟩
        have e1 : (nv (ps.map (·.1)))[j]? = some x1 := e1
        have e2 : (nv (ps.map (·.2)))[j]? = some y1 := e2
        have hpj : ps[j]? = some ps[j] := List.getElem?_eq_getElem hj
        generalize ps[j] = pj at hpj
        unfold nv at e1 e2
        rw [List.getElem?_map, List.getElem?_map, hpj] at e1 e2
        obtain rfl := Option.some.inj e1
        obtain rfl := Option.some.inj e2
        have lz := Paired.length pp
        rw [List.length_take] at lz
        have sT : Same H8 (upd H8 TT (.tup [.int (pj.1 : Int), .int (pj.2 : Int)])) := Same.new (fun _ _ h => h) hTT
        have hT9 : (upd H8 TT (.tup [.int (pj.1 : Int), .int (pj.2 : Int)])) TT = some (.tup [.int (pj.1 : Int), .int (pj.2 : Int)]) := upd_same
        have hz9 := sT _ _ hzs
        have pp9 : Paired (PrT (upd H8 TT (.tup [.int (pj.1 : Int), .int (pj.2 : Int)]))) zs (ps.take j) := paired_imp (fun _ _ ⟨u, e, g⟩ => ⟨u, e, sT _ _ g⟩) pp
        generalize upd H8 TT (.tup [.int (pj.1 : Int), .int (pj.2 : Int)]) = H9 at sT hT9 hz9 pp9
        refine ⟨TT, _, rfl, SqT.of hT9, rfl, _, _, rfl, _, _, rfl, rfl, rfl, tYes_of (iteT ⟨_, rfl, _, rfl, by show 2 ≤ sizeLine; decide, fun t ht => ⟨zs, at_new hz9 ht, small1000 (by omega), ?_, zs ++ [.ref t], upd_same, ?_⟩⟩)⟩
        · intro c o hc
          have h9 := sT _ _ (s8 _ _ hc)
          rw [upd_ne (ne_of_none hc hL), upd_ne (ne_of_none h9 ht)]
          exact h9
        · have ntL : t ≠ L := fun e => by rw [e, hz9] at ht; cases ht
          rw [List.take_succ, hpj]
          refine paired_snoc ⟨t, rfl, by rw [upd_ne ntL]; exact upd_same⟩ (paired_imp (fun _ _ ⟨u, e, g⟩ => ⟨u, e, ?_⟩) pp9)
          rw [upd_ne (fun e => by rw [e, hz9] at g; cases g), upd_ne (ne_of_none g ht)]
          exact g
      · rintro H8 ⟨s8, zs, hzs, pp⟩
        rw [List.take_of_length_le (Nat.le_refl _)] at pp
        refine ⟨L, zs, rfl, .inl ⟨SqL.of hzs, fun t ht => ?_⟩⟩
        have s9 : Same H8 (upd H8 t (.tup zs)) := Same.new (fun _ _ h => h) ht
        have ht9 : (upd H8 t (.tup zs)) t = some (.tup zs) := upd_same
        have pp9 : Paired (PrT (upd H8 t (.tup zs))) zs ps := paired_imp (fun _ _ ⟨u, e, g⟩ => ⟨u, e, s9 _ _ g⟩) pp
        generalize upd H8 t (.tup zs) = H9 at s9 ht9 pp9
        have S9 := S6.trans (s7.trans (s8.trans s9))
        have wy9 := wy6.keep (s7.trans (s8.trans s9))
        have lit9 := lit2.keep S9
        refine ⟨_, rfl, str_web wy9 (by omega) lp hb fun HA sa => ⟨_, rfl, rfl, _, rfl, ?_⟩⟩
        rw [decide_eq_true (show V.str (text n ps) = V.str (Txt.join " " ws) by unfold text; rw [words_back b hn he hf, ← e])]
        refine iteT ?_
        have SA := S9.trans sa
        have wyA := wy9.keep sa
        have litA := lit2.keep SA
        have htA := sa _ _ ht9
        have ppA : Paired (PrT HA) zs ps := paired_imp (fun _ _ ⟨u, e, g⟩ => ⟨u, e, sa _ _ g⟩) pp9
        obtain ⟨dx, yq, ys, hy1, hy2, hy3⟩ := id wyA
        have bb : ∀ p ∈ ps, p.1 ≤ 13 ∧ p.2 ≤ 13 := fun p hp => by
          have := hb p hp
          omega
        refine ⟨_, rfl, y, A.c_Web, dx, _, _, rfl, hy1, T.K_Web, T.N_Web_places, rfl, _, rfl, y, A.c_Web, dx, _, _, rfl, hy1, T.K_Web, T.N_Web_ties, rfl, by show 2 ≤ sizeLine; decide, fun l hl => ?_⟩
        have sB : Same HA (upd HA l (.lst [.int (n : Int), .ref yq])) := Same.new (fun _ _ h => h) hl
        have hl1 : (upd HA l (.lst [.int (n : Int), .ref yq])) l = some (.lst [.int (n : Int), .ref yq]) := upd_same
        generalize upd HA l (.lst [.int (n : Int), .ref yq]) = HB at sB hl1
        refine rep_web hl1 (sB _ _ hy2) (paired_imp (fun _ _ ⟨u, e, g⟩ => ⟨u, e, sB _ _ g⟩) hy3) (by omega) bb lp ?_
        refine ⟨_, rfl, ixW (i := 0) (litA.keep sB) h0 ⟨_, _, rfl, i1, by omega, _, rfl, by show 2 ≤ sizeLine; decide, fun l2 hl2 => ?_⟩⟩
        have sC : Same HB (upd HB l2 (.lst [.int (n : Int), .ref t])) := Same.new (fun _ _ h => h) hl2
        have hl3 : (upd HB l2 (.lst [.int (n : Int), .ref t])) l2 = some (.lst [.int (n : Int), .ref t]) := upd_same
        generalize upd HB l2 (.lst [.int (n : Int), .ref t]) = HC at sC hl3
        have sBC := sB.trans sC
        refine rep_web hl3 (sBC _ _ htA) (paired_imp (fun _ _ ⟨u, e, g⟩ => ⟨u, e, sBC _ _ g⟩) ppA) (by omega) bb lp ?_
        refine ⟨rfl, _, rfl, ?_⟩
        rw [decide_eq_true rfl]
        refine iteT ?_
        have litC := litA.keep sBC
        have wyC := wyA.keep sBC
        have htC := sBC _ _ htA
        have ppC : Paired (PrT HC) zs ps := paired_imp (fun _ _ ⟨u, e, g⟩ => ⟨u, e, sBC _ _ g⟩) ppA
        refine ⟨_, rfl, _, rfl, ixW (i := 0) litC h0 ⟨_, _, rfl, i1, by omega, _, rfl, t, zs, rfl, .inr (SqT.of htC), fun l3 hl3 => ?_⟩⟩
        have sD : Same HC (upd HC l3 (.lst zs)) := Same.new (fun _ _ h => h) hl3
        refine mk_web (a := l3) (fun x => rfl) (by omega) (by omega) lp ⟨zs, .inl upd_same, paired_imp (fun _ _ ⟨u, e, g⟩ => ⟨u, e, .inr (sD _ _ g)⟩) ppC⟩ hb hg fun z HF sF wz => eqO_webs T (wyC.keep (sD.trans sF)) wz ?_
        rw [decide_eq_true ⟨rfl, rfl⟩]
        have sT := SA.trans (sBC.trans (sD.trans sF))
        exact k _ (Same.extN sT) (tb2.ext sT)
/-! ### what a table's stop tells -/
theorem tstop_head {ws : List Str} {P : Option Nat → Prop} (nw : ws ≠ []) (hp : P (tstop ws)) (h0 : ¬ P (some 0)) (h1 : ¬ P (some 1)) : ∃ (z0 : Str) (rest : List Str), ws = z0 :: ":" :: rest ∧ wiB z0 (.int 1) (.int 5) = true ∧ P (match fbA (tbad ws (nOf z0)) 0 (nOf z0 * nOf z0) with
      | some k => some (2 + k)
      | none => if rest.length = nOf z0 * nOf z0 then none else some (2 + nOf z0 * nOf z0)) := by
  obtain ⟨z0, r, rfl⟩ := List.exists_cons_of_ne_nil nw
  by_cases b : wiB z0 (.int 1) (.int 5) = false
  · rw [tstop_a b] at hp
    exact absurd hp h0
  cases r with
  | nil =>
    rw [tstop_b b] at hp
    exact absurd hp h1
  | cons z rest =>
    by_cases c : z = ":"
    · subst c
      rw [tstop_d b] at hp
      exact ⟨z0, rest, rfl, by simpa using b, hp⟩
    · rw [tstop_c b c] at hp
      exact absurd hp h1
theorem tbad_f {ws : List Str} {n k : Nat} (h : tbad ws n k = false) : tOk ws n k = true := by
  unfold tbad at h
  simpa using h
theorem tstop_none {ws : List Str} (nw : ws ≠ []) (h : tstop ws = none) : ∃ (z0 : Str) (rest : List Str), ws = z0 :: ":" :: rest ∧ wiB z0 (.int 1) (.int 5) = true ∧ rest.length = nOf z0 * nOf z0 ∧ ∀ k, k < nOf z0 * nOf z0 → tOk ws (nOf z0) k = true := by
  obtain ⟨z0, rest, e, b, hp⟩ := tstop_head (P := fun o => o = none) nw h (by simp) (by simp)
  cases hf : fbA (tbad ws (nOf z0)) 0 (nOf z0 * nOf z0) with
  | some k => rw [hf] at hp; cases hp
  | none =>
    rw [hf] at hp
    dsimp only at hp
    by_cases c : rest.length = nOf z0 * nOf z0
    · exact ⟨z0, rest, e, b, c, fun k hk => tbad_f (fbA_inv0 _ _ hf k (Nat.zero_le _) (by omega))⟩
    · rw [if_neg c] at hp
      cases hp
theorem tstop_some {ws : List Str} {kk : Nat} (nw : ws ≠ []) (h : tstop ws = some kk) (h2 : 2 < kk) : ∃ (z0 : Str) (rest : List Str), ws = z0 :: ":" :: rest ∧ wiB z0 (.int 1) (.int 5) = true ∧ (kk = 2 + nOf z0 * nOf z0 → ∀ k, k < nOf z0 * nOf z0 → tOk ws (nOf z0) k = true) := by
  obtain ⟨z0, rest, e, b, hp⟩ := tstop_head (P := fun o => o = some kk) nw h (fun q => by have := Option.some.inj q; omega) (fun q => by have := Option.some.inj q; omega)
  refine ⟨z0, rest, e, b, fun ek k hk => ?_⟩
  cases hf : fbA (tbad ws (nOf z0)) 0 (nOf z0 * nOf z0) with
  | some j =>
    rw [hf] at hp
    have := Option.some.inj hp
    obtain ⟨_, _, h3, _⟩ := fbA_inv _ _ _ hf
    omega
  | none => exact tbad_f (fbA_inv0 _ _ hf k (Nat.zero_le _) (by omega))
theorem sq_idx {n k : Nat} (h : k < n * n) : n * (k % n) + k / n < n * n := by
  have h0 : 0 < n := by
    cases n with
    | zero => omega
    | succ n => omega
  have h1 : k / n < n := Nat.div_lt_of_lt_mul h
  have h2 : k % n < n := Nat.mod_lt _ h0
  have h3 : n * (k % n) + n ≤ n * n := by
    have := Nat.mul_le_mul_left n (show k % n + 1 ≤ n from h2)
    rw [Nat.mul_succ] at this
    exact this
  omega
theorem tOk_take {ws : List Str} {n k : Nat} (h : k < n * n) : tOk (ws.take (2 + n * n)) n k = tOk ws n k := by
  have := sq_idx h
  unfold tOk
  rw [List.getElem?_take, List.getElem?_take, if_pos (by omega), if_pos (by omega)]
theorem val_take {ws : List Str} {n k : Nat} (h : k < n * n) : valAt (ws.take (2 + n * n)) k = valAt ws k := by
  unfold valAt
  rw [List.getElem?_take, if_pos (by omega)]
theorem mat_take {ws : List Str} {n : Nat} : matOf (ws.take (2 + n * n)) n = matOf ws n := by
  unfold matOf
  refine List.map_congr_left fun i hi => ?_
  unfold rowOf
  refine List.map_congr_left fun j hj => val_take ?_
  have hi := List.mem_range.mp hi
  have hj := List.mem_range.mp hj
  have : (i + 1) * n ≤ n * n := Nat.mul_le_mul_right n hi
  rw [Nat.succ_mul] at this
  omega
theorem range_rows {α : Type} (f : Nat → α) (n : Nat) : ∀ m : Nat, ((List.range m).map fun i => (List.range n).map fun j => f (i * n + j)).flatten = (List.range (m * n)).map f
  | 0 => by simp
  | m + 1 => by
    rw [List.range_succ, List.map_append, List.flatten_append, range_rows f n m, Nat.succ_mul, List.range_add, List.map_append, List.map_map]
    simp
theorem twords_back {z0 : Str} {rest ws : List Str} {n : Nat} (e : ws = z0 :: ":" :: rest) (b : wiB z0 (.int 1) (.int 5) = true) (hn : nOf z0 = n) (hl : rest.length = n * n) (ok : ∀ k, k < n * n → tOk ws n k = true) : twords n (matOf ws n) = ws := by
  have e1 : (matOf ws n).flatMap (fun r => r.map zw) = (List.range (n * n)).map fun k => zw (valAt ws k) := by
    rw [← range_rows]
    unfold matOf rowOf
    rw [List.flatMap_def, List.map_map]
    congr 1
    refine List.map_congr_left fun i _ => ?_
    show ((List.range n).map fun j => valAt ws (i * n + j)).map zw = _
    rw [List.map_map]
    rfl
  have e2 : ((List.range (n * n)).map fun k => zw (valAt ws k)) = rest := by
    refine List.ext_getElem? fun k => ?_
    by_cases c : k < n * n
    · rw [List.getElem?_map, List.getElem?_range c]
      obtain ⟨x, hx, _, hz, okx, _⟩ := tOk_val (ok k c)
      have ex : ws[2 + k]? = rest[k]? := by
        rw [e, Nat.add_comm]
        rfl
      rw [ex] at hx
      rw [hx]
      show some (zw (valAt ws k)) = some x
      have ev : valAt ws k = MN.valL (TL.tl x) := by
        unfold valAt
        rw [ex, hx]
      rw [ev]
      exact congrArg some (MN.text_back okx)
    · rw [List.getElem?_eq_none (by simp; omega), List.getElem?_eq_none (by omega)]
  unfold twords
  rw [e1, e2, e, ← hn, wd_back (by decide) b]
theorem zw_val {ws : List Str} {n k : Nat} (h : tOk ws n k = true) : (zw (valAt ws k)).length ≤ 70 := by
  obtain ⟨x, hx, _, hz, okx, _⟩ := tOk_val h
  have ev : valAt ws k = MN.valL (TL.tl x) := by
    unfold valAt
    rw [hx]
  have := MN.text_back okx
  have h2 := (MN.int_ok okx).2
  unfold zw
  rw [ev, this]
  omega
theorem mat_big {ws : List Str} {n : Nat} (ok : ∀ k, k < n * n → tOk ws n k = true) : ∀ r ∈ matOf ws n, ∀ z ∈ r, z.natAbs < 2 ^ 210 ∧ (zw z).length ≤ 70 := by
  intro r hr z hz
  unfold matOf at hr
  obtain ⟨i, hi, rfl⟩ := List.mem_map.mp hr
  unfold rowOf at hz
  obtain ⟨j, hj, rfl⟩ := List.mem_map.mp hz
  have hi := List.mem_range.mp hi
  have hj := List.mem_range.mp hj
  have : (i + 1) * n ≤ n * n := Nat.mul_le_mul_right n hi
  rw [Nat.succ_mul] at this
  have o := ok (i * n + j) (by omega)
  obtain ⟨_, _, _, _, _, bb⟩ := tOk_val o
  exact ⟨bb, zw_val o⟩
theorem eqO_tabs (T : Txt P K mg A) {H : Hp} {x y : Addr} {n m : Nat} {M : Mt} {Q : VK} (hx : TabAt H x A.c_Table n M) (hy : TabAt H y A.c_Table m M) (k : Q (.bl true) H) : rEqO A.c_Table (sp_teq A.c_Table) (.ref x) (.ref y) H Q := by
  obtain ⟨dx, q, xs, d, h1, h2⟩ := id hx
  obtain ⟨dy, r, ys, d2, h3, h4⟩ := id hy
  unfold rEqO
  exact ⟨x, dx, _, rfl, h1, .inr (.inr ⟨dy, _, h3⟩), x, y, n, m, M, rfl, hx, hy, _, rfl, k⟩
theorem str_tab {H : Hp} {x : Addr} {n : Nat} {M : Mt} {Q : VK} (hx : TabAt H x A.c_Table n M) (hn : n ≤ 5) (sq : Sq n M) (hb : ∀ r ∈ M, ∀ z ∈ r, z.natAbs < 2 ^ 210 ∧ (zw z).length ≤ 70) (k : ∀ H', Same H H' → Q (.str (Txt.join " " (twords n M))) H') : rStrO A.c_Table (sp_tstr A.c_Table) [.ref x] H Q := by
  obtain ⟨dx, q, xs, d, h1, h2⟩ := id hx
  unfold rStrO
  exact ⟨x, dx, _, rfl, h1, x, n, M, rfl, hx, hn, sq, hb, fun H' s => ⟨_, rfl, k H' s⟩⟩
/-! ### what the law says of a table's text -/
def rTupOf (K : PySem.W.Frag) : List V → Hp → VK → Prop := fun xs H Q => ∃ p ys, xs = [V.ref p] ∧ ((SqL K H p ys ∧ ∀ l, H l = none → Q (.ref l) (upd H l (.tup ys))) ∨ (SqT K H p ys ∧ Q (.ref p) H))
def rIntS : List V → Hp → VK → Prop := fun xs H Q => ∃ a n, xs = [V.str a] ∧ PySem.intText? a = some n ∧ a.length ≤ 640 ∧ Q (V.int n) H
def sp_trt (A : Ad) : Sp := fun vs H Q _ => ∃ (a : Addr) (ws : List Str), vs = [.ref a] ∧ LIT H a ws ∧ ws ≠ [] ∧ Tabs (tabs A) H ∧ ∀ H', ExtN H H' → Tabs (tabs A) H' → Q (.bl true) H'
theorem G__law_table_right (T : Txt P K mg A) (TB : TabB base mg A.k__law_table_right A.t__law_table_right) (ne : NE A) : FnG P w K mg base CX0 15 A.a__law_table_right A.d__law_table_right P__law_table_right (sp_trt A) := by
  refine okGC T.F__law_table_right sc__law_table_right (fun vs H Q E h => ?_) (fun A0 outer s H vs Q E hr h => ?_)
  · obtain ⟨_, _, rfl, _⟩ := h
    rfl
  obtain ⟨a, ws, rfl, lit, nw, tb, k⟩ := h
  refine ⟨_, (pss_cons (ps_asg (pe_tup (pa_cons (pe_bm PySem.F.plainAttrs_str PySem.F.slot_str_join PySem.F.type_str_join mt_join pe_str (pa_cons (pv 0) pa_nil)) (pa_cons (pe_callG (G__law_table_stop T) (hr.mono (by decide)) rfl T.g__law_table_stop T.F__law_table_stop.kp T.b__law_table_stop .nil pass0 (pa_cons (pv 0) pa_nil)) pa_nil))) (pg_tup rfl (pgs_cons (pg_name (i := 1) sc__law_table_right.nd rfl (Or.inr rfl)) (pgs_cons (pg_name (i := 2) sc__law_table_right.nd rfl (Or.inl rfl)) pgs_nil))))
      (pss_cons (ps_if (PW.pt (pw_or (pt_cmpR op_isN (pv 2) pe_non (nomark _)) (pw_or1 (PW.pt (pw_and (pt_cmpR op_gt (pv 2) pe_int (nomark _)) (pw_and1 (pt_cmpR op_eq (pv 2) (pe_op op_add pe_int (pe_op op_mul (pe_callTy (T := "int") call_int_str (by rfl) T.n_int (by decide +kernel) (pa_cons (pe_ix (r := rIxL K) ix_list (pv 0) pe_int (fun _ _ => rfl)) pa_nil)) (pe_callTy (T := "int") call_int_str (by rfl) T.n_int (by decide +kernel) (pa_cons (pe_ix (r := rIxL K) ix_list (pv 0) pe_int (fun _ _ => rfl)) pa_nil)))) (nomark _)))))))) (pss_cons (ps_set (i := 3) sc__law_table_right.nd rfl (Or.inl rfl) (pe_op op_add pe_int (pe_op op_mul (pe_callTy (T := "int") call_int_str (by rfl) T.n_int (by decide +kernel) (pa_cons (pe_ix (r := rIxL K) ix_list (pv 0) pe_int (fun _ _ => rfl)) pa_nil)) (pe_callTy (T := "int") call_int_str (by rfl) T.n_int (by decide +kernel) (pa_cons (pe_ix (r := rIxL K) ix_list (pv 0) pe_int (fun _ _ => rfl)) pa_nil)))))
      (pss_one (ps_if (pt_not (pt_val (pe_callG (G__law_above T) (hr.mono (by decide)) rfl T.g__law_above T.F__law_above.kp T.b__law_above .nil pass0 (pa_cons (pe_slice (r := rSlL K) sl_list (pv 0) po_none (po_some (pe_op op_add (pv 3) pe_int))) pa_nil)))) (pss_one (ps_ret (pe_cmpR (op_inT (room65 hr)) (pe_lamG (T := tabs A) (t := fun E => (tSM A.c_Table (sp_tread A) E (tC (.ref A.c_Table)) (tCons (tVar 1) tNil))) rfl T.g__law_heard T.F__law_heard T.b__law_heard sc__law_heard rfl (Or.inl rfl) (heard_gives T) TB rfl (List.mem_cons_of_mem _ List.mem_cons_self) (tabs_u1 ne) (k := 12) (hr.mono (by decide)) (lamS_by (sc := defScope s__law_table_right) (by decide +kernel)) rfl (fun _ _ _ _ _ => rfl) (fun A1 outer1 s1 H1 E1 f1 c1 hr1 => (pe_smeth (E := E1) (pe_glob (v := .ref A.c_Table) rfl T.g_Table rfl) T.S_Table_read (G_Table_read T) (hr1.mono (by decide)) T.F_Table_read.kp T.b_Table_read (passes_call (takes_of rfl rfl rfl rfl) (fun _ _ _ _ h => h)) (pa_cons (pv 1) pa_nil)))) (pe_tup (pa_cons (pe_tup (pa_cons pe_int (pa_cons (pv 3) pa_nil))) (pa_cons (pe_tup (pa_cons pe_int (pa_cons (pe_ifExp (pt_cmpR op_isN (pv 2) pe_non (nomark _)) (pv 3) (pv 2)) pa_nil))) pa_nil))) (by rfl)))) pss_nil))) pss_nil)
      (pss_cons (ps_if (pt_cmpR op_notN (pv 2) pe_non (nomark _)) (pss_one (ps_ret (pe_cmpR (op_eqD hr.room.units) (pe_lamG (T := tabs A) (t := fun E => (tSM A.c_Table (sp_tread A) E (tC (.ref A.c_Table)) (tCons (tVar 1) tNil))) rfl T.g__law_heard T.F__law_heard T.b__law_heard sc__law_heard rfl (Or.inl rfl) (heard_gives T) TB rfl (List.mem_cons_of_mem _ List.mem_cons_self) (tabs_u1 ne) (k := 12) (hr.mono (by decide)) (lamS_by (sc := defScope s__law_table_right) (by decide +kernel)) rfl (fun _ _ _ _ _ => rfl) (fun A1 outer1 s1 H1 E1 f1 c1 hr1 => (pe_smeth (E := E1) (pe_glob (v := .ref A.c_Table) rfl T.g_Table rfl) T.S_Table_read (G_Table_read T) (hr1.mono (by decide)) T.F_Table_read.kp T.b_Table_read (passes_call (takes_of rfl rfl rfl rfl) (fun _ _ _ _ h => h)) (pa_cons (pv 1) pa_nil)))) (pe_tup (pa_cons pe_int (pa_cons (pv 2) pa_nil))) (nomark _)))) pss_nil)
      (pss_cons (ps_asg (pe_tup (pa_cons (pe_smethK0 (E := fun _ _ _ => False) (pe_glob (v := .ref A.c_Table) rfl T.g_Table rfl) T.S_Table_read (G_Table_read T) (hr.mono (by decide)) T.F_Table_read.kp (kb_Table_read_text T) (passes_call (W := fun _ _ _ _ => False) L2.takes0 (fun _ _ _ _ h => h)) (pk_cons (pv 1) pk_nil)) (pa_cons (pe_callTy (T := "int") call_int_str (by rfl) T.n_int (by decide +kernel) (pa_cons (pe_ix (r := rIxL K) ix_list (pv 0) pe_int (fun _ _ => rfl)) pa_nil)) pa_nil))) (pg_tup rfl (pgs_cons (pg_name (i := 4) sc__law_table_right.nd rfl (Or.inl rfl)) (pgs_cons (pg_name (i := 5) sc__law_table_right.nd rfl (Or.inr rfl)) pgs_nil))))
      (pss_cons (ps_set (i := 6) sc__law_table_right.nd rfl (Or.inl rfl) (pe_callTy (T := "tuple") call_tuple_of (by rfl) T.n_tuple (by decide +kernel) (pa_cons (pe_lc (own := [("row", 7)]) (g := gName 7) (tt := tYes) (te := tCB (rTupOf K) (tCons (tLc (iList K (tSl (rSlL K) (tVar 0) (tPart (tOp (rI0 fun i j => V.int (i + j)) (tC (.int 2)) (tOp (rI CMul fun i j => V.int (i * j)) (tVar 5) (tVar 7)))) (tPart (tOp (rI0 fun i j => V.int (i + j)) (tOp (rI0 fun i j => V.int (i + j)) (tC (.int 2)) (tOp (rI CMul fun i j => V.int (i * j)) (tVar 5) (tVar 7))) (tVar 5))))) (gName 8) tYes (tCB rIntS (tCons (tVar 8) tNil)) [8]) tNil)) rfl sc__law_table_right.nd (pi_range1 (by rfl) T.n_range (pa_cons (pv 5) pa_nil)) (blkOk_by (N := N__law_table_right) (sc := defScope s__law_table_right) (by decide +kernel)) (fun _ _ _ _ _ => (pg_name (i := 7) sc__law_table_right.nd rfl (Or.inl rfl))) (fun _ _ _ _ _ => pts_nil) (fun _ _ _ _ _ => (pe_callTy (T := "tuple") call_tuple_of (by rfl) T.n_tuple (by decide +kernel) (pa_cons (pe_lc (own := [("item", 8)]) (g := gName 8) (tt := tYes) rfl sc__law_table_right.nd (pi_list (pe_slice (r := rSlL K) sl_list (pv 0) (po_some (pe_op op_add pe_int (pe_op op_mul (pv 5) (pv 7)))) (po_some (pe_op op_add (pe_op op_add pe_int (pe_op op_mul (pv 5) (pv 7))) (pv 5))))) (blkOk_by (by rfl)) (fun _ _ _ _ _ => (pg_name (i := 8) sc__law_table_right.nd rfl (Or.inl rfl))) (fun _ _ _ _ _ => pts_nil) (fun _ _ _ _ _ => (pe_callTy (T := "int") call_int_str (by rfl) T.n_int (by decide +kernel) (pa_cons (pv 8) pa_nil)))) pa_nil)))) pa_nil)))
      (pss_cons (ps_if (PW.pt (pw_or (pt_cmpR op_ne (pe_callTy (T := "str") (call_strO T.O_s_Table T.O_f_Table (G_Table___str__ T) (hr.mono (by decide)) T.b_Table___str__ pass0) (by rfl) T.n_str (by decide +kernel) (pa_cons (pv 4) pa_nil)) (pv 1) (nomark _)) (pw_or1 (pt_cmpR op_ne (pe_callB (call_repr2 hr.gd hr.room.units) (by rfl) T.n_repr (by decide +kernel) (pa_cons (pe_lst (pa_cons (pe_fld (pv 4) rfl) (pa_cons (pe_fld (pv 4) rfl) pa_nil))) pa_nil)) (pe_callB (call_repr2 hr.gd hr.room.units) (by rfl) T.n_repr (by decide +kernel) (pa_cons (pe_lst (pa_cons (pv 5) (pa_cons (pv 6) pa_nil))) pa_nil)) (nomark _))))) (pss_one (ps_ret pe_bl)) pss_nil)
      (pss_one (ps_ret (pe_or (pe_cmpR op_gt (pe_callB (cr_max rfl) (by rfl) T.n_max (by decide +kernel) (pa_cons (pe_lc (own := [("item", 8)]) (g := gName 8) (tt := tYes) rfl sc__law_table_right.nd (pi_list (pv 0)) (blkOk_by (N := N__law_table_right) (sc := defScope s__law_table_right) (by decide +kernel)) (fun _ _ _ _ _ => (pg_name (i := 8) sc__law_table_right.nd rfl (Or.inl rfl))) (fun _ _ _ _ _ => pts_nil) (fun _ _ _ _ _ => (pe_callB call_len_str (by rfl) T.n_len (by decide +kernel) (pa_cons (pv 8) pa_nil)))) pa_nil)) pe_int (nomark _)) (pe_one (pe_cmpR (op_eqO T.O_eq_Table (G_Table___eq__ T) (hr.mono (by decide)) T.b_Table___eq__ pass0 T.O_l_Table T.O_t_Table) (pv 4) (pe_mkG (E := fun _ _ _ => False) T.M_Table (G_Table___init__ T) (hr.mono (by decide)) rfl T.g_Table T.b_Table___init__ (passes_call (W := fun _ _ _ _ => False) L2.takes0 (fun _ _ _ _ h => h)) (pa_cons (pv 6) pa_nil)) (nomark _)))))))))))), ?_⟩
  have wo : ∀ x ∈ ws, Wo x := fun x hx => (lit.2.2 x hx).1
  refine ⟨rfl, _, rfl, _, a, ws, rfl, rfl, .inl (SqL.of lit.1), join_ok lit.2.1 wo, ?_⟩
  refine ⟨_, rfl, a, ws, rfl, lit, nw, fun H1 s1 => ⟨by show 2 ≤ sizeLine; decide, fun q hq => ?_⟩⟩
  have s2 : Same H (upd H1 q (.tup [.str (Txt.join " " ws), optV (tstop ws)])) := s1.trans (Same.new (fun _ _ h => h) hq)
  have hq2 : (upd H1 q (.tup [.str (Txt.join " " ws), optV (tstop ws)])) q = some (.tup [.str (Txt.join " " ws), optV (tstop ws)]) := upd_same
  generalize upd H1 q (.tup [.str (Txt.join " " ws), optV (tstop ws)]) = H2 at s2 hq2
  refine ⟨q, _, rfl, SqT.of hq2, rfl, _, _, rfl, _, _, rfl, rfl, ?_⟩
  have lit2 := lit.keep s2
  have tb2 : Tabs (tabs A) H2 := tb.ext s2
  replace k : ∀ H', ExtN H2 H' → Tabs (tabs A) H' → Q (.bl true) H' := fun H' e t => k H' ((Same.extN s2).trans e) t
  clear hq2 hq s1 s2 tb
  cases hst : tstop ws with
  | some kk =>
    have rd : ∀ E H R, OutT A E H (.int (kk : Int)) → TRdEnd A E H R ws := fun E H R o => by
      unfold TRdEnd
      rw [hst]
      exact o
    have isn : ¬ (optV (some kk) = V.non) := fun z => by cases z
    have last : ∀ (σ : L2.St) (H3 : Hp), Same H2 H3 → σ[1]? = some (some (.str (Txt.join " " ws))) → σ[2]? = some (some (.int (kk : Int))) → (tOp (rEqD K) (tLam (tabs A) (THeard A) fun E => tSM A.c_Table (sp_tread A) E (tC (.ref A.c_Table)) (tCons (tVar 1) tNil)) (tTup (tCons (tC (.int 0)) (tCons (tVar 2) tNil)))) σ H3 Q := fun σ H3 s3 h1 h2 => by
      refine heard_tab h1 nw lit.2.1 wo rd (tb2.ext s3) fun t G1 G2 e1 s4 tb4 ht => ?_
      refine ⟨_, h2, by show 2 ≤ sizeLine; decide, fun p hp => ?_⟩
      have s5 : Same G2 (upd G2 p (.tup [.int 0, .int (kk : Int)])) := Same.new (fun _ _ h => h) hp
      exact eq_tup (s5 _ _ ht) upd_same (k _ (((Same.extN s3).trans e1).trans (Same.extN (s4.trans s5))) (tb4.ext s5))
    refine ⟨_, rfl, rfl, _, rfl, ite2 (fun q => absurd (of_decide_eq_true q) isn) (fun _ => ?_)⟩
    refine ⟨_, rfl, _, _, rfl, rfl, _, rfl, ?_⟩
    by_cases c2 : 2 < kk
    · refine ite2 (fun _ => ?_) (fun q => absurd (decide_eq_true (show (2 : Int) < (kk : Int) by omega)) q)
      obtain ⟨z0, rest, e, b, hok⟩ := tstop_some nw hst c2
      have h0 : ws[0]? = some z0 := by rw [e]; rfl
      obtain ⟨i1, i2⟩ := int_of (by decide) b
      obtain ⟨_, n1, n5, _⟩ := wiB_nat (by decide) b
      generalize hn : nOf z0 = n at i1 n1 n5 hok
      have nn : (n : Int) * (n : Int) = ((n * n : Nat) : Int) := (Int.natCast_mul n n).symm
      have n25 : n * n ≤ 25 := Nat.mul_le_mul (show n ≤ 5 by omega) (show n ≤ 5 by omega)
      refine ⟨_, rfl, _, rfl, ixW (i := 0) lit2 h0 ⟨_, _, rfl, i1, by omega, _, rfl, ixW (i := 0) lit2 h0 ⟨_, _, rfl, i1, by omega, _, _, rfl, rfl, .inl ⟨by omega, by omega⟩, _, _, rfl, rfl, rfl, _, rfl, ?_⟩⟩⟩
      by_cases ck : kk = 2 + n * n
      · refine ite2 (fun _ => ?_) (fun q => absurd (decide_eq_true ?_) q)
        rotate_left
        · show V.int (kk : Int) = V.int ((2 : Int) + (n : Int) * (n : Int))
          rw [nn, ck]
          rfl
        have ok := hok ck
        have lws : 2 + n * n ≤ ws.length := by
          have : 1 ≤ n * n := Nat.mul_pos (show 0 < n by omega) (show 0 < n by omega)
          have := tOk_len (ok (n * n - 1) (by omega))
          omega
        refine ⟨_, rfl, ixW (i := 0) lit2 h0 ⟨_, _, rfl, i1, by omega, _, rfl, ixW (i := 0) lit2 h0 ⟨_, _, rfl, i1, by omega, _, _, rfl, rfl, .inl ⟨by omega, by omega⟩, _, _, rfl, rfl, ?_⟩⟩⟩
        refine ⟨_, rfl, _, rfl, _, _, rfl, rfl, _, rfl, a, _, rfl, SqL.of lit2.1, fun p hp => ?_⟩
        dsimp only
        rw [nn, show ((1 : Int) + ((n * n : Nat) : Int)) + 1 = ((2 + n * n : Nat) : Int) by omega, cutV_take _ _ (by rw [List.length_map]; exact lws), ← List.map_take]
        have sA : Same H2 (upd H2 p (.lst ((ws.take (2 + n * n)).map V.str))) := Same.new (fun _ _ h => h) hp
        have g1 : (upd H2 p (.lst ((ws.take (2 + n * n)).map V.str))) p = some (.lst ((ws.take (2 + n * n)).map V.str)) := upd_same
        generalize upd H2 p (.lst ((ws.take (2 + n * n)).map V.str)) = H3 at sA g1
        refine ⟨p, ws.take (2 + n * n), n, z0, rfl, ⟨g1, by rw [List.length_take]; have := lit.2.1; omega, fun x hx => lit.2.2 x (List.mem_of_mem_take hx)⟩, by rw [List.getElem?_take, if_pos (by omega)]; exact h0, b, hn, by rw [List.length_take]; omega, fun k hk => by rw [tOk_take hk]; exact ok k hk, fun bb H4 s4 hb => ⟨_, rfl, ?_⟩⟩
        have S4 := sA.trans s4
        cases bb with
        | false =>
          refine iteT ?_
          refine heard_tab rfl nw lit.2.1 wo rd (tb2.ext S4) fun t G1 G2 e1 s4 tb4 ht => ?_
          refine ⟨_, rfl, by show 2 ≤ sizeLine; decide, fun p1 h1 => ⟨_, rfl, rfl, _, rfl, ite2 (fun q => absurd (of_decide_eq_true q) isn) (fun _ => ⟨_, rfl, by show 2 ≤ sizeLine; decide, fun p2 h2 => ⟨by show 2 ≤ sizeLine; decide, fun p3 h3 => ?_⟩⟩)⟩⟩
          have sB : Same G2 (upd G2 p1 (.tup [.int 0, .int ((1 : Int) + ((n * n : Nat) : Int))])) := Same.new (fun _ _ h => h) h1
          have sC : Same (upd G2 p1 (.tup [.int 0, .int ((1 : Int) + ((n * n : Nat) : Int))])) (upd (upd G2 p1 (.tup [.int 0, .int ((1 : Int) + ((n * n : Nat) : Int))])) p2 (.tup [.int 0, .int (kk : Int)])) := Same.new (fun _ _ h => h) h2
          have sD : Same (upd (upd G2 p1 (.tup [.int 0, .int ((1 : Int) + ((n * n : Nat) : Int))])) p2 (.tup [.int 0, .int (kk : Int)])) (upd (upd (upd G2 p1 (.tup [.int 0, .int ((1 : Int) + ((n * n : Nat) : Int))])) p2 (.tup [.int 0, .int (kk : Int)])) p3 (.tup [.ref p1, .ref p2])) := Same.new (fun _ _ h => h) h3
          have s5 := sB.trans (sC.trans sD)
          exact in_tup (r := [0, (kk : Int)]) (r1 := [0, (1 : Int) + ((n * n : Nat) : Int)]) (r2 := [0, (kk : Int)]) (s5 _ _ ht) (sD _ _ (sC _ _ upd_same)) (sD _ _ upd_same) upd_same (.inr rfl) (k _ (((Same.extN S4).trans e1).trans (Same.extN (s4.trans s5))) (tb4.ext s5))
        | true =>
          refine iteF ?_
          refine ⟨_, rfl, rfl, _, rfl, ?_⟩
          rw [decide_eq_false isn]
          exact iteT (last _ H4 S4 rfl rfl)
      · refine ite2 (fun q => absurd (of_decide_eq_true q) fun q => ck ?_) (fun _ => ?_)
        · have q : V.int (kk : Int) = V.int ((2 : Int) + (n : Int) * (n : Int)) := q
          have := V.int.inj q
          rw [nn] at this
          omega
        refine ⟨_, rfl, rfl, _, rfl, ?_⟩
        rw [decide_eq_false isn]
        exact iteT (last _ H2 (Same.refl _) rfl rfl)
    · refine ite2 (fun q => absurd (of_decide_eq_true q) (by omega)) (fun _ => ?_)
      refine iteF ?_
      refine ⟨_, rfl, rfl, _, rfl, ?_⟩
      rw [decide_eq_false isn]
      exact iteT (last _ H2 (Same.refl _) rfl rfl)
  | none =>
    obtain ⟨z0, rest, e, b, lr, ok⟩ := tstop_none nw hst
    have h0 : ws[0]? = some z0 := by rw [e]; rfl
    have hh : ws.headD "" = z0 := by rw [e]; rfl
    obtain ⟨i1, i2⟩ := int_of (by decide) b
    obtain ⟨_, n1, n5, _⟩ := wiB_nat (by decide) b
    generalize hn : nOf z0 = n at i1 n1 n5 ok lr
    have nn : (n : Int) * (n : Int) = ((n * n : Nat) : Int) := (Int.natCast_mul n n).symm
    have n25 : n * n ≤ 25 := Nat.mul_le_mul (show n ≤ 5 by omega) (show n ≤ 5 by omega)
    have lw : ws.length = 2 + n * n := by rw [e, ← lr]; simp; omega
    refine ⟨_, rfl, rfl, _, rfl, ite2 (fun _ => ?_) (fun q => absurd (decide_eq_true rfl) q)⟩
    refine ⟨_, rfl, ixW (i := 0) lit2 h0 ⟨_, _, rfl, i1, by omega, _, rfl, ixW (i := 0) lit2 h0 ⟨_, _, rfl, i1, by omega, _, _, rfl, rfl, .inl ⟨by omega, by omega⟩, _, _, rfl, rfl, ?_⟩⟩⟩
    refine ⟨_, rfl, _, rfl, _, _, rfl, rfl, _, rfl, a, _, rfl, SqL.of lit2.1, fun p hp => ?_⟩
    dsimp only
    rw [nn, show ((1 : Int) + ((n * n : Nat) : Int)) + 1 = ((2 + n * n : Nat) : Int) by omega, cutV_take _ _ (by rw [List.length_map]; omega), List.take_of_length_le (by rw [List.length_map]; omega)]
    have sA : Same H2 (upd H2 p (.lst (ws.map V.str))) := Same.new (fun _ _ h => h) hp
    have g1 : (upd H2 p (.lst (ws.map V.str))) p = some (.lst (ws.map V.str)) := upd_same
    generalize upd H2 p (.lst (ws.map V.str)) = H3 at sA g1
    refine ⟨p, ws, n, z0, rfl, ⟨g1, lit.2⟩, h0, b, hn, lw, ok, fun bb H4 s4 hb => ⟨_, rfl, ?_⟩⟩
    have S4 := sA.trans s4
    have lit4 := lit2.keep S4
    cases bb with
    | false =>
      have np : ¬ AllPos (matOf ws n) := fun q => by have := hb.mpr q; cases this
      have rd : ∀ E H R, OutT A E H (.int ((ws.length : Nat) - 1 : Int)) → TRdEnd A E H R ws := fun E H R o => by
        unfold TRdEnd
        rw [hst]
        dsimp only
        rw [hh, hn]
        exact ⟨fun q => absurd q np, fun _ => o⟩
      refine iteT ?_
      refine heard_tab rfl nw lit.2.1 wo rd (tb2.ext S4) fun t G1 G2 e1 s4 tb4 ht => ?_
      refine ⟨_, rfl, by show 2 ≤ sizeLine; decide, fun p1 h1 => ⟨_, rfl, rfl, _, rfl, ite2 (fun _ => ⟨_, rfl, by show 2 ≤ sizeLine; decide, fun p2 h2 => ⟨by show 2 ≤ sizeLine; decide, fun p3 h3 => ?_⟩⟩) (fun q => absurd (decide_eq_true rfl) q)⟩⟩
      have sB : Same G2 (upd G2 p1 (.tup [.int 0, .int ((1 : Int) + ((n * n : Nat) : Int))])) := Same.new (fun _ _ h => h) h1
      have sC : Same (upd G2 p1 (.tup [.int 0, .int ((1 : Int) + ((n * n : Nat) : Int))])) (upd (upd G2 p1 (.tup [.int 0, .int ((1 : Int) + ((n * n : Nat) : Int))])) p2 (.tup [.int 0, .int ((1 : Int) + ((n * n : Nat) : Int))])) := Same.new (fun _ _ h => h) h2
      have sD : Same (upd (upd G2 p1 (.tup [.int 0, .int ((1 : Int) + ((n * n : Nat) : Int))])) p2 (.tup [.int 0, .int ((1 : Int) + ((n * n : Nat) : Int))])) (upd (upd (upd G2 p1 (.tup [.int 0, .int ((1 : Int) + ((n * n : Nat) : Int))])) p2 (.tup [.int 0, .int ((1 : Int) + ((n * n : Nat) : Int))])) p3 (.tup [.ref p1, .ref p2])) := Same.new (fun _ _ h => h) h3
      have s5 := sB.trans (sC.trans sD)
      exact in_tup (r := [0, (ws.length : Int) - 1]) (r1 := [0, (1 : Int) + ((n * n : Nat) : Int)]) (r2 := [0, (1 : Int) + ((n * n : Nat) : Int)]) (s5 _ _ ht) (sD _ _ (sC _ _ upd_same)) (sD _ _ upd_same) upd_same (.inl (by rw [lw, show ((2 + n * n : Nat) : Int) - 1 = (1 : Int) + ((n * n : Nat) : Int) by omega])) (k _ (((Same.extN S4).trans e1).trans (Same.extN (s4.trans s5))) (tb4.ext s5))
    | true =>
      have ap : AllPos (matOf ws n) := hb.mp rfl
      have sq := matOf_sq ws n
      have mb := mat_big ok
      have mbt := mat_bt ok
      have sy := mat_sym ok
      have tw := twords_back e b hn lr ok
      refine iteF ?_
      refine ⟨_, rfl, rfl, _, rfl, ite2 (fun q => by cases q) (fun _ => ?_)⟩
      refine ⟨rfl, _, rfl, _, rfl, .inr ⟨ws, rfl, nw, wo, lit.2.1, ?_⟩⟩
      unfold TRdEnd
      rw [hst]
      dsimp only
      rw [hh, hn]
      refine ⟨fun _ y H5 s5 ty => ?_, fun q => absurd ap q⟩
      have S5 := S4.trans s5
      have lit5 := lit2.keep S5
      refine ⟨_, rfl, ixW (i := 0) lit5 h0 ⟨_, _, rfl, i1, by omega, ?_⟩⟩
      refine ⟨by show 2 ≤ sizeLine; decide, fun q hq => ?_⟩
      have sT : Same H5 (upd H5 q (.tup [.ref y, .int (n : Int)])) := Same.new (fun _ _ h => h) hq
      have gq : (upd H5 q (.tup [.ref y, .int (n : Int)])) q = some (.tup [.ref y, .int (n : Int)]) := upd_same
      generalize upd H5 q (.tup [.ref y, .int (n : Int)]) = H6 at sT gq
      refine ⟨q, _, rfl, SqT.of gq, rfl, _, _, rfl, _, _, rfl, rfl, ?_⟩
      have S6 := S5.trans sT
      have lit6 := lit2.keep S6
      have ty6 := ty.keep sT
      refine ⟨_, rfl, _, rfl, by omega, by omega, fun F hF => ?_⟩
      refine lc_range (lo := 0) (n := n) (fun i H' => Same H6 H' ∧ ∃ ys, H' F = some (.lst ys) ∧ Paired (RowT H') ys ((matOf ws n).take i)) ⟨Same.new (fun _ _ h => h) hF, [], upd_same, .nil⟩ ?_ ?_
      · rintro i H7 hi ⟨s7, ys, hys, hpy⟩
        rw [show (0 : Int) + (i : Int) = (i : Int) by omega]
        have ni : (n : Int) * (i : Int) = ((i * n : Nat) : Int) := by rw [Int.natCast_mul, Int.mul_comm]
        have bnd : (i + 1) * n ≤ n * n := Nat.mul_le_mul_right n hi
        rw [Nat.succ_mul] at bnd
        have lit7 := lit6.keep s7
        refine ⟨rfl, tYes_of (iteT ?_)⟩
        refine ⟨_, rfl, _, rfl, _, rfl, _, _, rfl, rfl, .inl ⟨by omega, by omega⟩, _, _, rfl, rfl, _, rfl, _, rfl, _, rfl, _, _, rfl, rfl, .inl ⟨by omega, by omega⟩, _, _, rfl, rfl, _, rfl, _, _, rfl, rfl, _, rfl, a, _, rfl, SqL.of lit7.1, fun p hp => ?_⟩
        dsimp only
        have l200 := lit.2.1
        have lm : (ws.map V.str).length = 2 + n * n := by rw [List.length_map, lw]
        have hcut : cutV (ws.map V.str) (some ((2 : Int) + (n : Int) * (i : Int))) (some ((2 : Int) + (n : Int) * (i : Int) + (n : Int))) = ((ws.drop (2 + i * n)).take n).map V.str := by
          rw [ni, show (2 : Int) + ((i * n : Nat) : Int) + (n : Int) = ((2 + i * n + n : Nat) : Int) by omega, show (2 : Int) + ((i * n : Nat) : Int) = ((2 + i * n : Nat) : Int) by omega, cutV_mid _ _ _ (by omega) (by omega), show 2 + i * n + n - (2 + i * n) = n by omega, List.map_take, List.map_drop]
        rw [hcut]
        have sA : Same H7 (upd H7 p (.lst (((ws.drop (2 + i * n)).take n).map V.str))) := Same.new (fun _ _ h => h) hp
        have g1 : (upd H7 p (.lst (((ws.drop (2 + i * n)).take n).map V.str))) p = some (.lst (((ws.drop (2 + i * n)).take n).map V.str)) := upd_same
        generalize upd H7 p (.lst (((ws.drop (2 + i * n)).take n).map V.str)) = H8 at sA g1
        have hys8 := sA _ _ hys
        have lus : ((ws.drop (2 + i * n)).take n).length = n := by rw [List.length_take, List.length_drop]; omega
        have ly := Paired.length hpy
        rw [List.length_take, sq.1] at ly
        refine ⟨p, rfl, ⟨_, SqL.of g1⟩, fun D hD => ?_⟩
        refine lc_list (K := K) (a := p) (xs := ((ws.drop (2 + i * n)).take n).map V.str) (fun j H' => Same H8 H' ∧ H' D = some (.lst (((rowOf ws n i).take j).map V.int))) ⟨Same.new (fun _ _ h => h) hD, upd_same⟩ (fun j H' _ q => SqL.of (q.1 _ _ g1)) ?_ ?_
        · rintro j x H' hx ⟨s8, hD8⟩
          rw [List.getElem?_map] at hx
          obtain ⟨x, hx1, rfl⟩ := Option.map_eq_some_iff.mp hx
          have jn : j < n := by have := (List.getElem?_eq_some_iff.mp hx1).1; omega
          rw [List.getElem?_take, if_pos jn, List.getElem?_drop] at hx1
          obtain ⟨x', hx', _, hv, _⟩ := tOk_val (ok (i * n + j) (by omega))
          rw [show 2 + (i * n + j) = 2 + i * n + j by omega, hx1] at hx'
          cases hx'
          obtain ⟨iv, il⟩ := int_val hv
          refine ⟨rfl, tYes_of (iteT ⟨_, rfl, _, _, rfl, iv, by omega, _, hD8, ?_, ?_, ?_⟩)⟩
          · rw [List.length_map, List.length_take, rowOf_len]
            exact small1000 (by omega)
          · intro c o hc
            rw [upd_ne (ne_of_none hc hD)]
            exact s8 _ _ hc
          · rw [upd_same, List.take_succ, rowOf_get jn]
            simp
        · rintro H9 ⟨s9, hD9⟩
          rw [List.length_map, lus, List.take_of_length_le (by rw [rowOf_len]; exact Nat.le_refl _)] at hD9
          have hys9 := s9 _ _ hys8
          have S9 := sA.trans s9
          refine ⟨D, _, rfl, .inl ⟨SqL.of hD9, fun t ht => ⟨ys, at_new hys9 ht, small1000 (by omega), ?_, ys ++ [.ref t], upd_same, ?_⟩⟩⟩
          · intro c o hc
            have h9 := S9 _ _ (s7 _ _ hc)
            rw [upd_ne (ne_of_none hc hF), upd_ne (ne_of_none h9 ht)]
            exact h9
          · have ntF : t ≠ F := fun e => by rw [e, hys9] at ht; cases ht
            rw [List.take_succ, matOf_get hi]
            refine paired_snoc ⟨t, rfl, by rw [upd_ne ntF]; exact upd_same⟩ (paired_imp (fun _ _ ⟨u, e, g⟩ => ⟨u, e, ?_⟩) hpy)
            have g9 := S9 _ _ g
            rw [upd_ne (fun e => by rw [e, hys9] at g9; cases g9), upd_ne (ne_of_none g9 ht)]
            exact g9
      · rintro H7 ⟨s7, ys, hys, hpy⟩
        rw [List.take_of_length_le (by rw [sq.1]; exact Nat.le_refl _)] at hpy
        refine ⟨F, ys, rfl, .inl ⟨SqL.of hys, fun t ht => ?_⟩⟩
        have sB : Same H7 (upd H7 t (.tup ys)) := Same.new (fun _ _ h => h) ht
        have ht8 : (upd H7 t (.tup ys)) t = some (.tup ys) := upd_same
        have pp8 : Paired (RowT (upd H7 t (.tup ys))) ys (matOf ws n) := paired_imp (fun _ _ ⟨u, e, g⟩ => ⟨u, e, sB _ _ g⟩) hpy
        have ty8 := ty6.keep (s7.trans sB)
        have S8 := S6.trans (s7.trans sB)
        generalize upd H7 t (.tup ys) = H8 at sB ht8 pp8 ty8 S8
        refine ⟨_, rfl, str_tab ty8 (by omega) sq mb fun H9 s9 => ⟨_, rfl, rfl, _, rfl, ?_⟩⟩
        rw [tw, decide_eq_true rfl]
        refine ite2 (fun q => by cases q) (fun _ => ?_)
        have S9 := S8.trans s9
        have ty9 := ty8.keep s9
        have ht9 := s9 _ _ ht8
        have pp9 : Paired (RowT H9) ys (matOf ws n) := paired_imp (fun _ _ ⟨u, e, g⟩ => ⟨u, e, s9 _ _ g⟩) pp8
        obtain ⟨dx, yq, zs, d, hy1, hy2, hy3⟩ := id ty9
        refine ⟨_, rfl, y, A.c_Table, dx, _, _, rfl, hy1, T.K_Table, T.N_Table_size, rfl, _, rfl, y, A.c_Table, dx, _, _, rfl, hy1, T.K_Table, T.N_Table_rows, rfl, by show 2 ≤ sizeLine; decide, fun l hl => ?_⟩
        have sC : Same H9 (upd H9 l (.lst [.int (n : Int), .ref yq])) := Same.new (fun _ _ h => h) hl
        have hl1 : (upd H9 l (.lst [.int (n : Int), .ref yq])) l = some (.lst [.int (n : Int), .ref yq]) := upd_same
        generalize upd H9 l (.lst [.int (n : Int), .ref yq]) = HA at sC hl1
        refine rep_tab hl1 (sC _ _ hy2) (paired_imp (fun _ _ ⟨u, e, g⟩ => ⟨u, e, sC _ _ g⟩) hy3) (by omega) sq mb ?_
        refine ⟨_, rfl, _, rfl, by show 2 ≤ sizeLine; decide, fun l2 hl2 => ?_⟩
        have sD : Same HA (upd HA l2 (.lst [.int (n : Int), .ref t])) := Same.new (fun _ _ h => h) hl2
        have hl3 : (upd HA l2 (.lst [.int (n : Int), .ref t])) l2 = some (.lst [.int (n : Int), .ref t]) := upd_same
        generalize upd HA l2 (.lst [.int (n : Int), .ref t]) = HB at sD hl3
        have sCD := sC.trans sD
        refine rep_tab hl3 (sCD _ _ ht9) (paired_imp (fun _ _ ⟨u, e, g⟩ => ⟨u, e, sCD _ _ g⟩) pp9) (by omega) sq mb ?_
        refine ⟨rfl, _, rfl, ?_⟩
        rw [decide_eq_true rfl]
        refine ite2 (fun q => by cases q) (fun _ => ?_)
        have SB := S9.trans sCD
        have litB := lit2.keep SB
        have tyB := ty9.keep sCD
        have htB := sCD _ _ ht9
        have ppB : Paired (RowT HB) ys (matOf ws n) := paired_imp (fun _ _ ⟨u, e, g⟩ => ⟨u, e, sCD _ _ g⟩) pp9
        refine ⟨_, rfl, a, rfl, ⟨_, SqL.of litB.1⟩, fun G hG => ?_⟩
        refine lc_list (K := K) (a := a) (xs := ws.map V.str) (fun j H' => Same HB H' ∧ H' G = some (.lst (((ws.take j).map fun x => (x.length : Int)).map V.int))) ⟨Same.new (fun _ _ h => h) hG, upd_same⟩ (fun j H' _ q => SqL.of (q.1 _ _ litB.1)) ?_ ?_
        · rintro j x H' hx ⟨sE, hGE⟩
          rw [List.getElem?_map] at hx
          obtain ⟨x, hx1, rfl⟩ := Option.map_eq_some_iff.mp hx
          have xl := (wo x (List.mem_of_getElem? hx1)).2
          have j2 := (List.getElem?_eq_some_iff.mp hx1).1
          have h5000 : (5000 : Nat) ≤ sizeLine := by decide
          refine ⟨rfl, tYes_of (iteT ⟨_, rfl, _, rfl, by omega, _, hGE, ?_, ?_, ?_⟩)⟩
          · rw [List.length_map, List.length_map, List.length_take]
            exact small1000 (by omega)
          · intro c o hc
            rw [upd_ne (ne_of_none hc hG)]
            exact sE _ _ hc
          · rw [upd_same, List.take_succ, hx1]
            simp
        · rintro HC ⟨sE, hGE⟩
          rw [List.length_map, List.take_of_length_le (Nat.le_refl _)] at hGE
          refine ⟨G, _, rfl, SqL.of hGE, by rw [List.length_map]; exact List.length_pos_iff.mpr nw, fun mx _ _ => ⟨_, _, rfl, rfl, _, rfl, ?_⟩⟩
          have SC := SB.trans sE
          refine ite2 (fun _ => k _ (Same.extN SC) (tb2.ext SC)) (fun _ => ?_)
          have htC := sE _ _ htB
          have ppC : Paired (RowT HC) ys (matOf ws n) := paired_imp (fun _ _ ⟨u, e, g⟩ => ⟨u, e, sE _ _ g⟩) ppB
          refine ⟨_, rfl, _, rfl, ?_⟩
          refine mk_tab (a := t) (fun x => rfl) (by omega) (by omega) ⟨ys, .inr htC, paired_imp (fun _ _ ⟨u, e, g⟩ => ⟨u, e, .inr g⟩) ppC⟩ sq mbt sy ap fun z HF sF tz => eqO_tabs T (tyB.keep (sE.trans sF)) tz ?_
          exact k _ (Same.extN (SC.trans sF)) (tb2.ext (SC.trans sF))
/-! ### the law -/
theorem heard_by {t : XK → TE} {σ : L2.St} {H : Hp} {Q : VK} {i : Int} (as : ∀ E H1 R, ExtN H H1 → OutT A E H1 (.int i) → t E σ H1 R) (tb : Tabs (tabs A) H)
    (k : ∀ t H1 H', ExtN H H1 → Same H1 H' → Tabs (tabs A) H' → H' t = some (.tup ([0, i].map V.int)) → Q (.ref t) H') : tLam (tabs A) (THeard A) t σ H Q := by
  refine ⟨tb, fun H1 e1 tb1 => ?_⟩
  unfold THeard
  intro R
  refine as _ H1 R e1 fun d H' hd s => ⟨d, .int i, rfl, rfl, hd, fun t H'' s2 ht => ?_⟩
  exact k t H1 H'' e1 (s.trans s2) (tb1.ext (s.trans s2)) ht
theorem no_extN {H H' : Hp} {v : V} (h : NoStr A H v) (e : ExtN H H') : NoStr A H' v := by
  rcases h with ⟨ok, ns⟩ | ⟨x, dx, fs, rfl, hx⟩
  · refine .inl ⟨?_, ns⟩
    cases v with
    | ref a =>
      rcases ok with ⟨xs, q⟩ | ⟨xs, q⟩ | ⟨kvs, q⟩
      · exact .inl ⟨xs, e _ _ q (fun _ z => by cases z)⟩
      · exact .inr (.inl ⟨xs, e _ _ q (fun _ z => by cases z)⟩)
      · exact .inr (.inr ⟨kvs, e _ _ q (fun _ z => by cases z)⟩)
    | _ => exact ok
  · exact .inr ⟨x, dx, fs, rfl, e _ _ hx (fun _ z => by cases z)⟩
theorem bg_tabs {H H' : Hp} {p c : Addr} {n : Nat} (b : Bg H p c n) (tb : Tabs (tabs A) H) (k : Kp p H H') : Tabs (tabs A) H' := by
  obtain ⟨_, ms, t1, l1, hp, _⟩ := b
  exact tabs_keep tb (kp_n k hp)
theorem kp_ext {H H' : Hp} {p : Addr} (k : Kp p H H') {a : Addr} {ws : List Str} {m : Nat} (h : LW H a ws m) (n : a ≠ p) : LW H' a ws m := ⟨k _ _ n h.1, h.2⟩
theorem LW.ext {H H' : Hp} (k : ExtN H H') {a : Addr} {ws : List Str} {m : Nat} (h : LW H a ws m) : LW H' a ws m := ⟨k _ _ h.1 (fun _ z => by cases z), h.2⟩
theorem LW.lit {H : Hp} {a : Addr} {ws : List Str} {m : Nat} (h : LW H a ws m) (hm : m ≤ 200) : LIT H a ws := ⟨h.1, Nat.le_trans h.2.2.1 hm, h.2.2.2⟩
theorem empty_good : GoodW ("" : Str) := good_of (by decide +kernel)
/-- joined and split again -/
theorem joined (ws : List Str) (g : ∀ x ∈ ws, GoodW x) (hl : ws.length ≤ 90) : ∃ us : List Str, Txt.join " " us = Txt.join " " ws ∧ us ≠ [] ∧ us.length ≤ 90 ∧ ∀ x ∈ us, GoodW x := by
  cases ws with
  | nil => exact ⟨[""], by decide +kernel, by simp, by decide, fun x hx => by rw [List.mem_singleton.mp hx]; exact empty_good⟩
  | cons w ws => exact ⟨w :: ws, rfl, by simp, hl, g⟩
theorem no_kp {H H' : Hp} {p : Addr} {v : V} (h : NoStr A H v) (n : ∀ a, v = .ref a → a ≠ p) (e : Kp p H H') : NoStr A H' v := by
  rcases h with ⟨ok, ns⟩ | ⟨x, dx, fs, rfl, hx⟩
  · exact .inl ⟨ok.mono fun a o ea h => e _ _ (n a ea) h, ns⟩
  · exact .inr ⟨x, dx, fs, rfl, e _ _ (n x rfl) hx⟩
theorem no_same {H H' : Hp} {v : V} (h : NoStr A H v) (s : Same H H') : NoStr A H' v := no_extN h (Same.extN s)
theorem eq_tups {H : Hp} {x y : Addr} {xs ys : List V} {M : Mt} {Q : VK} (hx : H x = some (.lst xs)) (hy : H y = some (.lst ys)) (px : Paired (RowT H) xs M) (py : Paired (RowT H) ys M) (k : Q (.bl true) H) : rEqD K (.ref x) (.ref y) H Q := by
  have sh : SeqAt.shaped (.list (dmt M)) = true := by
    have := depth_mt M
    unfold SeqAt.shaped
    simp only [PyData.canLay0, PyData.depth, lay_mt, Bool.true_and]
    exact decide_eq_true (by omega)
  refine ⟨.list (dmt M), .list (dmt M), .lst (SqL.of hx) (dp_mt px), .lst (SqL.of hy) (dp_mt py), sh, sh, ?_⟩
  rw [show PyData.eqv (.list (dmt M)) (.list (dmt M)) = true by simp only [PyData.eqv, eqv_mt]]
  exact k
theorem wo_of {ws : List Str} (h : ws.all goodB = true) : ∀ x ∈ ws, Wo x := fun x hx => (good_of (List.all_eq_true.mp h x hx)).1
theorem w_stop0 : wstop [""] = some 0 := by decide +kernel
theorem w_stop1 : wstop ["1", ":"] = none := by decide +kernel
theorem t_stop2 : tstop ["1", ":", "0"] = none := by decide +kernel
theorem w_one : nOf ((["1", ":"] : List Str).headD "") = 1 := by decide +kernel
theorem w_ends : endsOf ["1", ":"] = [] := by decide +kernel
theorem h_one : hang 1 [] = true := by decide +kernel
theorem t_low : ¬ AllPos (matOf ["1", ":", "0"] (nOf ((["1", ":", "0"] : List Str).headD ""))) := by
  unfold AllPos
  decide +kernel
theorem fl_nil {ps : MC.Pr} (h : [] = fl ps) : ps = [] := fl_inj (ps := ps) (qs := []) h.symm
theorem read_one {H : Hp} {Q : VK} (k : ∀ y H', Same H H' → WebAt H' y A.c_Web 1 [] → Q (.ref y) H') : sp_read A [.str "1 :"] H Q (fun _ _ _ => False) := by
  refine ⟨_, rfl, .inr ⟨["1", ":"], congrArg V.str (by decide +kernel), by simp, wo_of (by decide +kernel), by decide, ?_⟩⟩
  unfold RdEnd
  rw [w_stop1]
  intro ps hps
  rw [w_ends] at hps
  rw [w_one, fl_nil hps]
  exact ⟨fun _ => k, fun h => absurd h (by rw [h_one]; simp)⟩
def sp_law (A : Ad) (K : PySem.W.Frag) : Sp := fun vs H Q _ => ∃ (a : Addr) (ns : List Int), vs = [.ref a] ∧ SqL K H a (ns.map V.int) ∧ ns.length ≤ 63 ∧ Tabs (tabs A) H ∧ ∀ H', Q (.bl true) H'
theorem G_law (T : Txt P K mg A) (TB1 : TabB base mg A.k__law_web_right A.t__law_web_right) (TB2 : TabB base mg A.k__law_table_right A.t__law_table_right) (TB : TabB base mg A.k_law A.t_law) (ne : NE A) : FnG P w K mg base CX0 17 A.a_law A.d_law P_law (sp_law A K) := by
  refine okGC T.F_law sc_law (fun vs H Q E h => ?_) (fun A0 outer s H vs Q E hr h => ?_)
  · obtain ⟨a, ns, rfl, _⟩ := h
    rfl
  obtain ⟨a, ns, rfl, hS, hl, tb, k⟩ := h
  refine ⟨_, (pss_cons (ps_set (i := 1) sc_law.nd rfl (Or.inl rfl) (pe_callG (G__law_decanter T) (hr.mono (by decide)) rfl T.g__law_decanter T.F__law_decanter.kp T.b__law_decanter .nil pass0 (pa_cons (pv 0) pa_nil)))
      (pss_cons (ps_for PassesOwn.never rfl (pi_range1 (by rfl) T.n_range (pa_cons pe_int pa_nil)) (pg_name (i := 2) sc_law.nd rfl (Or.inl rfl)) (pss_cons (ps_par (i := 3) (j := 4) (by rfl) sc_law.nd rfl rfl (by decide) rfl rfl (pa_cons (pe_callG (G__law_web T) (hr.mono (by decide)) rfl T.g__law_web T.F__law_web.kp T.b__law_web .nil pass0 (pa_cons (pv 1) pa_nil)) (pa_cons (pe_callG (G__law_table T) (hr.mono (by decide)) rfl T.g__law_table T.F__law_table.kp T.b__law_table .nil pass0 (pa_cons (pv 1) pa_nil)) pa_nil)) (by rfl))
      (pss_cons (ps_if (PW.pt (pw_or (pt_not (pt_val (pe_callG (G__law_web_right T TB1 ne) (hr.mono (by decide)) rfl T.g__law_web_right T.F__law_web_right.kp T.b__law_web_right .nil pass0 (pa_cons (pv 3) pa_nil)))) (pw_or1 (pt_not (pt_val (pe_callG (G__law_table_right T TB2 ne) (hr.mono (by decide)) rfl T.g__law_table_right T.F__law_table_right.kp T.b__law_table_right .nil pass0 (pa_cons (pv 4) pa_nil))))))) (pss_one (ps_ret pe_bl)) pss_nil)
      (pss_one (ps_for PassesOwn.never rfl (pi_range1 (by rfl) T.n_range (pa_cons pe_int pa_nil)) (pg_name (i := 5) sc_law.nd rfl (Or.inl rfl)) (pss_cons (ps_par (i := 6) (j := 7) (by rfl) sc_law.nd rfl rfl (by decide) rfl rfl (pa_cons (pe_callG (G__law_bent T) (hr.mono (by decide)) rfl T.g__law_bent T.F__law_bent.kp T.b__law_bent .nil pass0 (pa_cons (pv 1) (pa_cons (pv 3) pa_nil))) (pa_cons (pe_callG (G__law_bent T) (hr.mono (by decide)) rfl T.g__law_bent T.F__law_bent.kp T.b__law_bent .nil pass0 (pa_cons (pv 1) (pa_cons (pv 4) pa_nil))) pa_nil)) (by rfl))
      (pss_one (ps_if (PW.pt (pw_or (pt_not (pt_val (pe_callG (G__law_web_right T TB1 ne) (hr.mono (by decide)) rfl T.g__law_web_right T.F__law_web_right.kp T.b__law_web_right .nil pass0 (pa_cons (pe_bm PySem.F.plainAttrs_str PySem.F.slot_str_split PySem.F.type_str_split mt_split (pe_bm PySem.F.plainAttrs_str PySem.F.slot_str_join PySem.F.type_str_join mt_join pe_str (pa_cons (pv 6) pa_nil)) (pa_cons pe_str pa_nil)) pa_nil)))) (pw_or1 (pt_not (pt_val (pe_callG (G__law_table_right T TB2 ne) (hr.mono (by decide)) rfl T.g__law_table_right T.F__law_table_right.kp T.b__law_table_right .nil pass0 (pa_cons (pe_bm PySem.F.plainAttrs_str PySem.F.slot_str_split PySem.F.type_str_split mt_split (pe_bm PySem.F.plainAttrs_str PySem.F.slot_str_join PySem.F.type_str_join mt_join pe_str (pa_cons (pv 7) pa_nil)) (pa_cons pe_str pa_nil)) pa_nil))))))) (pss_one (ps_ret pe_bl)) pss_nil))))))))
      (pss_cons (ps_set (i := 8) sc_law.nd rfl (Or.inr rfl) (pe_callG (G__law_one_of T) (hr.mono (by decide)) rfl T.g__law_one_of T.F__law_one_of.kp T.b__law_one_of .nil pass0 (pa_cons (pv 1) (pa_cons (pe_lst (pa_cons pe_non (pa_cons pe_int (pa_cons pe_bl (pa_cons (pe_lst (pa_cons pe_str (pa_cons pe_str pa_nil))) (pa_cons (pe_tup (pa_cons pe_str pa_nil)) (pa_cons pe_dnewK (pa_cons (pe_mkG (E := fun _ _ _ => False) T.M_Web (G_Web___init__ T) (hr.mono (by decide)) rfl T.g_Web T.b_Web___init__ (passes_call (W := fun _ _ _ _ => False) L2.takes0 (fun _ _ _ _ h => h)) (pa_cons pe_int (pa_cons (pe_lst pa_nil) pa_nil))) pa_nil)))))))) pa_nil))))
      (pss_cons (ps_set (i := 9) sc_law.nd rfl (Or.inl rfl) (pe_lst (pa_cons (pe_lamG (T := tabs A) (t := fun E => (tSM A.c_Web (sp_read A) E (tC (.ref A.c_Web)) (tCons (tVar 8) tNil))) rfl T.g__law_heard T.F__law_heard T.b__law_heard sc__law_heard rfl (Or.inl rfl) (heard_gives T) TB rfl (List.mem_cons_of_mem _ (List.mem_cons_of_mem _ List.mem_cons_self)) (tabs_u2 ne) (k := 12) (hr.mono (by decide)) (lamS_by (sc := defScope s_law) (by decide +kernel)) rfl (fun _ _ _ _ _ => rfl) (fun A1 outer1 s1 H1 E1 f1 c1 hr1 => (pe_smeth (E := E1) (pe_glob (v := .ref A.c_Web) rfl T.g_Web rfl) T.S_Web_read (G_Web_read T) (hr1.mono (by decide)) T.F_Web_read.kp T.b_Web_read (passes_call (takes_of rfl rfl rfl rfl) (fun _ _ _ _ h => h)) (pa_cons (pv 8) pa_nil)))) (pa_cons (pe_lamD (T := tabs A) (t := fun E => (tSM A.c_Table (sp_tread A) E (tC (.ref A.c_Table)) (tCons (tVar 8) tNil))) rfl T.g__law_heard T.F__law_heard T.b__law_heard sc__law_heard rfl (Or.inl rfl) (heard_gives T) TB rfl (List.mem_cons_of_mem _ (List.mem_cons_of_mem _ List.mem_cons_self)) (tabs_u2 ne) (k := 12) (hr.mono (by decide)) (lamD_by (N := N_law) (x := "x1") (sc := defScope s_law) (by decide +kernel)) rfl rfl rfl (fun _ _ _ _ _ _ _ _ => ⟨_, rfl, rfl⟩) (fun A1 outer1 s1 H1 E1 f1 c1 hr1 => (pe_smeth (E := E1) (pe_glob (v := .ref A.c_Table) rfl T.g_Table rfl) T.S_Table_read (G_Table_read T) (hr1.mono (by decide)) T.F_Table_read.kp T.b_Table_read (passes_call (takes_of rfl rfl rfl rfl) (fun _ _ _ _ h => h)) (pa_cons (pv 8) pa_nil)))) (pa_cons (pe_lamD (T := tabs A) (t := fun E => (tSM A.c_Web (sp_read A) E (tC (.ref A.c_Web)) (tCons (tC (.str "")) tNil))) rfl T.g__law_heard T.F__law_heard T.b__law_heard sc__law_heard rfl (Or.inl rfl) (heard_gives T) TB rfl (List.mem_cons_of_mem _ (List.mem_cons_of_mem _ List.mem_cons_self)) (tabs_u2 ne) (k := 12) (hr.mono (by decide)) (lamD_by (N := N_law) (x := "x2") (sc := defScope s_law) (by decide +kernel)) rfl rfl rfl (fun _ _ _ _ _ _ _ _ => ⟨_, rfl, rfl⟩) (fun A1 outer1 s1 H1 E1 f1 c1 hr1 => (pe_smeth (E := E1) (pe_glob (v := .ref A.c_Web) rfl T.g_Web rfl) T.S_Web_read (G_Web_read T) (hr1.mono (by decide)) T.F_Web_read.kp T.b_Web_read (passes_call (takes_of rfl rfl rfl rfl) (fun _ _ _ _ h => h)) (pa_cons pe_str pa_nil)))) (pa_cons (pe_lamD (T := tabs A) (t := fun E => (tSM A.c_Table (sp_tread A) E (tC (.ref A.c_Table)) (tCons (tC (.str "1 : 0")) tNil))) rfl T.g__law_heard T.F__law_heard T.b__law_heard sc__law_heard rfl (Or.inl rfl) (heard_gives T) TB rfl (List.mem_cons_of_mem _ (List.mem_cons_of_mem _ List.mem_cons_self)) (tabs_u2 ne) (k := 12) (hr.mono (by decide)) (lamD_by (N := N_law) (x := "x3") (sc := defScope s_law) (by decide +kernel)) rfl rfl rfl (fun _ _ _ _ _ _ _ _ => ⟨_, rfl, rfl⟩) (fun A1 outer1 s1 H1 E1 f1 c1 hr1 => (pe_smeth (E := E1) (pe_glob (v := .ref A.c_Table) rfl T.g_Table rfl) T.S_Table_read (G_Table_read T) (hr1.mono (by decide)) T.F_Table_read.kp T.b_Table_read (passes_call (takes_of rfl rfl rfl rfl) (fun _ _ _ _ h => h)) (pa_cons pe_str pa_nil)))) pa_nil))))))
      (pss_one (ps_ret (pe_and (pe_cmpR (op_eqD hr.room.units) (pv 9) (pe_lst (pa_cons (pe_tup (pa_cons pe_int (pa_cons pe_int pa_nil))) (pa_cons (pe_tup (pa_cons pe_int (pa_cons pe_int pa_nil))) (pa_cons (pe_tup (pa_cons pe_int (pa_cons pe_int pa_nil))) (pa_cons (pe_tup (pa_cons pe_int (pa_cons pe_int pa_nil))) pa_nil))))) (nomark _)) (pe_one (pe_cmpR (op_eqO T.O_eq_Web (G_Web___eq__ T) (hr.mono (by decide)) T.b_Web___eq__ pass0 T.O_l_Web T.O_t_Web) (pe_smeth (E := fun _ _ _ => False) (pe_glob (v := .ref A.c_Web) rfl T.g_Web rfl) T.S_Web_read (G_Web_read T) (hr.mono (by decide)) T.F_Web_read.kp T.b_Web_read (passes_call (W := fun _ _ _ _ => False) L2.takes0 (fun _ _ _ _ h => h)) (pa_cons pe_str pa_nil)) (pe_mkG (E := fun _ _ _ => False) T.M_Web (G_Web___init__ T) (hr.mono (by decide)) rfl T.g_Web T.b_Web___init__ (passes_call (W := fun _ _ _ _ => False) L2.takes0 (fun _ _ _ _ h => h)) (pa_cons pe_int (pa_cons (pe_lst pa_nil) pa_nil))) (nomark _)))))))))), ?_⟩
  refine ⟨_, rfl, a, ns, rfl, hS, hl, fun p c H1 s1 hp hc bg => ?_⟩
  have tb1 := tb.ext s1
  refine ⟨_, rfl, by decide, by decide, ?_⟩
  rw [show (4 : Int).toNat = 4 from rfl]
  refine for_range (lo := 0) (n := 4) (fun i σ' H' => (∃ u2 u3 u4 u5 u6 u7 : Option V, σ' = [some (.ref a), some (.ref p), u2, u3, u4, u5, u6, u7, none, none]) ∧ Bg H' p c (280 * i) ∧ Tabs (tabs A) H') ⟨⟨_, _, _, _, _, _, rfl⟩, bg, tb1⟩ ?_ ?_
  · rintro i σ' H2 hi ⟨⟨u2, u3, u4, u5, u6, u7, rfl⟩, bg2, tb2⟩
    have i4 : i < 4 := hi
    refine ⟨_, rfl, p, c, _, rfl, bg2, by omega, fun ai ws1 H3 kp3 bg3 lw1 n1 => ⟨_, rfl, p, c, _, rfl, bg3, by omega, fun ao ws2 H4 kp4 bg4 lw2 n2 => ⟨_, _, rfl, ?_⟩⟩⟩
    have tb4 := bg_tabs bg3 (bg_tabs bg2 tb2 kp3) kp4
    replace lw1 := kp_ext kp4 lw1 n1
    refine ⟨_, rfl, ai, ws1, rfl, lw1.lit (by decide), lw1.2.1, tb4, fun H5 e5 tb5 => ⟨_, rfl, ?_⟩⟩
    refine iteF ⟨_, rfl, ao, ws2, rfl, (lw2.ext e5).lit (by decide), lw2.2.1, tb5, fun H6 e6 tb6 => ⟨_, rfl, ?_⟩⟩
    have e46 := e5.trans e6
    have bg6 := bg_ext bg4 e46
    replace lw1 := lw1.ext e46
    replace lw2 := lw2.ext e46
    refine iteF ⟨_, rfl, by decide, by decide, ?_⟩
    rw [show (4 : Int).toNat = 4 from rfl]
    refine for_range (lo := 0) (n := 4) (fun j σ' H' => (∃ u5 u6 u7 : Option V, σ' = [some (.ref a), some (.ref p), some (.int ((0 : Int) + (i : Int))), some (.ref ai), some (.ref ao), u5, u6, u7, none, none]) ∧ Bg H' p c (280 * i + 200 + 20 * j) ∧ Tabs (tabs A) H' ∧ LW H' ai ws1 26 ∧ LW H' ao ws2 27) ⟨⟨_, _, _, rfl⟩, bg6, tb6, lw1, lw2⟩ ?_ ?_
    · clear bg6 tb6 lw1 lw2 bg4 tb4 e46 e5 e6 tb5 bg3 kp3 kp4 bg2 tb2
      rintro j σ' H7 hj ⟨⟨u5, u6, u7, rfl⟩, bg7, tb7, lw1, lw2⟩
      have j4 : j < 4 := hj
      refine ⟨_, rfl, _, rfl, p, c, _, ai, ws1, rfl, bg7, by omega, ⟨lw1.1, lw1.2.1, Nat.le_trans lw1.2.2.1 (by decide), lw1.2.2.2⟩, n1, fun b1 vs1 H8 kp8 bg8 hb1 nb1 lb1 gb1 => ?_⟩
      refine ⟨_, rfl, _, rfl, p, c, _, ao, ws2, rfl, bg8, by omega, kp_ext kp8 lw2 n2, n2, fun b2 vs2 H9 kp9 bg9 hb2 nb2 lb2 gb2 => ⟨_, _, rfl, ?_⟩⟩
      have tb9 := bg_tabs bg8 (bg_tabs bg7 tb7 kp8) kp9
      replace hb1 := kp9 _ _ nb1 hb1
      replace lw1 := kp_ext kp9 (kp_ext kp8 lw1 n1) n1
      replace lw2 := kp_ext kp9 (kp_ext kp8 lw2 n2) n2
      obtain ⟨us1, eu1, ne1, lu1, gu1⟩ := joined vs1 gb1 lb1
      obtain ⟨us2, eu2, ne2, lu2, gu2⟩ := joined vs2 gb2 lb2
      have sz : (1000 : Nat) ≤ sizeLine := by decide
      refine ⟨rfl, _, rfl, _, b1, vs1, rfl, rfl, .inl (SqL.of hb1), join_ok (by omega) fun x hx => (gb1 x hx).1, ?_⟩
      have hw1 : ∀ x ∈ us1, Wo x := fun x hx => (gu1 x hx).1
      have hw2 : ∀ x ∈ us2, Wo x := fun x hx => (gu2 x hx).1
      have sp1 : Txt.split (Txt.join " " vs1) " " = us1 := by rw [← eu1]; exact TL.split_join (s := 32) (S := []) (by rfl) (by decide +kernel) ne1 fun x hx => (hw1 x hx).1
      have sp2 : Txt.split (Txt.join " " vs2) " " = us2 := by rw [← eu2]; exact TL.split_join (s := 32) (S := []) (by rfl) (by decide +kernel) ne2 fun x hx => (hw2 x hx).1
      refine ⟨rfl, _, _, rfl, rfl, rfl, by rw [← eu1]; exact join_len (by omega) hw1, fun q1 hq1 => ?_⟩
      rw [sp1]
      have sA : Same H9 (upd H9 q1 (.lst (us1.map V.str))) := Same.new (fun _ _ h => h) hq1
      have g1 : (upd H9 q1 (.lst (us1.map V.str))) q1 = some (.lst (us1.map V.str)) := upd_same
      generalize upd H9 q1 (.lst (us1.map V.str)) = HA at sA g1
      refine ⟨q1, us1, rfl, ⟨g1, by omega, gu1⟩, ne1, tb9.ext sA, fun HB eB tbB => ⟨_, rfl, ?_⟩⟩
      have e9 : ExtN H9 HB := (Same.extN sA).trans eB
      refine iteF ?_
      refine ⟨rfl, _, rfl, _, b2, vs2, rfl, rfl, .inl (SqL.of (e9 _ _ hb2 (fun _ z => by cases z))), join_ok (by omega) fun x hx => (gb2 x hx).1, ?_⟩
      refine ⟨rfl, _, _, rfl, rfl, rfl, by rw [← eu2]; exact join_len (by omega) hw2, fun q2 hq2 => ?_⟩
      rw [sp2]
      have sB : Same HB (upd HB q2 (.lst (us2.map V.str))) := Same.new (fun _ _ h => h) hq2
      have g2 : (upd HB q2 (.lst (us2.map V.str))) q2 = some (.lst (us2.map V.str)) := upd_same
      generalize upd HB q2 (.lst (us2.map V.str)) = HC at sB g2
      refine ⟨q2, us2, rfl, ⟨g2, by omega, gu2⟩, ne2, tbB.ext sB, fun HD eD tbD => ⟨_, rfl, ?_⟩⟩
      have e10 : ExtN H9 HD := e9.trans ((Same.extN sB).trans eD)
      exact iteF ⟨⟨_, _, _, rfl⟩, (bg_ext bg9 e10).le (by omega), tbD, lw1.ext e10, lw2.ext e10⟩
    · rintro σ' H7 ⟨⟨u5, u6, u7, rfl⟩, bg7, tb7, _, _⟩
      exact ⟨⟨_, _, _, _, _, _, rfl⟩, bg7.le (by omega), tb7⟩
  · rintro σ' H2 ⟨⟨u2, u3, u4, u5, u6, u7, rfl⟩, bg2, tb2⟩
    have bg2 := bg2.le (m := 2000) (by omega)
    refine ⟨_, rfl, ?_⟩
    refine ⟨by show 2 ≤ sizeLine; decide, fun l1 h1 => ⟨by show 1 ≤ sizeLine; decide, fun t1 h2 => fun d1 h3 => ?_⟩⟩
    have s1 : Same H2 (upd H2 l1 (.lst [.str "1", .str ":"])) := Same.new (fun _ _ h => h) h1
    have s2 : Same (upd H2 l1 (.lst [.str "1", .str ":"])) (upd (upd H2 l1 (.lst [.str "1", .str ":"])) t1 (.tup [.str "1 :"])) := Same.new (fun _ _ h => h) h2
    have s3 : Same (upd (upd H2 l1 (.lst [.str "1", .str ":"])) t1 (.tup [.str "1 :"])) (upd (upd (upd H2 l1 (.lst [.str "1", .str ":"])) t1 (.tup [.str "1 :"])) d1 (.dK [])) := Same.new (fun _ _ h => h) h3
    have g1 := s3 _ _ (s2 _ _ (upd_same (H := H2) (a := l1) (o := .lst [.str "1", .str ":"])))
    have g2 := s3 _ _ (upd_same (H := upd H2 l1 (.lst [.str "1", .str ":"])) (a := t1) (o := .tup [.str "1 :"]))
    have g3 : (upd (upd (upd H2 l1 (.lst [.str "1", .str ":"])) t1 (.tup [.str "1 :"])) d1 (.dK [])) d1 = some (.dK []) := upd_same
    have S3 := s1.trans (s2.trans s3)
    generalize upd (upd (upd H2 l1 (.lst [.str "1", .str ":"])) t1 (.tup [.str "1 :"])) d1 (.dK []) = H3 at g1 g2 g3 S3
    refine ⟨by show 0 ≤ sizeLine; decide, fun l2 h4 => ?_⟩
    have s4 : Same H3 (upd H3 l2 (.lst [])) := Same.new (fun _ _ h => h) h4
    have g4 : (upd H3 l2 (.lst [])) l2 = some (.lst []) := upd_same
    generalize upd H3 l2 (.lst []) = H4 at s4 g4
    refine mk_web (a := l2) (m := 1) (ps := []) (fun x => rfl) (by decide) (by decide) (by decide) ⟨[], .inl g4, .nil⟩ (fun p hp => by cases hp) h_one fun y H5 s5 wy => ?_
    refine ⟨by show 7 ≤ sizeLine; decide, fun q hq => ?_⟩
    have s6 : Same H5 (upd H5 q (.lst [.non, .int 5, .bl true, .ref l1, .ref t1, .ref d1, .ref y])) := Same.new (fun _ _ h => h) hq
    have g6 : (upd H5 q (.lst [.non, .int 5, .bl true, .ref l1, .ref t1, .ref d1, .ref y])) q = some (.lst [.non, .int 5, .bl true, .ref l1, .ref t1, .ref d1, .ref y]) := upd_same
    generalize upd H5 q (.lst [.non, .int 5, .bl true, .ref l1, .ref t1, .ref d1, .ref y]) = H6 at s6 g6
    have S36 := s4.trans (s5.trans s6)
    have S26 := S3.trans S36
    have bg6 := bg2.keep S26
    have tb6 := tb2.ext S26
    have wy6 := wy.keep s6
    have hp6 : ∃ u v, H6 p = some (.lst [.ref c, .int u, .int v]) := by
      obtain ⟨_, ms, t9, l9, e9, _⟩ := bg6
      exact ⟨_, _, e9⟩
    obtain ⟨pu, pv', hp6⟩ := hp6
    refine ⟨p, c, q, 2000, _, rfl, bg6, by decide, g6, (fun e => by rw [e, hp6] at g6; cases g6), by show 1 ≤ 7; decide, by show 7 ≤ 1000; decide, fun v H7 hv kp7 bg7 => ?_⟩
    have nv : NoStr A H7 v := by
      obtain ⟨dx, yq, zs, y1, y2, y3⟩ := wy6
      simp only [List.mem_cons, List.not_mem_nil, or_false] at hv
      rcases hv with rfl | rfl | rfl | rfl | rfl | rfl | rfl
      · exact .inl ⟨trivial, fun _ z => by cases z⟩
      · exact .inl ⟨trivial, fun _ z => by cases z⟩
      · exact .inl ⟨trivial, fun _ z => by cases z⟩
      · refine no_kp (.inl ⟨.inl ⟨_, S36 _ _ g1⟩, fun _ z => by cases z⟩) (fun a e z => ?_) kp7
        cases e
        have := S36 _ _ g1
        rw [z, hp6] at this
        cases this
      · refine no_kp (.inl ⟨.inr (.inl ⟨_, S36 _ _ g2⟩), fun _ z => by cases z⟩) (fun a e z => ?_) kp7
        cases e
        have := S36 _ _ g2
        rw [z, hp6] at this
        cases this
      · refine no_kp (.inl ⟨.inr (.inr ⟨_, S36 _ _ g3⟩), fun _ z => by cases z⟩) (fun a e z => ?_) kp7
        cases e
        have := S36 _ _ g3
        rw [z, hp6] at this
        cases this
      · refine no_kp (.inr ⟨y, dx, _, rfl, y1⟩) (fun a e z => ?_) kp7
        cases e
        rw [z, hp6] at y1
        cases y1
    have tb7 := bg_tabs bg6 tb6 kp7
    clear wy6 wy g1 g2 g3 g4 g6 S36 S26 S3 s1 s2 s3 s4 s5 s6 hv kp7 bg7 bg6 tb6 hp6
    refine heard_by (i := 0) (fun E H1 R e1 o => ⟨rfl, _, rfl, _, rfl, .inl ⟨no_extN nv e1, o⟩⟩) tb7 fun a1 K1 K2 e1 z1 tb8 ht1 => ?_
    have f1 : ExtN H7 K2 := e1.trans (Same.extN z1)
    refine heard_by (i := 0) (fun E H1 R e2 o => ⟨rfl, _, rfl, _, rfl, .inl ⟨no_extN nv (f1.trans e2), o⟩⟩) tb8 fun a2 K3 K4 e2 z2 tb9 ht2 => ?_
    have f2 : ExtN K2 K4 := e2.trans (Same.extN z2)
    refine heard_by (i := 0) (fun E H1 R e3 o => ⟨rfl, _, rfl, .inr ⟨[""], congrArg V.str (by decide +kernel), by simp, wo_of (by decide +kernel), by decide, ?_⟩⟩) tb9 fun a3 K5 K6 e3 z3 tb10 ht3 => ?_
    · unfold RdEnd
      rw [w_stop0]
      exact o
    have f3 : ExtN K4 K6 := e3.trans (Same.extN z3)
    refine heard_by (i := 2) (fun E H1 R e3 o => ⟨rfl, _, rfl, .inr ⟨["1", ":", "0"], congrArg V.str (by decide +kernel), by simp, wo_of (by decide +kernel), by decide, ?_⟩⟩) tb10 fun a4 K7 K8 e4 z4 tb11 ht4 => ?_
    · unfold TRdEnd
      rw [t_stop2]
      exact ⟨fun h => absurd h t_low, fun _ => o⟩
    have f4 : ExtN K6 K8 := e4.trans (Same.extN z4)
    refine ⟨by show 4 ≤ sizeLine; decide, fun hd hhd => ?_⟩
    have f14 := (f2.trans f3).trans f4
    have f24 := f3.trans f4
    have r1 := f14 _ _ ht1 (fun _ z => by cases z)
    have r2 := f24 _ _ ht2 (fun _ z => by cases z)
    have r3 := f4 _ _ ht3 (fun _ z => by cases z)
    have sA : Same K8 (upd K8 hd (.lst [.ref a1, .ref a2, .ref a3, .ref a4])) := Same.new (fun _ _ h => h) hhd
    have gA : (upd K8 hd (.lst [.ref a1, .ref a2, .ref a3, .ref a4])) hd = some (.lst [.ref a1, .ref a2, .ref a3, .ref a4]) := upd_same
    have rows : Paired (RowT (upd K8 hd (.lst [.ref a1, .ref a2, .ref a3, .ref a4]))) [.ref a1, .ref a2, .ref a3, .ref a4] [[0, 0], [0, 0], [0, 0], [0, 2]] := .cons ⟨a1, rfl, sA _ _ r1⟩ (.cons ⟨a2, rfl, sA _ _ r2⟩ (.cons ⟨a3, rfl, sA _ _ r3⟩ (.cons ⟨a4, rfl, sA _ _ ht4⟩ .nil)))
    generalize upd K8 hd (.lst [.ref a1, .ref a2, .ref a3, .ref a4]) = KA at sA gA rows
    refine ⟨_, rfl, by show 2 ≤ sizeLine; decide, fun c1 m1 => ⟨by show 2 ≤ sizeLine; decide, fun c2 m2 => ⟨by show 2 ≤ sizeLine; decide, fun c3 m3 => ⟨by show 2 ≤ sizeLine; decide, fun c4 m4 => ⟨by show 4 ≤ sizeLine; decide, fun c5 m5 => ?_⟩⟩⟩⟩⟩
    have k1 : Same KA (upd KA c1 (.tup [.int 0, .int 0])) := Same.new (fun _ _ h => h) m1
    have k1' : (upd KA c1 (.tup [.int 0, .int 0])) c1 = some (.tup [.int 0, .int 0]) := upd_same
    generalize upd KA c1 (.tup [.int 0, .int 0]) = KB at k1 k1' m2 m3 m4 m5
    have k2 : Same KB (upd KB c2 (.tup [.int 0, .int 0])) := Same.new (fun _ _ h => h) m2
    have k2' : (upd KB c2 (.tup [.int 0, .int 0])) c2 = some (.tup [.int 0, .int 0]) := upd_same
    generalize upd KB c2 (.tup [.int 0, .int 0]) = KC at k2 k2' m3 m4 m5
    have k3 : Same KC (upd KC c3 (.tup [.int 0, .int 0])) := Same.new (fun _ _ h => h) m3
    have k3' : (upd KC c3 (.tup [.int 0, .int 0])) c3 = some (.tup [.int 0, .int 0]) := upd_same
    generalize upd KC c3 (.tup [.int 0, .int 0]) = KD at k3 k3' m4 m5
    have k4 : Same KD (upd KD c4 (.tup [.int 0, .int 2])) := Same.new (fun _ _ h => h) m4
    have k4' : (upd KD c4 (.tup [.int 0, .int 2])) c4 = some (.tup [.int 0, .int 2]) := upd_same
    generalize upd KD c4 (.tup [.int 0, .int 2]) = KE at k4 k4' m5
    have k5 : Same KE (upd KE c5 (.lst [.ref c1, .ref c2, .ref c3, .ref c4])) := Same.new (fun _ _ h => h) m5
    have sAll := k1.trans (k2.trans (k3.trans (k4.trans k5)))
    refine eq_tups (sAll _ _ gA) upd_same (paired_imp (fun _ _ ⟨u, e, g⟩ => ⟨u, e, sAll _ _ g⟩) rows) (.cons ⟨c1, rfl, k5 _ _ (k4 _ _ (k3 _ _ (k2 _ _ k1')))⟩ (.cons ⟨c2, rfl, k5 _ _ (k4 _ _ (k3 _ _ k2'))⟩ (.cons ⟨c3, rfl, k5 _ _ (k4 _ _ k3')⟩ (.cons ⟨c4, rfl, k5 _ _ k4'⟩ .nil)))) ⟨_, rfl, iteT ?_⟩
    refine ⟨rfl, read_one fun y1 L1 _ w1 => ⟨by show 0 ≤ sizeLine; decide, fun l3 h5 => ?_⟩⟩
    have s7 : Same L1 (upd L1 l3 (.lst [])) := Same.new (fun _ _ h => h) h5
    refine mk_web (a := l3) (m := 1) (ps := []) (fun x => rfl) (by decide) (by decide) (by decide) ⟨[], .inl upd_same, .nil⟩ (fun p hp => by cases hp) h_one fun y2 L2' s8 w2 => eqO_webs T (w1.keep (s7.trans s8)) w2 ?_
    exact k _
end
theorem all_mk {q : Program} {l : PySem.W.OpenLaw} {w : World} {K : PySem.W.Frag} {h : Heap} {mg : Str → Option Value} {fa : Addr} (X : K.In h) (GN : h.Ns mainGlobals mg) (hfa : mg "law" = some (.ref fa)) (TO : TabOf q K h)
    {f0 f1 f2 f3 f4 f5 f6 f7 f8 f9 f10 f11 f12 f13 f14 f15 f16 f17 f18 f19 f20 f21 f22 f23 f24 f25 f26 f27 f28 f29 f30 f31 f32 f33 f34 f35 f36 f37 f38 : Addr} {od0 an0 od1 an1 od2 an2 od3 an3 od4 an4 od5 an5 od6 an6 od7 an7 od8 an8 od9 an9 od10 an10 od11 an11 od12 an12 od13 an13 od14 an14 od15 an15 od16 an16 od17 an17 od18 an18 od19 an19 od20 an20 od21 an21 od22 an22 od23 an23 od24 an24 od25 an25 od26 an26 od27 an27 od28 an28 od29 an29 od30 an30 od31 an31 od32 an32 od33 an33 od34 an34 od35 an35 od36 an36 od37 an37 od38 an38 : Option Addr} {sl0 sl1 sl2 sl3 sl4 sl5 sl6 sl7 sl8 sl9 sl10 sl11 sl12 sl13 sl14 sl15 sl16 sl17 sl18 sl19 sl20 sl21 sl22 sl23 sl24 sl25 sl26 sl27 sl28 sl29 sl30 sl31 sl32 sl33 sl34 sl35 sl36 sl37 sl38 : Array (Option Value)} {oc0 kV0 dc0 pm0 ct0 cd0 oc1 kV1 dc1 pm1 ct1 cd1 oc2 kV2 dc2 pm2 ct2 cd2 oc3 kV3 dc3 pm3 ct3 cd3 oc4 kV4 dc4 pm4 ct4 cd4 oc5 kV5 dc5 pm5 ct5 cd5 oc6 kV6 dc6 pm6 ct6 cd6 oc7 kV7 dc7 pm7 ct7 cd7 oc8 kV8 dc8 pm8 ct8 cd8 oc9 kV9 dc9 pm9 ct9 cd9 oc10 kV10 dc10 pm10 ct10 cd10 oc11 kV11 dc11 pm11 ct11 cd11 oc12 kV12 dc12 pm12 ct12 cd12 oc13 kV13 dc13 pm13 ct13 cd13 oc14 kV14 dc14 pm14 ct14 cd14 oc15 kV15 dc15 pm15 ct15 cd15 oc16 kV16 dc16 pm16 ct16 cd16 oc17 kV17 dc17 pm17 ct17 cd17 oc18 kV18 dc18 pm18 ct18 cd18 oc19 kV19 dc19 pm19 ct19 cd19 oc20 kV20 dc20 pm20 ct20 cd20 oc21 kV21 dc21 pm21 ct21 cd21 oc22 kV22 dc22 pm22 ct22 cd22 oc23 kV23 dc23 pm23 ct23 cd23 oc24 kV24 dc24 pm24 ct24 cd24 oc25 kV25 dc25 pm25 ct25 cd25 oc26 kV26 dc26 pm26 ct26 cd26 oc27 kV27 dc27 pm27 ct27 cd27 oc28 kV28 dc28 pm28 ct28 cd28 oc29 kV29 dc29 pm29 ct29 cd29 oc30 kV30 dc30 pm30 ct30 cd30 oc31 kV31 dc31 pm31 ct31 cd31 oc32 kV32 dc32 pm32 ct32 cd32 oc33 kV33 dc33 pm33 ct33 cd33 oc34 kV34 dc34 pm34 ct34 cd34 oc35 kV35 dc35 pm35 ct35 cd35 oc36 kV36 dc36 pm36 ct36 oc37 kV37 dc37 pm37 ct37 oc38 kV38 dc38 pm38 ct38 : Value}
    {kk36 kp36 : Addr} {ko36 : Value} {kod36 : Option Addr} {kvs36 : Array Value} {ksl36 : Array (Option Value)} {ke36 : DefRec}
    {kk37 kp37 : Addr} {ko37 : Value} {kod37 : Option Addr} {kvs37 : Array Value} {ksl37 : Array (Option Value)} {ke37 : DefRec}
    {kk38 kp38 : Addr} {ko38 : Value} {kod38 : Option Addr} {kvs38 : Array Value} {ksl38 : Array (Option Value)} {ke38 : DefRec}
    {u0 u1 u2 u3 u4 u5 u6 u7 : Addr} {uod0 uan0 uod1 uan1 uod2 uan2 uod3 uan3 uod4 uan4 uod5 uan5 uod6 uan6 uod7 uan7 : Option Addr} {usl0 usl1 usl2 usl3 usl4 usl5 usl6 usl7 : Array (Option Value)} {uoc0 ukV0 udc0 upm0 ucd0 uct0 uoc1 ukV1 udc1 upm1 ucd1 uct1 uoc2 ukV2 udc2 upm2 ucd2 uct2 uoc3 ukV3 udc3 upm3 ucd3 uct3 uoc4 ukV4 udc4 upm4 ucd4 uct4 uoc5 ukV5 udc5 upm5 ucd5 uct5 uoc6 ukV6 udc6 upm6 ucd6 uct6 uoc7 ukV7 udc7 upm7 ucd7 uct7 : Value}
    {CO0 pR0 : Addr} {oq0 : Str} {oN0 : Addr} {obs0 osb0 : List Value} {ohd0 : Bool} {osn0 : List Str} {oab0 : Bool} {oco0 : Option Bool} {odd0 : Option Addr} {oma0 omb0 omc0 omd0 ome0 : Option Value} {oid0 : String} {rest0 : List Value}
    {CO1 pR1 : Addr} {oq1 : Str} {oN1 : Addr} {obs1 osb1 : List Value} {ohd1 : Bool} {osn1 : List Str} {oab1 : Bool} {oco1 : Option Bool} {odd1 : Option Addr} {oma1 omb1 omc1 omd1 ome1 : Option Value} {oid1 : String} {rest1 : List Value}
    {C0 : Addr} {q_0 : Str} {N0 : Addr} {bs0 sb0 : List Value} {sn0 : List Str} {ab0 : Bool} {co0 : Option Bool} {dd0 : Option Addr} {m0a m0b m0c m0d m0e : Option Value}
    {C1 : Addr} {q_1 : Str} {N1 : Addr} {bs1 sb1 : List Value} {sn1 : List Str} {ab1 : Bool} {co1 : Option Bool} {dd1 : Option Addr} {m1a m1b m1c m1d m1e : Option Value}
    {g1 : Addr} {goc1 gkV1 gdc1 gpm1 gcd1 gct1 : Value} {god1 gan1 : Option Addr} {gsl1 : Array (Option Value)}
    {C2 : Addr} {q_2 : Str} {N2 : Addr} {bs2 sb2 : List Value} {sn2 : List Str} {ab2 : Bool} {co2 : Option Bool} {dd2 : Option Addr} {m2a m2b m2c m2d m2e : Option Value}
    {g2 : Addr} {goc2 gkV2 gdc2 gpm2 gcd2 gct2 : Value} {god2 gan2 : Option Addr} {gsl2 : Array (Option Value)}
    {C3 : Addr} {q_3 : Str} {N3 : Addr} {bs3 sb3 : List Value} {sn3 : List Str} {ab3 : Bool} {co3 : Option Bool} {dd3 : Option Addr} {m3a m3b m3c m3d m3e : Option Value}
    {g3 : Addr} {goc3 gkV3 gdc3 gpm3 gcd3 gct3 : Value} {god3 gan3 : Option Addr} {gsl3 : Array (Option Value)}
    {C4 : Addr} {q_4 : Str} {N4 : Addr} {bs4 sb4 : List Value} {sn4 : List Str} {ab4 : Bool} {co4 : Option Bool} {dd4 : Option Addr} {m4a m4b m4c m4d m4e : Option Value}
    {g4 : Addr} {goc4 gkV4 gdc4 gpm4 gcd4 gct4 : Value} {god4 gan4 : Option Addr} {gsl4 : Array (Option Value)}
    {tk_MOST_DIGITS tk_MOST_PLACES tk_MOST_TIES tk_MOST_ROWS : Tok}
    (a0 : PySem.W.nsIn K mainGlobals "is_integer" = some (some (.ref f0)))
    (l0 : K.lookup f0 = some ⟨oc0, od0, .func (PySem.W.fnOf "is_integer" "is_integer" (defArgs s_is_integer) (defBody s_is_integer) (defScope s_is_integer) .none kV0 dc0 pm0 an0 cd0 ct0), sl0⟩)
    (c0 : PySem.W.codeIn K cd0 "is_integer" = true)
    (k0 : PySem.W.keepIn K (.ref f0) = true)
    (a1 : PySem.W.nsIn K mainGlobals "is_within" = some (some (.ref f1)))
    (l1 : K.lookup f1 = some ⟨oc1, od1, .func (PySem.W.fnOf "is_within" "is_within" (defArgs s_is_within) (defBody s_is_within) (defScope s_is_within) .none kV1 dc1 pm1 an1 cd1 ct1), sl1⟩)
    (c1 : PySem.W.codeIn K cd1 "is_within" = true)
    (k1 : PySem.W.keepIn K (.ref f1) = true)
    (a2 : PySem.W.nsIn K mainGlobals "are_integers" = some (some (.ref f2)))
    (l2 : K.lookup f2 = some ⟨oc2, od2, .func (PySem.W.fnOf "are_integers" "are_integers" (defArgs s_are_integers) (defBody s_are_integers) (defScope s_are_integers) .none kV2 dc2 pm2 an2 cd2 ct2), sl2⟩)
    (c2 : PySem.W.codeIn K cd2 "are_integers" = true)
    (k2 : PySem.W.keepIn K (.ref f2) = true)
    (a3 : PySem.W.nsIn K mainGlobals "own_names" = some (some (.ref f3)))
    (l3 : K.lookup f3 = some ⟨oc3, od3, .func (PySem.W.fnOf "own_names" "own_names" (defArgs s_own_names) (defBody s_own_names) (defScope s_own_names) .none kV3 dc3 pm3 an3 cd3 ct3), sl3⟩)
    (c3 : PySem.W.codeIn K cd3 "own_names" = true)
    (k3 : PySem.W.keepIn K (.ref f3) = true)
    (a4 : PySem.W.nsIn K mainGlobals "joined" = some (some (.ref f4)))
    (l4 : K.lookup f4 = some ⟨oc4, od4, .func (PySem.W.fnOf "joined" "joined" (defArgs s_joined) (defBody s_joined) (defScope s_joined) .none kV4 dc4 pm4 an4 cd4 ct4), sl4⟩)
    (c4 : PySem.W.codeIn K cd4 "joined" = true)
    (k4 : PySem.W.keepIn K (.ref f4) = true)
    (a5 : PySem.W.nsIn K mainGlobals "names_of" = some (some (.ref f5)))
    (l5 : K.lookup f5 = some ⟨oc5, od5, .func (PySem.W.fnOf "names_of" "names_of" (defArgs s_names_of) (defBody s_names_of) (defScope s_names_of) .none kV5 dc5 pm5 an5 cd5 ct5), sl5⟩)
    (c5 : PySem.W.codeIn K cd5 "names_of" = true)
    (k5 : PySem.W.keepIn K (.ref f5) = true)
    (a6 : PySem.W.nsIn K mainGlobals "fixed" = some (some (.ref f6)))
    (l6 : K.lookup f6 = some ⟨oc6, od6, .func (PySem.W.fnOf "fixed" "fixed" (defArgs s_fixed) (defBody s_fixed) (defScope s_fixed) .none kV6 dc6 pm6 an6 cd6 ct6), sl6⟩)
    (c6 : PySem.W.codeIn K cd6 "fixed" = true)
    (k6 : PySem.W.keepIn K (.ref f6) = true)
    (a7 : PySem.W.nsIn K mainGlobals "items_of" = some (some (.ref f7)))
    (l7 : K.lookup f7 = some ⟨oc7, od7, .func (PySem.W.fnOf "items_of" "items_of" (defArgs s_items_of) (defBody s_items_of) (defScope s_items_of) .none kV7 dc7 pm7 an7 cd7 ct7), sl7⟩)
    (c7 : PySem.W.codeIn K cd7 "items_of" = true)
    (k7 : PySem.W.keepIn K (.ref f7) = true)
    (a8 : PySem.W.nsIn K mainGlobals "number_of" = some (some (.ref f8)))
    (l8 : K.lookup f8 = some ⟨oc8, od8, .func (PySem.W.fnOf "number_of" "number_of" (defArgs s_number_of) (defBody s_number_of) (defScope s_number_of) .none kV8 dc8 pm8 an8 cd8 ct8), sl8⟩)
    (c8 : PySem.W.codeIn K cd8 "number_of" = true)
    (k8 : PySem.W.keepIn K (.ref f8) = true)
    (a9 : PySem.W.nsIn K mainGlobals "item_at" = some (some (.ref f9)))
    (l9 : K.lookup f9 = some ⟨oc9, od9, .func (PySem.W.fnOf "item_at" "item_at" (defArgs s_item_at) (defBody s_item_at) (defScope s_item_at) .none kV9 dc9 pm9 an9 cd9 ct9), sl9⟩)
    (c9 : PySem.W.codeIn K cd9 "item_at" = true)
    (k9 : PySem.W.keepIn K (.ref f9) = true)
    (a10 : PySem.W.nsIn K mainGlobals "number_at" = some (some (.ref f10)))
    (l10 : K.lookup f10 = some ⟨oc10, od10, .func (PySem.W.fnOf "number_at" "number_at" (defArgs s_number_at) (defBody s_number_at) (defScope s_number_at) .none kV10 dc10 pm10 an10 cd10 ct10), sl10⟩)
    (c10 : PySem.W.codeIn K cd10 "number_at" = true)
    (k10 : PySem.W.keepIn K (.ref f10) = true)
    (a11 : PySem.W.nsIn K mainGlobals "read_colon" = some (some (.ref f11)))
    (l11 : K.lookup f11 = some ⟨oc11, od11, .func (PySem.W.fnOf "read_colon" "read_colon" (defArgs s_read_colon) (defBody s_read_colon) (defScope s_read_colon) .none kV11 dc11 pm11 an11 cd11 ct11), sl11⟩)
    (c11 : PySem.W.codeIn K cd11 "read_colon" = true)
    (k11 : PySem.W.keepIn K (.ref f11) = true)
    (a12 : PySem.W.nsIn K mainGlobals "read_end" = some (some (.ref f12)))
    (l12 : K.lookup f12 = some ⟨oc12, od12, .func (PySem.W.fnOf "read_end" "read_end" (defArgs s_read_end) (defBody s_read_end) (defScope s_read_end) .none kV12 dc12 pm12 an12 cd12 ct12), sl12⟩)
    (c12 : PySem.W.codeIn K cd12 "read_end" = true)
    (k12 : PySem.W.keepIn K (.ref f12) = true)
    (a13 : PySem.W.nsIn K mainGlobals "are_ties" = some (some (.ref f13)))
    (l13 : K.lookup f13 = some ⟨oc13, od13, .func (PySem.W.fnOf "are_ties" "are_ties" (defArgs s_are_ties) (defBody s_are_ties) (defScope s_are_ties) .none kV13 dc13 pm13 an13 cd13 ct13), sl13⟩)
    (c13 : PySem.W.codeIn K cd13 "are_ties" = true)
    (k13 : PySem.W.keepIn K (.ref f13) = true)
    (a14 : PySem.W.nsIn K mainGlobals "is_pair" = some (some (.ref f14)))
    (l14 : K.lookup f14 = some ⟨oc14, od14, .func (PySem.W.fnOf "is_pair" "is_pair" (defArgs s_is_pair) (defBody s_is_pair) (defScope s_is_pair) .none kV14 dc14 pm14 an14 cd14 ct14), sl14⟩)
    (c14 : PySem.W.codeIn K cd14 "is_pair" = true)
    (k14 : PySem.W.keepIn K (.ref f14) = true)
    (a15 : PySem.W.nsIn K mainGlobals "hang_together" = some (some (.ref f15)))
    (l15 : K.lookup f15 = some ⟨oc15, od15, .func (PySem.W.fnOf "hang_together" "hang_together" (defArgs s_hang_together) (defBody s_hang_together) (defScope s_hang_together) .none kV15 dc15 pm15 an15 cd15 ct15), sl15⟩)
    (c15 : PySem.W.codeIn K cd15 "hang_together" = true)
    (k15 : PySem.W.keepIn K (.ref f15) = true)
    (a16 : PySem.W.nsIn K mainGlobals "cleared" = some (some (.ref f16)))
    (l16 : K.lookup f16 = some ⟨oc16, od16, .func (PySem.W.fnOf "cleared" "cleared" (defArgs s_cleared) (defBody s_cleared) (defScope s_cleared) .none kV16 dc16 pm16 an16 cd16 ct16), sl16⟩)
    (c16 : PySem.W.codeIn K cd16 "cleared" = true)
    (k16 : PySem.W.keepIn K (.ref f16) = true)
    (a17 : PySem.W.nsIn K mainGlobals "are_rows" = some (some (.ref f17)))
    (l17 : K.lookup f17 = some ⟨oc17, od17, .func (PySem.W.fnOf "are_rows" "are_rows" (defArgs s_are_rows) (defBody s_are_rows) (defScope s_are_rows) .none kV17 dc17 pm17 an17 cd17 ct17), sl17⟩)
    (c17 : PySem.W.codeIn K cd17 "are_rows" = true)
    (k17 : PySem.W.keepIn K (.ref f17) = true)
    (a18 : PySem.W.nsIn K mainGlobals "are_points" = some (some (.ref f18)))
    (l18 : K.lookup f18 = some ⟨oc18, od18, .func (PySem.W.fnOf "are_points" "are_points" (defArgs s_are_points) (defBody s_are_points) (defScope s_are_points) .none kV18 dc18 pm18 an18 cd18 ct18), sl18⟩)
    (c18 : PySem.W.codeIn K cd18 "are_points" = true)
    (k18 : PySem.W.keepIn K (.ref f18) = true)
    (a19 : PySem.W.nsIn K mainGlobals "is_point" = some (some (.ref f19)))
    (l19 : K.lookup f19 = some ⟨oc19, od19, .func (PySem.W.fnOf "is_point" "is_point" (defArgs s_is_point) (defBody s_is_point) (defScope s_is_point) .none kV19 dc19 pm19 an19 cd19 ct19), sl19⟩)
    (c19 : PySem.W.codeIn K cd19 "is_point" = true)
    (k19 : PySem.W.keepIn K (.ref f19) = true)
    (a20 : PySem.W.nsIn K mainGlobals "is_same_both_ways" = some (some (.ref f20)))
    (l20 : K.lookup f20 = some ⟨oc20, od20, .func (PySem.W.fnOf "is_same_both_ways" "is_same_both_ways" (defArgs s_is_same_both_ways) (defBody s_is_same_both_ways) (defScope s_is_same_both_ways) .none kV20 dc20 pm20 an20 cd20 ct20), sl20⟩)
    (c20 : PySem.W.codeIn K cd20 "is_same_both_ways" = true)
    (k20 : PySem.W.keepIn K (.ref f20) = true)
    (a21 : PySem.W.nsIn K mainGlobals "corners_of" = some (some (.ref f21)))
    (l21 : K.lookup f21 = some ⟨oc21, od21, .func (PySem.W.fnOf "corners_of" "corners_of" (defArgs s_corners_of) (defBody s_corners_of) (defScope s_corners_of) .none kV21 dc21 pm21 an21 cd21 ct21), sl21⟩)
    (c21 : PySem.W.codeIn K cd21 "corners_of" = true)
    (k21 : PySem.W.keepIn K (.ref f21) = true)
    (a22 : PySem.W.nsIn K mainGlobals "_law_decanter" = some (some (.ref f22)))
    (l22 : K.lookup f22 = some ⟨oc22, od22, .func (PySem.W.fnOf "_law_decanter" "_law_decanter" (defArgs s__law_decanter) (defBody s__law_decanter) (defScope s__law_decanter) .none kV22 dc22 pm22 an22 cd22 ct22), sl22⟩)
    (c22 : PySem.W.codeIn K cd22 "_law_decanter" = true)
    (k22 : PySem.W.keepIn K (.ref f22) = true)
    (a23 : PySem.W.nsIn K mainGlobals "_law_serve" = some (some (.ref f23)))
    (l23 : K.lookup f23 = some ⟨oc23, od23, .func (PySem.W.fnOf "_law_serve" "_law_serve" (defArgs s__law_serve) (defBody s__law_serve) (defScope s__law_serve) .none kV23 dc23 pm23 an23 cd23 ct23), sl23⟩)
    (c23 : PySem.W.codeIn K cd23 "_law_serve" = true)
    (k23 : PySem.W.keepIn K (.ref f23) = true)
    (a24 : PySem.W.nsIn K mainGlobals "_law_one_of" = some (some (.ref f24)))
    (l24 : K.lookup f24 = some ⟨oc24, od24, .func (PySem.W.fnOf "_law_one_of" "_law_one_of" (defArgs s__law_one_of) (defBody s__law_one_of) (defScope s__law_one_of) .none kV24 dc24 pm24 an24 cd24 ct24), sl24⟩)
    (c24 : PySem.W.codeIn K cd24 "_law_one_of" = true)
    (k24 : PySem.W.keepIn K (.ref f24) = true)
    (a25 : PySem.W.nsIn K mainGlobals "_law_web" = some (some (.ref f25)))
    (l25 : K.lookup f25 = some ⟨oc25, od25, .func (PySem.W.fnOf "_law_web" "_law_web" (defArgs s__law_web) (defBody s__law_web) (defScope s__law_web) .none kV25 dc25 pm25 an25 cd25 ct25), sl25⟩)
    (c25 : PySem.W.codeIn K cd25 "_law_web" = true)
    (k25 : PySem.W.keepIn K (.ref f25) = true)
    (a26 : PySem.W.nsIn K mainGlobals "_law_table" = some (some (.ref f26)))
    (l26 : K.lookup f26 = some ⟨oc26, od26, .func (PySem.W.fnOf "_law_table" "_law_table" (defArgs s__law_table) (defBody s__law_table) (defScope s__law_table) .none kV26 dc26 pm26 an26 cd26 ct26), sl26⟩)
    (c26 : PySem.W.codeIn K cd26 "_law_table" = true)
    (k26 : PySem.W.keepIn K (.ref f26) = true)
    (a27 : PySem.W.nsIn K mainGlobals "_law_number" = some (some (.ref f27)))
    (l27 : K.lookup f27 = some ⟨oc27, od27, .func (PySem.W.fnOf "_law_number" "_law_number" (defArgs s__law_number) (defBody s__law_number) (defScope s__law_number) .none kV27 dc27 pm27 an27 cd27 ct27), sl27⟩)
    (c27 : PySem.W.codeIn K cd27 "_law_number" = true)
    (k27 : PySem.W.keepIn K (.ref f27) = true)
    (a28 : PySem.W.nsIn K mainGlobals "_law_is" = some (some (.ref f28)))
    (l28 : K.lookup f28 = some ⟨oc28, od28, .func (PySem.W.fnOf "_law_is" "_law_is" (defArgs s__law_is) (defBody s__law_is) (defScope s__law_is) .none kV28 dc28 pm28 an28 cd28 ct28), sl28⟩)
    (c28 : PySem.W.codeIn K cd28 "_law_is" = true)
    (k28 : PySem.W.keepIn K (.ref f28) = true)
    (a29 : PySem.W.nsIn K mainGlobals "_law_hangs" = some (some (.ref f29)))
    (l29 : K.lookup f29 = some ⟨oc29, od29, .func (PySem.W.fnOf "_law_hangs" "_law_hangs" (defArgs s__law_hangs) (defBody s__law_hangs) (defScope s__law_hangs) .none kV29 dc29 pm29 an29 cd29 ct29), sl29⟩)
    (c29 : PySem.W.codeIn K cd29 "_law_hangs" = true)
    (k29 : PySem.W.keepIn K (.ref f29) = true)
    (a30 : PySem.W.nsIn K mainGlobals "_law_web_stop" = some (some (.ref f30)))
    (l30 : K.lookup f30 = some ⟨oc30, od30, .func (PySem.W.fnOf "_law_web_stop" "_law_web_stop" (defArgs s__law_web_stop) (defBody s__law_web_stop) (defScope s__law_web_stop) .none kV30 dc30 pm30 an30 cd30 ct30), sl30⟩)
    (c30 : PySem.W.codeIn K cd30 "_law_web_stop" = true)
    (k30 : PySem.W.keepIn K (.ref f30) = true)
    (a31 : PySem.W.nsIn K mainGlobals "_law_determinant" = some (some (.ref f31)))
    (l31 : K.lookup f31 = some ⟨oc31, od31, .func (PySem.W.fnOf "_law_determinant" "_law_determinant" (defArgs s__law_determinant) (defBody s__law_determinant) (defScope s__law_determinant) .none kV31 dc31 pm31 an31 cd31 ct31), sl31⟩)
    (c31 : PySem.W.codeIn K cd31 "_law_determinant" = true)
    (k31 : PySem.W.keepIn K (.ref f31) = true)
    (a32 : PySem.W.nsIn K mainGlobals "_law_table_stop" = some (some (.ref f32)))
    (l32 : K.lookup f32 = some ⟨oc32, od32, .func (PySem.W.fnOf "_law_table_stop" "_law_table_stop" (defArgs s__law_table_stop) (defBody s__law_table_stop) (defScope s__law_table_stop) .none kV32 dc32 pm32 an32 cd32 ct32), sl32⟩)
    (c32 : PySem.W.codeIn K cd32 "_law_table_stop" = true)
    (k32 : PySem.W.keepIn K (.ref f32) = true)
    (a33 : PySem.W.nsIn K mainGlobals "_law_above" = some (some (.ref f33)))
    (l33 : K.lookup f33 = some ⟨oc33, od33, .func (PySem.W.fnOf "_law_above" "_law_above" (defArgs s__law_above) (defBody s__law_above) (defScope s__law_above) .none kV33 dc33 pm33 an33 cd33 ct33), sl33⟩)
    (c33 : PySem.W.codeIn K cd33 "_law_above" = true)
    (k33 : PySem.W.keepIn K (.ref f33) = true)
    (a34 : PySem.W.nsIn K mainGlobals "_law_bent" = some (some (.ref f34)))
    (l34 : K.lookup f34 = some ⟨oc34, od34, .func (PySem.W.fnOf "_law_bent" "_law_bent" (defArgs s__law_bent) (defBody s__law_bent) (defScope s__law_bent) .none kV34 dc34 pm34 an34 cd34 ct34), sl34⟩)
    (c34 : PySem.W.codeIn K cd34 "_law_bent" = true)
    (k34 : PySem.W.keepIn K (.ref f34) = true)
    (a35 : PySem.W.nsIn K mainGlobals "_law_heard" = some (some (.ref f35)))
    (l35 : K.lookup f35 = some ⟨oc35, od35, .func (PySem.W.fnOf "_law_heard" "_law_heard" (defArgs s__law_heard) (defBody s__law_heard) (defScope s__law_heard) .none kV35 dc35 pm35 an35 cd35 ct35), sl35⟩)
    (c35 : PySem.W.codeIn K cd35 "_law_heard" = true)
    (k35 : PySem.W.keepIn K (.ref f35) = true)
    (a36 : PySem.W.nsIn K mainGlobals "_law_web_right" = some (some (.ref f36)))
    (l36 : K.lookup f36 = some ⟨oc36, od36, .func (PySem.W.fnOf "_law_web_right" "_law_web_right" (defArgs s__law_web_right) (defBody s__law_web_right) (defScope s__law_web_right) .none kV36 dc36 pm36 an36 (.ref kk36) ct36), sl36⟩)
    (c36 : PySem.W.codeIn K (.ref kk36) "_law_web_right" = true)
    (k36 : PySem.W.keepIn K (.ref f36) = true)
    (a37 : PySem.W.nsIn K mainGlobals "_law_table_right" = some (some (.ref f37)))
    (l37 : K.lookup f37 = some ⟨oc37, od37, .func (PySem.W.fnOf "_law_table_right" "_law_table_right" (defArgs s__law_table_right) (defBody s__law_table_right) (defScope s__law_table_right) .none kV37 dc37 pm37 an37 (.ref kk37) ct37), sl37⟩)
    (c37 : PySem.W.codeIn K (.ref kk37) "_law_table_right" = true)
    (k37 : PySem.W.keepIn K (.ref f37) = true)
    (a38 : PySem.W.nsIn K mainGlobals "law" = some (some (.ref f38)))
    (l38 : K.lookup f38 = some ⟨oc38, od38, .func (PySem.W.fnOf "law" "law" (defArgs s_law) (defBody s_law) (defScope s_law) .none kV38 dc38 pm38 an38 (.ref kk38) ct38), sl38⟩)
    (c38 : PySem.W.codeIn K (.ref kk38) "law" = true)
    (k38 : PySem.W.keepIn K (.ref f38) = true)
    (kl36 : K.lookup kk36 = some ⟨ko36, kod36, .fields kvs36, ksl36⟩)
    (kv36 : kvs36[11]? = some (.ref kp36))
    (kt36 : PySem.W.tabIn K "_law_web_right" = some (kk36, kp36))
    (kn36 : K.lookup kp36 = none)
    (kr36 : (recsOf q).find? (fun e => e.name == ("_law_web_right" : Str)) = some ke36)
    (kl37 : K.lookup kk37 = some ⟨ko37, kod37, .fields kvs37, ksl37⟩)
    (kv37 : kvs37[11]? = some (.ref kp37))
    (kt37 : PySem.W.tabIn K "_law_table_right" = some (kk37, kp37))
    (kn37 : K.lookup kp37 = none)
    (kr37 : (recsOf q).find? (fun e => e.name == ("_law_table_right" : Str)) = some ke37)
    (kl38 : K.lookup kk38 = some ⟨ko38, kod38, .fields kvs38, ksl38⟩)
    (kv38 : kvs38[11]? = some (.ref kp38))
    (kt38 : PySem.W.tabIn K "law" = some (kk38, kp38))
    (kn38 : K.lookup kp38 = none)
    (kr38 : (recsOf q).find? (fun e => e.name == ("law" : Str)) = some ke38)
    (kne : ([kp36, kp37, kp38] : List Addr).Nodup)
    (oa0 : PySem.W.nsIn K mainGlobals "Web" = some (some (.ref CO0)))
    (ol0 : K.lookup CO0 = some (excClassObj "Web" oq0 CO0 oN0 obs0 [.type "object"] ohd0 osn0 osb0 oab0 oco0 odd0 oma0 omb0 omc0 omd0 ome0 oid0))
    (omk0 : PySem.W.makesIn K CO0 = true)
    (uf0 : PySem.W.findIn K (.ref CO0) "__init__" = some (some (.ref u0)))
    (ul0 : K.lookup u0 = some ⟨uoc0, uod0, .func (PySem.W.fnOf "__init__" "Web.__init__" (defArgs s_Web___init__) (defBody s_Web___init__) (defScope s_Web___init__) .none ukV0 udc0 upm0 uan0 ucd0 uct0), usl0⟩)
    (uc0 : PySem.W.codeIn K ucd0 "Web.__init__" = true)
    (uk0 : PySem.W.keepIn K (.ref u0) = true)
    (ufn0 : PySem.W.isFn K (.ref u0) = true)
    (uf1 : PySem.W.findIn K (.ref CO0) "__eq__" = some (some (.ref u1)))
    (ul1 : K.lookup u1 = some ⟨uoc1, uod1, .func (PySem.W.fnOf "__eq__" "Web.__eq__" (defArgs s_Web___eq__) (defBody s_Web___eq__) (defScope s_Web___eq__) .none ukV1 udc1 upm1 uan1 ucd1 uct1), usl1⟩)
    (uc1 : PySem.W.codeIn K ucd1 "Web.__eq__" = true)
    (uk1 : PySem.W.keepIn K (.ref u1) = true)
    (ufn1 : PySem.W.isFn K (.ref u1) = true)
    (uf2 : PySem.W.findIn K (.ref CO0) "__str__" = some (some (.ref u2)))
    (ul2 : K.lookup u2 = some ⟨uoc2, uod2, .func (PySem.W.fnOf "__str__" "Web.__str__" (defArgs s_Web___str__) (defBody s_Web___str__) (defScope s_Web___str__) .none ukV2 udc2 upm2 uan2 ucd2 uct2), usl2⟩)
    (uc2 : PySem.W.codeIn K ucd2 "Web.__str__" = true)
    (uk2 : PySem.W.keepIn K (.ref u2) = true)
    (ufn2 : PySem.W.isFn K (.ref u2) = true)
    (srd0 : PySem.W.readsIn K CO0 (.type "type") = true)
    (sga0 : PySem.W.specialIn K (.ref CO0) "__getattribute__" = some (some (.builtin "type.__getattribute__")))
    (sat0 : PySem.W.findCls K (.ref CO0) (.type "type") "read" = some (.get (.builtin "staticmethod.__get__") (.ref pR0) .none (.ref CO0)))
    (src0 : PySem.W.recIn K pR0 "staticmethod" = some (.ref u3 :: rest0))
    (ul3 : K.lookup u3 = some ⟨uoc3, uod3, .func (PySem.W.fnOf "read" "Web.read" (defArgs s_Web_read) (defBody s_Web_read) (defScope s_Web_read) .none ukV3 udc3 upm3 uan3 ucd3 uct3), usl3⟩)
    (uc3 : PySem.W.codeIn K ucd3 "Web.read" = true)
    (uk3 : PySem.W.keepIn K (.ref u3) = true)
    (okp0 : PySem.W.keepIn K (.ref CO0) = true)
    (opg0 : PySem.W.plainGet K CO0 Str.empty = true)
    (ohh0 : PySem.W.hasDictIn K CO0 = true)
    (opo0 : PySem.W.plainOver K CO0 = true)
    (osa0 : PySem.W.findIn K (.ref CO0) "__setattr__" = some (some (.builtin "object.__setattr__")))
    (oca0 : PySem.W.findIn K (.ref CO0) "__class__" = some (some (.builtin "object.__class__")))
    (ocm0 : PySem.W.mroIn K CO0 (.type "object") = some true)
    (on0_places : PySem.W.findIn K (.ref CO0) "places" = some none)
    (on0_ties : PySem.W.findIn K (.ref CO0) "ties" = some none)
    (one0 : PySem.W.findIn K (.ref CO0) "__ne__" = some (some (.builtin "object.__ne__")))
    (onl0 : PySem.W.notFirst K CO0 (.type "list") = true)
    (ont0 : PySem.W.notFirst K CO0 (.type "tuple") = true)
    (oa1 : PySem.W.nsIn K mainGlobals "Table" = some (some (.ref CO1)))
    (ol1 : K.lookup CO1 = some (excClassObj "Table" oq1 CO1 oN1 obs1 [.type "object"] ohd1 osn1 osb1 oab1 oco1 odd1 oma1 omb1 omc1 omd1 ome1 oid1))
    (omk1 : PySem.W.makesIn K CO1 = true)
    (uf4 : PySem.W.findIn K (.ref CO1) "__init__" = some (some (.ref u4)))
    (ul4 : K.lookup u4 = some ⟨uoc4, uod4, .func (PySem.W.fnOf "__init__" "Table.__init__" (defArgs s_Table___init__) (defBody s_Table___init__) (defScope s_Table___init__) .none ukV4 udc4 upm4 uan4 ucd4 uct4), usl4⟩)
    (uc4 : PySem.W.codeIn K ucd4 "Table.__init__" = true)
    (uk4 : PySem.W.keepIn K (.ref u4) = true)
    (ufn4 : PySem.W.isFn K (.ref u4) = true)
    (uf5 : PySem.W.findIn K (.ref CO1) "__eq__" = some (some (.ref u5)))
    (ul5 : K.lookup u5 = some ⟨uoc5, uod5, .func (PySem.W.fnOf "__eq__" "Table.__eq__" (defArgs s_Table___eq__) (defBody s_Table___eq__) (defScope s_Table___eq__) .none ukV5 udc5 upm5 uan5 ucd5 uct5), usl5⟩)
    (uc5 : PySem.W.codeIn K ucd5 "Table.__eq__" = true)
    (uk5 : PySem.W.keepIn K (.ref u5) = true)
    (ufn5 : PySem.W.isFn K (.ref u5) = true)
    (uf6 : PySem.W.findIn K (.ref CO1) "__str__" = some (some (.ref u6)))
    (ul6 : K.lookup u6 = some ⟨uoc6, uod6, .func (PySem.W.fnOf "__str__" "Table.__str__" (defArgs s_Table___str__) (defBody s_Table___str__) (defScope s_Table___str__) .none ukV6 udc6 upm6 uan6 ucd6 uct6), usl6⟩)
    (uc6 : PySem.W.codeIn K ucd6 "Table.__str__" = true)
    (uk6 : PySem.W.keepIn K (.ref u6) = true)
    (ufn6 : PySem.W.isFn K (.ref u6) = true)
    (srd1 : PySem.W.readsIn K CO1 (.type "type") = true)
    (sga1 : PySem.W.specialIn K (.ref CO1) "__getattribute__" = some (some (.builtin "type.__getattribute__")))
    (sat1 : PySem.W.findCls K (.ref CO1) (.type "type") "read" = some (.get (.builtin "staticmethod.__get__") (.ref pR1) .none (.ref CO1)))
    (src1 : PySem.W.recIn K pR1 "staticmethod" = some (.ref u7 :: rest1))
    (ul7 : K.lookup u7 = some ⟨uoc7, uod7, .func (PySem.W.fnOf "read" "Table.read" (defArgs s_Table_read) (defBody s_Table_read) (defScope s_Table_read) .none ukV7 udc7 upm7 uan7 ucd7 uct7), usl7⟩)
    (uc7 : PySem.W.codeIn K ucd7 "Table.read" = true)
    (uk7 : PySem.W.keepIn K (.ref u7) = true)
    (okp1 : PySem.W.keepIn K (.ref CO1) = true)
    (opg1 : PySem.W.plainGet K CO1 Str.empty = true)
    (ohh1 : PySem.W.hasDictIn K CO1 = true)
    (opo1 : PySem.W.plainOver K CO1 = true)
    (osa1 : PySem.W.findIn K (.ref CO1) "__setattr__" = some (some (.builtin "object.__setattr__")))
    (oca1 : PySem.W.findIn K (.ref CO1) "__class__" = some (some (.builtin "object.__class__")))
    (ocm1 : PySem.W.mroIn K CO1 (.type "object") = some true)
    (on1_determinant : PySem.W.findIn K (.ref CO1) "determinant" = some none)
    (on1_rows : PySem.W.findIn K (.ref CO1) "rows" = some none)
    (on1_size : PySem.W.findIn K (.ref CO1) "size" = some none)
    (one1 : PySem.W.findIn K (.ref CO1) "__ne__" = some (some (.builtin "object.__ne__")))
    (onl1 : PySem.W.notFirst K CO1 (.type "list") = true)
    (ont1 : PySem.W.notFirst K CO1 (.type "tuple") = true)
    (zst : PySem.W.kitOne K (.ref CO0) (.type "str") = some false)
    (hcn : PySem.W.specialIn K (.builtin "object.__class__") "__get__" = some (some (.builtin "getset_descriptor.__get__")))
    (hct : PySem.W.takesIn K (.builtin "object.__class__") = some true)
    (xa0 : PySem.W.nsIn K mainGlobals "NetError" = some (some (.ref C0)))
    (xl0 : K.lookup C0 = some (excClassObj "NetError" q_0 C0 N0 bs0 [.type "ValueError", .type "Exception", .type "BaseException", .type "object"] true sn0 sb0 ab0 co0 dd0 m0a m0b m0c m0d m0e "ValueError.__new__"))
    (xa1 : PySem.W.nsIn K mainGlobals "BadNumber" = some (some (.ref C1)))
    (xl1 : K.lookup C1 = some (excClassObj "BadNumber" q_1 C1 N1 bs1 [.ref C0, .type "ValueError", .type "Exception", .type "BaseException", .type "object"] true sn1 sb1 ab1 co1 dd1 m1a m1b m1c m1d m1e "ValueError.__new__"))
    (xs1 : PySem.W.findIn K (.ref C1) "__setattr__" = some (some (.builtin "object.__setattr__")))
    (xg1 : PySem.W.findIn K (.ref C1) "__getattribute__" = some (some (.builtin "BaseException.__getattribute__")))
    (xh1 : PySem.W.findIn K (.ref C1) "__getattr__" = some none)
    (xc1 : PySem.W.findIn K (.ref C1) "__class__" = some (some (.builtin "object.__class__")))
    (xi1 : PySem.W.findIn K (.ref C1) "__init__" = some (some (.ref g1)))
    (xt1 : PySem.W.typeIn K (.ref g1) = some (.type "function"))
    (xk1 : PySem.W.keepIn K (.ref C1) = true)
    (xn1_0 : PySem.W.findIn K (.ref C1) "part" = some none)
    (gl1 : K.lookup g1 = some ⟨goc1, god1, .func (PySem.W.fnOf "__init__" "BadNumber.__init__" (defArgs s_init_BadNumber) (defBody s_init_BadNumber) (defScope s_init_BadNumber) .none gkV1 gdc1 gpm1 gan1 gcd1 gct1), gsl1⟩)
    (gc1 : PySem.W.codeIn K gcd1 "BadNumber.__init__" = true)
    (gk1 : PySem.W.keepIn K (.ref g1) = true)
    (xa2 : PySem.W.nsIn K mainGlobals "BadWeb" = some (some (.ref C2)))
    (xl2 : K.lookup C2 = some (excClassObj "BadWeb" q_2 C2 N2 bs2 [.ref C0, .type "ValueError", .type "Exception", .type "BaseException", .type "object"] true sn2 sb2 ab2 co2 dd2 m2a m2b m2c m2d m2e "ValueError.__new__"))
    (xs2 : PySem.W.findIn K (.ref C2) "__setattr__" = some (some (.builtin "object.__setattr__")))
    (xg2 : PySem.W.findIn K (.ref C2) "__getattribute__" = some (some (.builtin "BaseException.__getattribute__")))
    (xh2 : PySem.W.findIn K (.ref C2) "__getattr__" = some none)
    (xc2 : PySem.W.findIn K (.ref C2) "__class__" = some (some (.builtin "object.__class__")))
    (xi2 : PySem.W.findIn K (.ref C2) "__init__" = some (some (.ref g2)))
    (xt2 : PySem.W.typeIn K (.ref g2) = some (.type "function"))
    (xk2 : PySem.W.keepIn K (.ref C2) = true)
    (xn2_0 : PySem.W.findIn K (.ref C2) "part" = some none)
    (gl2 : K.lookup g2 = some ⟨goc2, god2, .func (PySem.W.fnOf "__init__" "BadWeb.__init__" (defArgs s_init_BadWeb) (defBody s_init_BadWeb) (defScope s_init_BadWeb) .none gkV2 gdc2 gpm2 gan2 gcd2 gct2), gsl2⟩)
    (gc2 : PySem.W.codeIn K gcd2 "BadWeb.__init__" = true)
    (gk2 : PySem.W.keepIn K (.ref g2) = true)
    (xa3 : PySem.W.nsIn K mainGlobals "BadTable" = some (some (.ref C3)))
    (xl3 : K.lookup C3 = some (excClassObj "BadTable" q_3 C3 N3 bs3 [.ref C0, .type "ValueError", .type "Exception", .type "BaseException", .type "object"] true sn3 sb3 ab3 co3 dd3 m3a m3b m3c m3d m3e "ValueError.__new__"))
    (xs3 : PySem.W.findIn K (.ref C3) "__setattr__" = some (some (.builtin "object.__setattr__")))
    (xg3 : PySem.W.findIn K (.ref C3) "__getattribute__" = some (some (.builtin "BaseException.__getattribute__")))
    (xh3 : PySem.W.findIn K (.ref C3) "__getattr__" = some none)
    (xc3 : PySem.W.findIn K (.ref C3) "__class__" = some (some (.builtin "object.__class__")))
    (xi3 : PySem.W.findIn K (.ref C3) "__init__" = some (some (.ref g3)))
    (xt3 : PySem.W.typeIn K (.ref g3) = some (.type "function"))
    (xk3 : PySem.W.keepIn K (.ref C3) = true)
    (xn3_0 : PySem.W.findIn K (.ref C3) "part" = some none)
    (gl3 : K.lookup g3 = some ⟨goc3, god3, .func (PySem.W.fnOf "__init__" "BadTable.__init__" (defArgs s_init_BadTable) (defBody s_init_BadTable) (defScope s_init_BadTable) .none gkV3 gdc3 gpm3 gan3 gcd3 gct3), gsl3⟩)
    (gc3 : PySem.W.codeIn K gcd3 "BadTable.__init__" = true)
    (gk3 : PySem.W.keepIn K (.ref g3) = true)
    (xa4 : PySem.W.nsIn K mainGlobals "BadText" = some (some (.ref C4)))
    (xl4 : K.lookup C4 = some (excClassObj "BadText" q_4 C4 N4 bs4 [.ref C0, .type "ValueError", .type "Exception", .type "BaseException", .type "object"] true sn4 sb4 ab4 co4 dd4 m4a m4b m4c m4d m4e "ValueError.__new__"))
    (xs4 : PySem.W.findIn K (.ref C4) "__setattr__" = some (some (.builtin "object.__setattr__")))
    (xg4 : PySem.W.findIn K (.ref C4) "__getattribute__" = some (some (.builtin "BaseException.__getattribute__")))
    (xh4 : PySem.W.findIn K (.ref C4) "__getattr__" = some none)
    (xc4 : PySem.W.findIn K (.ref C4) "__class__" = some (some (.builtin "object.__class__")))
    (xi4 : PySem.W.findIn K (.ref C4) "__init__" = some (some (.ref g4)))
    (xt4 : PySem.W.typeIn K (.ref g4) = some (.type "function"))
    (xk4 : PySem.W.keepIn K (.ref C4) = true)
    (xn4_0 : PySem.W.findIn K (.ref C4) "line" = some none)
    (xn4_1 : PySem.W.findIn K (.ref C4) "item" = some none)
    (gl4 : K.lookup g4 = some ⟨goc4, god4, .func (PySem.W.fnOf "__init__" "BadText.__init__" (defArgs s_init_BadText) (defBody s_init_BadText) (defScope s_init_BadText) .none gkV4 gdc4 gpm4 gan4 gcd4 gct4), gsl4⟩)
    (gc4 : PySem.W.codeIn K gcd4 "BadText.__init__" = true)
    (gk4 : PySem.W.keepIn K (.ref g4) = true)
    (e1 : PySem.W.subIn K (.ref C0) (.type "BaseException") = some true)
    (e2 : PySem.W.hasDictIn K C0 = true)
    (e3 : PySem.W.typeIn K (.ref C0) = some (.type "type"))
    (es1 : PySem.W.subIn K (.ref C1) (.ref C0) = some true)
    (es2 : PySem.W.subIn K (.ref C2) (.ref C0) = some true)
    (es3 : PySem.W.subIn K (.ref C3) (.ref C0) = some true)
    (es4 : PySem.W.subIn K (.ref C4) (.ref C0) = some true)
    (mc_MOST_DIGITS : PySem.W.nsIn K mainGlobals "MOST_DIGITS" = some (some (.int 60 tk_MOST_DIGITS)))
    (mc_MOST_PLACES : PySem.W.nsIn K mainGlobals "MOST_PLACES" = some (some (.int 13 tk_MOST_PLACES)))
    (mc_MOST_TIES : PySem.W.nsIn K mainGlobals "MOST_TIES" = some (some (.int 12 tk_MOST_TIES)))
    (mc_MOST_ROWS : PySem.W.nsIn K mainGlobals "MOST_ROWS" = some (some (.int 5 tk_MOST_ROWS)))
    (z0 : PySem.W.nsIn K mainGlobals "abs" = some none)
    (z1 : PySem.W.nsIn K mainGlobals "all" = some none)
    (z2 : PySem.W.nsIn K mainGlobals "any" = some none)
    (z3 : PySem.W.nsIn K mainGlobals "bool" = some none)
    (z4 : PySem.W.nsIn K mainGlobals "enumerate" = some none)
    (z5 : PySem.W.nsIn K mainGlobals "int" = some none)
    (z6 : PySem.W.nsIn K mainGlobals "isinstance" = some none)
    (z7 : PySem.W.nsIn K mainGlobals "len" = some none)
    (z8 : PySem.W.nsIn K mainGlobals "list" = some none)
    (z9 : PySem.W.nsIn K mainGlobals "max" = some none)
    (z10 : PySem.W.nsIn K mainGlobals "min" = some none)
    (z11 : PySem.W.nsIn K mainGlobals "range" = some none)
    (z12 : PySem.W.nsIn K mainGlobals "repr" = some none)
    (z13 : PySem.W.nsIn K mainGlobals "set" = some none)
    (z14 : PySem.W.nsIn K mainGlobals "str" = some none)
    (z15 : PySem.W.nsIn K mainGlobals "tuple" = some none)
    (z16 : PySem.W.nsIn K mainGlobals "type" = some none)
    (z17 : PySem.W.nsIn K mainGlobals "zip" = some none)
    : LawAtG l w K CX0 17 63 "script" mg fa h := by
  have e := hfa.symm.trans (PySem.W.mg_of X GN a38)
  cases e
  have F0 := fun_mk (st := s_is_integer) l0 c0 k0
  have b0 := F0.binds (ps := P_is_integer) fun _ _ _ _ _ _ us hl => match us, hl with | [_], _ => rfl
  have F1 := fun_mk (st := s_is_within) l1 c1 k1
  have b1 := F1.binds (ps := P_is_within) fun _ _ _ _ _ _ us hl => match us, hl with | [_, _, _], _ => rfl
  have F2 := fun_mk (st := s_are_integers) l2 c2 k2
  have b2 := F2.binds (ps := P_are_integers) fun _ _ _ _ _ _ us hl => match us, hl with | [_], _ => rfl
  have F3 := fun_mk (st := s_own_names) l3 c3 k3
  have b3 := F3.binds (ps := P_own_names) fun _ _ _ _ _ _ us hl => match us, hl with | [_], _ => rfl
  have F4 := fun_mk (st := s_joined) l4 c4 k4
  have b4 := F4.binds (ps := P_joined) fun _ _ _ _ _ _ us hl => match us, hl with | [_, _, _], _ => rfl
  have F5 := fun_mk (st := s_names_of) l5 c5 k5
  have b5 := F5.binds (ps := P_names_of) fun _ _ _ _ _ _ us hl => match us, hl with | [_, _], _ => rfl
  have F6 := fun_mk (st := s_fixed) l6 c6 k6
  have b6 := F6.binds (ps := P_fixed) fun _ _ _ _ _ _ us hl => match us, hl with | [_], _ => rfl
  have F7 := fun_mk (st := s_items_of) l7 c7 k7
  have b7 := F7.binds (ps := P_items_of) fun _ _ _ _ _ _ us hl => match us, hl with | [_], _ => rfl
  have F8 := fun_mk (st := s_number_of) l8 c8 k8
  have b8 := F8.binds (ps := P_number_of) fun _ _ _ _ _ _ us hl => match us, hl with | [_], _ => rfl
  have F9 := fun_mk (st := s_item_at) l9 c9 k9
  have b9 := F9.binds (ps := P_item_at) fun _ _ _ _ _ _ us hl => match us, hl with | [_, _], _ => rfl
  have F10 := fun_mk (st := s_number_at) l10 c10 k10
  have b10 := F10.binds (ps := P_number_at) fun _ _ _ _ _ _ us hl => match us, hl with | [_, _, _, _], _ => rfl
  have F11 := fun_mk (st := s_read_colon) l11 c11 k11
  have b11 := F11.binds (ps := P_read_colon) fun _ _ _ _ _ _ us hl => match us, hl with | [_, _], _ => rfl
  have F12 := fun_mk (st := s_read_end) l12 c12 k12
  have b12 := F12.binds (ps := P_read_end) fun _ _ _ _ _ _ us hl => match us, hl with | [_, _], _ => rfl
  have F13 := fun_mk (st := s_are_ties) l13 c13 k13
  have b13 := F13.binds (ps := P_are_ties) fun _ _ _ _ _ _ us hl => match us, hl with | [_, _], _ => rfl
  have F14 := fun_mk (st := s_is_pair) l14 c14 k14
  have b14 := F14.binds (ps := P_is_pair) fun _ _ _ _ _ _ us hl => match us, hl with | [_, _], _ => rfl
  have F15 := fun_mk (st := s_hang_together) l15 c15 k15
  have b15 := F15.binds (ps := P_hang_together) fun _ _ _ _ _ _ us hl => match us, hl with | [_, _], _ => rfl
  have F16 := fun_mk (st := s_cleared) l16 c16 k16
  have b16 := F16.binds (ps := P_cleared) fun _ _ _ _ _ _ us hl => match us, hl with | [_, _, _, _], _ => rfl
  have F17 := fun_mk (st := s_are_rows) l17 c17 k17
  have b17 := F17.binds (ps := P_are_rows) fun _ _ _ _ _ _ us hl => match us, hl with | [_], _ => rfl
  have F18 := fun_mk (st := s_are_points) l18 c18 k18
  have b18 := F18.binds (ps := P_are_points) fun _ _ _ _ _ _ us hl => match us, hl with | [_, _], _ => rfl
  have F19 := fun_mk (st := s_is_point) l19 c19 k19
  have b19 := F19.binds (ps := P_is_point) fun _ _ _ _ _ _ us hl => match us, hl with | [_, _], _ => rfl
  have F20 := fun_mk (st := s_is_same_both_ways) l20 c20 k20
  have b20 := F20.binds (ps := P_is_same_both_ways) fun _ _ _ _ _ _ us hl => match us, hl with | [_], _ => rfl
  have F21 := fun_mk (st := s_corners_of) l21 c21 k21
  have b21 := F21.binds (ps := P_corners_of) fun _ _ _ _ _ _ us hl => match us, hl with | [_], _ => rfl
  have F22 := fun_mk (st := s__law_decanter) l22 c22 k22
  have b22 := F22.binds (ps := P__law_decanter) fun _ _ _ _ _ _ us hl => match us, hl with | [_], _ => rfl
  have F23 := fun_mk (st := s__law_serve) l23 c23 k23
  have b23 := F23.binds (ps := P__law_serve) fun _ _ _ _ _ _ us hl => match us, hl with | [_, _], _ => rfl
  have F24 := fun_mk (st := s__law_one_of) l24 c24 k24
  have b24 := F24.binds (ps := P__law_one_of) fun _ _ _ _ _ _ us hl => match us, hl with | [_, _], _ => rfl
  have F25 := fun_mk (st := s__law_web) l25 c25 k25
  have b25 := F25.binds (ps := P__law_web) fun _ _ _ _ _ _ us hl => match us, hl with | [_], _ => rfl
  have F26 := fun_mk (st := s__law_table) l26 c26 k26
  have b26 := F26.binds (ps := P__law_table) fun _ _ _ _ _ _ us hl => match us, hl with | [_], _ => rfl
  have F27 := fun_mk (st := s__law_number) l27 c27 k27
  have b27 := F27.binds (ps := P__law_number) fun _ _ _ _ _ _ us hl => match us, hl with | [_], _ => rfl
  have F28 := fun_mk (st := s__law_is) l28 c28 k28
  have b28 := F28.binds (ps := P__law_is) fun _ _ _ _ _ _ us hl => match us, hl with | [_, _, _], _ => rfl
  have F29 := fun_mk (st := s__law_hangs) l29 c29 k29
  have b29 := F29.binds (ps := P__law_hangs) fun _ _ _ _ _ _ us hl => match us, hl with | [_, _], _ => rfl
  have F30 := fun_mk (st := s__law_web_stop) l30 c30 k30
  have b30 := F30.binds (ps := P__law_web_stop) fun _ _ _ _ _ _ us hl => match us, hl with | [_], _ => rfl
  have F31 := fun_mk (st := s__law_determinant) l31 c31 k31
  have b31 := F31.binds (ps := P__law_determinant) fun _ _ _ _ _ _ us hl => match us, hl with | [_], _ => rfl
  have F32 := fun_mk (st := s__law_table_stop) l32 c32 k32
  have b32 := F32.binds (ps := P__law_table_stop) fun _ _ _ _ _ _ us hl => match us, hl with | [_], _ => rfl
  have F33 := fun_mk (st := s__law_above) l33 c33 k33
  have b33 := F33.binds (ps := P__law_above) fun _ _ _ _ _ _ us hl => match us, hl with | [_], _ => rfl
  have F34 := fun_mk (st := s__law_bent) l34 c34 k34
  have b34 := F34.binds (ps := P__law_bent) fun _ _ _ _ _ _ us hl => match us, hl with | [_, _], _ => rfl
  have F35 := fun_mk (st := s__law_heard) l35 c35 k35
  have b35 := F35.binds (ps := P__law_heard) fun _ _ _ _ _ _ us hl => match us, hl with | [_], _ => rfl
  have F36 : FunC K "_law_web_right" "_law_web_right" s__law_web_right f36 (PySem.W.fnOf "_law_web_right" "_law_web_right" (defArgs s__law_web_right) (defBody s__law_web_right) (defScope s__law_web_right) .none kV36 dc36 pm36 an36 (.ref kk36) ct36) kk36 := ⟨⟨_, _, _, _, _, _, _, _, rfl, l36, c36⟩, k36⟩
  have b36 := F36.fun_.binds (ps := P__law_web_right) fun _ _ _ _ _ _ us hl => match us, hl with | [_], _ => rfl
  have F37 : FunC K "_law_table_right" "_law_table_right" s__law_table_right f37 (PySem.W.fnOf "_law_table_right" "_law_table_right" (defArgs s__law_table_right) (defBody s__law_table_right) (defScope s__law_table_right) .none kV37 dc37 pm37 an37 (.ref kk37) ct37) kk37 := ⟨⟨_, _, _, _, _, _, _, _, rfl, l37, c37⟩, k37⟩
  have b37 := F37.fun_.binds (ps := P__law_table_right) fun _ _ _ _ _ _ us hl => match us, hl with | [_], _ => rfl
  have F38 : FunC K "law" "law" s_law fa (PySem.W.fnOf "law" "law" (defArgs s_law) (defBody s_law) (defScope s_law) .none kV38 dc38 pm38 an38 (.ref kk38) ct38) kk38 := ⟨⟨_, _, _, _, _, _, _, _, rfl, l38, c38⟩, k38⟩
  have b38 := F38.fun_.binds (ps := P_law) fun _ _ _ _ _ _ us hl => match us, hl with | [_], _ => rfl
  have UF0 := fun_mk (st := s_Web___init__) ul0 uc0 uk0
  have ub0 := UF0.binds (ps := P_Web___init__) fun _ _ _ _ _ _ us hl => match us, hl with | [_, _, _], _ => rfl
  have UF1 := fun_mk (st := s_Web___eq__) ul1 uc1 uk1
  have ub1 := UF1.binds (ps := P_Web___eq__) fun _ _ _ _ _ _ us hl => match us, hl with | [_, _], _ => rfl
  have UF2 := fun_mk (st := s_Web___str__) ul2 uc2 uk2
  have ub2 := UF2.binds (ps := P_Web___str__) fun _ _ _ _ _ _ us hl => match us, hl with | [_], _ => rfl
  have UF3 := fun_mk (st := s_Web_read) ul3 uc3 uk3
  have ub3 := UF3.binds (ps := P_Web_read) fun _ _ _ _ _ _ us hl => match us, hl with | [_], _ => rfl
  have UF4 := fun_mk (st := s_Table___init__) ul4 uc4 uk4
  have ub4 := UF4.binds (ps := P_Table___init__) fun _ _ _ _ _ _ us hl => match us, hl with | [_, _], _ => rfl
  have UF5 := fun_mk (st := s_Table___eq__) ul5 uc5 uk5
  have ub5 := UF5.binds (ps := P_Table___eq__) fun _ _ _ _ _ _ us hl => match us, hl with | [_, _], _ => rfl
  have UF6 := fun_mk (st := s_Table___str__) ul6 uc6 uk6
  have ub6 := UF6.binds (ps := P_Table___str__) fun _ _ _ _ _ _ us hl => match us, hl with | [_], _ => rfl
  have UF7 := fun_mk (st := s_Table_read) ul7 uc7 uk7
  have ub7 := UF7.binds (ps := P_Table_read) fun _ _ _ _ _ _ us hl => match us, hl with | [_], _ => rfl
  have n0 : Cn K mg C0 "NetError" := ⟨PySem.W.mg_of X GN xa0, _, _, _, _, _, _, _, _, _, _, _, _, _, _, xl0⟩
  have n1 : Cn K mg C1 "BadNumber" := ⟨PySem.W.mg_of X GN xa1, _, _, _, _, _, _, _, _, _, _, _, _, _, _, xl1⟩
  have n2 : Cn K mg C2 "BadWeb" := ⟨PySem.W.mg_of X GN xa2, _, _, _, _, _, _, _, _, _, _, _, _, _, _, xl2⟩
  have n3 : Cn K mg C3 "BadTable" := ⟨PySem.W.mg_of X GN xa3, _, _, _, _, _, _, _, _, _, _, _, _, _, _, xl3⟩
  have n4 : Cn K mg C4 "BadText" := ⟨PySem.W.mg_of X GN xa4, _, _, _, _, _, _, _, _, _, _, _, _, _, _, xl4⟩
  have X1 : XT K mg "BadNumber" C1 g1 [C0] ["NetError"] ["part"] := ⟨PySem.W.mg_of X GN xa1, ⟨_, _, _, _, _, _, _, _, _, _, _, _, _, xl1⟩, (.cons n0 .nil), xs1, xg1, xh1, xc1, hcn, hct, xi1, xt1, xk1, fun f hf => by
    rcases List.mem_cons.mp hf with rfl | hf
    · exact xn1_0
    cases hf⟩
  have GF1 := fun_mk (st := s_init_BadNumber) gl1 gc1 gk1
  have gb1 := GF1.binds (ps := P_init_BadNumber) fun _ _ _ _ _ _ us hl => match us, hl with | [_, _], _ => rfl
  have X2 : XT K mg "BadWeb" C2 g2 [C0] ["NetError"] ["part"] := ⟨PySem.W.mg_of X GN xa2, ⟨_, _, _, _, _, _, _, _, _, _, _, _, _, xl2⟩, (.cons n0 .nil), xs2, xg2, xh2, xc2, hcn, hct, xi2, xt2, xk2, fun f hf => by
    rcases List.mem_cons.mp hf with rfl | hf
    · exact xn2_0
    cases hf⟩
  have GF2 := fun_mk (st := s_init_BadWeb) gl2 gc2 gk2
  have gb2 := GF2.binds (ps := P_init_BadWeb) fun _ _ _ _ _ _ us hl => match us, hl with | [_, _], _ => rfl
  have X3 : XT K mg "BadTable" C3 g3 [C0] ["NetError"] ["part"] := ⟨PySem.W.mg_of X GN xa3, ⟨_, _, _, _, _, _, _, _, _, _, _, _, _, xl3⟩, (.cons n0 .nil), xs3, xg3, xh3, xc3, hcn, hct, xi3, xt3, xk3, fun f hf => by
    rcases List.mem_cons.mp hf with rfl | hf
    · exact xn3_0
    cases hf⟩
  have GF3 := fun_mk (st := s_init_BadTable) gl3 gc3 gk3
  have gb3 := GF3.binds (ps := P_init_BadTable) fun _ _ _ _ _ _ us hl => match us, hl with | [_, _], _ => rfl
  have X4 : XT K mg "BadText" C4 g4 [C0] ["NetError"] ["line", "item"] := ⟨PySem.W.mg_of X GN xa4, ⟨_, _, _, _, _, _, _, _, _, _, _, _, _, xl4⟩, (.cons n0 .nil), xs4, xg4, xh4, xc4, hcn, hct, xi4, xt4, xk4, fun f hf => by
    rcases List.mem_cons.mp hf with rfl | hf
    · exact xn4_0
    rcases List.mem_cons.mp hf with rfl | hf
    · exact xn4_1
    cases hf⟩
  have GF4 := fun_mk (st := s_init_BadText) gl4 gc4 gk4
  have gb4 := GF4.binds (ps := P_init_BadText) fun _ _ _ _ _ _ us hl => match us, hl with | [_, _, _], _ => rfl
  let A : Ad := { p_Web := pR0, p_Table := pR1, k__law_web_right := kk36, t__law_web_right := kp36, k__law_table_right := kk37, t__law_table_right := kp37, k_law := kk38, t_law := kp38, c_Web := CO0, c_Table := CO1, a_is_integer := f0, d_is_integer := (PySem.W.fnOf "is_integer" "is_integer" (defArgs s_is_integer) (defBody s_is_integer) (defScope s_is_integer) .none kV0 dc0 pm0 an0 cd0 ct0), a_is_within := f1, d_is_within := (PySem.W.fnOf "is_within" "is_within" (defArgs s_is_within) (defBody s_is_within) (defScope s_is_within) .none kV1 dc1 pm1 an1 cd1 ct1), a_are_integers := f2, d_are_integers := (PySem.W.fnOf "are_integers" "are_integers" (defArgs s_are_integers) (defBody s_are_integers) (defScope s_are_integers) .none kV2 dc2 pm2 an2 cd2 ct2), a_own_names := f3, d_own_names := (PySem.W.fnOf "own_names" "own_names" (defArgs s_own_names) (defBody s_own_names) (defScope s_own_names) .none kV3 dc3 pm3 an3 cd3 ct3), a_joined := f4, d_joined := (PySem.W.fnOf "joined" "joined" (defArgs s_joined) (defBody s_joined) (defScope s_joined) .none kV4 dc4 pm4 an4 cd4 ct4), a_names_of := f5, d_names_of := (PySem.W.fnOf "names_of" "names_of" (defArgs s_names_of) (defBody s_names_of) (defScope s_names_of) .none kV5 dc5 pm5 an5 cd5 ct5), a_fixed := f6, d_fixed := (PySem.W.fnOf "fixed" "fixed" (defArgs s_fixed) (defBody s_fixed) (defScope s_fixed) .none kV6 dc6 pm6 an6 cd6 ct6), a_items_of := f7, d_items_of := (PySem.W.fnOf "items_of" "items_of" (defArgs s_items_of) (defBody s_items_of) (defScope s_items_of) .none kV7 dc7 pm7 an7 cd7 ct7), a_number_of := f8, d_number_of := (PySem.W.fnOf "number_of" "number_of" (defArgs s_number_of) (defBody s_number_of) (defScope s_number_of) .none kV8 dc8 pm8 an8 cd8 ct8), a_item_at := f9, d_item_at := (PySem.W.fnOf "item_at" "item_at" (defArgs s_item_at) (defBody s_item_at) (defScope s_item_at) .none kV9 dc9 pm9 an9 cd9 ct9), a_number_at := f10, d_number_at := (PySem.W.fnOf "number_at" "number_at" (defArgs s_number_at) (defBody s_number_at) (defScope s_number_at) .none kV10 dc10 pm10 an10 cd10 ct10), a_read_colon := f11, d_read_colon := (PySem.W.fnOf "read_colon" "read_colon" (defArgs s_read_colon) (defBody s_read_colon) (defScope s_read_colon) .none kV11 dc11 pm11 an11 cd11 ct11), a_read_end := f12, d_read_end := (PySem.W.fnOf "read_end" "read_end" (defArgs s_read_end) (defBody s_read_end) (defScope s_read_end) .none kV12 dc12 pm12 an12 cd12 ct12), a_are_ties := f13, d_are_ties := (PySem.W.fnOf "are_ties" "are_ties" (defArgs s_are_ties) (defBody s_are_ties) (defScope s_are_ties) .none kV13 dc13 pm13 an13 cd13 ct13), a_is_pair := f14, d_is_pair := (PySem.W.fnOf "is_pair" "is_pair" (defArgs s_is_pair) (defBody s_is_pair) (defScope s_is_pair) .none kV14 dc14 pm14 an14 cd14 ct14), a_hang_together := f15, d_hang_together := (PySem.W.fnOf "hang_together" "hang_together" (defArgs s_hang_together) (defBody s_hang_together) (defScope s_hang_together) .none kV15 dc15 pm15 an15 cd15 ct15), a_cleared := f16, d_cleared := (PySem.W.fnOf "cleared" "cleared" (defArgs s_cleared) (defBody s_cleared) (defScope s_cleared) .none kV16 dc16 pm16 an16 cd16 ct16), a_are_rows := f17, d_are_rows := (PySem.W.fnOf "are_rows" "are_rows" (defArgs s_are_rows) (defBody s_are_rows) (defScope s_are_rows) .none kV17 dc17 pm17 an17 cd17 ct17), a_are_points := f18, d_are_points := (PySem.W.fnOf "are_points" "are_points" (defArgs s_are_points) (defBody s_are_points) (defScope s_are_points) .none kV18 dc18 pm18 an18 cd18 ct18), a_is_point := f19, d_is_point := (PySem.W.fnOf "is_point" "is_point" (defArgs s_is_point) (defBody s_is_point) (defScope s_is_point) .none kV19 dc19 pm19 an19 cd19 ct19), a_is_same_both_ways := f20, d_is_same_both_ways := (PySem.W.fnOf "is_same_both_ways" "is_same_both_ways" (defArgs s_is_same_both_ways) (defBody s_is_same_both_ways) (defScope s_is_same_both_ways) .none kV20 dc20 pm20 an20 cd20 ct20), a_corners_of := f21, d_corners_of := (PySem.W.fnOf "corners_of" "corners_of" (defArgs s_corners_of) (defBody s_corners_of) (defScope s_corners_of) .none kV21 dc21 pm21 an21 cd21 ct21), a__law_decanter := f22, d__law_decanter := (PySem.W.fnOf "_law_decanter" "_law_decanter" (defArgs s__law_decanter) (defBody s__law_decanter) (defScope s__law_decanter) .none kV22 dc22 pm22 an22 cd22 ct22), a__law_serve := f23, d__law_serve := (PySem.W.fnOf "_law_serve" "_law_serve" (defArgs s__law_serve) (defBody s__law_serve) (defScope s__law_serve) .none kV23 dc23 pm23 an23 cd23 ct23), a__law_one_of := f24, d__law_one_of := (PySem.W.fnOf "_law_one_of" "_law_one_of" (defArgs s__law_one_of) (defBody s__law_one_of) (defScope s__law_one_of) .none kV24 dc24 pm24 an24 cd24 ct24), a__law_web := f25, d__law_web := (PySem.W.fnOf "_law_web" "_law_web" (defArgs s__law_web) (defBody s__law_web) (defScope s__law_web) .none kV25 dc25 pm25 an25 cd25 ct25), a__law_table := f26, d__law_table := (PySem.W.fnOf "_law_table" "_law_table" (defArgs s__law_table) (defBody s__law_table) (defScope s__law_table) .none kV26 dc26 pm26 an26 cd26 ct26), a__law_number := f27, d__law_number := (PySem.W.fnOf "_law_number" "_law_number" (defArgs s__law_number) (defBody s__law_number) (defScope s__law_number) .none kV27 dc27 pm27 an27 cd27 ct27), a__law_is := f28, d__law_is := (PySem.W.fnOf "_law_is" "_law_is" (defArgs s__law_is) (defBody s__law_is) (defScope s__law_is) .none kV28 dc28 pm28 an28 cd28 ct28), a__law_hangs := f29, d__law_hangs := (PySem.W.fnOf "_law_hangs" "_law_hangs" (defArgs s__law_hangs) (defBody s__law_hangs) (defScope s__law_hangs) .none kV29 dc29 pm29 an29 cd29 ct29), a__law_web_stop := f30, d__law_web_stop := (PySem.W.fnOf "_law_web_stop" "_law_web_stop" (defArgs s__law_web_stop) (defBody s__law_web_stop) (defScope s__law_web_stop) .none kV30 dc30 pm30 an30 cd30 ct30), a__law_determinant := f31, d__law_determinant := (PySem.W.fnOf "_law_determinant" "_law_determinant" (defArgs s__law_determinant) (defBody s__law_determinant) (defScope s__law_determinant) .none kV31 dc31 pm31 an31 cd31 ct31), a__law_table_stop := f32, d__law_table_stop := (PySem.W.fnOf "_law_table_stop" "_law_table_stop" (defArgs s__law_table_stop) (defBody s__law_table_stop) (defScope s__law_table_stop) .none kV32 dc32 pm32 an32 cd32 ct32), a__law_above := f33, d__law_above := (PySem.W.fnOf "_law_above" "_law_above" (defArgs s__law_above) (defBody s__law_above) (defScope s__law_above) .none kV33 dc33 pm33 an33 cd33 ct33), a__law_bent := f34, d__law_bent := (PySem.W.fnOf "_law_bent" "_law_bent" (defArgs s__law_bent) (defBody s__law_bent) (defScope s__law_bent) .none kV34 dc34 pm34 an34 cd34 ct34), a__law_heard := f35, d__law_heard := (PySem.W.fnOf "_law_heard" "_law_heard" (defArgs s__law_heard) (defBody s__law_heard) (defScope s__law_heard) .none kV35 dc35 pm35 an35 cd35 ct35), a__law_web_right := f36, d__law_web_right := (PySem.W.fnOf "_law_web_right" "_law_web_right" (defArgs s__law_web_right) (defBody s__law_web_right) (defScope s__law_web_right) .none kV36 dc36 pm36 an36 (.ref kk36) ct36), a__law_table_right := f37, d__law_table_right := (PySem.W.fnOf "_law_table_right" "_law_table_right" (defArgs s__law_table_right) (defBody s__law_table_right) (defScope s__law_table_right) .none kV37 dc37 pm37 an37 (.ref kk37) ct37), a_law := fa, d_law := (PySem.W.fnOf "law" "law" (defArgs s_law) (defBody s_law) (defScope s_law) .none kV38 dc38 pm38 an38 (.ref kk38) ct38), a_Web___init__ := u0, d_Web___init__ := (PySem.W.fnOf "__init__" "Web.__init__" (defArgs s_Web___init__) (defBody s_Web___init__) (defScope s_Web___init__) .none ukV0 udc0 upm0 uan0 ucd0 uct0), a_Web___eq__ := u1, d_Web___eq__ := (PySem.W.fnOf "__eq__" "Web.__eq__" (defArgs s_Web___eq__) (defBody s_Web___eq__) (defScope s_Web___eq__) .none ukV1 udc1 upm1 uan1 ucd1 uct1), a_Web___str__ := u2, d_Web___str__ := (PySem.W.fnOf "__str__" "Web.__str__" (defArgs s_Web___str__) (defBody s_Web___str__) (defScope s_Web___str__) .none ukV2 udc2 upm2 uan2 ucd2 uct2), a_Web_read := u3, d_Web_read := (PySem.W.fnOf "read" "Web.read" (defArgs s_Web_read) (defBody s_Web_read) (defScope s_Web_read) .none ukV3 udc3 upm3 uan3 ucd3 uct3), a_Table___init__ := u4, d_Table___init__ := (PySem.W.fnOf "__init__" "Table.__init__" (defArgs s_Table___init__) (defBody s_Table___init__) (defScope s_Table___init__) .none ukV4 udc4 upm4 uan4 ucd4 uct4), a_Table___eq__ := u5, d_Table___eq__ := (PySem.W.fnOf "__eq__" "Table.__eq__" (defArgs s_Table___eq__) (defBody s_Table___eq__) (defScope s_Table___eq__) .none ukV5 udc5 upm5 uan5 ucd5 uct5), a_Table___str__ := u6, d_Table___str__ := (PySem.W.fnOf "__str__" "Table.__str__" (defArgs s_Table___str__) (defBody s_Table___str__) (defScope s_Table___str__) .none ukV6 udc6 upm6 uan6 ucd6 uct6), a_Table_read := u7, d_Table_read := (PySem.W.fnOf "read" "Table.read" (defArgs s_Table_read) (defBody s_Table_read) (defScope s_Table_read) .none ukV7 udc7 upm7 uan7 ucd7 uct7), c_NetError := C0, c_BadNumber := C1, c_BadWeb := C2, c_BadTable := C3, c_BadText := C4, i_BadNumber := g1, d_init_BadNumber := (PySem.W.fnOf "__init__" "BadNumber.__init__" (defArgs s_init_BadNumber) (defBody s_init_BadNumber) (defScope s_init_BadNumber) .none gkV1 gdc1 gpm1 gan1 gcd1 gct1), i_BadWeb := g2, d_init_BadWeb := (PySem.W.fnOf "__init__" "BadWeb.__init__" (defArgs s_init_BadWeb) (defBody s_init_BadWeb) (defScope s_init_BadWeb) .none gkV2 gdc2 gpm2 gan2 gcd2 gct2), i_BadTable := g3, d_init_BadTable := (PySem.W.fnOf "__init__" "BadTable.__init__" (defArgs s_init_BadTable) (defBody s_init_BadTable) (defScope s_init_BadTable) .none gkV3 gdc3 gpm3 gan3 gcd3 gct3), i_BadText := g4, d_init_BadText := (PySem.W.fnOf "__init__" "BadText.__init__" (defArgs s_init_BadText) (defBody s_init_BadText) (defScope s_init_BadText) .none gkV4 gdc4 gpm4 gan4 gcd4 gct4), t_MOST_DIGITS := tk_MOST_DIGITS, t_MOST_PLACES := tk_MOST_PLACES, t_MOST_TIES := tk_MOST_TIES, t_MOST_ROWS := tk_MOST_ROWS }
  have T : Txt l.prog K mg A := { g_is_integer := PySem.W.mg_of X GN a0, F_is_integer := F0, b_is_integer := b0, g_is_within := PySem.W.mg_of X GN a1, F_is_within := F1, b_is_within := b1, g_are_integers := PySem.W.mg_of X GN a2, F_are_integers := F2, b_are_integers := b2, g_own_names := PySem.W.mg_of X GN a3, F_own_names := F3, b_own_names := b3, g_joined := PySem.W.mg_of X GN a4, F_joined := F4, b_joined := b4, g_names_of := PySem.W.mg_of X GN a5, F_names_of := F5, b_names_of := b5, g_fixed := PySem.W.mg_of X GN a6, F_fixed := F6, b_fixed := b6, g_items_of := PySem.W.mg_of X GN a7, F_items_of := F7, b_items_of := b7, g_number_of := PySem.W.mg_of X GN a8, F_number_of := F8, b_number_of := b8, g_item_at := PySem.W.mg_of X GN a9, F_item_at := F9, b_item_at := b9, g_number_at := PySem.W.mg_of X GN a10, F_number_at := F10, b_number_at := b10, g_read_colon := PySem.W.mg_of X GN a11, F_read_colon := F11, b_read_colon := b11, g_read_end := PySem.W.mg_of X GN a12, F_read_end := F12, b_read_end := b12, g_are_ties := PySem.W.mg_of X GN a13, F_are_ties := F13, b_are_ties := b13, g_is_pair := PySem.W.mg_of X GN a14, F_is_pair := F14, b_is_pair := b14, g_hang_together := PySem.W.mg_of X GN a15, F_hang_together := F15, b_hang_together := b15, g_cleared := PySem.W.mg_of X GN a16, F_cleared := F16, b_cleared := b16, g_are_rows := PySem.W.mg_of X GN a17, F_are_rows := F17, b_are_rows := b17, g_are_points := PySem.W.mg_of X GN a18, F_are_points := F18, b_are_points := b18, g_is_point := PySem.W.mg_of X GN a19, F_is_point := F19, b_is_point := b19, g_is_same_both_ways := PySem.W.mg_of X GN a20, F_is_same_both_ways := F20, b_is_same_both_ways := b20, g_corners_of := PySem.W.mg_of X GN a21, F_corners_of := F21, b_corners_of := b21, g__law_decanter := PySem.W.mg_of X GN a22, F__law_decanter := F22, b__law_decanter := b22, g__law_serve := PySem.W.mg_of X GN a23, F__law_serve := F23, b__law_serve := b23, g__law_one_of := PySem.W.mg_of X GN a24, F__law_one_of := F24, b__law_one_of := b24, g__law_web := PySem.W.mg_of X GN a25, F__law_web := F25, b__law_web := b25, g__law_table := PySem.W.mg_of X GN a26, F__law_table := F26, b__law_table := b26, g__law_number := PySem.W.mg_of X GN a27, F__law_number := F27, b__law_number := b27, g__law_is := PySem.W.mg_of X GN a28, F__law_is := F28, b__law_is := b28, g__law_hangs := PySem.W.mg_of X GN a29, F__law_hangs := F29, b__law_hangs := b29, g__law_web_stop := PySem.W.mg_of X GN a30, F__law_web_stop := F30, b__law_web_stop := b30, g__law_determinant := PySem.W.mg_of X GN a31, F__law_determinant := F31, b__law_determinant := b31, g__law_table_stop := PySem.W.mg_of X GN a32, F__law_table_stop := F32, b__law_table_stop := b32, g__law_above := PySem.W.mg_of X GN a33, F__law_above := F33, b__law_above := b33, g__law_bent := PySem.W.mg_of X GN a34, F__law_bent := F34, b__law_bent := b34, g__law_heard := PySem.W.mg_of X GN a35, F__law_heard := F35, b__law_heard := b35, g__law_web_right := PySem.W.mg_of X GN a36, F__law_web_right := F36, b__law_web_right := b36, g__law_table_right := PySem.W.mg_of X GN a37, F__law_table_right := F37, b__law_table_right := b37, g_law := PySem.W.mg_of X GN a38, F_law := F38, b_law := b38, g_Web := PySem.W.mg_of X GN oa0, M_Web := ⟨omk0, uf0, ufn0, okp0⟩, K_Web := ⟨opg0, ohh0, opo0, osa0⟩, I_Web := ⟨oca0, hcn, hct, ocm0⟩, N_Web_places := on0_places, N_Web_ties := on0_ties, g_Table := PySem.W.mg_of X GN oa1, M_Table := ⟨omk1, uf4, ufn4, okp1⟩, K_Table := ⟨opg1, ohh1, opo1, osa1⟩, I_Table := ⟨oca1, hcn, hct, ocm1⟩, N_Table_determinant := on1_determinant, N_Table_rows := on1_rows, N_Table_size := on1_size, F_Web___init__ := UF0, b_Web___init__ := ub0, F_Web___eq__ := UF1, b_Web___eq__ := ub1, F_Web___str__ := UF2, b_Web___str__ := ub2, F_Web_read := UF3, b_Web_read := ub3, F_Table___init__ := UF4, b_Table___init__ := ub4, F_Table___eq__ := UF5, b_Table___eq__ := ub5, F_Table___str__ := UF6, b_Table___str__ := ub6, F_Table_read := UF7, b_Table_read := ub7, C_NetError := n0, X_BadNumber := X1, F_init_BadNumber := GF1, b_init_BadNumber := gb1, X_BadWeb := X2, F_init_BadWeb := GF2, b_init_BadWeb := gb2, X_BadTable := X3, F_init_BadTable := GF3, b_init_BadTable := gb3, X_BadText := X4, F_init_BadText := GF4, b_init_BadText := gb4, m_MOST_DIGITS := PySem.W.mg_of X GN mc_MOST_DIGITS, m_MOST_PLACES := PySem.W.mg_of X GN mc_MOST_PLACES, m_MOST_TIES := PySem.W.mg_of X GN mc_MOST_TIES, m_MOST_ROWS := PySem.W.mg_of X GN mc_MOST_ROWS, n_abs := PySem.W.mg_none_of X GN z0, n_all := PySem.W.mg_none_of X GN z1, n_any := PySem.W.mg_none_of X GN z2, n_bool := PySem.W.mg_none_of X GN z3, n_enumerate := PySem.W.mg_none_of X GN z4, n_int := PySem.W.mg_none_of X GN z5, n_isinstance := PySem.W.mg_none_of X GN z6, n_len := PySem.W.mg_none_of X GN z7, n_list := PySem.W.mg_none_of X GN z8, n_max := PySem.W.mg_none_of X GN z9, n_min := PySem.W.mg_none_of X GN z10, n_range := PySem.W.mg_none_of X GN z11, n_repr := PySem.W.mg_none_of X GN z12, n_set := PySem.W.mg_none_of X GN z13, n_str := PySem.W.mg_none_of X GN z14, n_tuple := PySem.W.mg_none_of X GN z15, n_type := PySem.W.mg_none_of X GN z16, n_zip := PySem.W.mg_none_of X GN z17, S_Web_read := ⟨srd0, sga0, sat0, Or.inr ⟨_, src0⟩⟩, O_eq_Web := ⟨⟨_, _, _, _, _, _, _, _, _, _, _, _, _, _, _, _, ol0⟩, uf1, ufn1, one0⟩, O_l_Web := onl0, O_t_Web := ont0, O_s_Web := uf2, O_f_Web := ufn2, S_Table_read := ⟨srd1, sga1, sat1, Or.inr ⟨_, src1⟩⟩, O_eq_Table := ⟨⟨_, _, _, _, _, _, _, _, _, _, _, _, _, _, _, _, ol1⟩, uf5, ufn5, one1⟩, O_l_Table := onl1, O_t_Table := ont1, O_s_Table := uf6, O_f_Table := ufn6, Z_s := zst, E_1 := e1, E_2 := e2, E_3 := e3, X_sBadNumber := es1, X_sBadWeb := es2, X_sBadTable := es3, X_sBadText := es4 }
  obtain ⟨o0, p0⟩ := TO _ _ _ _ kr36 kt36
  obtain ⟨o1, p1⟩ := TO _ _ _ _ kr37 kt37
  obtain ⟨o2, p2⟩ := TO _ _ _ _ kr38 kt38
  have all : ∀ {R : Addr × Addr → Prop}, R (kk36, kp36) → R (kk37, kp37) → R (kk38, kp38) → ∀ p ∈ ([(kk36, kp36), (kk37, kp37), (kk38, kp38)] : List (Addr × Addr)), R p := fun r0 r1 r2 p hp => by
    simp only [List.mem_cons, List.not_mem_nil, or_false] at hp
    rcases hp with rfl | rfl | rfl
    · exact r0
    · exact r1
    · exact r2
  refine ⟨(PySem.W.fnOf "law" "law" (defArgs s_law) (defBody s_law) (defScope s_law) .none kV38 dc38 pm38 an38 (.ref kk38) ct38), [(kk36, kp36), (kk37, kp37), (kk38, kp38)], sp_law A K, all p0 p1 p2, all kn36 kn37 kn38, all o0 o1 o2, fun s v => .of_eq rfl, fun H a ns hl hH hS => ⟨a, ns, rfl, hS, hl, fun p hp => ?_, fun _ => rfl⟩, fun base _ _ hb => G_law T (hb _ List.mem_cons_self) (hb _ (List.mem_cons_of_mem _ List.mem_cons_self)) (hb _ (List.mem_cons_of_mem _ (List.mem_cons_of_mem _ List.mem_cons_self))) kne⟩
  have hp' : p ∈ [(kp36, lqn "_law_web_right"), (kp37, lqn "_law_table_right"), (kp38, lqn "law")] := hp
  simp only [List.mem_cons, List.not_mem_nil, or_false] at hp'
  rcases hp' with rfl | rfl | rfl
  · exact TabS.nil (hH _ List.mem_cons_self)
  · exact TabS.nil (hH _ (List.mem_cons_of_mem _ List.mem_cons_self))
  · exact TabS.nil (hH _ (List.mem_cons_of_mem _ (List.mem_cons_of_mem _ List.mem_cons_self)))
theorem walk {l : PySem.W.OpenLaw} {q : Program} {loose : List Str} {XP : (Str → Option Value) → Heap → Prop} {YP : World → Heap → Prop} {d : DefRec} {K : Params → PySem.W.Frag} (hn : l.most = some 63) (hdf : d.params.defaults = [])
    (hY : ∀ (w : World) (h : Heap), YP w h → (K w.params).In h)
    (F : ∀ (w : World) (mg : Str → Option Value) (fa : Addr) (h : Heap), (K w.params).In h → h.Ns mainGlobals mg → mg d.name = some (.ref fa) → TabOf q (K w.params) h → LawAtG l w (K w.params) CX0 17 63 "script" mg fa h) :
    PySem.W.WalkO q loose XP YP l.row.toRowW d [] (fun f vs => PySem.call f vs) :=
  walk_ofTG (n := 63) (k := 17) (x := "script") (CX := fun _ => CX0) hn (by decide) hdf ⟨⟨rfl, by decide, by decide⟩, rfl⟩ hY F fun _ _ _ _ _ z => z
end K03
open PySem PySem.W PyProof.Rows
set_option maxRecDepth 100000 in
set_option maxHeartbeats 0 in
theorem PySem.Challenge.cw_flowtells_k03_texts_bent_anywhere_holds : PySem.Challenge.rw_flowtells_k03_texts_bent_anywhere.Holds := by
  w_on; o_law; k_head; (case hw => w_witness2)
  k_fill
  refine K03.walk (l := PySem.Challenge.rw_flowtells_k03_texts_bent_anywhere) rfl rfl (fun w h Y => PySem.W.km_in_of Y) ?F
  case F =>
    intro w mg fa h KX GN hmg TO
    refine' K03.all_mk KX GN hmg TO ?a0 ?l0 ?c0 ?k0 ?a1 ?l1 ?c1 ?k1 ?a2 ?l2 ?c2 ?k2 ?a3 ?l3 ?c3 ?k3 ?a4 ?l4 ?c4 ?k4 ?a5 ?l5 ?c5 ?k5 ?a6 ?l6 ?c6 ?k6 ?a7 ?l7 ?c7 ?k7 ?a8 ?l8 ?c8 ?k8 ?a9 ?l9 ?c9 ?k9 ?a10 ?l10 ?c10 ?k10 ?a11 ?l11 ?c11 ?k11 ?a12 ?l12 ?c12 ?k12 ?a13 ?l13 ?c13 ?k13 ?a14 ?l14 ?c14 ?k14 ?a15 ?l15 ?c15 ?k15 ?a16 ?l16 ?c16 ?k16 ?a17 ?l17 ?c17 ?k17 ?a18 ?l18 ?c18 ?k18 ?a19 ?l19 ?c19 ?k19 ?a20 ?l20 ?c20 ?k20 ?a21 ?l21 ?c21 ?k21 ?a22 ?l22 ?c22 ?k22 ?a23 ?l23 ?c23 ?k23 ?a24 ?l24 ?c24 ?k24 ?a25 ?l25 ?c25 ?k25 ?a26 ?l26 ?c26 ?k26 ?a27 ?l27 ?c27 ?k27 ?a28 ?l28 ?c28 ?k28 ?a29 ?l29 ?c29 ?k29 ?a30 ?l30 ?c30 ?k30 ?a31 ?l31 ?c31 ?k31 ?a32 ?l32 ?c32 ?k32 ?a33 ?l33 ?c33 ?k33 ?a34 ?l34 ?c34 ?k34 ?a35 ?l35 ?c35 ?k35 ?a36 ?l36 ?c36 ?k36 ?a37 ?l37 ?c37 ?k37 ?a38 ?l38 ?c38 ?k38 ?kl36 ?kv36 ?kt36 ?kn36 ?kr36 ?kl37 ?kv37 ?kt37 ?kn37 ?kr37 ?kl38 ?kv38 ?kt38 ?kn38 ?kr38 ?kne ?oa0 ?ol0 ?omk0 ?uf0 ?ul0 ?uc0 ?uk0 ?ufn0 ?uf1 ?ul1 ?uc1 ?uk1 ?ufn1 ?uf2 ?ul2 ?uc2 ?uk2 ?ufn2 ?srd0 ?sga0 ?sat0 ?src0 ?ul3 ?uc3 ?uk3 ?okp0 ?opg0 ?ohh0 ?opo0 ?osa0 ?oca0 ?ocm0 ?on0_places ?on0_ties ?one0 ?onl0 ?ont0 ?oa1 ?ol1 ?omk1 ?uf4 ?ul4 ?uc4 ?uk4 ?ufn4 ?uf5 ?ul5 ?uc5 ?uk5 ?ufn5 ?uf6 ?ul6 ?uc6 ?uk6 ?ufn6 ?srd1 ?sga1 ?sat1 ?src1 ?ul7 ?uc7 ?uk7 ?okp1 ?opg1 ?ohh1 ?opo1 ?osa1 ?oca1 ?ocm1 ?on1_determinant ?on1_rows ?on1_size ?one1 ?onl1 ?ont1 ?zst ?hcn ?hct ?xa0 ?xl0 ?xa1 ?xl1 ?xs1 ?xg1 ?xh1 ?xc1 ?xi1 ?xt1 ?xk1 ?xn1_0 ?gl1 ?gc1 ?gk1 ?xa2 ?xl2 ?xs2 ?xg2 ?xh2 ?xc2 ?xi2 ?xt2 ?xk2 ?xn2_0 ?gl2 ?gc2 ?gk2 ?xa3 ?xl3 ?xs3 ?xg3 ?xh3 ?xc3 ?xi3 ?xt3 ?xk3 ?xn3_0 ?gl3 ?gc3 ?gk3 ?xa4 ?xl4 ?xs4 ?xg4 ?xh4 ?xc4 ?xi4 ?xt4 ?xk4 ?xn4_0 ?xn4_1 ?gl4 ?gc4 ?gk4 ?e1 ?e2 ?e3 ?es1 ?es2 ?es3 ?es4 ?mc_MOST_DIGITS ?mc_MOST_PLACES ?mc_MOST_TIES ?mc_MOST_ROWS ?z0 ?z1 ?z2 ?z3 ?z4 ?z5 ?z6 ?z7 ?z8 ?z9 ?z10 ?z11 ?z12 ?z13 ?z14 ?z15 ?z16 ?z17
    (case a0 => k_is)
    (case l0 => k_is)
    (case c0 => k_is)
    (case k0 => k_is)
    (case a1 => k_is)
    (case l1 => k_is)
    (case c1 => k_is)
    (case k1 => k_is)
    (case a2 => k_is)
    (case l2 => k_is)
    (case c2 => k_is)
    (case k2 => k_is)
    (case a3 => k_is)
    (case l3 => k_is)
    (case c3 => k_is)
    (case k3 => k_is)
    (case a4 => k_is)
    (case l4 => k_is)
    (case c4 => k_is)
    (case k4 => k_is)
    (case a5 => k_is)
    (case l5 => k_is)
    (case c5 => k_is)
    (case k5 => k_is)
    (case a6 => k_is)
    (case l6 => k_is)
    (case c6 => k_is)
    (case k6 => k_is)
    (case a7 => k_is)
    (case l7 => k_is)
    (case c7 => k_is)
    (case k7 => k_is)
    (case a8 => k_is)
    (case l8 => k_is)
    (case c8 => k_is)
    (case k8 => k_is)
    (case a9 => k_is)
    (case l9 => k_is)
    (case c9 => k_is)
    (case k9 => k_is)
    (case a10 => k_is)
    (case l10 => k_is)
    (case c10 => k_is)
    (case k10 => k_is)
    (case a11 => k_is)
    (case l11 => k_is)
    (case c11 => k_is)
    (case k11 => k_is)
    (case a12 => k_is)
    (case l12 => k_is)
    (case c12 => k_is)
    (case k12 => k_is)
    (case a13 => k_is)
    (case l13 => k_is)
    (case c13 => k_is)
    (case k13 => k_is)
    (case a14 => k_is)
    (case l14 => k_is)
    (case c14 => k_is)
    (case k14 => k_is)
    (case a15 => k_is)
    (case l15 => k_is)
    (case c15 => k_is)
    (case k15 => k_is)
    (case a16 => k_is)
    (case l16 => k_is)
    (case c16 => k_is)
    (case k16 => k_is)
    (case a17 => k_is)
    (case l17 => k_is)
    (case c17 => k_is)
    (case k17 => k_is)
    (case a18 => k_is)
    (case l18 => k_is)
    (case c18 => k_is)
    (case k18 => k_is)
    (case a19 => k_is)
    (case l19 => k_is)
    (case c19 => k_is)
    (case k19 => k_is)
    (case a20 => k_is)
    (case l20 => k_is)
    (case c20 => k_is)
    (case k20 => k_is)
    (case a21 => k_is)
    (case l21 => k_is)
    (case c21 => k_is)
    (case k21 => k_is)
    (case a22 => k_is)
    (case l22 => k_is)
    (case c22 => k_is)
    (case k22 => k_is)
    (case a23 => k_is)
    (case l23 => k_is)
    (case c23 => k_is)
    (case k23 => k_is)
    (case a24 => k_is)
    (case l24 => k_is)
    (case c24 => k_is)
    (case k24 => k_is)
    (case a25 => k_is)
    (case l25 => k_is)
    (case c25 => k_is)
    (case k25 => k_is)
    (case a26 => k_is)
    (case l26 => k_is)
    (case c26 => k_is)
    (case k26 => k_is)
    (case a27 => k_is)
    (case l27 => k_is)
    (case c27 => k_is)
    (case k27 => k_is)
    (case a28 => k_is)
    (case l28 => k_is)
    (case c28 => k_is)
    (case k28 => k_is)
    (case a29 => k_is)
    (case l29 => k_is)
    (case c29 => k_is)
    (case k29 => k_is)
    (case a30 => k_is)
    (case l30 => k_is)
    (case c30 => k_is)
    (case k30 => k_is)
    (case a31 => k_is)
    (case l31 => k_is)
    (case c31 => k_is)
    (case k31 => k_is)
    (case a32 => k_is)
    (case l32 => k_is)
    (case c32 => k_is)
    (case k32 => k_is)
    (case a33 => k_is)
    (case l33 => k_is)
    (case c33 => k_is)
    (case k33 => k_is)
    (case a34 => k_is)
    (case l34 => k_is)
    (case c34 => k_is)
    (case k34 => k_is)
    (case a35 => k_is)
    (case l35 => k_is)
    (case c35 => k_is)
    (case k35 => k_is)
    (case a36 => k_is)
    (case l36 => k_is)
    (case c36 => k_is)
    (case k36 => k_is)
    (case a37 => k_is)
    (case l37 => k_is)
    (case c37 => k_is)
    (case k37 => k_is)
    (case a38 => k_is)
    (case l38 => k_is)
    (case c38 => k_is)
    (case k38 => k_is)
    (case kl36 => k_is)
    (case kv36 => rfl)
    (case kt36 => kernel_rfl)
    (case kn36 => kernel_rfl)
    (case kr36 => rfl)
    (case kl37 => k_is)
    (case kv37 => rfl)
    (case kt37 => kernel_rfl)
    (case kn37 => kernel_rfl)
    (case kr37 => rfl)
    (case kl38 => k_is)
    (case kv38 => rfl)
    (case kt38 => kernel_rfl)
    (case kn38 => kernel_rfl)
    (case kr38 => rfl)
    (case kne => decide)
    (case oa0 => k_is)
    (case ol0 => k_is)
    (case omk0 => k_is)
    (case uf0 => k_is)
    (case ul0 => k_is)
    (case uc0 => k_is)
    (case uk0 => k_is)
    (case ufn0 => k_is)
    (case uf1 => k_is)
    (case ul1 => k_is)
    (case uc1 => k_is)
    (case uk1 => k_is)
    (case ufn1 => k_is)
    (case uf2 => k_is)
    (case ul2 => k_is)
    (case uc2 => k_is)
    (case uk2 => k_is)
    (case ufn2 => k_is)
    (case srd0 => k_is)
    (case sga0 => k_is)
    (case sat0 => k_is)
    (case src0 => k_is)
    (case ul3 => k_is)
    (case uc3 => k_is)
    (case uk3 => k_is)
    (case okp0 => k_is)
    (case opg0 => k_is)
    (case ohh0 => k_is)
    (case opo0 => k_is)
    (case osa0 => k_is)
    (case oca0 => k_is)
    (case ocm0 => k_is)
    (case on0_places => k_is)
    (case on0_ties => k_is)
    (case one0 => k_is)
    (case onl0 => k_is)
    (case ont0 => k_is)
    (case oa1 => k_is)
    (case ol1 => k_is)
    (case omk1 => k_is)
    (case uf4 => k_is)
    (case ul4 => k_is)
    (case uc4 => k_is)
    (case uk4 => k_is)
    (case ufn4 => k_is)
    (case uf5 => k_is)
    (case ul5 => k_is)
    (case uc5 => k_is)
    (case uk5 => k_is)
    (case ufn5 => k_is)
    (case uf6 => k_is)
    (case ul6 => k_is)
    (case uc6 => k_is)
    (case uk6 => k_is)
    (case ufn6 => k_is)
    (case srd1 => k_is)
    (case sga1 => k_is)
    (case sat1 => k_is)
    (case src1 => k_is)
    (case ul7 => k_is)
    (case uc7 => k_is)
    (case uk7 => k_is)
    (case okp1 => k_is)
    (case opg1 => k_is)
    (case ohh1 => k_is)
    (case opo1 => k_is)
    (case osa1 => k_is)
    (case oca1 => k_is)
    (case ocm1 => k_is)
    (case on1_determinant => k_is)
    (case on1_rows => k_is)
    (case on1_size => k_is)
    (case one1 => k_is)
    (case onl1 => k_is)
    (case ont1 => k_is)
    (case zst => kernel_rfl)
    (case hcn => k_is)
    (case hct => k_is)
    (case xa0 => k_is)
    (case xl0 => k_is)
    (case xa1 => k_is)
    (case xl1 => k_is)
    (case xs1 => k_is)
    (case xg1 => k_is)
    (case xh1 => k_is)
    (case xc1 => k_is)
    (case xi1 => k_is)
    (case xt1 => k_is)
    (case xk1 => k_is)
    (case xn1_0 => k_is)
    (case gl1 => k_is)
    (case gc1 => k_is)
    (case gk1 => k_is)
    (case xa2 => k_is)
    (case xl2 => k_is)
    (case xs2 => k_is)
    (case xg2 => k_is)
    (case xh2 => k_is)
    (case xc2 => k_is)
    (case xi2 => k_is)
    (case xt2 => k_is)
    (case xk2 => k_is)
    (case xn2_0 => k_is)
    (case gl2 => k_is)
    (case gc2 => k_is)
    (case gk2 => k_is)
    (case xa3 => k_is)
    (case xl3 => k_is)
    (case xs3 => k_is)
    (case xg3 => k_is)
    (case xh3 => k_is)
    (case xc3 => k_is)
    (case xi3 => k_is)
    (case xt3 => k_is)
    (case xk3 => k_is)
    (case xn3_0 => k_is)
    (case gl3 => k_is)
    (case gc3 => k_is)
    (case gk3 => k_is)
    (case xa4 => k_is)
    (case xl4 => k_is)
    (case xs4 => k_is)
    (case xg4 => k_is)
    (case xh4 => k_is)
    (case xc4 => k_is)
    (case xi4 => k_is)
    (case xt4 => k_is)
    (case xk4 => k_is)
    (case xn4_0 => k_is)
    (case xn4_1 => k_is)
    (case gl4 => k_is)
    (case gc4 => k_is)
    (case gk4 => k_is)
    (case e1 => k_is)
    (case e2 => k_is)
    (case e3 => k_is)
    (case es1 => k_is)
    (case es2 => k_is)
    (case es3 => k_is)
    (case es4 => k_is)
    (case mc_MOST_DIGITS => k_is)
    (case mc_MOST_PLACES => k_is)
    (case mc_MOST_TIES => k_is)
    (case mc_MOST_ROWS => k_is)
    (case z0 => k_is)
    (case z1 => k_is)
    (case z2 => k_is)
    (case z3 => k_is)
    (case z4 => k_is)
    (case z5 => k_is)
    (case z6 => k_is)
    (case z7 => k_is)
    (case z8 => k_is)
    (case z9 => k_is)
    (case z10 => k_is)
    (case z11 => k_is)
    (case z12 => k_is)
    (case z13 => k_is)
    (case z14 => k_is)
    (case z15 => k_is)
    (case z16 => k_is)
    (case z17 => k_is)
