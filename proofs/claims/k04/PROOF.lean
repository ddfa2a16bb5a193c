import PyProof.Rows.All
import Wide.All
import OpenK.AllK
import Wide.FinOn
import HandS.ForMost
import HandS.ForExc
import HandS.IsInst
import HandS.Strs
import HandS.Flow
import PyProof.ReprRoads
import HandS.Walk
import HandS.Style
import HandS.ExcInit
import HandS.ExcField
import KE.KExcIs
import KE.KSuper
import KE.KEqNest
import HandS.DictComp
import HandS.More
import PyProof.Rows.EqNone
import PyProof.Rows.EqBoolInt
import HandS.Conv
import HandS.TryOnly
import HandS.ExcOwn
import HandS.TupAny
import HandS.Lambda
import HandS.EndTab
import HandS.OwnEq
import PyProof.InstNe
import HandS.ClsMeth
import KE.KCallOwn
import HandS.StrMore
import HandS.Zip
import KE.KItemsList
import HandS.ListItems
import KE.KTypeOf
import HandS.ExcIs
import HandS.TupMul
import PySem.Challenge.RW_flowtells_k04_webs_made_and_kept
set_option Elab.async false
set_option linter.all false
set_option maxRecDepth 100000
set_option maxHeartbeats 4000000
/-! Room with the guards told: defs that may ask for the repr of a list -/
namespace FT
open PySem PySem.Spec PyProof.Rows L2

structure RG (k : Nat) (A : Around) : Prop where
  room : Room k A
  gd : A.guards = some []
theorem RG.mono {j k : Nat} {A : Around} (r : RG k A) (h : j ≤ k) : RG j A := ⟨r.room.mono h, r.gd⟩
theorem RG.deeper {k : Nat} {A : Around} (r : RG (k + 1) A) (env : Env) : RG k (A.deeper env) := ⟨r.room.deeper env, r.gd⟩
theorem RG.make {k : Nat} {A : Around} (r : RG (k + 1) A) (C : Addr) (us : List Value) (kw : List (Str × Value)) :
    RG k (A.under (.builtin "type.__call__" ⟨.ref C :: us, kw⟩)) := by
  refine ⟨r.room.make C us kw, ?_⟩
  have e := r.gd
  first
    | exact e
    | simpa [Around.under, Code.guards, Code.isGuard, guardIds, pushGuards] using e

section
variable (P : Program) (w : World) (K : PySem.W.Frag) (mg : Str → Option Value) (base : Heap) (CX : CXT)
/-- what a def keeps, where the guards are told -/
structure FnG (k : Nat) (f : Addr) (fd : FuncData) (ps : List Str) (sp : Sp) : Prop where
  arity : ∀ vs H Q E, sp vs H Q E → vs.length = ps.length
  goes : ∀ {A : Around} {outer : List Env} {s : Shared} {H : Hp} {args : Args} {us : List Value} {vs : List V} {Q : VK} {E : XK},
    RG k A → Env0 P w K mg base A outer s H → BindsTo s fd args (ps.zip us) → Vals vs us → sp vs H Q E →
      codeAny (model P w) A (.call (.ref f) args) (CR CX outer P w H s Q E) s
end
section
variable {P : Program} {w : World} {K : PySem.W.Frag} {mg : Str → Option Value} {base : Heap} {CX : CXT} {j k : Nat} {f : Addr} {fd : FuncData} {ps : List Str} {sp : Sp}
theorem FnG.of (F : FnOk P w K mg base CX k f fd ps sp) : FnG P w K mg base CX k f fd ps sp :=
  ⟨F.len, fun {A outer s H args us vs Q E} r e b v h => F.run A outer s H args us vs Q E r.room e b v h⟩
theorem FnG.mono (F : FnG P w K mg base CX j f fd ps sp) (h : j ≤ k) : FnG P w K mg base CX k f fd ps sp :=
  ⟨F.arity, fun r e b v q => F.goes (r.mono h) e b v q⟩
end

section
variable {X : Cx} {CX : CXT} {k : Nat} {f : Addr} {fd : FuncData} {ps ks : List Str} {sp : Sp} {dvs : List V} {ds : List Value} {E : XK} {x : Str} {p pos : Pos} {e : Expr} {es : List Expr} {t tk : TA}
  {kws : List Keyword} {g : List Value → List Value → List Value} {gV : List V → List V → List V}

theorem run_args {pins : List (Addr × Obj)} {σ : L2.St} {H : Hp} {s : Shared} {Q : VK} {args : List Value} {kw : List (Str × Value)} {us : List Value} {vs : List V}
    (F : FnG X.prog X.w X.K X.mg X.base CX k f fd ps sp) (hr : RG k X.A) (hx : Passes CX X E) (I : Inv X pins σ H s)
    (hb : BindsTo s fd ⟨args, kw⟩ (ps.zip us)) (r : Vals vs us) (h : sp vs H Q E) :
    wpAny (model X.prog X.w) X.A (call (.ref f) args kw) (EP X pins σ Q) X.xe s := by
  refine wpAny_call ?_
  refine codeAny_mono (F.goes hr I.env0 hb r h) ?_
  intro z s' q
  match z, q with
  | .error z, q => exact hx pins σ H s z s' I q
  | .ok (.ret u), q => exact I.after q
/-- f(a, b, ..) -/
theorem pe_callG (F : FnG X.prog X.w X.K X.mg X.base CX k f fd ps sp) (hr : RG k X.A) (hg : Gl X x) (hm : X.mg x = some (.ref f))
    (hk : PySem.W.keepIn X.K (.ref f) = true) (hb : Binds X.K fd ps ds) (hd : Vals dvs ds) (hx : Passes CX X E) (ha : PA X (e :: es) t)
    (hdb : (x == ("__debug__" : Str)) = false := by decide)
    (he : starEach (e :: es) X.env = (false, eval e X.env) :: starEach es X.env := by rfl)
    (hpl : (backTo pos (starEach es X.env)).any (·.1) = false := by rfl) :
    PE X (.Call (.Name x p) (e :: es) [] pos) (tCall sp dvs E t) := by
  constructor
  intro pins s σ H Q I h
  refine wpAny_Call_Name_kw (ld_glob I hg hm ?_ hdb)
  refine PySem.W.callWith_K (h₀ := X.base) I.ok.mod.kin hk ?_ he hpl
  refine thn (ha.run pos pins s σ H _ I h) ?_
  rintro us s1 ⟨vs, H1, I1, r, q⟩
  have r2 := r.append hd
  have hl : (us ++ ds).length = ps.length := r2.length.symm.trans (F.arity _ _ _ _ q)
  exact ⟨I1.kIn, run_args F hr hx I1 (hb s1 us I1.kIn hl) r2 q⟩
/-- f() -/
theorem pe_callG0 (F : FnG X.prog X.w X.K X.mg X.base CX k f fd ps sp) (hr : RG k X.A) (hg : Gl X x) (hm : X.mg x = some (.ref f))
    (hk : PySem.W.keepIn X.K (.ref f) = true) (hb : Binds X.K fd ps ds) (hd : Vals dvs ds) (hx : Passes CX X E)
    (hdb : (x == ("__debug__" : Str)) = false := by decide) : PE X (.Call (.Name x p) [] [] pos) (tCall sp dvs E tNil) := by
  constructor
  intro pins s σ H Q I h
  refine wpAny_Call_Name_kw (ld_glob I hg hm ?_ hdb)
  have hl : ([] ++ ds).length = ps.length := hd.length.symm.trans (F.arity _ _ _ _ h)
  exact PySem.W.callWith_K0 I.kIn hk (run_args (us := [] ++ ds) F hr hx I (hb s [] I.kIn hl) hd h)
/-- f(a, .., k = v, ..) -/
theorem pe_callGK (F : FnG X.prog X.w X.K X.mg X.base CX k f fd ps sp) (hr : RG k X.A) (hg : Gl X x) (hm : X.mg x = some (.ref f))
    (hk : PySem.W.keepIn X.K (.ref f) = true) (hb : KBinds X.K fd ps ks g gV) (hx : Passes CX X E) (ha : PA X (e :: es) t) (hkw : PK X kws tk)
    (hall : (backToKw pos (keywordEach kws X.env)).all (·.1.isSome) = true := by rfl)
    (hks : (backToKw pos (keywordEach kws X.env)).filterMap (·.1) = ks := by rfl)
    (hdb : (x == ("__debug__" : Str)) = false := by decide)
    (he : starEach (e :: es) X.env = (false, eval e X.env) :: starEach es X.env := by rfl)
    (hpl : ((backTo pos (starEach (e :: es) X.env)).any (·.1) || (backToKw pos (keywordEach kws X.env)).any (·.1.isNone)) = false := by rfl) :
    PE X (.Call (.Name x p) (e :: es) kws pos) (tCallK sp gV E t tk) := by
  constructor
  intro pins s σ H Q I h
  refine wpAny_Call_Name_kw (ld_glob I hg hm ?_ hdb)
  refine PySem.W.callWith_KW (h₀ := X.base) I.ok.mod.kin hk hall (thn (ha.run pos pins s σ H _ I h) ?_) hpl he
  rintro us s1 ⟨vs, H1, I1, r, q⟩
  refine thn (hkw.run pos pins s1 σ H1 _ I1 q) ?_
  rintro ws s2 ⟨zs, H2, I2, rz, q2⟩
  refine ⟨I2.kIn, ?_⟩
  rw [hks]
  have r3 := hb.rel r rz
  exact run_args F hr hx I2 (hb.to s2 us ws I2.kIn (r3.length.symm.trans (F.arity _ _ _ _ q2))) r3 q2
/-- f(k = v, ..) -/
theorem pe_callGK0 (F : FnG X.prog X.w X.K X.mg X.base CX k f fd ps sp) (hr : RG k X.A) (hg : Gl X x) (hm : X.mg x = some (.ref f))
    (hk : PySem.W.keepIn X.K (.ref f) = true) (hb : KBinds X.K fd ps ks g gV) (hx : Passes CX X E) (hkw : PK X kws tk)
    (hall : (backToKw pos (keywordEach kws X.env)).all (·.1.isSome) = true := by rfl)
    (hks : (backToKw pos (keywordEach kws X.env)).filterMap (·.1) = ks := by rfl)
    (hdb : (x == ("__debug__" : Str)) = false := by decide)
    (hpl : ((backTo pos (starEach [] X.env)).any (·.1) || (backToKw pos (keywordEach kws X.env)).any (·.1.isNone)) = false := by rfl) :
    PE X (.Call (.Name x p) [] kws pos) (tCallK sp gV E tNil tk) := by
  constructor
  intro pins s σ H Q I h
  refine wpAny_Call_Name_kw (ld_glob I hg hm ?_ hdb)
  refine PySem.W.callWith_KW0 (h₀ := X.base) I.ok.mod.kin hk hall ?_ hpl
  refine thn (hkw.run pos pins s σ H _ I h) ?_
  rintro ws s2 ⟨zs, H2, I2, rz, q2⟩
  refine ⟨I2.kIn, ?_⟩
  rw [hks]
  have r3 := hb.rel (.nil : Vals [] []) rz
  exact run_args F hr hx I2 (hb.to s2 [] ws I2.kIn (r3.length.symm.trans (F.arity _ _ _ _ q2))) r3 q2
end

section
variable {P : Program} {w : World} {K : PySem.W.Frag} {mg : Str → Option Value} {base : Heap} {CX : CXT}
/-- a def's body: the guards are told in it; it may let an error out -/
theorem okGX {x qual : Str} {st : Stmt} {f : Addr} {fd : FuncData} {N ps : List Str} {k : Nat} {sp : Sp} (F : Fun K x qual st f fd) (S : FnScope N ps (defScope st))
    (arity : ∀ vs H Q E, sp vs H Q E → vs.length = ps.length)
    (hbody : ∀ (cdv : Value) (A : Around) (outer : List Env) (s : Shared) (H : Hp) (vs : List V) (Q : VK) (E : XK),
      RG k (A.deeper (envOfC qual (defScope st) s.heap.objs.size f cdv)) → sp vs H Q E →
        ∃ t, PSs (cxOf CX P w K mg base N qual (defScope st) f cdv A outer s H E) (defBody st) t ∧ t { nx := fun _ H' => Q .non H', rt := Q } (start N vs) H) :
    FnG P w K mg base CX (k + 1) f fd ps sp := by
  obtain ⟨oc, od, kV, doc, pm, an, cdv, ct, osl, rfl, lk, hcd⟩ := F.ex
  refine ⟨arity, ?_⟩
  intro A outer s H args us vs Q E hr e0 hb r hsp
  -- the same def's own rule at this one place: a promise that holds here alone
  have KX : K.In s.heap := e0.mod.kin.keeps fun b o q => (e0.bs b o q).1
  have lim : s.heap.NoLimit := e0.mod.nolimit.keeps fun b o q => (e0.bs b o q).1
  have hl := arity _ _ _ _ hsp
  obtain ⟨t, ht, hq⟩ := hbody cdv A outer s H vs Q E (hr.deeper _) hsp
  refine codeAny_call_function hr.room.depth (KX _ _ lk) rfl S.co S.gen rfl (PySem.W.codeRec_of KX hcd) (hb _ _ _ _ ?_)
  refine wpAny_newFunctionEnv_cells S.kind ?_ ?_
  · rintro ⟨n, v⟩ hy
    cases S.par n (List.of_mem_zip hy).1 with
    | inl q => exact .inl q
    | inr q => exact .inr ⟨q, PySem.W.cellsFrom_some _ _ _ (.inl q)⟩
  · intro env he s1 hin
    subst he
    refine ⟨lim.keeps hin.toInCall.keep, codeAny_func ?_⟩
    have I := inv_start (CX := CX) (P := P) (w := w) (qual := qual) (f := f) (cd := cdv) (E := E) S hr.room.hd e0 hl r hin
    refine wpAny_mono (ht.run [] s1 (start N vs) H _ I hq) ?_ (fun _ _ q => q)
    intro fl s' hs
    match fl, hs with
    | .ret u, ⟨v, σ', H', J, rv, q⟩ => exact ⟨v, H', J.os, J.bare, J.base, J.hok, rv, q⟩
    | .next, ⟨σ', H', J, q⟩ => exact ⟨.non, H', J.os, J.bare, J.base, J.hok, rfl, q⟩
    | .brk, ⟨_, _, _, q⟩ => exact q.elim
    | .cont, ⟨_, _, _, q⟩ => exact q.elim
/-- the same, nothing leaves it -/
theorem okG {x qual : Str} {st : Stmt} {f : Addr} {fd : FuncData} {N ps : List Str} {k : Nat} {sp : Sp} (F : Fun K x qual st f fd) (S : FnScope N ps (defScope st))
    (arity : ∀ vs H Q E, sp vs H Q E → vs.length = ps.length)
    (hbody : ∀ (cdv : Value) (A : Around) (outer : List Env) (s : Shared) (H : Hp) (vs : List V) (Q : VK) (E : XK),
      RG k (A.deeper (envOfC qual (defScope st) s.heap.objs.size f cdv)) → sp vs H Q E →
        ∃ t, PSs (cxOf CX P w K mg base N qual (defScope st) f cdv A outer s H E).nox (defBody st) t ∧ t { nx := fun _ H' => Q .non H', rt := Q } (start N vs) H) :
    FnG P w K mg base CX (k + 1) f fd ps sp := by
  refine okGX F S arity ?_
  intro cdv A outer s H vs Q E hr h
  obtain ⟨t, h1, h2⟩ := hbody cdv A outer s H vs Q E hr h
  exact ⟨t, h1.nox, h2⟩
end
end FT

/-! the law's own call, where the guards are told -/
namespace FT
open PySem PySem.Spec PyProof.Rows L2

section
variable {P : Program} {w : World} {K : PySem.W.Frag} {mg mb : Str → Option Value} {CX : CXT} {k : Nat} {fa a : Addr} {fd : FuncData} {x : Str} {sp : Sp} {s : Shared} {vs : List Value} {ns : List Int}
/-- the script as the one thing that is tracked, or none where the module holds it -/
theorem script_heap (KX : K.In s.heap) (ha : s.heap.get? a = some { cls := .type "list", data := .seq vs.toArray }) (hi : IntsAre vs ns) (hl : ns.length ≤ sizeLine) :
    ∃ H : Hp, Only H ∧ SqL K H a (ns.map V.int) ∧ HOk P w H s.heap ∧ ∀ b u, H b = some u → b = a ∧ K.lookup a = none := by
  have rv := vals_ints hi
  by_cases hk : K.lookup a = none
  · refine ⟨fun b => if b = a then some (.frz { cls := .type "list", data := .seq vs.toArray } (.lst (ns.map V.int))) else none, ?_, ?_, ?_, ?_⟩
    · intro b
      by_cases hb : b = a
      · right
        exact ⟨_, _, if_pos hb⟩
      · left
        exact if_neg hb
    · left
      right
      exact ⟨_, if_pos rfl⟩
    · intro b u z
      by_cases hb : b = a
      · subst hb
        obtain rfl := Option.some.inj ((if_pos rfl).symm.trans z)
        exact ⟨ha, by rw [List.length_map]; exact hl, vs, _, rv, ha⟩
      · cases (if_neg hb).symm.trans z
    · intro b u z
      refine ⟨?_, hk⟩
      by_cases hb : b = a
      · exact hb
      · cases (if_neg hb).symm.trans z
  · obtain ⟨o, ho⟩ := Option.ne_none_iff_exists'.mp hk
    have e := (KX a o ho).symm.trans ha
    obtain rfl := Option.some.inj e
    have nope : ∀ {u : HO}, ¬ (none : Option HO) = some u := fun z => by cases z
    refine ⟨fun _ => none, fun _ => .inl rfl, .inr ?_, fun b u z => (nope z).elim, fun b u z => (nope z).elim⟩
    refine ⟨_, vs.toArray, _, ho, rfl, rfl, rfl, ?_, by simpa using rv⟩
    rw [List.size_toArray, hi.length]
    exact hl
theorem law_callG (KX : K.In s.heap) (hns : s.heap.Ns mainGlobals mg) (hb : s.heap.Ns builtinsNs mb) (hbb : ∀ x : Str, x ≠ "__name__" → mb x = bootBuiltins x)
    (hlim : s.heap.NoLimit) (hg : s.gens = #[]) (ha : s.heap.get? a = some { cls := .type "list", data := .seq vs.toArray }) (hi : IntsAre vs ns) (hl : ns.length ≤ sizeLine)
    (hr : RG k callerA) (F : ∀ base : Heap, K.In base → base.Ns mainGlobals mg → FnG P w K mg base CX k fa fd [x] sp)
    (hbind : ∀ (s : Shared) (u : Value), BindsTo s fd ⟨[u], []⟩ [(x, u)])
    (hsp : ∀ H : Hp, Only H → SqL K H a (ns.map V.int) → sp [.ref a] H (fun v _ => v = .bl true) fun _ _ _ => False)
    (hCX : ∀ H e s', CX [] H s (fun _ _ _ => False) e s' → False) :
    codeAny (model P w) callerA (.call (.ref fa) ⟨[.ref a], []⟩)
      (fun r s' => r = .ok (.ret (.bool true)) ∧ OldK s.heap s'.heap ∧ s'.os = s.os ∧ AllBare s'.gens) s := by
  obtain ⟨H, hO, hS, hok, hA⟩ := script_heap (P := P) (w := w) KX ha hi hl
  have hid : ∀ {b : Addr} {o : Obj}, s.heap.get? b = some o → H b = none → (hidT s.heap H).get? b = some o := fun e n => hidT_get e n
  have dictFree : ∀ {b : Addr} {o : Obj} {es : Array DictEntry} {n : Nat}, s.heap.get? b = some o → o.data = .dict es n → H b = none := by
    intro b o es n e d
    cases q : H b with
    | none => rfl
    | some u =>
      obtain ⟨rfl, _⟩ := hA b u q
      obtain rfl := Option.some.inj (ha.symm.trans e)
      cases d
  have nsB : ∀ {b : Addr} {m : Str → Option Value}, s.heap.Ns b m → (hidT s.heap H).Ns b m := by
    rintro b m ⟨o, es, n, e, d, r⟩
    exact ⟨o, es, n, hid e (dictFree e d), d, r⟩
  have kB : K.In (hidT s.heap H) := by
    intro b o e
    refine hid (KX b o e) ?_
    cases q : H b with
    | none => rfl
    | some u =>
      obtain ⟨rfl, z⟩ := hA b u q
      cases z.symm.trans e
  obtain ⟨mc, c1, c2⟩ := hlim
  have M : Mod K mg (hidT s.heap H) := ⟨kB, nsB hns, ⟨mb, nsB hb, hbb⟩, ⟨mc, nsB c1, c2⟩⟩
  have none_in : ∀ b : Addr, ¬ b ∈ ([] : List Addr) := fun b => List.not_mem_nil
  have e0 : Env0 P w K mg (hidT s.heap H) callerA [] s H :=
    { frames := rfl, mod := M, bs := fun b o e => of_hidT e, bsz := Nat.le_of_eq (hidT_size _ _), funs := trivial, frf := fun b hb => absurd hb (none_in b), hok := hok, bare := .of_eq hg }
  have run := (F _ kB (nsB hns)).goes hr e0 (us := [.ref a]) (vs := [.ref a]) (hbind s (.ref a)) (Paired.cons (show RelV (V.ref a) (Value.ref a) from rfl) Paired.nil) (hsp H hO hS)
  refine codeAny_mono run ?_
  intro r s' q
  match r, q with
  | .error e, q => exact (hCX H e s' q).elim
  | .ok (.ret u), ⟨v, H', os, bare, un, hok', rv, hv⟩ =>
    obtain rfl : v = .bl true := hv
    obtain rfl : u = Value.bool true := rv
    refine ⟨rfl, OldK.of_keep ?_, os, bare⟩
    intro b o e
    cases q : H b with
    | none => exact un.keep b o e q (none_in b) (none_in b)
    | some t =>
      obtain ⟨ob, xs, z⟩ := (hO b).resolve_left (by rw [q]; exact fun c => by cases c)
      have e1 := (hok b _ z).1
      have e2 := (hok' b _ (un.frzs b ob _ z)).1
      obtain rfl := Option.some.inj (e.symm.trans e1)
      exact e2
end
/-- the goal that k_head leaves -/
theorem walk_ofG {l : PySem.W.OpenLaw} {n k : Nat} {q : Program} {loose : List Str} {XP : (Str → Option Value) → Heap → Prop} {YP : World → Heap → Prop} {d : DefRec} {K : Params → PySem.W.Frag} {CX : World → CXT} {sp : World → Sp} {x : Str}
    (hn : l.most = some n) (hn2 : n ≤ sizeLine) (hdf : d.params.defaults = []) (hr : RG k callerA) (hY : ∀ (w : World) (h : Heap), YP w h → (K w.params).In h)
    (F : ∀ (w : World) (mg : Str → Option Value) (fa : Addr) (h : Heap), (K w.params).In h → h.Ns mainGlobals mg → mg d.name = some (.ref fa) →
      ∃ fd : FuncData, (∀ (s : Shared) (u : Value), BindsTo s fd ⟨[u], []⟩ [(x, u)]) ∧
        ∀ base : Heap, (K w.params).In base → base.Ns mainGlobals mg → FnG l.prog w (K w.params) mg base (CX w) k fa fd [x] (sp w))
    (hsp : ∀ (w : World) (H : Hp) (a : Addr) (ns : List Int), ns.length ≤ n → Only H → SqL (K w.params) H a (ns.map V.int) → sp w [.ref a] H (fun v _ => v = .bl true) fun _ _ _ => False)
    (hCX : ∀ (w : World) (H : Hp) (s : Shared) (e : Value) (s' : Shared), CX w [] H s (fun _ _ _ => False) e s' → False) :
    PySem.W.WalkO q loose XP YP l.row.toRowW d [] (fun f vs => PySem.call f vs) := by
  apply Att.attach_call hn hdf
  intro w s₀ s₁ mg mb fa o pm cd doc a vs ns G Y ho hd hcd hmg hobj hints hlen hg
  have KX := hY w _ Y
  obtain ⟨fd, hb, hF⟩ := F w mg fa _ KX G.T.g hmg
  have hsz := Nat.le_trans hlen hn2
  refine law_callG (mb := mb) (sp := sp w) (CX := CX w) KX G.T.g G.T.b G.T.builtins G.T.nolimit hg hobj hints hsz hr hF hb ?_ (hCX w · s₁)
  intro H hO hS
  exact hsp w H a ns hlen hO hS
end FT

/-! repr of plain data, of a flat dict -/
namespace FT
open PySem PySem.Spec PyProof.Rows L2

mutual
theorem noD {K : PySem.W.Frag} {H : Hp} : ∀ (d : PyData) (v : V), Dp K H v d → d.hasDict = false
  | .none, _, _ => by simp only [PyData.hasDict]
  | .bool _, _, _ => by simp only [PyData.hasDict]
  | .int _, _, _ => by simp only [PyData.hasDict]
  | .str _, _, _ => by simp only [PyData.hasDict]
  | .list ds, _, h => by
    cases h with
    | lst _ a =>
      simp only [PyData.hasDict]
      exact noDs ds _ a
  | .tuple ds, _, h => by
    cases h with
    | tup _ a =>
      simp only [PyData.hasDict]
      exact noDs ds _ a
  | .dict _, _, h => by cases h
theorem noDs {K : PySem.W.Frag} {H : Hp} : ∀ (ds : List PyData) (vs : List V), DpAll K H vs ds → PyData.hasDictAll ds = false
  | [], _, _ => by simp only [PyData.hasDictAll]
  | d :: ds, _, h => by
    cases h with
    | cons a b =>
      simp only [PyData.hasDictAll]
      rw [noD d _ a, noDs ds _ b]
      rfl
end
/-- a flat value's data -/
def flatD : V → Option PyData
  | .non => some .none
  | .bl b => some (.bool b)
  | .int i => some (.int i)
  | .str x => some (.str x)
  | _ => none
def keyD : Key → PyData
  | .inl i => .int i
  | .inr x => .str x
theorem flat_reads {h : Heap} {v : V} {u : Value} {d : PyData} (e : flatD v = some d) (r : RelV v u) : Reads h u d [] := by
  cases v with
  | non => cases e; cases r; exact .none
  | bl b => cases e; cases r; exact .bool b
  | int i => cases e; obtain ⟨t, rfl⟩ := r; exact .int i t
  | str x => cases e; obtain ⟨t, rfl⟩ := r; exact .str x t
  | byt _ => cases e
  | flt _ => cases e
  | ref _ => cases e
  | ty _ => cases e
theorem key_reads {h : Heap} {k : Key} {u : Value} (e : keyIs k u = true) : Reads h u (keyD k) [] := by
  rcases keyIs_shape e with ⟨i, t, rfl, rfl⟩ | ⟨x, t, rfl, rfl⟩
  · exact .int i t
  · exact .str x t
/-- the data of a flat dict, entry by entry -/
inductive FlatKv : List (Key × V) → List (PyData × PyData) → Prop
  | nil : FlatKv [] []
  | cons {k : Key} {v : V} {d : PyData} {kvs : List (Key × V)} {ds : List (PyData × PyData)} : flatD v = some d → FlatKv kvs ds → FlatKv ((k, v) :: kvs) ((keyD k, d) :: ds)
theorem flatkv_reads {P : Program} {w : World} {h : Heap} : ∀ {kvs : List (Key × V)} {ds : List (PyData × PyData)} {es : List DictEntry} {vs : List (Key × Value)}, FlatKv kvs ds → KV kvs vs → Pairs (mixKind P w) es vs →
    ReadsAll h (es.map (·.key)) (ds.map (·.1)) [] ∧ ReadsAll h (es.map (·.val)) (ds.map (·.2)) []
  | _, _, _, _, .nil, .nil, .nil => ⟨.nil, .nil⟩
  | _, _, _, _, .cons e f, .cons r q, .cons p1 p2 p3 => by
    obtain ⟨a, b⟩ := flatkv_reads f q p3
    obtain ⟨r1, r2⟩ := r
    refine ⟨?_, ?_⟩
    · have e1 := key_reads (h := h) (show keyIs _ _ = true from (mixKind_is P w _ _).symm.trans p1)
      rw [← r1] at e1
      exact ReadsAll.cons e1 a
    · rw [← p2] at r2
      exact ReadsAll.cons (flat_reads e r2) b

section
variable {X : Cx}
/-- repr(v), v plain data -/
def rRepr (K : PySem.W.Frag) : List V → Hp → VK → Prop := fun xs H Q => ∃ v d, xs = [v] ∧ Dp K H v d ∧ d.showable = true ∧ d.depth ≤ 60 ∧ d.shown.length ≤ sizeLine ∧ Q (.str d.shown) H
theorem call_repr (hg : X.A.guards = some []) (hu : X.A.units + 64 < cLine) : CallR X (.builtin "repr") (rRepr X.K) := by
  rintro pins s σ H xs us Q I r ⟨v, d, rfl, hd, hs, hdep, hsz, q⟩
  obtain ⟨u, rfl, r1⟩ := vals1 r
  have hno := noD d v hd
  have key : ∀ {a : Addr}, u = .ref a → wpAny (model X.prog X.w) X.A (call (.builtin "repr") [u]) (EP X pins σ Q) X.xe s := by
    rintro a rfl
    obtain ⟨as, rd⟩ := Dp.reads I d v _ hd r1
    refine repr_of_reads' rd hs (PyData.noDict_hsm hno) hg (by omega) (fun _ _ e => e) ?_ hsz
    intro h' t tk hk
    exact ⟨.str d.shown, H, I.kept hk, ⟨_, rfl⟩, q⟩
  cases hd with
  | non => cases r1; exact PySem.P.repr_of_none ⟨.str _, H, I.tok _, ⟨_, rfl⟩, by simpa only [PyData.shown] using q⟩
  | bl b => cases r1; exact PySem.P.repr_of_bool ⟨.str _, H, I.tok _, ⟨_, rfl⟩, by simpa only [PyData.shown] using q⟩
  | int i =>
    obtain ⟨t, rfl⟩ := r1
    have z : i.natAbs.log2 < 1920 := by simpa only [PyData.showable, decide_eq_true_eq] using hs
    exact PySem.P.repr_of_int z ⟨.str _, H, I.tok _, ⟨_, rfl⟩, by simpa only [PyData.shown] using q⟩
  | str x =>
    obtain ⟨t, rfl⟩ := r1
    have z : (reprText x).length ≤ sizeLine := by simpa only [PyData.shown] using hsz
    exact PySem.P.repr_of_str ⟨.str _, H, I.tok _, ⟨_, rfl⟩, by simpa only [PyData.shown] using q⟩ z
  | lst _ _ => exact key r1
  | tup _ _ => exact key r1
/-- repr(d), d a dict of flat values -/
def rReprD : List V → Hp → VK → Prop := fun xs H Q => ∃ (a : Addr) (kvs : List (Key × V)) (ds : List (PyData × PyData)), xs = [.ref a] ∧ H a = some (.dK kvs) ∧ FlatKv kvs ds ∧ (PyData.dict ds).showable = true ∧
  (PyData.dict ds).depth ≤ 60 ∧ (PyData.dict ds).shown.length ≤ sizeLine ∧ Q (.str (PyData.dict ds).shown) H
theorem call_reprD (hg : X.A.guards = some []) (hu : X.A.units + 64 < cLine) : CallR X (.builtin "repr") rReprD := by
  rintro pins s σ H xs us Q I r ⟨a, kvs, ds, rfl, ha, hf, hs, hdep, hsz, q⟩
  obtain ⟨u, rfl, r1⟩ := vals1 r
  obtain rfl : u = .ref a := r1
  obtain ⟨_, hsys, vs, kv, o, es, ep, h1, h2, h3, _, h5, _⟩ := (show ObjOk X.prog X.w H s.heap a (.dK kvs) from I.hok a _ ha)
  obtain ⟨ra, rb⟩ := flatkv_reads (h := s.heap) hf kv h5
  have rd : Reads s.heap (.ref a) (.dict ds) (a :: [] ++ []) := .dict h1 h2.1 h3 ra rb
  refine repr_of_reads' rd hs ?_ hg (by omega) (fun _ _ e => e) ?_ hsz
  · intro _ hm
    have e : sysModules = a := by simpa using hm
    rw [e] at hsys
    simp at hsys
  · intro h' t tk hk
    exact ⟨.str _, H, I.kept hk, ⟨_, rfl⟩, q⟩
theorem call_repr2 (hg : X.A.guards = some []) (hu : X.A.units + 64 < cLine) : CallR X (.builtin "repr") (fun xs H Q => rRepr X.K xs H Q ∨ rReprD xs H Q) := CallR.or (call_repr hg hu) (call_reprD hg hu)
end
end FT

/-! small words: heaps but for one place, lists of ints as data, a cut between two statements -/
namespace FT
open PySem PySem.Spec PyProof.Rows L2

/-- all but p stands as it stood -/
def Kp (p : Addr) (H H' : Hp) : Prop := ∀ b o, b ≠ p → H b = some o → H' b = some o
theorem Kp.refl (p : Addr) (H : Hp) : Kp p H H := fun _ _ _ h => h
theorem Kp.trans {p : Addr} {H H1 H2 : Hp} (a : Kp p H H1) (b : Kp p H1 H2) : Kp p H H2 := fun c o n h => b c o n (a c o n h)
theorem Kp.put {p : Addr} {H H' : Hp} {o : HO} (a : Kp p H H') : Kp p H (upd H' p o) := fun c u n h => by rw [upd_ne n]; exact a c u n h
theorem Kp.new {p q : Addr} {H H' : Hp} {o : HO} (a : Kp p H H') (hq : H' q = none) : Kp p H (upd H' q o) := fun c u n h => by
  have e := a c u n h
  rw [upd_ne (ne_of_none e hq)]
  exact e
theorem Kp.of_same {p : Addr} {H H' : Hp} (a : Same H H') : Kp p H H' := fun c o _ h => a c o h
theorem Same.new {H H' : Hp} {q : Addr} {o : HO} (a : Same H H') (hq : H' q = none) : Same H (upd H' q o) := fun c u h => by
  have e := a c u h
  rw [upd_ne (ne_of_none e hq)]
  exact e
theorem at_new {H : Hp} {p q : Addr} {o u : HO} (h : H p = some o) (hq : H q = none) : upd H q u p = some o := by rw [upd_ne (ne_of_none h hq)]; exact h
theorem at_oth {H : Hp} {p q : Addr} {o u : HO} (h : H p = some o) (n : p ≠ q) : upd H q u p = some o := by rw [upd_ne n]; exact h
theorem ne_lst {H : Hp} {p q : Addr} {xs ys : List V} (h : H p = some (.lst xs)) (g : H q = some (.lst ys)) (n : xs ≠ ys) : p ≠ q := ne_of h g fun e => n (HO.lst.inj e)

/-- a cut: whatever stands behind, W is what the first statement must reach -/
theorem seq_cut {t u : TS} {D : Ends} {σ : L2.St} {H : Hp} (W : L2.St → Hp → Prop) (h1 : ∀ N : L2.St → Hp → Prop, (∀ σ' H', W σ' H' → N σ' H') → t { D with nx := N } σ H)
    (h2 : ∀ σ' H', W σ' H' → u D σ' H') : tSeq t u D σ H := h1 (u D) h2

theorem dp_ints {K : PySem.W.Frag} {H : Hp} : ∀ ns : List Int, DpAll K H (ns.map V.int) (ns.map PyData.int)
  | [] => .nil
  | n :: r => .cons (.int n) (dp_ints r)
theorem dp_bools {K : PySem.W.Frag} {H : Hp} : ∀ ns : List Bool, DpAll K H (ns.map V.bl) (ns.map PyData.bool)
  | [] => .nil
  | n :: r => .cons (.bl n) (dp_bools r)
theorem depthAll_ints : ∀ ns : List Int, PyData.depthAll (ns.map PyData.int) = 0
  | [] => by simp only [List.map_nil, PyData.depthAll]
  | n :: r => by
    simp only [List.map_cons, PyData.depthAll, PyData.depth]
    rw [depthAll_ints r]
    rfl
theorem layAll_ints : ∀ ns : List Int, PyData.canLayAll0 (ns.map PyData.int) = true
  | [] => by simp only [List.map_nil, PyData.canLayAll0]
  | n :: r => by
    simp only [List.map_cons, PyData.canLayAll0, PyData.canLay0]
    rw [layAll_ints r]
    rfl
theorem shaped_ints (ns : List Int) : SeqAt.shaped (.list (ns.map PyData.int)) = true := by
  unfold SeqAt.shaped
  simp only [PyData.canLay0, PyData.depth, layAll_ints, depthAll_ints]
  rfl
theorem eqv_ints : ∀ ns ms : List Int, PyData.eqvAll (ns.map PyData.int) (ms.map PyData.int) = decide (ns = ms)
  | [], [] => by simp [PyData.eqvAll]
  | [], m :: r => by simp [PyData.eqvAll]
  | n :: r, [] => by simp [PyData.eqvAll]
  | n :: r, m :: q => by
    simp only [List.map_cons, PyData.eqvAll, PyData.eqv, eqv_ints r q]
    by_cases h1 : n = m <;> by_cases h2 : r = q <;> simp [h1, h2]
theorem eqv_list (ns ms : List Int) : PyData.eqv (.list (ns.map PyData.int)) (.list (ms.map PyData.int)) = decide (ns = ms) := by
  simp only [PyData.eqv, eqv_ints]
theorem mod_fits {i m : Int} (h1 : 1 ≤ m) : 0 ≤ i.fmod m ∧ i.fmod m < m := ⟨Int.fmod_nonneg_of_pos _ (by omega), Int.fmod_lt_of_pos _ (by omega)⟩
/-- an item at a rest of the length -/
theorem at_mod {ns : List Int} (t : Int) (h : ns ≠ []) : ∃ x, atI (ns.map V.int) (t.fmod (ns.length : Int)) = some (.int x) := by
  have hl : 0 < ns.length := List.length_pos_iff.mpr h
  obtain ⟨h0, h1⟩ := mod_fits (i := t) (m := (ns.length : Int)) (by omega)
  obtain ⟨j, hj⟩ : ∃ j : Nat, t.fmod (ns.length : Int) = (j : Int) := ⟨(t.fmod (ns.length : Int)).toNat, by omega⟩
  have hlt : j < ns.length := by omega
  refine ⟨ns[j], ?_⟩
  rw [hj]
  exact atI_nat (by rw [List.getElem?_map, List.getElem?_eq_getElem hlt]; rfl)
end FT

/-! the bag of draws; a list or a tuple walked; kinds of values -/
namespace FT
open PySem PySem.Spec PyProof.Rows L2

/-- the bag at p, its ints at c, after n draws at most -/
structure Bg (H : Hp) (p c : Addr) (n : Nat) : Prop where
  ne : c ≠ p
  at_ : ∃ (ms : List Int) (t l : Int), H p = some (.lst [.ref c, .int t, .int l]) ∧ H c = some (.lst (ms.map V.int)) ∧ ms.length ≤ 63 ∧ 0 ≤ t ∧ t ≤ (n : Int)
section
variable {H H' : Hp} {p c q : Addr} {n m : Nat} {o : HO}
theorem Bg.same (b : Bg H p c n) (h1 : H' p = H p) (h2 : H' c = H c) : Bg H' p c n := by
  obtain ⟨e, ms, t, l, a1, a2, a3⟩ := b
  exact ⟨e, ms, t, l, h1.trans a1, h2.trans a2, a3⟩
theorem Bg.has (b : Bg H p c n) : (∃ o, H p = some o) ∧ ∃ o, H c = some o := by
  obtain ⟨e, ms, t, l, a1, a2, a3⟩ := b
  exact ⟨⟨_, a1⟩, ⟨_, a2⟩⟩
theorem Bg.keep (b : Bg H p c n) (s : Same H H') : Bg H' p c n := by
  obtain ⟨e, ms, t, l, a1, a2, a3⟩ := b
  exact ⟨e, ms, t, l, s _ _ a1, s _ _ a2, a3⟩
theorem Bg.new (b : Bg H p c n) (hq : H q = none) : Bg (upd H q o) p c n := b.keep (Same.new (fun _ _ h => h) hq)
theorem Bg.oth (b : Bg H p c n) (h1 : p ≠ q) (h2 : c ≠ q) : Bg (upd H q o) p c n := b.same (upd_ne h1) (upd_ne h2)
theorem Bg.le (b : Bg H p c n) (h : n ≤ m) : Bg H p c m := by
  obtain ⟨e, ms, t, l, a1, a2, a3, a4, a5⟩ := b
  exact ⟨e, ms, t, l, a1, a2, a3, a4, by omega⟩
end

/-- an int, as the package takes it -/
def isI : V → Bool
  | .int _ => true
  | _ => false
def isB : V → Bool
  | .bl _ => true
  | _ => false
/-- values whose kind is known -/
def OkV (H : Hp) : V → Prop
  | .non => True
  | .bl _ => True
  | .int _ => True
  | .str _ => True
  | .ref a => (∃ xs, H a = some (.lst xs)) ∨ (∃ xs, H a = some (.tup xs)) ∨ ∃ kvs, H a = some (.dK kvs)
  | _ => False
theorem OkV.mono {H H' : Hp} {v : V} (h : OkV H v) (s : ∀ a o, v = .ref a → H a = some o → H' a = some o) : OkV H' v := by
  cases v with
  | ref a =>
    rcases h with ⟨xs, e⟩ | ⟨xs, e⟩ | ⟨xs, e⟩
    · exact .inl ⟨xs, s _ _ rfl e⟩
    · exact .inr (.inl ⟨xs, s _ _ rfl e⟩)
    · exact .inr (.inr ⟨xs, s _ _ rfl e⟩)
  | non => exact h
  | bl _ => exact h
  | int _ => exact h
  | str _ => exact h
  | byt _ => exact h
  | flt _ => exact h
  | ty _ => exact h
def isLT (H : Hp) : V → Bool
  | .ref a => match H a with
    | some (.lst _) => true
    | some (.tup _) => true
    | _ => false
  | _ => false
/-- its class, and what isinstance says -/
theorem kindV {K : PySem.W.Frag} {H : Hp} {v : V} (h : OkV H v) : ∃ T : String, TyX K H v (.type T) ∧ kitB T "int" = some (isI v || isB v) ∧ kitB T "bool" = some (isB v) ∧
    PySem.W.kitAny K (.type T) [.type "list", .type "tuple"] = some (isLT H v) := by
  have any2 : ∀ {T : String} {a b : Bool}, kitB T "list" = some a → kitB T "tuple" = some b → PySem.W.kitAny K (.type T) [.type "list", .type "tuple"] = some (a || b) := by
    intro T a b h1 h2
    refine kitAny_cons (kit_ty h1) (fun e => ?_) (fun e => by rw [e]; rfl)
    subst e
    refine kitAny_cons (kit_ty h2) (fun e => by subst e; exact kitAny_nil) (fun e => by rw [e]; rfl)
  cases v with
  | non => exact ⟨"NoneType", .base .non, (show kitB "NoneType" "int" = some false by decide +kernel), (show kitB "NoneType" "bool" = some false by decide +kernel), any2 (a := false) (b := false) (by decide +kernel) (by decide +kernel)⟩
  | bl b => exact ⟨"bool", .base (.bl b), (show kitB "bool" "int" = some true by decide +kernel), (show kitB "bool" "bool" = some true by decide +kernel), any2 (a := false) (b := false) (by decide +kernel) (by decide +kernel)⟩
  | int b => exact ⟨"int", .base (.int b), (show kitB "int" "int" = some true by decide +kernel), (show kitB "int" "bool" = some false by decide +kernel), any2 (a := false) (b := false) (by decide +kernel) (by decide +kernel)⟩
  | str b => exact ⟨"str", .base (.str b), (show kitB "str" "int" = some false by decide +kernel), (show kitB "str" "bool" = some false by decide +kernel), any2 (a := false) (b := false) (by decide +kernel) (by decide +kernel)⟩
  | ref a =>
    rcases h with ⟨xs, e⟩ | ⟨xs, e⟩ | ⟨xs, e⟩
    · refine ⟨"list", .base (.lst e), (show kitB "list" "int" = some false by decide +kernel), (show kitB "list" "bool" = some false by decide +kernel), ?_⟩
      have z : isLT H (.ref a) = (true || false) := by simp only [isLT, e]; rfl
      rw [z]
      exact any2 (by decide +kernel) (by decide +kernel)
    · refine ⟨"tuple", .base (.tup e), (show kitB "tuple" "int" = some false by decide +kernel), (show kitB "tuple" "bool" = some false by decide +kernel), ?_⟩
      have z : isLT H (.ref a) = (false || true) := by simp only [isLT, e]; rfl
      rw [z]
      exact any2 (by decide +kernel) (by decide +kernel)
    · refine ⟨"dict", .base (.dK e), (show kitB "dict" "int" = some false by decide +kernel), (show kitB "dict" "bool" = some false by decide +kernel), ?_⟩
      have z : isLT H (.ref a) = (false || false) := by simp only [isLT, e]; rfl
      rw [z]
      exact any2 (by decide +kernel) (by decide +kernel)
  | byt _ => exact h.elim
  | flt _ => exact h.elim
  | ty _ => exact h.elim

/-! a name that holds a list or a tuple, walked -/
def SeqR (K : PySem.W.Frag) (H : Hp) (a : Addr) (R : It → Hp → Prop) : Prop := ((∃ xs, SqL K H a xs) ∧ R (Itl K a) H) ∨ ((∃ xs, SqT K H a xs) ∧ R (Itt K a) H)
def iSeq (K : PySem.W.Frag) (tl : TE) : TI := fun σ H R => tl σ H fun x H1 => ∃ a, x = .ref a ∧ SeqR K H1 a R
theorem pi_seqV {X : Cx} {tg l : Expr} {i : Nat} (hl : PE X l (tVar i)) : PI X tg l (iSeq X.K (tVar i)) := by
  constructor
  rintro pins s σ H R I ⟨v, e, a, rfl, h⟩
  rcases h with ⟨hx, r⟩ | ⟨hx, r⟩
  · exact (pi_list hl).run pins s σ H R I ⟨_, e, a, rfl, hx, r⟩
  · exact (pi_tup hl).run pins s σ H R I ⟨_, e, a, rfl, hx, r⟩
/-- a list or a tuple of xs stands at a -/
def SqA (K : PySem.W.Frag) (H : Hp) (a : Addr) (xs : List V) : Prop := SqL K H a xs ∨ SqT K H a xs
theorem sqL_at {K : PySem.W.Frag} {H H' : Hp} {a : Addr} {xs : List V} (h : SqL K H a xs) (s : ∀ o, H a = some o → H' a = some o) : SqL K H' a xs := by
  rcases h with (h | ⟨o, h⟩) | h
  · exact .inl (.inl (s _ h))
  · exact .inl (.inr ⟨o, s _ h⟩)
  · exact .inr h
theorem sqT_at {K : PySem.W.Frag} {H H' : Hp} {a : Addr} {xs : List V} (h : SqT K H a xs) (s : ∀ o, H a = some o → H' a = some o) : SqT K H' a xs := by
  rcases h with (h | ⟨o, h⟩) | h
  · exact .inl (.inl (s _ h))
  · exact .inl (.inr ⟨o, s _ h⟩)
  · exact .inr h
theorem seq_by {K : PySem.W.Frag} {H : Hp} {a : Addr} {xs : List V} {R : It → Hp → Prop} (h : SqA K H a xs)
    (r : ∀ (J : It) (G : Hp → Prop), Walk J xs.length G (YAt xs) → (∀ H', (∀ o, H a = some o → H' a = some o) → G H') → R J H) :
    SeqR K H a R := by
  rcases h with h | h
  · exact .inl ⟨⟨_, h⟩, r _ _ walk_list fun H' s => sqL_at h s⟩
  · exact .inr ⟨⟨_, h⟩, r _ _ walk_tup fun H' s => sqT_at h s⟩
end FT
namespace FT
open PySem PySem.Spec PyProof.Rows L2
theorem kbindsF {K : PySem.W.Frag} {x qual : Str} {st : Stmt} {f : Addr} {fd : FuncData} {ps ks : List Str} {g : List Value → List Value → List Value} {gV : List V → List V → List V} (F : Fun K x qual st f fd)
    (rel : ∀ {vs : List V} {us : List Value} {zs : List V} {ws : List Value}, Vals vs us → Vals zs ws → Vals (gV vs zs) (g us ws))
    (h : ∀ (kV doc pm : Value) (an : Option Addr) (cdv ct : Value) (us ws : List Value), (g us ws).length = ps.length →
      bindArgs (PySem.W.fnOf x qual (defArgs st) (defBody st) (defScope st) .none kV doc pm an cdv ct) ⟨us, ks.zip ws⟩ = pure (ps.zip (g us ws))) : KBinds K fd ps ks g gV := by
  obtain ⟨oc, od, kV, doc, pm, an, cdv, ct, osl, rfl, _, _⟩ := F.ex
  exact ⟨fun s us ws _ hl => .of_eq (h kV doc pm an cdv ct us ws hl), rel⟩
end FT
namespace FT
open PySem PySem.Spec PyProof.Rows L2
theorem tYes_of {σ : L2.St} {H : Hp} {Q : Bool → Hp → Prop} (h : Q true H) : tYes σ H Q := h
end FT
namespace FT
open PySem PySem.Spec PyProof.Rows L2
theorem textFrom_le {m : Nat} : ∀ (ts : List Str) (k : Nat) (acc : Str), (∀ t ∈ ts, t.length ≤ m) → (textFrom k acc ts).length ≤ acc.length + ts.length * (m + 2)
  | [], k, acc, _ => by
    show acc.length ≤ _
    exact Nat.le_add_right _ _
  | t :: r, k, acc, h => by
    have ih := textFrom_le r (k + 1) (acc ++ (if k > 0 then ", " else "" : String) ++ t) fun u hu => h u (List.mem_cons_of_mem _ hu)
    have h1 := h t List.mem_cons_self
    have e : (acc ++ (if k > 0 then ", " else "" : String) ++ t).length ≤ acc.length + 2 + t.length := by
      rw [strLen_append, strLen_append]
      split <;> (simp only [Nat.add_le_add_iff_right]; show acc.length + _ ≤ acc.length + 2; exact Nat.add_le_add_left (by decide) _)
    show (textFrom (k + 1) _ r).length ≤ _
    rw [List.length_cons, Nat.succ_mul]
    omega
theorem listText_le {m : Nat} {ts : List Str} (h : ∀ t ∈ ts, t.length ≤ m) : (listText ts).length ≤ 2 + ts.length * (m + 2) := by
  have q := textFrom_le ts 0 "[" h
  unfold listText
  rw [strLen_append]
  have e1 : ((("[" : String) : Str)).length = 1 := rfl
  have e2 : ((("]" : String) : Str)).length = 1 := rfl
  rw [e1] at q
  rw [e2]
  omega
theorem shownAll_map : ∀ ds : List PyData, PyData.shownAll ds = ds.map PyData.shown
  | [] => by simp only [PyData.shownAll, List.map_nil]
  | d :: r => by simp only [PyData.shownAll, List.map_cons, shownAll_map r]
/-- the repr of a list, as a word -/
@[irreducible] def showL (ds : List PyData) : Str := (PyData.list ds).shown
theorem showL_eq (ds : List PyData) : showL ds = (PyData.list ds).shown := by unfold showL; rfl
/-- repr of a list of short things -/
theorem rep_list {K : PySem.W.Frag} {H : Hp} {q : Addr} {vs : List V} {ds : List PyData} {Q : VK} (h : SqL K H q vs) (dp : DpAll K H vs ds) (sh : PyData.showableAll ds = true) (dep : PyData.depthAll ds ≤ 50)
    (hl : ∀ d ∈ ds, d.shown.length ≤ 100) (hn : ds.length ≤ 100) (k : Q (.str (showL ds)) H) : rRepr K [.ref q] H Q ∨ rReprD [.ref q] H Q := by
  rw [showL_eq] at k
  refine .inl ⟨_, .list ds, rfl, .lst h dp, by simp only [PyData.showable, sh], by simp only [PyData.depth]; omega, ?_, k⟩
  simp only [PyData.shown, shownAll_map]
  have q := listText_le (m := 100) (ts := ds.map PyData.shown) fun t ht => by
    obtain ⟨d, hd, rfl⟩ := List.mem_map.mp ht
    exact hl d hd
  rw [List.length_map] at q
  have : ds.length * (100 + 2) ≤ 100 * 102 := Nat.mul_le_mul_right _ hn
  have z : (10300 : Nat) ≤ sizeLine := by decide
  omega
theorem showAll_bools : ∀ bs : List Bool, PyData.showableAll (bs.map PyData.bool) = true
  | [] => by simp only [List.map_nil, PyData.showableAll]
  | b :: r => by simp only [List.map_cons, PyData.showableAll, PyData.showable, showAll_bools r, Bool.and_true]
theorem depthAll_bools : ∀ bs : List Bool, PyData.depthAll (bs.map PyData.bool) = 0
  | [] => by simp only [List.map_nil, PyData.depthAll]
  | b :: r => by simp only [List.map_cons, PyData.depthAll, PyData.depth, depthAll_bools r, Nat.max_self]
theorem rep_bools {K : PySem.W.Frag} {H : Hp} {q : Addr} {bs : List Bool} {Q : VK} (h : SqL K H q (bs.map V.bl)) (hn : bs.length ≤ 100) (k : Q (.str (showL (bs.map PyData.bool))) H) : rRepr K [.ref q] H Q ∨ rReprD [.ref q] H Q := by
  refine rep_list h (dp_bools bs) (showAll_bools bs) (by rw [depthAll_bools]; decide) (fun d hd => ?_) (by rw [List.length_map]; exact hn) k
  obtain ⟨b, _, rfl⟩ := List.mem_map.mp hd
  simp only [PyData.shown]
  cases b <;> decide
end FT

/-! own exceptions as values: made by place and by name, their fields, their kind -/
namespace PySem
namespace HandSPX
open PySem.W PySem.Calls PyProof.Rows
section
variable {M : Model} {A : Around} {E : Value → Shared → Prop} {h : Heap} {g : Array GenState} {d : Drawn} {t : Nat} {os : OsState}
variable {nm q : Str} {C N : Addr} {bs bm bmB : List Value} {hdct : Bool} {sn : List Str} {sub : List Value} {ab : Bool} {col : Option Bool} {dd : Option Addr} {k0 k1 k2 k3 k5 : Option Value} {B newId initId : String}
theorem kw_check_new (F : ExcBaseFacts B newId initId bmB) (hT : ∀ X : String, bm.contains (.type X) = bmB.contains (.type X)) {rest : List Value} {kw : List (Str × Value)} {Q : Unit → Shared → Prop}
    (hC : h.get? C = some (excClassObj nm q C N bs bm hdct sn sub ab col dd k0 k1 k2 k3 k5 newId)) (hq : Q () ⟨h, g, d, t, os⟩) : wpAny M A (checkBuiltinCall newId ⟨.ref C :: rest, kw⟩) Q E ⟨h, g, d, t, os⟩ := by
  have hcont : (Value.ref C :: bm).contains (.type B) = true := by rw [List.contains_cons, hT, F.hasB, Bool.or_true]
  have hstar := F.noStar
  simp only [checkBuiltinCall, F.newKind, F.newSplit, F.newRow]
  repeat (first | refine wpAny_loadPart_at hC ?_ | (refine wpAny_isSubtype_exc hC ?_; rw [hcont]) | refine wpAny_staticBase_exc hC ?_ | refine wpAny_madeBy_exc hC ?_ | simp only [bne_self_eq_false, Bool.false_eq_true, if_false] | wp_step)
  exact hq
theorem kw_check_tc {rest : List Value} {kw : List (Str × Value)} {Q : Unit → Shared → Prop} (hC : h.get? C = some (excClassObj nm q C N bs bm hdct sn sub ab col dd k0 k1 k2 k3 k5 newId))
    (hq : Q () ⟨h, g, d, t, os⟩) : wpAny M A (checkBuiltinCall "type.__call__" ⟨.ref C :: rest, kw⟩) Q E ⟨h, g, d, t, os⟩ := by
  have f3 := tc_sub
  have hT : (⟨h, g, d, t, os⟩ : Shared).TypeIs (.ref C) "type" := ⟨_, hC, rfl⟩
  simp only [checkBuiltinCall, tc_kind, tc_split]
  repeat (any_goals (first | assumption | with_reducible refine wpAny_loadPart_at hC ?_ | with_reducible refine wpAny_onRaise ?_ | with_reducible refine wpAny_map ?_ | wp_step))
end
section
variable {prog : Program} {w : World} {A : Around} {E : Value → Shared → Prop} {R : Result → Shared → Prop} {h : Heap} {g : Array GenState} {d : Drawn} {t : Nat} {os : OsState}
variable {nm q : Str} {C N : Addr} {bs bm bmB : List Value} {hdct : Bool} {sn : List Str} {sub : List Value} {ab : Bool} {col : Option Bool} {dd : Option Addr} {k0 k1 k2 k3 k5 : Option Value} {B newId initId : String}
theorem kw_new_own (F : ExcBaseFacts B newId initId bmB) (hT : ∀ X : String, bm.contains (.type X) = bmB.contains (.type X)) {rest : List Value} {kw : List (Str × Value)}
    (hC : h.get? C = some (excClassObj nm q C N bs bm hdct sn sub ab col dd k0 k1 k2 k3 k5 newId))
    (hq : R (.ok (.ret (.ref (h.objs.size + 1)))) ⟨(h.push { cls := .type "tuple", data := .seq rest.toArray }).push
      { cls := .ref C, data := .fields #[.ref h.objs.size, .none, .none, .none, .bool false, .none] }, g, d, t, os⟩) (hrest : rest.length ≤ sizeLine) :
    codeAny (model prog w) A (.builtin newId ⟨.ref C :: rest, kw⟩) R ⟨h, g, d, t, os⟩ := by
  have hends := F.ends
  have hcB : (Value.ref C :: bm).contains (.type B) = true := by rw [List.contains_cons, hT, F.hasB, Bool.or_true]
  have hcA : (Value.ref C :: bm).contains (.type "AttributeError") = false := by rw [List.contains_cons, hT, F.noAttr]; rfl
  have hcN : (Value.ref C :: bm).contains (.type "NameError") = false := by rw [List.contains_cons, hT, F.noName]; rfl
  refine codeAny_builtinAt F.entry ?_
  unfold Builtin.«BaseException.__new__»
  refine wpAt_bind ?_
  show wpAt _ _ _ (stack >>= _) _ _ _
  refine wpAt_bind (wpAt_stack fun p below => wpAt_of_wpAny ?_)
  wp_walk
  refine wpAt_of_wpAny ?_
  rw [F.owner]
  repeat (first | with_reducible refine wpAny_madeHere_exc F.canon hC ?_ | with_reducible refine wpAny_loadPart_at hC ?_ | (with_reducible refine wpAny_isSubtype_exc hC ?_; first | rw [hcB] | rw [hcA] | rw [hcN]) | wp_step)
  show R _ _
  rw [Heap.size_push]
  exact hq
theorem kw_type_call (F : ExcBaseFacts B newId initId bmB) (hT : ∀ X : String, bm.contains (.type X) = bmB.contains (.type X)) {rest : List Value} {kw : List (Str × Value)} {fI : Addr} {Q : Fin → Shared → Prop}
    (hC : h.get? C = some (excClassObj nm q C N bs bm hdct sn sub ab col dd k0 k1 k2 k3 k5 newId))
    (hi : W.Looks (model prog w) h (typeLookup (.ref C) "__init__") (some (.ref fI))) (hb : ∀ self, W.Looks (model prog w) h (bindSpecial (.ref fI) self) (.ref fI, [self])) (hrest : rest.length ≤ sizeLine)
    (hq : codeAny (model prog w) A (.call (.ref fI) ⟨.ref (h.objs.size + 1) :: rest, kw⟩)
      (fun r s' => match r with | .ok (.ret v) => v = .none ∧ Q (.done (.ret (.ref (h.objs.size + 1)))) s' | .ok _ => False | .error e => E e s')
      ⟨(h.push (W.kdv_tup rest)).push (excO C h.objs.size), g, d, t, os⟩) :
    wpAny (model prog w) A (Builtin.«type.__call__» ⟨.ref C :: rest, kw⟩) Q E ⟨h, g, d, t, os⟩ := by
  repeat (first | with_reducible refine wpAny_loadPart_at hC ?_ | with_reducible refine wpAny_madeBy_exc hC ?_ | wp_step)
  refine codeAny_call_builtin_code (Code.quiet_builtin _ F.quiet) (kw_check_new F hT hC ?_)
  refine kw_new_own F hT hC ?_ hrest
  show wpAny _ _ _ _ _ _
  have k : ∀ b o, h.get? b = some o → ((h.push (W.kdv_tup rest)).push (excO C h.objs.size)).get? b = some o := fun b o e => Heap.get?_push_of_some _ (Heap.get?_push_of_some _ e)
  have hC₁ := k _ _ hC
  have hget : ((h.push (W.kdv_tup rest)).push (excO C h.objs.size)).get? (h.objs.size + 1) = some (excO C h.objs.size) := by heap_get
  have hcC : (Value.ref C :: bm).contains (.ref C) = true := by simp
  have i1 := hi.keeps k
  have b1 := (hb (.ref (h.objs.size + 1))).keeps k
  unfold isInstance
  repeat (first | with_reducible refine wpAny_loadPart_at hget ?_ | (with_reducible refine wpAny_isSubtype_exc hC₁ ?_; rw [hcC]) | wp_step)
  show wpAny _ _ (typeLookup (.ref C) _) _ _ _
  refine i1.at ?_
  refine wpAny_holding (wpAny_bind (b1.at ?_))
  refine wpAny_bind (wpAny_call (codeAny_mono hq fun r s' z => ?_))
  rcases r with e | (v | _ | _ | _) <;> first | exact z | exact z.elim | skip
  obtain ⟨rfl, z⟩ := z
  first
    | exact wpAny_pure (wpAny_pure z)
    | (wp_walk; exact z)
theorem kw_call_own (F : ExcBaseFacts B newId initId bmB) (hT : ∀ X : String, bm.contains (.type X) = bmB.contains (.type X)) {rest : List Value} {kw : List (Str × Value)} {fI : Addr}
    (hC : h.get? C = some (excClassObj nm q C N bs bm hdct sn sub ab col dd k0 k1 k2 k3 k5 newId))
    (hi : W.Looks (model prog w) h (typeLookup (.ref C) "__init__") (some (.ref fI))) (hb : ∀ self, W.Looks (model prog w) h (bindSpecial (.ref fI) self) (.ref fI, [self])) (hrest : rest.length ≤ sizeLine)
    (hq : codeAny (model prog w) (A.under (.builtin "type.__call__" ⟨.ref C :: rest, kw⟩)) (.call (.ref fI) ⟨.ref (h.objs.size + 1) :: rest, kw⟩) (W.InitBack (h.objs.size + 1) R)
      ⟨(h.push (W.kdv_tup rest)).push (excO C h.objs.size), g, d, t, os⟩) :
    codeAny (model prog w) A (.call (.ref C) ⟨rest, kw⟩) R ⟨h, g, d, t, os⟩ := by
  have f1 := tc_lookup
  have f2 := tc_bind (.ref C)
  have hTy : (⟨h, g, d, t, os⟩ : Shared).TypeIs (.ref C) "type" := ⟨_, hC, rfl⟩
  refine codeAny_of_tree ?_
  show wpAny _ _ (callAny (.ref C) _) _ _ _
  repeat (any_goals (first | assumption | with_reducible refine wpAny_loadPart_at hC ?_ | wp_step))
  refine ⟨rfl, ?_⟩
  refine codeAny_call_builtin_at (Code.quiet_builtin _ (by decide +kernel)) entry_typeCall (kw_check_tc hC (kw_type_call F hT hC hi hb hrest ?_))
  refine codeAny_mono hq fun r s' z => ?_
  rcases r with e | (v | _ | _ | _) <;> exact z
end
end HandSPX
end PySem

namespace FT
open PySem PySem.Spec PyProof.Rows L2

/-- C(..) as a value, C's own __init__ keeping sp -/
@[irreducible] def rMkX (C : Addr) (sp : Sp) (vs : List V) (H1 : Hp) (Q : VK) : Prop := vs.length ≤ 1000 ∧ ∀ a, H1 a = none → sp (.ref a :: vs) (upd H1 a (exo a C none)) (fun v H2 => v = .non ∧ Q (.ref a) H2) (fun _ _ _ => False)
def tMkX (C : Addr) (sp : Sp) (ta : TA) : TE := fun σ H Q => ta σ H fun vs H1 => rMkX C sp vs H1 Q
@[irreducible] def rMkXK (C : Addr) (sp : Sp) (gV : List V → List V → List V) (vs zs : List V) (H2 : Hp) (Q : VK) : Prop := vs.length ≤ 1000 ∧ ∀ a, H2 a = none → sp (gV (.ref a :: vs) zs) (upd H2 a (exo a C none)) (fun v H3 => v = .non ∧ Q (.ref a) H3) (fun _ _ _ => False)
def tMkXK (C : Addr) (sp : Sp) (gV : List V → List V → List V) (ta tk : TA) : TE := fun σ H Q => ta σ H fun vs H1 => tk σ H1 fun zs H2 => rMkXK C sp gV vs zs H2 Q
section
variable {X : Cx} {CX : CXT} {k : Nat} {fI C : Addr} {fd : FuncData} {ps ks : List Str} {sp : Sp} {x : Str} {p pos : Pos} {e : Expr} {es : List Expr} {t tk : TA} {kws : List Keyword} {g : List Value → List Value → List Value} {gV : List V → List V → List V}
/-- the making itself: args are there -/
theorem run_mkx {pins : List (Addr × Obj)} {σ : L2.St} {H : Hp} {s : Shared} {Q : VK} {us : List Value} {kw : List (Str × Value)} {all : Value → List Value} {allV : V → List V} (T : OexC X.K C) (iC : PySem.W.findIn X.K (.ref C) "__init__" = some (some (.ref fI))) (tI : PySem.W.typeIn X.K (.ref fI) = some (.type "function"))
    (F : FnG X.prog X.w X.K X.mg X.base CX k fI fd ps sp) (hr : RG (k + 1) X.A) (hx : Passes CX X (fun _ _ _ => False)) (I : Inv X pins σ H s) (hus : us.length ≤ sizeLine)
    (hb : ∀ (a : Addr) (s' : Shared), X.K.In s'.heap → (all (.ref a)).length = ps.length → BindsTo s' fd ⟨.ref a :: us, kw⟩ (ps.zip (all (.ref a)))) (r : ∀ a : Addr, Vals (allV (.ref a)) (all (.ref a)))
    (h : ∀ a, H a = none → sp (allV (.ref a)) (upd H a (exo a C none)) (fun v H2 => v = .non ∧ Q (.ref a) H2) (fun _ _ _ => False)) :
    wpAny (model X.prog X.w) X.A (call (.ref C) us kw) (EP X pins σ Q) X.xe s := by
  obtain ⟨nm, q, N, bs, bm, sn, sub, ab, col, dd, k0, k1, k2, k3, k5, hC, hbm⟩ := T.cls
  obtain ⟨hp, gg, dr, tk, os⟩ := s
  have hsz : hp.objs.size ≤ hp.objs.size + 1 := Nat.le_succ _
  have hn : H (hp.objs.size + 1) = none := I.hok.fresh hsz
  have hq := h (hp.objs.size + 1) hn
  have kk : ∀ b o, hp.get? b = some o → ((hp.push (PySem.W.kdv_tup us)).push (PySem.HandSPX.excO C hp.objs.size)).get? b = some o := fun b o e => Heap.get?_push_of_some _ (Heap.get?_push_of_some _ e)
  have hget : ((hp.push (PySem.W.kdv_tup us)).push (PySem.HandSPX.excO C hp.objs.size)).get? (hp.objs.size + 1) = some (PySem.HandSPX.excO C hp.objs.size) := by heap_get
  have I2 : Inv X pins σ (upd H (hp.objs.size + 1) (exo (hp.objs.size + 1) C none)) ⟨(hp.push (PySem.W.kdv_tup us)).push (PySem.HandSPX.excO C hp.objs.size), gg, dr, tk, os⟩ :=
    I.laid (t' := tk) (a := hp.objs.size + 1) (o := exo (hp.objs.size + 1) C none) (h' := (hp.push (PySem.W.kdv_tup us)).push (PySem.HandSPX.excO C hp.objs.size)) kk hsz (exo_ok hget)
  have hl : (all (.ref (hp.objs.size + 1))).length = ps.length := (r _).length.symm.trans (F.arity _ _ _ _ hq)
  refine wpAny_call (PySem.HandSPX.kw_call_own PySem.F.excBase_ValueError (fun Y => PySem.HandSPX.refsVE_contains Y bm hbm) (I.kIn _ _ hC) (PySem.W.looks_findIn I.kIn iC) (fun self => PySem.W.bind_fn I.kIn self tI) hus
    (codeAny_mono (F.goes (hr.make C us kw) (I2.env0.make C us kw) (hb _ _ I2.kIn hl) (r _) hq) fun rr s' hq' => ?_))
  cases rr with
  | error er => exact hx pins σ _ _ er s' I2 hq'
  | ok fl =>
    cases fl with
    | ret u =>
      obtain ⟨v, H2, os2, bare2, un2, hok2, rv, ev, q2⟩ := hq'
      subst ev
      obtain rfl : u = Value.none := rv
      exact ⟨rfl, .ref (hp.objs.size + 1), H2, I2.call' (ch := []) os2 un2 hok2 bare2 (fun b z => absurd z (by simp)), rfl, q2⟩
    | next => exact False.elim hq'
    | brk => exact False.elim hq'
    | cont => exact False.elim hq'
theorem pe_mkX (T : OexC X.K C) (iC : PySem.W.findIn X.K (.ref C) "__init__" = some (some (.ref fI))) (tI : PySem.W.typeIn X.K (.ref fI) = some (.type "function"))
    (F : FnG X.prog X.w X.K X.mg X.base CX k fI fd ps sp) (hr : RG (k + 1) X.A) (hg : Gl X x) (hm : X.mg x = some (.ref C)) (hb : Binds X.K fd ps []) (hx : Passes CX X (fun _ _ _ => False)) (ha : PA X (e :: es) t)
    (hdb : (x == ("__debug__" : Str)) = false := by decide) (he : starEach (e :: es) X.env = (false, eval e X.env) :: starEach es X.env := by rfl) (hpl : (backTo pos (starEach es X.env)).any (·.1) = false := by rfl) :
    PE X (.Call (.Name x p) (e :: es) [] pos) (tMkX C sp t) := by
  constructor
  intro pins s σ H Q I h
  refine wpAny_Call_Name_kw (ld_glob I hg hm ?_ hdb)
  refine PySem.W.callWith_K (h₀ := X.base) I.ok.mod.kin T.kC (thn (ha.run pos pins s σ H _ I h) ?_) he hpl
  rintro us s1 ⟨vs, H1, I1, r1, q⟩
  unfold rMkX at q
  obtain ⟨hz, q1⟩ := q
  have hus : us.length ≤ sizeLine := by
    rw [← Paired.length r1, sizeLine_eq]
    omega
  refine ⟨I1.kIn, run_mkx (all := fun a => a :: us) (allV := fun a => a :: vs) T iC tI F hr hx I1 hus (fun a s' ki hl => ?_) (fun a => .cons rfl r1) q1⟩
  have q := hb s' (.ref a :: us) ki (by simpa using hl)
  rw [List.append_nil] at q
  exact q
theorem pe_mkXK0 (T : OexC X.K C) (iC : PySem.W.findIn X.K (.ref C) "__init__" = some (some (.ref fI))) (tI : PySem.W.typeIn X.K (.ref fI) = some (.type "function"))
    (F : FnG X.prog X.w X.K X.mg X.base CX k fI fd ps sp) (hr : RG (k + 1) X.A) (hg : Gl X x) (hm : X.mg x = some (.ref C)) (hb : KBinds X.K fd ps ks g gV) (hx : Passes CX X (fun _ _ _ => False)) (hkw : PK X kws tk)
    (hall : (backToKw pos (keywordEach kws X.env)).all (·.1.isSome) = true := by rfl)
    (hks : (backToKw pos (keywordEach kws X.env)).filterMap (·.1) = ks := by rfl)
    (hdb : (x == ("__debug__" : Str)) = false := by decide)
    (hpl : ((backTo pos (starEach [] X.env)).any (·.1) || (backToKw pos (keywordEach kws X.env)).any (·.1.isNone)) = false := by rfl) :
    PE X (.Call (.Name x p) [] kws pos) (tMkXK C sp gV tNil tk) := by
  constructor
  intro pins s σ H Q I h
  refine wpAny_Call_Name_kw (ld_glob I hg hm ?_ hdb)
  refine PySem.W.callWith_KW0 (h₀ := X.base) I.ok.mod.kin T.kC hall ?_ hpl
  refine thn (hkw.run pos pins s σ H _ I h) ?_
  rintro ws s1 ⟨zs, H1, I1, r1, q⟩
  unfold rMkXK at q
  obtain ⟨hz, q1⟩ := q
  refine ⟨I1.kIn, ?_⟩
  rw [hks]
  have rr : ∀ a : Addr, Vals (gV [.ref a] zs) (g [.ref a] ws) := fun a => hb.rel (.cons rfl .nil) r1
  exact run_mkx (us := []) (all := fun a => g [a] ws) (allV := fun a => gV [a] zs) T iC tI F hr hx I1 (Nat.zero_le _) (fun a s' ki hl => hb.to s' [.ref a] ws ki hl) rr q1
end
end FT

namespace FT
open PySem PySem.Spec PyProof.Rows L2

/-- the class of the name y stands at D -/
structure Cn (K : PySem.W.Frag) (mg : Str → Option Value) (D : Addr) (y : Str) : Prop where
  g : mg y = some (.ref D)
  ex : ∃ q N bs bm sn sub ab col dd k0 k1 k2 k3 k5, K.lookup D = some (excClassObj y q D N bs bm true sn sub ab col dd k0 k1 k2 k3 k5 "ValueError.__new__")
theorem Cn.name {K : PySem.W.Frag} {mg : Str → Option Value} {D : Addr} {x y : Str} (a : Cn K mg D x) (b : Cn K mg D y) : x = y := by
  obtain ⟨_, _, _, _, _, _, _, _, _, _, _, _, _, _, _, h1⟩ := a
  obtain ⟨_, _, _, _, _, _, _, _, _, _, _, _, _, _, _, h2⟩ := b
  have e := Option.some.inj (h1.symm.trans h2)
  simp only [Obj.mk.injEq, Data.cls.injEq, ClassData.mk.injEq] at e
  exact e.2.2.1.1
theorem Cn.cls {K : PySem.W.Frag} {mg : Str → Option Value} {D : Addr} {y : Str} (a : Cn K mg D y) : ((PySem.W.clsIn K D).isSome && PySem.W.typeIn K (.ref D) == some (.type "type")) = true := by
  obtain ⟨_, _, _, _, _, _, _, _, _, _, _, _, _, _, _, h⟩ := a
  have e1 : (PySem.W.clsIn K D).isSome = true := by
    unfold PySem.W.clsIn
    rw [h]
    rfl
  have e2 : PySem.W.typeIn K (.ref D) = some (.type "type") := by
    show (K.lookup D).map (·.cls) = _
    rw [h]
    rfl
  rw [e1, e2]
  decide
/-- an own error class: its name x, at C, its __init__ at fI, the classes above it (up, of the names ns), its fields fs -/
structure XT (K : PySem.W.Frag) (mg : Str → Option Value) (x : Str) (C fI : Addr) (up : List Addr) (ns fs : List Str) : Prop where
  gC : mg x = some (.ref C)
  cls : ∃ q N bs sn sub ab col dd k0 k1 k2 k3 k5, K.lookup C = some (excClassObj x q C N bs (up.map Value.ref ++ PySem.HandSPX.veTail) true sn sub ab col dd k0 k1 k2 k3 k5 "ValueError.__new__")
  ups : Paired (fun a n => Cn K mg a n) up ns
  sa : PySem.W.findIn K (.ref C) "__setattr__" = some (some (.builtin "object.__setattr__"))
  ga : PySem.W.findIn K (.ref C) "__getattribute__" = some (some (.builtin "BaseException.__getattribute__"))
  gg : PySem.W.findIn K (.ref C) "__getattr__" = some none
  ca : PySem.W.findIn K (.ref C) "__class__" = some (some (.builtin "object.__class__"))
  cn : PySem.W.specialIn K (.builtin "object.__class__") "__get__" = some (some (.builtin "getset_descriptor.__get__"))
  ct : PySem.W.takesIn K (.builtin "object.__class__") = some true
  iC : PySem.W.findIn K (.ref C) "__init__" = some (some (.ref fI))
  tI : PySem.W.typeIn K (.ref fI) = some (.type "function")
  kC : PySem.W.keepIn K (.ref C) = true
  no : ∀ f ∈ fs, PySem.W.findIn K (.ref C) f = some none
theorem ve_refs : ∀ up : List Addr, PySem.HandSPX.refsVE (up.map Value.ref ++ PySem.HandSPX.veTail) = true
  | [] => by decide +kernel
  | a :: r => ve_refs r
section
variable {K : PySem.W.Frag} {mg : Str → Option Value} {x y f : Str} {C D fI : Addr} {up : List Addr} {ns fs : List Str}
theorem XT.mro (T : XT K mg x C fI up ns fs) (b : Value) : PySem.W.mroIn K C b = some ((Value.ref C :: (up.map Value.ref ++ PySem.HandSPX.veTail)).contains b) := by
  obtain ⟨_, _, _, _, _, _, _, _, _, _, _, _, _, h⟩ := T.cls
  unfold PySem.W.mroIn PySem.W.clsIn
  rw [h]
  rfl
theorem ve_has (b : String) : ∀ up : List Addr, (up.map Value.ref ++ PySem.HandSPX.veTail).contains (.type b) = PySem.HandSPX.veTail.contains (.type b)
  | [] => rfl
  | a :: r => by
    rw [List.map_cons, List.cons_append, List.contains_cons, ve_has b r]
    rfl
theorem XT.mroT (T : XT K mg x C fI up ns fs) (b : String) : PySem.W.mroIn K C (.type b) = some (PySem.HandSPX.veTail.contains (.type b)) := by
  rw [T.mro, List.contains_cons, ve_has]
  rfl
theorem XT.oex (T : XT K mg x C fI up ns fs) : OexC K C := by
  have m := T.mroT "BaseException"
  obtain ⟨q, N, bs, sn, sub, ab, col, dd, k0, k1, k2, k3, k5, h⟩ := T.cls
  refine ⟨⟨x, q, N, bs, _, sn, sub, ab, col, dd, k0, k1, k2, k3, k5, h, ve_refs up⟩, T.sa, m.trans (by decide +kernel), ?_, T.kC⟩
  show (K.lookup C).map (·.cls) = _
  rw [h]
  rfl
theorem XT.cnm (T : XT K mg x C fI up ns fs) : Cn K mg C x := by
  obtain ⟨q, N, bs, sn, sub, ab, col, dd, k0, k1, k2, k3, k5, h⟩ := T.cls
  exact ⟨T.gC, q, N, bs, _, sn, sub, ab, col, dd, k0, k1, k2, k3, k5, h⟩
theorem XT.hd (T : XT K mg x C fI up ns fs) : PySem.W.hasDictIn K C = true := by
  obtain ⟨q, N, bs, sn, sub, ab, col, dd, k0, k1, k2, k3, k5, h⟩ := T.cls
  unfold PySem.W.hasDictIn PySem.W.clsIn
  rw [h]
  rfl
theorem XT.xf (T : XT K mg x C fI up ns fs) : XfC K C := ⟨T.ga, T.gg, T.oex.exC, T.hd⟩
theorem cn_beq {a : Addr} {n : Str} (h : Cn K mg a n) (c : Cn K mg D y) : (Value.ref D == Value.ref a) = (y == n) := by
  by_cases e : D = a
  · subst e
    rw [c.name h]
    simp
  · have e2 : y ≠ n := fun z => by
      subst z
      exact e (Value.ref.inj (Option.some.inj (c.g.symm.trans h.g)))
    have e3 : (Value.ref D == Value.ref a) = false := by
      rw [beq_eq_false_iff_ne]
      exact fun z => e (Value.ref.inj z)
    have e4 : (y == n) = false := by
      rw [beq_eq_false_iff_ne]
      exact e2
    rw [e3, e4]
theorem has_refs : ∀ {up : List Addr} {ns : List Str}, Paired (fun a n => Cn K mg a n) up ns → Cn K mg D y → (up.map Value.ref ++ PySem.HandSPX.veTail).contains (.ref D) = ns.contains y
  | _, _, .nil, _ => by rfl
  | _, _, .cons h p, c => by
    rw [List.map_cons, List.cons_append, List.contains_cons, has_refs p c, List.contains_cons, cn_beq h c]
/-- isinstance of such an error, by the names -/
theorem XT.kit (T : XT K mg x C fI up ns fs) (c : Cn K mg D y) : PySem.W.kitOne K (.ref C) (.ref D) = some ((x :: ns).contains y) := by
  have e : (Value.ref C :: (up.map Value.ref ++ PySem.HandSPX.veTail)).contains (.ref D) = (x :: ns).contains y := by
    rw [List.contains_cons, List.contains_cons, has_refs T.ups c, cn_beq T.cnm c]
  unfold PySem.W.kitOne
  split
  · rename_i h
    have z : C = D := Value.ref.inj (beq_iff_eq.mp h)
    subst z
    rw [T.cnm.name c]
    simp
  · show (if ((PySem.W.clsIn K D).isSome && PySem.W.typeIn K (.ref D) == some (.type "type")) = true then PySem.W.mroIn K C (.ref D) else none) = _
    rw [if_pos c.cls, T.mro, e]
theorem XT.kitT (T : XT K mg x C fI up ns fs) (t : String) (h : PySem.W.kitMeta t = true) : PySem.W.kitOne K (.ref C) (.type t) = some (PySem.HandSPX.veTail.contains (.type t)) := by
  unfold PySem.W.kitOne
  split
  · rename_i z
    cases beq_iff_eq.mp z
  · show (if PySem.W.kitMeta t = true then PySem.W.mroIn K C (.type t) else none) = _
    rw [if_pos h, T.mroT]
/-- such an error stands at a, its fields gs -/
def ExV (H : Hp) (a C : Addr) (gs : List (Str × V)) : Prop := ∃ dd, H a = some (exo a C (some dd)) ∧ H dd = some (exd dd gs)
theorem ExV.mono {H H' : Hp} {a : Addr} {gs : List (Str × V)} (e : ExV H a C gs) (s : ∀ b o, H b = some o → (∀ xs, o ≠ .lst xs) → H' b = some o) : ExV H' a C gs := by
  obtain ⟨dd, h1, h2⟩ := e
  refine ⟨dd, s _ _ h1 fun xs z => ?_, s _ _ h2 fun xs z => ?_⟩
  · have z' : HO.ext _ = HO.lst xs := z
    cases z'
  · have z' : HO.ext _ = HO.lst xs := z
    cases z'
theorem ExV.keep {H H' : Hp} {a : Addr} {gs : List (Str × V)} (e : ExV H a C gs) (s : Same H H') : ExV H' a C gs := e.mono fun b o h _ => s b o h
theorem exv_inst {X : Cx} {pins : List (Addr × Obj)} {σ : L2.St} {H : Hp} {s : Shared} {a : Addr} {gs : List (Str × V)} (I : Inv X pins σ H s) (e : ExV H a C gs) :
    ∃ ox od, PySem.W.InstAt s.heap a ox C (some od) ∧ ∀ n v, gs.lookup n = some v → ∃ u, RelV v u ∧ PySem.W.lookIn n od = some (some u) := by
  obtain ⟨dd, h1, h2⟩ := e
  obtain ⟨t1, ho⟩ := exo_at I.hok h1
  obtain ⟨mA, hns, rel⟩ := exd_at I.hok h2
  obtain ⟨od, hd, hl⟩ := lookIn_ns hns
  refine ⟨_, od, ⟨ho, rfl, rfl, hd⟩, fun n v l => ?_⟩
  obtain ⟨u, hu, ru⟩ := RelO.some_of (v := v) (o := mA n) (by rw [← l]; exact rel n)
  exact ⟨u, ru, by rw [hl, hu]⟩
/-- e.f of such an error -/
@[irreducible] def rXg (K : PySem.W.Frag) (f : Str) (x : V) (H1 : Hp) (Q : VK) : Prop := ∃ (a C : Addr) (gs : List (Str × V)) (v : V), x = .ref a ∧ XfC K C ∧ PySem.W.findIn K (.ref C) f = some none ∧ ExV H1 a C gs ∧ gs.lookup f = some v ∧ Q v H1
def tXg (K : PySem.W.Frag) (f : Str) (te : TE) : TE := fun σ H Q => te σ H fun x H1 => rXg K f x H1 Q
theorem pe_xg {X : Cx} {e : Expr} {te : TE} {pos : Pos} {n : Str} (he : PE X e te) (hb : attributeBase e n X.env (eval e X.env) = eval e X.env := by rfl) : PE X (.Attribute e n pos) (tXg X.K n te) := by
  refine ⟨fun pins s σ H Q I h => ?_⟩
  refine attr_of hb (thn (he.run pins s σ H _ I h) fun u s1 hh => ?_)
  obtain ⟨x, H1, I1, rx, hh⟩ := hh
  unfold rXg at hh
  obtain ⟨a, C, gs, v, ex, T, hno, ev, l, q⟩ := hh
  subst ex
  obtain rfl : u = Value.ref a := rx
  obtain ⟨ox, od, J, hl⟩ := exv_inst I1 ev
  obtain ⟨u, ru, hu⟩ := hl n v l
  exact HandSPX.exc_get I1.kIn J T.ga T.gg T.exC (PySem.W.findObj_own T.hdC hno rfl hu) (handed_of ru) ⟨v, H1, I1.tok _, ru, q⟩
/-- isinstance(error, c) -/
@[irreducible] def rIsiE (K : PySem.W.Frag) (mg : Str → Option Value) : List V → Hp → VK → Prop := fun xs H Q => ∃ (a C fI : Addr) (gs : List (Str × V)) (x : Str) (up : List Addr) (ns fs : List Str) (c : V) (u : Value) (b : Bool), xs = [.ref a, c] ∧ ExV H a C gs ∧ XT K mg x C fI up ns fs ∧ ClsV c u ∧ PySem.W.kitOne K (.ref C) u = some b ∧ Q (.bl b) H
@[irreducible] def rIsiTE (K : PySem.W.Frag) (mg : Str → Option Value) : List V → Hp → VK → Prop := fun xs H Q => ∃ (a C fI : Addr) (gs : List (Str × V)) (x : Str) (up : List Addr) (ns fs : List Str) (tp : Addr) (cs : List V) (us : List Value) (b : Bool), xs = [.ref a, .ref tp] ∧ ExV H a C gs ∧ XT K mg x C fI up ns fs ∧ H tp = some (.tup cs) ∧ Paired ClsV cs us ∧ PySem.W.kitAny K (.ref C) us = some b ∧ Q (.bl b) H
theorem XT.kitx {a : Addr} {ox od : Obj} (T : XT K mg x C fI up ns fs) : PySem.W.KitX K (.ref a) (.ref C) (fun h => PySem.W.InstAt h a ox C (some od)) := by
  refine PySem.W.kitx_exc (gt := none) ?_ T.ga T.gg T.oex.exC T.ca T.cn T.ct ?_
  · have := T.cnm.cls
    rw [Bool.and_eq_true] at this
    exact this.1
  · rw [T.mroT]
    decide +kernel
theorem call_isiE {X : Cx} : CallR X (.builtin "isinstance") (rIsiE X.K X.mg) := by
  intro pins s σ H xs us Q I r h
  unfold rIsiE at h
  obtain ⟨a, C, fI, gs, x, up, ns, fs, c, u, b, rfl, ev, T, k, e, q⟩ := h
  obtain ⟨u1, u2, rfl, r1, r2⟩ := vals2 r
  have e2 := k.eq r2
  subst e2
  cases (show u1 = Value.ref a from r1)
  obtain ⟨ox, od, J, _⟩ := exv_inst I ev
  exact PySem.W.kia_one (T.kitx (ox := ox) (od := od)) I.kIn J e (fun z => nomatch z) fun tk => ⟨.bl b, H, I.tok tk, rfl, q⟩
theorem call_isiTE {X : Cx} : CallR X (.builtin "isinstance") (rIsiTE X.K X.mg) := by
  intro pins s σ H xs us Q I r h
  unfold rIsiTE at h
  obtain ⟨a, C, fI, gs, x, up, ns, fs, tp, cs, ws, b, rfl, ev, T, hT, k, e, q⟩ := h
  obtain ⟨u1, u2, rfl, r1, r2⟩ := vals2 r
  cases (show u1 = Value.ref a from r1)
  cases (show u2 = Value.ref tp from r2)
  obtain ⟨ox, od, J, _⟩ := exv_inst I ev
  obtain ⟨_, its, rv, o, h1, h2, n, h3⟩ := (show ObjOk X.prog X.w H s.heap tp (.tup cs) from I.hok tp _ hT)
  have e3 := ClsV.all k rv
  subst e3
  obtain ⟨oc, od, dt, sl⟩ := o
  simp only at h2 h3
  subst h2 h3
  exact PySem.W.kia_tup (T.kitx (ox := ox) (od := _)) I.kIn J h1 e (fun z => nomatch z) fun tk => ⟨.bl b, H, I.tok tk, rfl, q⟩
end
end FT

namespace FT
open PySem PySem.Spec PyProof.Rows L2
abbrev supA (q1 q2 : Pos) : Arguments := { posonlyargs := [], args := [{ arg := "self", annotation := none, pos := q1 }, { arg := "value", annotation := none, pos := q2 }], vararg := none, kwonlyargs := [], kw_defaults := [], kwarg := none, defaults := [] }
abbrev supB (p0 p1 p2 p3 p4 p5 : Pos) : List Stmt := [.Expr (.Call (.Attribute (.Call (.Name "super" p0) [] [] p1) "__init__" p2) [.Name "value" p3] [] p4) p5]
abbrev supS : Scope := { kind := .function, names := [(PySem.Str.ofString "self", .local), (PySem.Str.ofString "value", .local), (PySem.Str.ofString "__class__", .free), (PySem.Str.ofString "super", .globalImplicit)], isGenerator := false, isCoroutine := false, more := [] }
structure SPos where
  (q1 q2 p0 p1 p2 p3 p4 p5 : Pos)
abbrev supE (p : SPos) : Expr := .Call (.Attribute (.Call (.Name "super" p.p0) [] [] p.p1) "__init__" p.p2) [.Name "value" p.p3] [] p.p4
/-- a method that says super() -/
structure SFun (P : Program) (K : PySem.W.Frag) (p : SPos) (qual : Str) (f D cc cda : Addr) (fd : FuncData) : Prop where
  ex : ∃ (oc : Value) (od : Option Addr) (kV doc pm : Value) (an : Option Addr) (ct : Value) (osl : Array (Option Value)),
    fd = PySem.W.ksFn "__init__" qual (supA p.q1 p.q2) (supB p.p0 p.p1 p.p2 p.p3 p.p4 p.p5) supS .none kV doc pm an (.ref cda) ct cc ∧ K.lookup f = some ⟨oc, od, .func fd, osl⟩ ∧ PySem.W.codeIn K (.ref cda) qual = true
  code : ∃ (ccl : Value) (cdd : Option Addr) (vs : Array Value) (ccs : Array (Option Value)) (file : Str) (tf : Tok), K.lookup cda = some ⟨ccl, cdd, .fields vs, ccs⟩ ∧ vs[2]? = some (.str file tf) ∧ ((P.main.file : Str) == file) = true
  cell : ∃ (cl : Value) (cld : Option Addr) (csl : Array (Option Value)), K.lookup cc = some ⟨cl, cld, .cell (some (.ref D)), csl⟩
  top : (P.main.scope.names.lookup ("super" : Str)).isSome = false
  opq : PySem.W.nsIn K cStatics "thirdparty.any" = some none
/-- what the class C, whose method this is, and D above it must have -/
structure SupC (K : PySem.W.Frag) (C D f2 : Addr) : Prop where
  sub : PySem.W.mroIn K C (.ref D) = some true
  sup : PySem.W.ks_superIn K C D "__init__" = some (some (.ref f2))
  tf : PySem.W.typeIn K (.ref f2) = some (.type "function")
  fn : PySem.W.fnIn K f2 = true
def spSup (K : PySem.W.Frag) (D f2 : Addr) (sp : Sp) : Sp := fun vs H Q _ => ∃ a C v, vs = [.ref a, v] ∧ H a = some (exo a C none) ∧ SupC K C D f2 ∧ sp vs H (fun _ H' => Q .non H') (fun _ _ _ => False)
theorem un_frame {fs ex : List Addr} {H H' : Hp} {h h1 h2 : Heap} {L : Addr} (hL : h.objs.size ≤ L) (k : ∀ b o, h.get? b = some o → h1.get? b = some o) (u : Un (L :: fs) ex H H' h1 h2) : Un fs ex H H' h h2 where
  keep := fun b o q n hf hx => u.keep b o (k b o q) n (fun z => by
    rcases List.mem_cons.mp z with rfl | z
    · exact absurd (Heap.lt_size q) (Nat.not_lt.mpr hL)
    · exact hf z) hx
  slot := fun b o q n hf hx => u.slot b o (k b o q) n (List.mem_cons_of_mem _ hf) hx
  free := fun b o q n hx => u.free b o (k b o q) n hx
  there := fun b o q hx => u.there b o (k b o q) hx
  tups := u.tups
  frzs := u.frzs
  tbls := u.tbls
theorem super_init {P : Program} {w : World} {K : PySem.W.Frag} {mg : Str → Option Value} {base : Heap} {qual : Str} {f f2 D cc cda : Addr} {fd fd2 : FuncData} {k : Nat} {sp : Sp} {yD : Str} {p : SPos} {pl : Sem Bool}
    (SF : SFun P K p qual f D cc cda fd) (cD : Cn K mg D yD) (hs : mg "super" = none)
    (he : ∀ env : Env, eval (supE p) env = (do
      let ov ← attributeBase (.Call (.Name "super" p.p0) [] [] p.p1) "__init__" env (eval (.Call (.Name "super" p.p0) [] [] p.p1) env)
      standAt p.p2.atName
      let (f, first) ← holding [ov] (getMethod ov "__init__" pl)
      callWith p.p4 f first (backTo p.p4 (starEach [.Name "value" p.p3] env)) []))
    (F2 : FnG P w K mg base CX0 k f2 fd2 ["self", "value"] sp) (b2 : Binds K fd2 ["self", "value"] []) :
    FnG P w K mg base CX0 (k + 1) f fd ["self", "value"] (spSup K D f2 sp) := by
  obtain ⟨oc, od, kV, doc, pm, an, ct, osl, rfl, lk, hcd⟩ := SF.ex
  obtain ⟨ccl, cdd, vs2, ccs, file, tf, lc, hvs2, hfile⟩ := SF.code
  obtain ⟨cl, cld, csl, lcell⟩ := SF.cell
  refine ⟨fun vs H Q E h => by obtain ⟨a, C, v, rfl, _⟩ := h; rfl, ?_⟩
  rintro A outer s H args us vs Q E hr e0 hb r ⟨a, C, v, rfl, ha, SC, hsp⟩
  obtain ⟨u1, u, rfl, r1, ru⟩ := vals2 r
  obtain rfl : u1 = .ref a := r1
  obtain ⟨t1, hoa⟩ := exo_at e0.hok ha
  have kb : ∀ b o, base.get? b = some o → s.heap.get? b = some o := fun b o q => (e0.bs b o q).1
  have KX : K.In s.heap := e0.mod.kin.keeps kb
  have lim : s.heap.NoLimit := e0.mod.nolimit.keeps kb
  refine PySem.ks_codeAny_call_defAt hr.room.depth (KX _ _ lk) rfl lim (PySem.W.codeRec_of KX hcd) rfl hb (fun x hx => by rcases List.mem_cons.mp hx with rfl | hx; (intro z; cases z); rcases List.mem_cons.mp hx with rfl | hx; (intro z; cases z); rcases List.mem_cons.mp hx with rfl | hx; (intro z; cases z); rcases List.mem_cons.mp hx with rfl | hx; (intro z; cases z); cases hx) ?_ (fun h₁ hns hk₁ => ?_) rfl rfl rfl
  · intro x hx
    rcases List.mem_cons.mp hx with rfl | hx
    · rfl
    · rcases List.mem_cons.mp hx with rfl | hx
      · rfl
      · cases hx
  have K1 : K.In h₁ := KX.keeps hk₁
  obtain ⟨mb, nb, hmb⟩ := e0.mod.blt
  obtain ⟨oD, hD1, hD2⟩ : ∃ oD, h₁.get? D = some oD ∧ ∃ cdD, oD.data = .cls cdD := by
    obtain ⟨_, _, _, _, _, _, _, _, _, _, _, _, _, _, hD⟩ := cD.ex
    exact ⟨_, K1 _ _ hD, _, rfl⟩
  obtain ⟨cdD, hD2⟩ := hD2
  refine PySem.ks_wpAt_execs_cons (PySem.ks_wpAt_Expr_any (PySem.ks_wpAt_MethodCall (PySem.ks_wpAt_super_base rfl rfl (by decide) rfl (K1 _ _ lk) rfl rfl rfl (K1 _ _ lc) rfl hvs2 hfile SF.top ?_) (he _)))
  refine PySem.W.ks_loadName_global rfl rfl (PySem.Calls.loadGlobal_builtin ((e0.mod.glob.keeps kb).keeps hk₁) hs ((nb.keeps kb).keeps hk₁) ((hmb _ (by decide +kernel)).trans (show bootBuiltins "super" = some (.type "super") by decide +kernel)) ⟨rfl, ?_⟩)
  refine wpAny_loadName_free rfl rfl rfl ⟨_, K1 _ _ lcell, rfl⟩ ?_
  refine wpAny_loadName_local rfl rfl hns rfl ?_
  refine PySem.ks_wpAny_isType_cls hD1 hD2 ⟨rfl, ?_⟩
  refine PySem.ks_wpAny_call_super hD1 hD2 (hk₁ _ _ hoa) rfl (fun c e => by cases e) (PySem.W.looks_mroIn K1 SC.sub) (fun h2 e2 k2 => ?_)
  have K2 : K.In h2 := K1.keeps k2
  have keep2 : ∀ b o, s.heap.get? b = some o → h2.get? b = some o := fun b o q => k2 _ _ (hk₁ _ _ q)
  have hns2 : h2.Ns s.heap.objs.size (fun x => ([("self", Value.ref a), ("value", u)] : List (Str × Value)).reverse.lookup x) := by
    obtain ⟨o, es, ep, ho, r⟩ := hns
    exact ⟨o, es, ep, k2 _ _ ho, r⟩
  obtain ⟨cd, hcl⟩ : ∃ cd, PySem.W.clsIn K C = some cd := by
    cases q : PySem.W.clsIn K C with
    | some cd => exact ⟨cd, rfl⟩
    | none =>
      have z := SC.sub
      unfold PySem.W.mroIn at z
      rw [q] at z
      cases z
  have hsup : PySem.W.alongIn K "__init__" ((cd.mro.dropWhile (· != .ref D)).drop 1) = some (some (.ref f2)) := by
    have z := SC.sup
    unfold PySem.W.ks_superIn at z
    rw [hcl] at z
    exact z
  obtain ⟨of, hof, hofc⟩ : ∃ of, h2.get? f2 = some of ∧ of.cls = .type "function" := by
    have z : (K.lookup f2).map (·.cls) = some (.type "function") := SC.tf
    cases q : K.lookup f2 with
    | none => rw [q] at z; cases z
    | some of => rw [q] at z; exact ⟨of, K2 _ _ q, Option.some.inj z⟩
  have IA : PySem.W.InstAt s.heap a { cls := .ref C, dict := none, data := .fields #[.ref t1, .none, .none, .none, .bool false, .none] } C none := ⟨hoa, rfl, rfl, trivial⟩
  refine PySem.ks_wpAny_getMethod_super e2 (PySem.W.looks_opaque K2 SF.opq) (l₀ := cd.mro) (fun A Q E s k q => wpAny_bind ((PySem.W.looks_clsIn K2 hcl) A _ E s k (wpAny_pure q))) rfl K2 hsup hof hofc (PySem.W.ks_ne KX IA hcl) (by decide) ?_
  have k3 : ∀ b o, h2.get? b = some o → (h2.push { cls := .type "method", data := .fields #[.ref f2, .ref a] }).get? b = some o := fun b o q => Heap.get?_push_of_some _ q
  have hm : (h2.push { cls := .type "method", data := .fields #[.ref f2, .ref a] }).get? h2.objs.size = some { cls := .type "method", dict := none, data := .fields #[.ref f2, .ref a], slots := #[] } := Heap.get?_push_at rfl rfl
  have hns3 : (h2.push { cls := .type "method", data := .fields #[.ref f2, .ref a] }).Ns s.heap.objs.size (fun x => ([("self", Value.ref a), ("value", u)] : List (Str × Value)).reverse.lookup x) := by
    obtain ⟨o, es, ep, ho, r⟩ := hns2
    exact ⟨o, es, ep, k3 _ _ ho, r⟩
  have keep3 : ∀ b o, s.heap.get? b = some o → (h2.push { cls := .type "method", data := .fields #[.ref f2, .ref a] }).get? b = some o := fun b o q => k3 _ _ (keep2 _ _ q)
  refine PySem.W.callWith_of (P := PySem.W.MethP K h2.objs.size f2 (.ref a)) (by rfl) (PySem.W.keeps_M SC.fn) (PySem.Calls.evalArgs_plain ?_)
  refine spliced_more (wpAny_Name (wpAny_loadName_local rfl rfl hns3 rfl ?_) (by decide)) 
  refine spliced_none ⟨⟨hm, K2.keeps k3⟩, ?_⟩
  refine wpAny_call (PySem.ks_codeAny_call_bound hm ?_)
  have hL : s.heap.objs.size < (h2.push { cls := .type "method", data := .fields #[.ref f2, .ref a] }).objs.size := by
    obtain ⟨o, es, ep, ho, _⟩ := hns3
    exact Heap.lt_size ho
  have e1 : Env0 P w K mg base (A.deeper (callEnv (PySem.W.ksFn "__init__" qual (supA p.q1 p.q2) (supB p.p0 p.p1 p.p2 p.p3 p.p4 p.p5) supS .none kV doc pm an (.ref cda) ct cc) s.heap.objs.size f)) (callEnv (PySem.W.ksFn "__init__" qual (supA p.q1 p.q2) (supB p.p0 p.p1 p.p2 p.p3 p.p4 p.p5) supS .none kV doc pm an (.ref cda) ct cc) s.heap.objs.size f :: outer)
      ⟨h2.push { cls := .type "method", data := .fields #[.ref f2, .ref a] }, s.gens, s.drawn, s.toks + 2 + 1, s.os⟩ H :=
    { frames := Around.frames_deeper e0.frames
      mod := e0.mod
      bs := fun b o q => ⟨keep3 b o (kb b o q), (e0.bs b o q).2⟩
      bsz := Nat.le_of_lt (Nat.lt_of_le_of_lt e0.bsz hL)
      funs := by
        obtain ⟨o, es, ep, ho, hd, _⟩ := hns3
        refine ⟨fun z => (nomatch z), ⟨s.heap.objs.size, o, rfl, ?_, ho, fun vs z => by rw [hd] at z; cases z⟩, e0.funs.of_keeps fun b o q _ => ⟨o, keep3 b o q, rfl⟩⟩
        cases z : base.get? s.heap.objs.size with
        | none => rfl
        | some o => exact absurd (Heap.lt_size (kb _ _ z)) (Nat.lt_irrefl _)
      frf := fun b hb => by
        rcases List.mem_cons.mp hb with rfl | hb
        · exact e0.hok.fresh (Nat.le_refl _)
        · exact e0.frf b hb
      hok := e0.hok.kept keep3
      bare := e0.bare }
  have run := F2.goes (hr.deeper _) e1 (args := ⟨[.ref a, u], []⟩) (us := [.ref a, u] ++ []) (b2 _ [.ref a, u] (K2.keeps k3) rfl) (by rw [List.append_nil]; exact r) hsp
  refine codeAny_mono run ?_
  intro rr s' q
  match rr, q with
  | .error e, q => exact q.elim
  | .ok (.ret u'), ⟨v', H', os, bare, un, hok', rv, q'⟩ =>
    have fin : CE outer P w H s Q .none s' := ⟨.non, H', os, bare, un_frame (Nat.le_refl _) keep3 un, hok', rfl, q'⟩
    first
      | exact wpAt_of_wpAny (wpAny_execs_nil fin)
      | trace_state
end FT
namespace FT
open PySem PySem.Spec PyProof.Rows L2
theorem binds_sup {K : PySem.W.Frag} {qual : Str} {q1 q2 p0 p1 p2 p3 p4 p5 : Pos} {kV doc pm cdv ct : Value} {an : Option Addr} {cc : Addr} : Binds K (PySem.W.ksFn "__init__" qual (supA q1 q2) (supB p0 p1 p2 p3 p4 p5) supS .none kV doc pm an cdv ct cc) ["self", "value"] [] :=
  fun s us _ hl => match us, hl with
    | [_, _], _ => .of_eq rfl
def two {α : Type} : List α → List α → List α
  | [a], [b] => [a, b]
  | _, _ => []
def twoX {α : Type} : List α → List α → List α
  | [a], [b, c] => [a, c, b]
  | _, _ => []
def three {α : Type} : List α → List α → List α
  | [a], [b, c] => [a, b, c]
  | _, _ => []
theorem rel_two {vs : List V} {us : List Value} {zs : List V} {ws : List Value} (r : Vals vs us) (q : Vals zs ws) : Vals (two vs zs) (two us ws) := by
  cases r with
  | nil => exact .nil
  | cons a r =>
    cases r with
    | nil =>
      cases q with
      | nil => exact .nil
      | cons b q =>
        cases q with
        | nil => exact .cons a (.cons b .nil)
        | cons _ _ => exact .nil
    | cons _ _ => exact .nil
theorem rel_twoX {vs : List V} {us : List Value} {zs : List V} {ws : List Value} (r : Vals vs us) (q : Vals zs ws) : Vals (twoX vs zs) (twoX us ws) := by
  cases r with
  | nil => exact .nil
  | cons a r =>
    cases r with
    | nil =>
      cases q with
      | nil => exact .nil
      | cons b q =>
        cases q with
        | nil => exact .nil
        | cons c q =>
          cases q with
          | nil => exact .cons a (.cons c (.cons b .nil))
          | cons _ _ => exact .nil
    | cons _ _ => exact .nil
theorem kbinds_sup {P : Program} {K : PySem.W.Frag} {p : SPos} {qual : Str} {f D cc cda : Addr} {fd : FuncData} (S : SFun P K p qual f D cc cda fd) : KBinds K fd ["self", "value"] ["value"] two two := by
  obtain ⟨oc, od, kV, doc, pm, an, ct, osl, rfl, lk, hcd⟩ := S.ex
  refine ⟨fun s us ws _ hl => ?_, rel_two⟩
  match us, ws, hl with
  | [_], [_], _ => exact .of_eq rfl
theorem XT.supc {K : PySem.W.Frag} {mg : Str → Option Value} {x y : Str} {C D fI f2 : Addr} {up : List Addr} {ns ns2 fs fs2 : List Str} (T : XT K mg x C fI (D :: up) ns fs) (T2 : XT K mg y D f2 up ns2 fs2) (fn : PySem.W.fnIn K f2 = true) : SupC K C C f2 := by
  obtain ⟨q, N, bs, sn, sub, ab, col, dd, k0, k1, k2, k3, k5, h⟩ := T.cls
  obtain ⟨q', N', bs', sn', sub', ab', col', dd', k0', k1', k2', k3', k5', h'⟩ := T2.cls
  refine ⟨by rw [T.mro, List.contains_cons]; simp, ?_, T2.tI, fn⟩
  have e := T2.iC
  unfold PySem.W.findIn at e
  dsimp only at e
  rw [h'] at e
  unfold PySem.W.ks_superIn PySem.W.clsIn
  rw [h]
  show PySem.W.alongIn K "__init__" (((Value.ref C :: ((D :: up).map Value.ref ++ PySem.HandSPX.veTail)).dropWhile (· != .ref C)).drop 1) = _
  have z : ((Value.ref C :: ((D :: up).map Value.ref ++ PySem.HandSPX.veTail)).dropWhile (· != .ref C)).drop 1 = (D :: up).map Value.ref ++ PySem.HandSPX.veTail := by
    simp [List.dropWhile_cons]
  rw [z]
  exact e
end FT

/-! a value beside itself -/
namespace FT
open PySem PySem.Spec PyProof.Rows L2
/-- an item whose equality with itself needs no look inside -/
def easyV : V → Bool
  | .ref _ => true
  | v => flatB v
theorem easy_same {A : Around} {s : Shared} {v : V} {u u' : Value} (r : RelV v u) (r' : RelV v u') (f : easyV v = true) : SeqAt.EqAt A s u u' true := by
  cases v with
  | ref a =>
    cases (show u = Value.ref a from r)
    cases (show u' = Value.ref a from r')
    exact SeqAt.EqAt.same _
  | non => exact eqAt_same r r' f
  | bl _ => exact eqAt_same r r' f
  | int _ => exact eqAt_same r r' f
  | str _ => exact eqAt_same r r' f
  | byt _ => exact eqAt_same r r' f
  | flt _ => cases f
  | ty _ => cases f
theorem easy_items {A : Around} {s : Shared} : ∀ {xs : List V} {us us' : List Value}, Vals xs us → Vals xs us' → (∀ x ∈ xs, easyV x = true) → ∀ j (h1 : j < us.length) (h2 : j < us'.length), SeqAt.EqAt A s us[j] us'[j] true
  | _, _, _, .nil, .nil, _ => fun j h1 _ => absurd h1 (Nat.not_lt_zero j)
  | _, _, _, .cons a r, .cons a' r', f => fun j h1 h2 => match j with
    | 0 => easy_same a a' (f _ List.mem_cons_self)
    | j + 1 => easy_items r r' (fun x hx => f x (List.mem_cons_of_mem _ hx)) j (Nat.lt_of_succ_lt_succ h1) (Nat.lt_of_succ_lt_succ h2)
/-- a value that may stand beside itself -/
def SelfV (H : Hp) : V → Prop
  | .ref a => (∃ xs, H a = some (.lst xs) ∧ ∀ x ∈ xs, easyV x = true) ∨ (∃ xs, H a = some (.tup xs) ∧ ∀ x ∈ xs, easyV x = true) ∨ ∃ kvs, H a = some (.dK kvs) ∧ ∀ p ∈ kvs, valV kvs p.1 = some p.2 ∧ flatB p.2 = true
  | .non => True
  | .bl _ => True
  | .int _ => True
  | .str _ => True
  | _ => False
theorem SelfV.mono {H H' : Hp} {v : V} (h : SelfV H v) (s : ∀ a o, v = .ref a → H a = some o → H' a = some o) : SelfV H' v := by
  cases v with
  | ref a =>
    rcases h with ⟨xs, e, k⟩ | ⟨xs, e, k⟩ | ⟨xs, e, k⟩
    · exact .inl ⟨xs, s _ _ rfl e, k⟩
    · exact .inr (.inl ⟨xs, s _ _ rfl e, k⟩)
    · exact .inr (.inr ⟨xs, s _ _ rfl e, k⟩)
  | non => exact h
  | bl _ => exact h
  | int _ => exact h
  | str _ => exact h
  | byt _ => exact h
  | flt _ => exact h
  | ty _ => exact h
theorem SelfV.easy {H : Hp} {v : V} (h : SelfV H v) : easyV v = true := by
  cases v <;> first | rfl | exact (show False from h).elim
section
variable {X : Cx}
/-- x != x; [x, y] != [x, y] -/
def rNeS (K : PySem.W.Frag) : R2 := fun x y H Q => ((x = y ∧ SelfV H x) ∨ ∃ a b xs, x = .ref a ∧ y = .ref b ∧ H a = some (.lst xs) ∧ H b = some (.lst xs) ∧ ∀ x ∈ xs, easyV x = true) ∧ Q (.bl false) H
theorem ne_lists {pins : List (Addr × Obj)} {σ : L2.St} {H : Hp} {s : Shared} {Q : VK} {a b : Addr} {xs : List V} (hu : X.A.units < cLine) (I : Inv X pins σ H s) (h1 : H a = some (.lst xs)) (h2 : H b = some (.lst xs)) (f : ∀ x ∈ xs, easyV x = true) (q : Q (.bl false) H) :
    wpAny (model X.prog X.w) X.A (compareOp .NotEq (.ref a) (.ref b)) (EP X pins σ Q) X.xe s := by
  obtain ⟨us, r1, p1, _⟩ := I.list (SqL.of h1)
  obtain ⟨us', r2, p2, _⟩ := I.list (SqL.of h2)
  have hsz : us.toArray.size = us'.toArray.size := by
    rw [List.size_toArray, List.size_toArray, ← r1.length, ← r2.length]
  refine PySem.EqBoolInt.of_rcne (SeqAt.RcNeAt.lists (e := fun _ => true) p1.isList p2.isList hsz hu (fun j g1 g2 => ?_)) ?_
  · have k := easy_items (A := X.A.in1) (s := s) r1 r2 f j (by simpa using g1) (by simpa using g2)
    simpa using k
  · rw [show ((List.range us.toArray.size).all fun _ => true) = true from List.all_eq_true.mpr fun _ _ => rfl]
    exact ⟨.bl false, H, I, rfl, q⟩
theorem op_neS (hu : X.A.units + 64 < cLine) : OpR X (compareOp .NotEq) (rNeS X.K) := by
  have hu' : X.A.units < cLine := by omega
  rintro pins s σ H x y v u Q I rx ry ⟨h, q⟩
  rcases h with ⟨rfl, h⟩ | ⟨a, b, xs, rfl, rfl, h1, h2, f⟩
  · cases x with
    | ref a =>
      cases (show v = Value.ref a from rx)
      cases (show u = Value.ref a from ry)
      rcases h with ⟨xs, e, f⟩ | ⟨xs, e, f⟩ | ⟨kvs, e, f⟩
      · exact ne_lists hu' I e e f q
      · obtain ⟨us, r1, p1, _⟩ := I.tuple (SqT.of e)
        refine PySem.EqBoolInt.of_rcne (SeqAt.RcNeAt.tuples (e := fun _ => true) p1 p1 hu' (fun j g1 g2 => ?_)) ?_
        · have k := easy_items (A := X.A.in1) (s := s) r1 r1 f j (by simpa using g1) (by simpa using g2)
          simpa using k
        · have z : ((List.range (min us.toArray.size us.toArray.size)).all fun _ => true) = true := List.all_eq_true.mpr fun _ _ => rfl
          rw [z]
          have z2 : (us.toArray.size == us.toArray.size) = true := beq_self_eq_true _
          rw [z2]
          exact ⟨.bl false, H, I, rfl, q⟩
      · exact op_ne_dictA hu' pins s σ H (.ref a) (.ref a) _ _ Q I rfl rfl ⟨a, a, kvs, kvs, rfl, rfl, e, e, rfl, f, q⟩
    | non =>
      cases (show v = Value.none from rx)
      cases (show u = Value.none from ry)
      exact PySem.EqNone.ne_none_none ⟨.bl false, H, I, rfl, q⟩
    | bl b =>
      cases (show v = Value.bool b from rx)
      cases (show u = Value.bool b from ry)
      refine PyProof.Rows.ne_bool ⟨.bl false, H, I, ?_, q⟩
      show Value.bool (b != b) = Value.bool false
      rw [bne_self_eq_false]
    | int i =>
      obtain ⟨t, rfl⟩ := (show ∃ t, v = Value.int i t from rx)
      obtain ⟨t', rfl⟩ := (show ∃ t, u = Value.int i t from ry)
      refine PyProof.Rows.ne_int ⟨.bl false, H, I, ?_, q⟩
      show Value.bool (i != i) = Value.bool false
      rw [bne_self_eq_false]
    | str i =>
      obtain ⟨t, rfl⟩ := (show ∃ t, v = Value.str i t from rx)
      obtain ⟨t', rfl⟩ := (show ∃ t, u = Value.str i t from ry)
      refine PyProof.Rows.ne_str ⟨.bl false, H, I, ?_, q⟩
      show Value.bool (i != i) = Value.bool false
      rw [bne_self_eq_false]
    | byt _ => exact h.elim
    | flt _ => exact h.elim
    | ty _ => exact h.elim
  · cases (show v = Value.ref a from rx)
    cases (show u = Value.ref b from ry)
    exact ne_lists hu' I h1 h2 f q
end
end FT

/-! names of things that are joined pair by pair: two ways to tell whether all hang together -/
namespace MC
abbrev Pr := List (Nat × Nat)
/-- joined by pairs -/
inductive Con (ps : Pr) : Nat → Nat → Prop
  | refl (x : Nat) : Con ps x x
  | to {a b c : Nat} : (a, b) ∈ ps → Con ps b c → Con ps a c
  | fro {a b c : Nat} : (a, b) ∈ ps → Con ps a c → Con ps b c
theorem Con.trans {ps : Pr} {x y z : Nat} (h : Con ps x y) : Con ps y z → Con ps x z := by
  induction h with
  | refl => exact fun h => h
  | to m _ ih => exact fun h => .to m (ih h)
  | fro m _ ih => exact fun h => .fro m (ih h)
theorem Con.symm {ps : Pr} {x y : Nat} (h : Con ps x y) : Con ps y x := by
  induction h with
  | refl => exact .refl _
  | to m _ ih => exact ih.trans (.fro m (.refl _))
  | fro m _ ih => exact ih.trans (.to m (.refl _))
theorem Con.mono {ps qs : Pr} {x y : Nat} (h : Con ps x y) (s : ∀ p ∈ ps, p ∈ qs) : Con qs x y := by
  induction h with
  | refl => exact .refl _
  | to m _ ih => exact .to (s _ m) ih
  | fro m _ ih => exact .fro (s _ m) ih
theorem con_nil {x y : Nat} (h : Con [] x y) : x = y := by
  cases h with
  | refl => rfl
  | to m _ => cases m
  | fro m _ => cases m
/-- one pair more -/
theorem con_snoc {ps : Pr} {a b x y : Nat} : Con (ps ++ [(a, b)]) x y ↔ Con ps x y ∨ (Con ps x a ∧ Con ps b y) ∨ (Con ps x b ∧ Con ps a y) := by
  constructor
  · intro h
    induction h with
    | refl => exact .inl (.refl _)
    | @to c d e m _ ih =>
      rcases List.mem_append.mp m with m | m
      · rcases ih with h | ⟨h1, h2⟩ | ⟨h1, h2⟩
        · exact .inl (.to m h)
        · exact .inr (.inl ⟨.to m h1, h2⟩)
        · exact .inr (.inr ⟨.to m h1, h2⟩)
      · have e : (c, d) = (a, b) := List.mem_singleton.mp m
        cases e
        rcases ih with h | ⟨h1, h2⟩ | ⟨h1, h2⟩
        · exact .inr (.inl ⟨.refl _, h⟩)
        · exact .inr (.inl ⟨.refl _, h2⟩)
        · exact .inl h2
    | @fro c d e m _ ih =>
      rcases List.mem_append.mp m with m | m
      · rcases ih with h | ⟨h1, h2⟩ | ⟨h1, h2⟩
        · exact .inl (.fro m h)
        · exact .inr (.inl ⟨.fro m h1, h2⟩)
        · exact .inr (.inr ⟨.fro m h1, h2⟩)
      · have e : (c, d) = (a, b) := List.mem_singleton.mp m
        cases e
        rcases ih with h | ⟨h1, h2⟩ | ⟨h1, h2⟩
        · exact .inr (.inr ⟨.refl _, h⟩)
        · exact .inl h2
        · exact .inr (.inr ⟨.refl _, h2⟩)
  · have m : (a, b) ∈ ps ++ [(a, b)] := List.mem_append_right _ List.mem_cons_self
    have s : ∀ p ∈ ps, p ∈ ps ++ [(a, b)] := fun p h => List.mem_append_left _ h
    rintro (h | ⟨h1, h2⟩ | ⟨h1, h2⟩)
    · exact h.mono s
    · exact (h1.mono s).trans (.to m (h2.mono s))
    · exact (h1.mono s).trans (.fro m (h2.mono s))
/-- the higher name of two goes over to the lower -/
def jn (ns : List Nat) (a b : Nat) : List Nat := ns.map fun x => if x = max (ns.getD a 0) (ns.getD b 0) then min (ns.getD a 0) (ns.getD b 0) else x
def names (n : Nat) (ps : Pr) : List Nat := ps.foldl (fun ns p => jn ns p.1 p.2) (List.range n)
/-- pairs below n -/
def Below (n : Nat) (ps : Pr) : Prop := ∀ p ∈ ps, p.1 < n ∧ p.2 < n
structure Nm (n : Nat) (ps : Pr) (ns : List Nat) : Prop where
  len : ns.length = n
  iff : ∀ x y, x < n → y < n → (ns.getD x 0 = ns.getD y 0 ↔ Con ps x y)
  own : ∀ x, x < n → ns.getD x 0 < n ∧ Con ps (ns.getD x 0) x
  low : ∀ x, x < n → ns.getD x 0 ≤ x
theorem getD_jn {ns : List Nat} {a b x : Nat} (h : x < ns.length) : (jn ns a b).getD x 0 = if ns.getD x 0 = max (ns.getD a 0) (ns.getD b 0) then min (ns.getD a 0) (ns.getD b 0) else ns.getD x 0 := by
  unfold jn
  rw [List.getD_eq_getElem?_getD, List.getElem?_map, List.getElem?_eq_getElem h]
  simp only [Option.map_some, Option.getD_some]
  rw [show ns.getD x 0 = ns[x] by rw [List.getD_eq_getElem?_getD, List.getElem?_eq_getElem h]; rfl]
theorem Nm.next {n : Nat} {ps : Pr} {ns : List Nat} {a b : Nat} (h : Nm n ps ns) (ha : a < n) (hb : b < n) : Nm n (ps ++ [(a, b)]) (jn ns a b) := by
  have len : (jn ns a b).length = n := by unfold jn; rw [List.length_map, h.len]
  have g : ∀ x, x < n → (jn ns a b).getD x 0 = if ns.getD x 0 = max (ns.getD a 0) (ns.getD b 0) then min (ns.getD a 0) (ns.getD b 0) else ns.getD x 0 := fun x hx => getD_jn (by rw [h.len]; exact hx)
  have s : ∀ p ∈ ps, p ∈ ps ++ [(a, b)] := fun p h => List.mem_append_left _ h
  have cab : Con (ps ++ [(a, b)]) a b := con_snoc.mpr (.inr (.inl ⟨.refl _, .refl _⟩))
  refine ⟨len, ?_, ?_, ?_⟩
  · intro x y hx hy
    rw [g x hx, g y hy, con_snoc, ← h.iff x y hx hy, ← h.iff x a hx ha, ← h.iff b y hb hy, ← h.iff x b hx hb, ← h.iff a y ha hy]
    generalize ns.getD a 0 = A
    generalize ns.getD b 0 = B
    generalize ns.getD x 0 = U
    generalize ns.getD y 0 = W
    by_cases h1 : U = max A B
    · by_cases h2 : W = max A B
      · rw [if_pos h1, if_pos h2]
        omega
      · rw [if_pos h1, if_neg h2]
        omega
    · by_cases h2 : W = max A B
      · rw [if_neg h1, if_pos h2]
        omega
      · rw [if_neg h1, if_neg h2]
        omega
  · intro x hx
    rw [g x hx]
    obtain ⟨o1, o2⟩ := h.own x hx
    by_cases e : ns.getD x 0 = max (ns.getD a 0) (ns.getD b 0)
    · rw [if_pos e]
      obtain ⟨oa1, oa2⟩ := h.own a ha
      obtain ⟨ob1, ob2⟩ := h.own b hb
      have ca : Con (ps ++ [(a, b)]) (ns.getD a 0) a := oa2.mono s
      have cb : Con (ps ++ [(a, b)]) (ns.getD b 0) b := ob2.mono s
      have cx : Con (ps ++ [(a, b)]) (ns.getD x 0) x := o2.mono s
      by_cases le : ns.getD a 0 ≤ ns.getD b 0
      · rw [Nat.min_eq_left le]
        rw [Nat.max_eq_right le] at e
        rw [e] at cx
        exact ⟨oa1, ca.trans (cab.trans (cb.symm.trans cx))⟩
      · have le' : ns.getD b 0 ≤ ns.getD a 0 := by omega
        rw [Nat.min_eq_right le']
        rw [Nat.max_eq_left le'] at e
        rw [e] at cx
        exact ⟨ob1, cb.trans (cab.symm.trans (ca.symm.trans cx))⟩
    · rw [if_neg e]
      exact ⟨o1, o2.mono s⟩
  · intro x hx
    rw [g x hx]
    have := h.low x hx
    split <;> omega
theorem getD_range {n x : Nat} (h : x < n) : (List.range n).getD x 0 = x := by
  rw [List.getD_eq_getElem?_getD, List.getElem?_range h]
  rfl
theorem Nm.zero (n : Nat) : Nm n [] (List.range n) := by
  refine ⟨List.length_range, ?_, ?_, ?_⟩
  · intro x y hx hy
    rw [getD_range hx, getD_range hy]
    exact ⟨fun e => by rw [e]; exact .refl _, con_nil⟩
  · intro x hx
    rw [getD_range hx]
    exact ⟨hx, .refl _⟩
  · intro x hx
    rw [getD_range hx]
    exact Nat.le_refl _
theorem Nm.fold {n : Nat} : ∀ (qs ps : Pr) (ns : List Nat), Nm n ps ns → Below n qs → Nm n (ps ++ qs) (qs.foldl (fun ns p => jn ns p.1 p.2) ns)
  | [], ps, ns, h, _ => by rw [List.append_nil]; exact h
  | (a, b) :: qs, ps, ns, h, hb => by
    have := Nm.fold qs (ps ++ [(a, b)]) (jn ns a b) (h.next (hb _ List.mem_cons_self).1 (hb _ List.mem_cons_self).2) fun p m => hb p (List.mem_cons_of_mem _ m)
    rw [List.append_assoc] at this
    exact this
theorem names_nm {n : Nat} {ps : Pr} (h : Below n ps) : Nm n ps (names n ps) := Nm.fold ps [] _ (Nm.zero n) h
/-- all hang together -/
def Whole (n : Nat) (ps : Pr) : Prop := ∀ x, x < n → Con ps 0 x
theorem Nm.whole {n : Nat} {ps : Pr} {ns : List Nat} (h : Nm n ps ns) : Whole n ps ↔ ∀ x ∈ ns, x = 0 := by
  constructor
  · intro w x hx
    obtain ⟨i, hi, e⟩ := List.mem_iff_getElem.mp hx
    have hin : i < n := by rw [← h.len]; exact hi
    have h0 : 0 < n := by omega
    have e1 := (h.iff 0 i h0 hin).mpr (w i hin)
    have l := h.low 0 h0
    have e2 : ns.getD i 0 = x := by rw [List.getD_eq_getElem?_getD, List.getElem?_eq_getElem hi, ← e]; rfl
    omega
  · intro z x hx
    have hl : x < ns.length := by rw [h.len]; exact hx
    have e2 : ns.getD x 0 = ns[x] := by rw [List.getD_eq_getElem?_getD, List.getElem?_eq_getElem hl]; rfl
    have c := (h.own x hx).2
    rw [e2, z _ (List.getElem_mem hl)] at c
    exact c
/-- one round: both ends take the lower of their two numbers -/
def rnd1 (ls : List Nat) (p : Nat × Nat) : List Nat := (ls.set p.1 (min (ls.getD p.1 0) (ls.getD p.2 0))).set p.2 (min (ls.getD p.1 0) (ls.getD p.2 0))
def rnd (ps : Pr) (ls : List Nat) : List Nat := ps.foldl rnd1 ls
def rnds (ps : Pr) : Nat → List Nat → List Nat
  | 0, ls => ls
  | k + 1, ls => rnds ps k (rnd ps ls)
theorem len_rnd1 (ls : List Nat) (p : Nat × Nat) : (rnd1 ls p).length = ls.length := by unfold rnd1; rw [List.length_set, List.length_set]
theorem get_rnd1 {ls : List Nat} {p : Nat × Nat} {x : Nat} (h1 : p.1 < ls.length) (h2 : p.2 < ls.length) :
    (rnd1 ls p).getD x 0 = if x = p.1 ∨ x = p.2 then min (ls.getD p.1 0) (ls.getD p.2 0) else ls.getD x 0 := by
  unfold rnd1
  rw [List.getD_eq_getElem?_getD, List.getElem?_set, List.getElem?_set, List.length_set]
  by_cases e2 : p.2 = x
  · rw [if_pos e2, if_pos h2, if_pos (.inr e2.symm)]
    rfl
  · rw [if_neg e2]
    by_cases e1 : p.1 = x
    · rw [if_pos e1, if_pos h1, if_pos (.inl e1.symm)]
      rfl
    · rw [if_neg e1, if_neg (by rintro (z | z); exact e1 z.symm; exact e2 z.symm), ← List.getD_eq_getElem?_getD]
/-- what a round keeps: every number is one of a thing that it hangs together with; none goes up -/
structure Ls (n : Nat) (ps : Pr) (ls : List Nat) : Prop where
  len : ls.length = n
  own : ∀ x, x < n → ls.getD x 0 < n ∧ Con ps (ls.getD x 0) x
theorem Ls.next {n : Nat} {ps : Pr} {ls : List Nat} {p : Nat × Nat} (h : Ls n ps ls) (m : p ∈ ps) (b : Below n ps) : Ls n ps (rnd1 ls p) := by
  obtain ⟨b1, b2⟩ := b p m
  refine ⟨(len_rnd1 ls p).trans h.len, fun x hx => ?_⟩
  rw [get_rnd1 (by rw [h.len]; exact b1) (by rw [h.len]; exact b2)]
  have cp : Con ps p.1 p.2 := .to m (.refl _)
  obtain ⟨o1, o2⟩ := h.own p.1 b1
  obtain ⟨q1, q2⟩ := h.own p.2 b2
  split
  · rename_i e
    have cx : Con ps p.1 x := by
      rcases e with rfl | rfl
      · exact .refl _
      · exact cp
    by_cases le : ls.getD p.1 0 ≤ ls.getD p.2 0
    · rw [Nat.min_eq_left le]
      exact ⟨o1, o2.trans cx⟩
    · rw [Nat.min_eq_right (by omega)]
      exact ⟨q1, q2.trans (cp.symm.trans cx)⟩
  · exact h.own x hx
theorem down1 {ls : List Nat} {p : Nat × Nat} (h1 : p.1 < ls.length) (h2 : p.2 < ls.length) (x : Nat) : (rnd1 ls p).getD x 0 ≤ ls.getD x 0 := by
  rw [get_rnd1 h1 h2]
  split
  · rename_i e
    rcases e with rfl | rfl
    · exact Nat.min_le_left _ _
    · exact Nat.min_le_right _ _
  · exact Nat.le_refl _
theorem fold_down {n : Nat} : ∀ (qs : Pr) (ls : List Nat), ls.length = n → Below n qs → (qs.foldl rnd1 ls).length = n ∧ ∀ x, (qs.foldl rnd1 ls).getD x 0 ≤ ls.getD x 0
  | [], ls, hl, _ => ⟨hl, fun x => Nat.le_refl _⟩
  | p :: qs, ls, hl, b => by
    obtain ⟨b1, b2⟩ := b p List.mem_cons_self
    have r := fold_down qs (rnd1 ls p) ((len_rnd1 ls p).trans hl) fun q m => b q (List.mem_cons_of_mem _ m)
    exact ⟨r.1, fun x => Nat.le_trans (r.2 x) (down1 (by rw [hl]; exact b1) (by rw [hl]; exact b2) x)⟩
theorem Ls.fold {n : Nat} {ps : Pr} (b : Below n ps) : ∀ (qs : Pr) (ls : List Nat), Ls n ps ls → (∀ p ∈ qs, p ∈ ps) → Ls n ps (qs.foldl rnd1 ls)
  | [], ls, h, _ => h
  | p :: qs, ls, h, m => Ls.fold b qs _ (h.next (m _ List.mem_cons_self) b) fun q z => m q (List.mem_cons_of_mem _ z)
/-- a nought at one end of a pair goes over to the other within a round -/
theorem fold_zero {n : Nat} : ∀ (qs : Pr) (ls : List Nat) (p : Nat × Nat), ls.length = n → Below n qs → p ∈ qs → (ls.getD p.1 0 = 0 ∨ ls.getD p.2 0 = 0) → (qs.foldl rnd1 ls).getD p.1 0 = 0 ∧ (qs.foldl rnd1 ls).getD p.2 0 = 0
  | [], ls, p, _, _, m, _ => by cases m
  | q :: qs, ls, p, hl, b, m, z => by
    obtain ⟨b1, b2⟩ := b q List.mem_cons_self
    have hl1 : (rnd1 ls q).length = n := (len_rnd1 ls q).trans hl
    have bq : Below n qs := fun q m => b q (List.mem_cons_of_mem _ m)
    have g1 : q.1 < ls.length := by rw [hl]; exact b1
    have g2 : q.2 < ls.length := by rw [hl]; exact b2
    by_cases e : p = q
    · subst e
      have r := fold_down qs (rnd1 ls p) hl1 bq
      have z0 : min (ls.getD p.1 0) (ls.getD p.2 0) = 0 := by omega
      have r1 := r.2 p.1
      have r2 := r.2 p.2
      rw [get_rnd1 g1 g2, if_pos (.inl rfl), z0] at r1
      rw [get_rnd1 g1 g2, if_pos (.inr rfl), z0] at r2
      exact ⟨Nat.le_zero.mp r1, Nat.le_zero.mp r2⟩
    · have m' : p ∈ qs := (List.mem_cons.mp m).resolve_left e
      have d1 := down1 g1 g2 p.1
      have d2 := down1 g1 g2 p.2
      exact fold_zero qs (rnd1 ls q) p hl1 bq m' (by omega)
/-- how many noughts -/
def zs (n : Nat) (ls : List Nat) : Nat := (List.range n).countP fun x => decide (ls.getD x 0 = 0)
theorem zs_le {n : Nat} {ls ms : List Nat} (h : ∀ x, x < n → ls.getD x 0 = 0 → ms.getD x 0 = 0) : zs n ls ≤ zs n ms := by
  unfold zs
  refine List.countP_mono_left ?_
  intro x hx hz
  exact decide_eq_true (h x (List.mem_range.mp hx) (of_decide_eq_true hz))
theorem countP_lt {p q : Nat → Bool} : ∀ (l : List Nat), (∀ x ∈ l, p x = true → q x = true) → (∃ x ∈ l, p x = false ∧ q x = true) → l.countP p < l.countP q
  | [], _, ⟨x, m, _⟩ => by cases m
  | y :: l, h, ⟨x, m, h1, h2⟩ => by
    have le : l.countP p ≤ l.countP q := List.countP_mono_left fun x hx => h x (List.mem_cons_of_mem _ hx)
    rcases List.mem_cons.mp m with rfl | m
    · rw [List.countP_cons, List.countP_cons, h1, h2]
      simp only [Bool.false_eq_true, if_false, if_true]
      omega
    · have ih := countP_lt l (fun x hx => h x (List.mem_cons_of_mem _ hx)) ⟨x, m, h1, h2⟩
      rw [List.countP_cons, List.countP_cons]
      have := h y List.mem_cons_self
      cases hp : p y with
      | true => rw [this hp]; omega
      | false => cases q y <;> (simp only [Bool.false_eq_true, if_false, if_true]; omega)
theorem zs_all {n : Nat} {ls : List Nat} (h : zs n ls = n) : ∀ x, x < n → ls.getD x 0 = 0 := by
  intro x hx
  cases d : decide (ls.getD x 0 = 0) with
  | true => exact of_decide_eq_true d
  | false =>
    have lt := countP_lt (p := fun x => decide (ls.getD x 0 = 0)) (q := fun _ => true) (List.range n) (fun _ _ _ => rfl) ⟨x, List.mem_range.mpr hx, d, rfl⟩
    have e : (List.range n).countP (fun _ => true) = n := by rw [List.countP_true, List.length_range]
    have h' : (List.range n).countP (fun x => decide (ls.getD x 0 = 0)) = n := h
    rw [e, h'] at lt
    exact absurd lt (Nat.lt_irrefl _)
/-- a round makes a nought more, while there is one to make -/
theorem rnd_more {n : Nat} {ps : Pr} {ls : List Nat} (hl : ls.length = n) (b : Below n ps) (w : Whole n ps) (h0 : ls.getD 0 0 = 0) (lt : zs n ls < n) : zs n ls < zs n (rnd ps ls) := by
  have dn := fold_down ps ls hl b
  by_cases c : ∃ x, x < n ∧ ls.getD x 0 ≠ 0 ∧ (rnd ps ls).getD x 0 = 0
  · obtain ⟨x, hx, h1, h2⟩ := c
    refine countP_lt _ (fun y _ hy => ?_) ⟨x, List.mem_range.mpr hx, decide_eq_false h1, decide_eq_true h2⟩
    have := dn.2 y
    have hy' := of_decide_eq_true hy
    exact decide_eq_true (by rw [hy'] at this; exact Nat.le_zero.mp this)
  · exfalso
    have cl : ∀ x, x < n → (rnd ps ls).getD x 0 = 0 → ls.getD x 0 = 0 := fun x hx hz => Classical.byContradiction fun q => c ⟨x, hx, q, hz⟩
    -- noughts are closed under pairs, so all are noughts
    have key : ∀ x y, Con ps x y → ls.getD x 0 = 0 → ls.getD y 0 = 0 := by
      intro x y h
      induction h with
      | refl => exact fun h => h
      | @to a b' c' m _ ih =>
        intro ha
        have z := fold_zero ps ls (a, b') hl b m (.inl ha)
        exact ih (cl _ (b _ m).2 z.2)
      | @fro a b' c' m _ ih =>
        intro hb
        have z := fold_zero ps ls (a, b') hl b m (.inr hb)
        exact ih (cl _ (b _ m).1 z.1)
    have all : zs n ls = n := by
      unfold zs
      have e : (List.range n).countP (fun x => decide (ls.getD x 0 = 0)) = (List.range n).length := by
        rw [List.countP_eq_length]
        intro x hx
        exact decide_eq_true (key 0 x (w x (List.mem_range.mp hx)) h0)
      rw [e, List.length_range]
    omega
theorem rnds_spec {n : Nat} {ps : Pr} (b : Below n ps) : ∀ (k : Nat) (ls : List Nat), Ls n ps ls → ls.getD 0 0 = 0 → Ls n ps (rnds ps k ls) ∧ (rnds ps k ls).getD 0 0 = 0 ∧ (Whole n ps → min n (zs n ls + k) ≤ zs n (rnds ps k ls))
  | 0, ls, h, h0 => ⟨h, h0, fun _ => by show min n (zs n ls + 0) ≤ zs n ls; omega⟩
  | k + 1, ls, h, h0 => by
    have h1 : Ls n ps (rnd ps ls) := Ls.fold b ps ls h fun _ m => m
    have dn := fold_down ps ls h.len b
    have h01 : (rnd ps ls).getD 0 0 = 0 := by
      have := dn.2 0
      rw [h0] at this
      exact Nat.le_zero.mp this
    obtain ⟨r1, r2, r3⟩ := rnds_spec b k (rnd ps ls) h1 h01
    refine ⟨r1, r2, fun w => ?_⟩
    have q := r3 w
    show min n (zs n ls + (k + 1)) ≤ zs n (rnds ps k (rnd ps ls))
    by_cases lt : zs n ls < n
    · have := rnd_more h.len b w h0 lt
      omega
    · have le := zs_le (n := n) (ls := ls) (ms := rnd ps ls) fun x hx z => by
        have := dn.2 x
        rw [z] at this
        exact Nat.le_zero.mp this
      omega
/-- after n rounds all are noughts just if all hang together -/
theorem rnds_whole {n k : Nat} {ps : Pr} (b : Below n ps) (hk : n ≤ k) (hn : 0 < n) : (∀ x ∈ rnds ps k (List.range n), x = 0) ↔ Whole n ps := by
  have l0 : Ls n ps (List.range n) := ⟨List.length_range, fun x hx => by rw [getD_range hx]; exact ⟨hx, .refl _⟩⟩
  obtain ⟨r1, r2, r3⟩ := rnds_spec b k _ l0 (getD_range hn)
  constructor
  · intro z x hx
    have hl : x < (rnds ps k (List.range n)).length := by rw [r1.len]; exact hx
    have e2 : (rnds ps k (List.range n)).getD x 0 = (rnds ps k (List.range n))[x] := by rw [List.getD_eq_getElem?_getD, List.getElem?_eq_getElem hl]; rfl
    have c := (r1.own x hx).2
    rw [e2, z _ (List.getElem_mem hl)] at c
    exact c
  · intro w x hx
    obtain ⟨i, hi, e⟩ := List.mem_iff_getElem.mp hx
    have q := r3 w
    have le : zs n (rnds ps k (List.range n)) ≤ n := by
      unfold zs
      have := List.countP_le_length (p := fun x => decide ((rnds ps k (List.range n)).getD x 0 = 0)) (l := List.range n)
      rw [List.length_range] at this
      exact this
    have a := zs_all (show zs n (rnds ps k (List.range n)) = n by omega) i (by rw [← r1.len]; exact hi)
    rw [List.getD_eq_getElem?_getD, List.getElem?_eq_getElem hi] at a
    rw [← e]
    exact a
theorem names_rnds {n k : Nat} {ps : Pr} (b : Below n ps) (hk : n ≤ k) (hn : 0 < n) : (∀ x ∈ names n ps, x = 0) ↔ ∀ x ∈ rnds ps k (List.range n), x = 0 :=
  (names_nm b).whole.symm.trans (rnds_whole b hk hn).symm
theorem con_mem {ps qs : Pr} {x y : Nat} (h : ∀ p, p ∈ ps ↔ p ∈ qs) : Con ps x y ↔ Con qs x y := ⟨fun c => c.mono fun p m => (h p).mp m, fun c => c.mono fun p m => (h p).mpr m⟩
/-- with a pair left out all still hang together just if its ends have one name -/
theorem whole_less {n a b : Nat} {ps qs : Pr} (w : Whole n (ps ++ (a, b) :: qs)) (hb : Below n (ps ++ (a, b) :: qs)) : Whole n (ps ++ qs) ↔ (names n (ps ++ qs)).getD a 0 = (names n (ps ++ qs)).getD b 0 := by
  have hab := hb (a, b) (List.mem_append_right _ List.mem_cons_self)
  have bl : Below n (ps ++ qs) := fun p m => hb p (by
    rcases List.mem_append.mp m with m | m
    · exact List.mem_append_left _ m
    · exact List.mem_append_right _ (List.mem_cons_of_mem _ m))
  rw [(names_nm bl).iff a b hab.1 hab.2]
  constructor
  · intro z
    exact (z a hab.1).symm.trans (z b hab.2)
  · intro c x hx
    have q := w x hx
    have e : Con (ps ++ qs ++ [(a, b)]) 0 x := (con_mem fun p => by
      simp only [List.mem_append, List.mem_cons, List.not_mem_nil, or_false]
      constructor
      · rintro ((h | h) | h)
        · exact .inl h
        · exact .inr (.inr h)
        · exact .inr (.inl h)
      · rintro (h | h | h)
        · exact .inl (.inl h)
        · exact .inr h
        · exact .inl (.inr h)).mpr q
    rcases con_snoc.mp e with h | ⟨h1, h2⟩ | ⟨h1, h2⟩
    · exact h
    · exact h1.trans (c.trans h2)
    · exact h1.trans (c.symm.trans h2)
end MC

namespace FT
open PySem PySem.Spec PyProof.Rows L2
/-! any(xs), xs a list of ints -/
theorem truth_ints {prog : Program} {w : World} {A : Around} {ns : List Int} {its : List Value} (e : IntsAre its ns) :
    TruthOf prog w A (fun i v => its.toArray[i]? = some v) (fun i => decide (ns.getD i 0 ≠ 0)) := fun i v s Q E hv hq => by
  have hv' : its[i]? = some v := by simpa using hv
  have key : ∀ {its : List Value} {ns : List Int}, IntsAre its ns → ∀ (i : Nat) (v : Value), its[i]? = some v → ∃ n t, v = .int n t ∧ ns.getD i 0 = n := by
    intro its ns h
    induction h with
    | nil => intro i v h; cases h
    | cons n t h ih =>
      intro i v hv
      cases i with
      | zero => exact ⟨n, t, (Option.some.inj hv).symm, rfl⟩
      | succ i => exact ih i v hv
  obtain ⟨n, t, rfl, en⟩ := key e i v hv'
  have hq' : Q (decide (ns.getD i 0 ≠ 0)) s := hq
  rw [en] at hq'
  have e2 : (n != 0) = decide (n ≠ 0) := by by_cases h : n = 0 <;> simp [h]
  rw [← e2] at hq'
  exact PySem.P.truthy_int hq'
theorem anyI_range : ∀ ns : List Int, (List.range ns.length).any (fun i => decide (ns.getD i 0 ≠ 0)) = ns.any fun n => decide (n ≠ 0)
  | [] => rfl
  | b :: bs => by
    rw [List.length_cons, List.range_succ_eq_map, List.any_cons, List.any_map, List.any_cons, ← anyI_range bs]
    all_goals rfl
section
variable {X : Cx}
def rAnyI (K : PySem.W.Frag) : List V → Hp → VK → Prop := fun vs H Q => ∃ (a : Addr) (ns : List Int), vs = [V.ref a] ∧ SqL K H a (ns.map V.int) ∧ Q (.bl (ns.any fun n => decide (n ≠ 0))) H
theorem cr_anyI (hc : X.calm = true) : CallR X (.builtin "any") (rAnyI X.K) := by
  intro pins s σ H vs us Q I r h
  obtain ⟨a, ns, rfl, hs, q⟩ := h
  obtain ⟨its, rv, hl, _⟩ := I.list hs
  rw [Vals.ref1 r]
  have hb := rv.ints
  refine call_any_walk (iter_any hl.isList fun s₂ e2 st hne => ?_)
  subst e2
  refine ⟨_, _, _, _, _, _, _, rfl, Walks.list (A := X.A.in1) (I.ok.hd hc) _ a hne its.toArray, st, truth_ints hb, fun h' tk hk => ?_⟩
  refine ⟨.bl _, H, I.kept fun b o eo => hk b o (fun hmem => ?_) (Heap.get?_push_of_some _ eo), ?_, q⟩
  · rcases List.mem_cons.mp hmem with e1 | hmem
    · exact absurd (e1 ▸ Heap.lt_size eo) (Nat.lt_irrefl _)
    · cases hmem
  · show Value.bool _ = Value.bool _
    rw [← anyI_range, List.size_toArray]
    have := hb.length
    congr 2
    rw [this]
end
/-- numbers of things, as Python's -/
abbrev nv (ns : List Nat) : List V := ns.map fun (n : Nat) => V.int (n : Int)
theorem nv_ints (ns : List Nat) : nv ns = (ns.map fun (n : Nat) => (n : Int)).map V.int := by simp [nv, List.map_map]
theorem SqA.same {K : PySem.W.Frag} {H H' : Hp} {a : Addr} {xs : List V} (h : SqA K H a xs) (s : Same H H') : SqA K H' a xs := by
  rcases h with h | h
  · exact .inl (sqL_at h fun o e => s _ _ e)
  · exact .inr (sqT_at h fun o e => s _ _ e)
/-- a, b = x: x a list or a tuple -/
def gSq (K : PySem.W.Frag) (n : Nat) (t : TGs) : TG := fun v σ H Q => ∃ a xs, v = .ref a ∧ SqA K H a xs ∧ xs.length = n ∧ t xs σ H Q
theorem pg_sq {X : Cx} {pos : Pos} {es : List Expr} {k : Nat} {t : TGs} {n : Nat} (hc : X.calm = true) (h : PGs X es t)
    (hn : (assignEach es X.env).length = n := by rfl) (hst : (assignEach es X.env).findIdx? (·.1) = none := by rfl) : PG X (.Tuple es k pos) (gSq X.K n t) := by
  constructor
  rintro pins s σ H v u Q I r ⟨a, xs, e1, hq, hl, hw⟩
  rcases hq with hq | hq
  · exact (pg_lst hc h hn hst).run pins s σ H v u Q I r ⟨a, xs, e1, hq, hl, hw⟩
  · exact (pg_tup hc h hn hst).run pins s σ H v u Q I r ⟨a, xs, e1, hq, hl, hw⟩
/-- a list or a tuple of xs that is tracked at a -/
def SqX (H : Hp) (a : Addr) (xs : List V) : Prop := H a = some (.lst xs) ∨ H a = some (.tup xs)
theorem SqX.sq {K : PySem.W.Frag} {H : Hp} {a : Addr} {xs : List V} (h : SqX H a xs) : SqA K H a xs := by
  rcases h with h | h
  · exact .inl (SqL.of h)
  · exact .inr (SqT.of h)
theorem SqX.same {H H' : Hp} {a : Addr} {xs : List V} (h : SqX H a xs) (s : Same H H') : SqX H' a xs := by
  rcases h with h | h
  · exact .inl (s _ _ h)
  · exact .inr (s _ _ h)
theorem SqX.has {H : Hp} {a : Addr} {xs : List V} (h : SqX H a xs) : ∃ o, H a = some o := by
  rcases h with h | h <;> exact ⟨_, h⟩
theorem SqX.ok {H : Hp} {a : Addr} {xs : List V} (h : SqX H a xs) : OkV H (.ref a) := by
  rcases h with h | h
  · exact .inl ⟨_, h⟩
  · exact .inr (.inl ⟨_, h⟩)
theorem SqX.lt {H : Hp} {a : Addr} {xs : List V} (h : SqX H a xs) : isLT H (.ref a) = true := by
  rcases h with h | h <;> simp only [isLT, h]
theorem SqX.inj {H : Hp} {a : Addr} {xs ys : List V} (h : SqX H a xs) (g : SqX H a ys) : xs = ys := by
  rcases h with h | h <;> rcases g with g | g
  · exact HO.lst.inj (Option.some.inj (h.symm.trans g))
  · cases h.symm.trans g
  · cases h.symm.trans g
  · exact HO.tup.inj (Option.some.inj (h.symm.trans g))
/-- a list or a tuple of pairs, each a list or a tuple -/
def PrI (H : Hp) (x : V) (p : Nat × Nat) : Prop := ∃ t, x = .ref t ∧ SqX H t [.int (p.1 : Int), .int (p.2 : Int)]
def PrsA (H : Hp) (a : Addr) (ps : MC.Pr) : Prop := ∃ xs, SqX H a xs ∧ Paired (PrI H) xs ps
theorem PrI.same {H H' : Hp} {x : V} {p : Nat × Nat} (h : PrI H x p) (s : Same H H') : PrI H' x p := by
  obtain ⟨t, e, q⟩ := h
  exact ⟨t, e, q.same s⟩
theorem paired_imp {α β : Type} {R S : α → β → Prop} (f : ∀ x y, R x y → S x y) : ∀ {xs : List α} {ys : List β}, Paired R xs ys → Paired S xs ys
  | _, _, .nil => .nil
  | _, _, .cons h t => .cons (f _ _ h) (paired_imp f t)
theorem PrsA.same {H H' : Hp} {a : Addr} {ps : MC.Pr} (h : PrsA H a ps) (s : Same H H') : PrsA H' a ps := by
  obtain ⟨xs, q, r⟩ := h
  exact ⟨xs, q.same s, paired_imp (fun _ _ z => z.same s) r⟩
theorem nv_at {ns : List Nat} {i : Nat} (h : i < ns.length) : atI (nv ns) (i : Int) = some (.int ((ns.getD i 0 : Nat) : Int)) := by
  refine atI_nat ?_
  rw [List.getElem?_map, List.getElem?_eq_getElem h, List.getD_eq_getElem?_getD, List.getElem?_eq_getElem h]
  rfl
theorem nv_range (n : Nat) : rgV 0 (n : Int) = nv (List.range n) := by
  unfold rgV nv
  have e : ((n : Int) - 0).toNat = n := by omega
  rw [e]
  refine List.map_congr_left fun i _ => ?_
  rw [Int.zero_add]
end FT
namespace FT
open PySem PySem.Spec PyProof.Rows L2
/-- all n things hang together by ps -/
def hang (n : Nat) (ps : MC.Pr) : Bool := (MC.names n ps).all fun x => decide (x = 0)
theorem hang_iff {n : Nat} {ps : MC.Pr} : hang n ps = true ↔ ∀ x ∈ MC.names n ps, x = 0 := by
  unfold hang
  rw [List.all_eq_true]
  exact ⟨fun h x hx => of_decide_eq_true (h x hx), fun h x hx => decide_eq_true (h x hx)⟩
theorem nv_set (ns : List Nat) (i x : Nat) : (nv ns).set i (.int (x : Int)) = nv (ns.set i x) := by
  unfold nv
  rw [List.map_set]
theorem any_names {n : Nat} {ps : MC.Pr} : (((MC.names n ps).map fun (n : Nat) => (n : Int)).any fun n => decide (n ≠ 0)) = !hang n ps := by
  unfold hang
  rw [List.any_map]
  induction MC.names n ps with
  | nil => rfl
  | cons x r ih =>
    rw [List.any_cons, List.all_cons, ih, Bool.not_and]
    congr 1
    by_cases h : x = 0
    · subst h
      rfl
    · have h2 : ¬ ((x : Int) = 0) := by omega
      simp [h]
end FT
namespace FT
open PySem PySem.Spec PyProof.Rows L2
/-! nested lists and tuples, made into tuples -/
inductive Tr
  | leaf (v : V)
  | node (ts : List Tr)
/-- v, nested d deep at most, is the tree t: lists and tuples are its nodes -/
def Src : Nat → Hp → V → Tr → Prop
  | 0, H, v, t => OkV H v ∧ isLT H v = false ∧ t = .leaf v
  | d + 1, H, v, t => (OkV H v ∧ isLT H v = false ∧ t = .leaf v) ∨ ∃ a xs ts, v = .ref a ∧ SqX H a xs ∧ xs.length ≤ 1000 ∧ t = .node ts ∧ Paired (Src d H) xs ts
/-- the same, tuples alone -/
def Dst : Nat → Hp → V → Tr → Prop
  | 0, _, v, t => t = .leaf v
  | d + 1, H, v, t => t = .leaf v ∨ ∃ a ys ts, v = .ref a ∧ H a = some (.tup ys) ∧ t = .node ts ∧ Paired (Dst d H) ys ts
theorem isLT_same {H H' : Hp} {v : V} (ok : OkV H v) (s : Same H H') (h : isLT H v = false) : isLT H' v = false := by
  cases v with
  | ref a =>
    rcases ok with ⟨xs, e⟩ | ⟨xs, e⟩ | ⟨xs, e⟩
    · simp only [isLT, e] at h
      cases h
    · simp only [isLT, e] at h
      cases h
    · simp only [isLT, s _ _ e]
  | _ => rfl
theorem Src.same : ∀ {d : Nat} {H H' : Hp} {v : V} {t : Tr}, Src d H v t → Same H H' → Src d H' v t
  | 0, H, H', v, t, ⟨h1, h2, h3⟩, s => ⟨h1.mono fun a o _ h => s a o h, isLT_same h1 s h2, h3⟩
  | d + 1, H, H', v, t, h, s => by
    rcases h with ⟨h1, h2, h3⟩ | ⟨a, xs, ts, e, hx, hl, et, p⟩
    · exact .inl ⟨h1.mono fun a o _ h => s a o h, isLT_same h1 s h2, h3⟩
    · exact .inr ⟨a, xs, ts, e, hx.same s, hl, et, paired_imp (fun _ _ z => Src.same z s) p⟩
theorem Dst.keep : ∀ {d : Nat} {H H' : Hp} {v : V} {t : Tr}, Dst d H v t → (∀ b xs, H b = some (.tup xs) → H' b = some (.tup xs)) → Dst d H' v t
  | 0, _, _, _, _, h, _ => h
  | d + 1, H, H', v, t, h, s => by
    rcases h with h | ⟨a, ys, ts, e, ha, et, p⟩
    · exact .inl h
    · exact .inr ⟨a, ys, ts, e, s _ _ ha, et, paired_imp (fun _ _ z => Dst.keep z s) p⟩
theorem Dst.same {d : Nat} {H H' : Hp} {v : V} {t : Tr} (h : Dst d H v t) (s : Same H H') : Dst d H' v t := h.keep fun b xs e => s _ _ e
theorem paired_snoc {α β : Type} {R : α → β → Prop} {x : α} {y : β} (h : R x y) : ∀ {xs : List α} {ys : List β}, Paired R xs ys → Paired R (xs ++ [x]) (ys ++ [y])
  | _, _, .nil => .cons h .nil
  | _, _, .cons a r => .cons a (paired_snoc h r)
end FT

/-! own objects and own errors, made by defs whose guards are told -/
namespace FT
open PySem PySem.Spec PyProof.Rows L2
section
variable {X : Cx} {CX : CXT} {k : Nat} {fI f C : Addr} {fd : FuncData} {ps ks : List Str} {sp : Sp} {x : Str} {p pos : Pos} {e : Expr} {es : List Expr} {t tk : TA} {kws : List Keyword} {g : List Value → List Value → List Value} {gV : List V → List V → List V} {E : XK}
/-- raise C(e, ..) -/
theorem pmk_G (T : OexC X.K C) (iC : PySem.W.findIn X.K (.ref C) "__init__" = some (some (.ref fI))) (tI : PySem.W.typeIn X.K (.ref fI) = some (.type "function"))
    (F : FnG X.prog X.w X.K X.mg X.base CX k fI fd ps sp) (hr : RG (k + 1) X.A) (hg : Gl X x) (hm : X.mg x = some (.ref C)) (hb : Binds X.K fd ps []) (hx : Passes CX X (fun _ _ _ => False)) (ha : PA X (e :: es) t)
    (hdb : (x == ("__debug__" : Str)) = false := by decide) (he : starEach (e :: es) X.env = (false, eval e X.env) :: starEach es X.env := by rfl) (hpl : (backTo pos (starEach es X.env)).any (·.1) = false := by rfl) :
    PMk X (.Call (.Name x p) (e :: es) [] pos) (tMkO C sp [] t) := by
  intro pins s σ H Q I h
  obtain ⟨nm, q, N, bs, bm, sn, sub, ab, col, dd, k0, k1, k2, k3, k5, hC, hbm⟩ := T.cls
  refine wpAny_Call_Name_kw (ld_glob I hg hm ?_ hdb)
  refine PySem.W.callWith_K (h₀ := X.base) I.ok.mod.kin T.kC (thn (ha.run pos pins s σ H _ I h) ?_) he hpl
  rintro us s1 ⟨vs, H1, I1, r1, hz, q1⟩
  refine ⟨I1.kIn, ?_⟩
  show wpAny _ _ (call (.ref C) us) _ _ _
  obtain ⟨hp, gg, dr, tk, os⟩ := s1
  have hsz : hp.objs.size ≤ hp.objs.size + 1 := Nat.le_succ _
  have hn : H1 (hp.objs.size + 1) = none := I1.hok.fresh hsz
  have hq := q1 (hp.objs.size + 1) hn
  have kk : ∀ b o, hp.get? b = some o → ((hp.push (PySem.W.kdv_tup us)).push (PySem.HandSPX.excO C hp.objs.size)).get? b = some o := fun b o e => Heap.get?_push_of_some _ (Heap.get?_push_of_some _ e)
  have hget : ((hp.push (PySem.W.kdv_tup us)).push (PySem.HandSPX.excO C hp.objs.size)).get? (hp.objs.size + 1) = some (PySem.HandSPX.excO C hp.objs.size) := by heap_get
  have I2 : Inv X pins σ (upd H1 (hp.objs.size + 1) (exo (hp.objs.size + 1) C none)) ⟨(hp.push (PySem.W.kdv_tup us)).push (PySem.HandSPX.excO C hp.objs.size), gg, dr, tk, os⟩ :=
    I1.laid (t' := tk) (a := hp.objs.size + 1) (o := exo (hp.objs.size + 1) C none) (h' := (hp.push (PySem.W.kdv_tup us)).push (PySem.HandSPX.excO C hp.objs.size)) kk hsz (exo_ok hget)
  have r2 : Vals (V.ref (hp.objs.size + 1) :: (vs ++ [])) (Value.ref (hp.objs.size + 1) :: (us ++ [])) := .cons rfl (r1.append .nil)
  have hl : (Value.ref (hp.objs.size + 1) :: us ++ []).length = ps.length := by
    have e := r2.length
    rw [F.arity _ _ _ _ hq] at e
    exact e.symm
  have hus : us.length ≤ sizeLine := by
    rw [← Paired.length r1, sizeLine_eq]
    omega
  refine wpAny_call (PySem.HandSPX.kw_call_own (kw := []) PySem.F.excBase_ValueError (fun Y => PySem.HandSPX.refsVE_contains Y bm hbm) (I1.kIn _ _ hC) (PySem.W.looks_findIn I1.kIn iC) (fun self => PySem.W.bind_fn I1.kIn self tI) hus
    (codeAny_mono (F.goes (hr.make C us []) (I2.env0.make C us []) (hb _ (Value.ref (hp.objs.size + 1) :: us) I2.kIn hl) r2 hq) fun r s' hq' => ?_))
  cases r with
  | error er => exact hx pins σ _ _ er s' I2 hq'
  | ok fl =>
    cases fl with
    | ret u =>
      obtain ⟨v, H2, os2, bare2, un2, hok2, rv, ev, d, fs, ea, ed, hd1, q2⟩ := hq'
      subst ev
      obtain ⟨h2, g2, d2, t2, os'⟩ := s'
      exact ⟨rv, mk_end (raises_own T.exC T.tyC) I1 hsz kk un2 hok2 os2 bare2 ea ed hd1 q2⟩
    | next => exact False.elim hq'
    | brk => exact False.elim hq'
    | cont => exact False.elim hq'
/-- C(..), C an own class: what stands is told -/
@[irreducible] def rMkG (C : Addr) (sp : Sp) (E : XK) (all : V → List V) (H : Hp) (Q : VK) : Prop := ∀ x dx, H x = none → H dx = none → dx ≠ x → sp (all (.ref x)) (upd (upd H dx (.own x)) x (.ins C dx [])) (fun v H2 => v = .non ∧ Q (.ref x) H2) E
def tMkG (C : Addr) (sp : Sp) (E : XK) (ta : TA) : TE := fun σ H Q => ta σ H fun vs H1 => rMkG C sp E (fun x => x :: vs) H1 Q
def tMkGK (C : Addr) (sp : Sp) (E : XK) (gV : List V → List V → List V) (ta tk : TA) : TE := fun σ H Q => ta σ H fun vs H1 => tk σ H1 fun zs H2 => rMkG C sp E (fun x => gV (x :: vs) zs) H2 Q
theorem run_mkg {pins : List (Addr × Obj)} {σ : L2.St} {H : Hp} {s : Shared} {Q : VK} {us : List Value} {kw : List (Str × Value)} {all : Value → List Value} {allV : V → List V} (M : Mk X.K C f) (F : FnG X.prog X.w X.K X.mg X.base CX k f fd ps sp) (hr : RG (k + 1) X.A)
    (hx : Passes CX X E) (I : Inv X pins σ H s)
    (hb : ∀ (a : Addr) (s' : Shared), X.K.In s'.heap → (all (.ref a)).length = ps.length → BindsTo s' fd ⟨.ref a :: us, kw⟩ (ps.zip (all (.ref a)))) (r : ∀ a : Addr, Vals (allV (.ref a)) (all (.ref a)))
    (h : rMkG C sp E allV H Q) : wpAny (model X.prog X.w) X.A (call (.ref C) us kw) (EP X pins σ Q) X.xe s := by
  unfold rMkG at h
  have hq := h (s.heap.objs.size + 1) s.heap.objs.size (I.hok.fresh (Nat.le_succ _)) (I.hok.fresh (Nat.le_refl _)) (Nat.ne_of_lt (Nat.lt_succ_self _))
  have I2 := Inv.made (C := C) I
  have hl : (all (.ref (s.heap.objs.size + 1))).length = ps.length := (r _).length.symm.trans (F.arity _ _ _ _ hq)
  refine wpAny_call (make_map (f := f) I.kIn M.makes M.init (beq_iff_eq.mp M.fn) (codeAny_mono (F.goes (hr.make C us kw) (I2.env0.make C us kw) (hb _ _ I2.kIn hl) (r _) hq) fun r s' hq' => ?_))
  cases r with
  | error e => exact hx pins σ _ _ e s' I2 hq'
  | ok fl =>
    cases fl with
    | ret u =>
      obtain ⟨v, H', I3, rv, ev, q3⟩ := I2.after hq'
      subst ev
      exact ⟨rv, ⟨V.ref (s.heap.objs.size + 1), H', I3, rfl, q3⟩⟩
    | next => exact False.elim hq'
    | brk => exact False.elim hq'
    | cont => exact False.elim hq'
theorem pe_mkG (M : Mk X.K C f) (F : FnG X.prog X.w X.K X.mg X.base CX k f fd ps sp) (hr : RG (k + 1) X.A) (hg : Gl X x) (hm : X.mg x = some (.ref C)) (hb : Binds X.K fd ps []) (hx : Passes CX X E)
    (ha : PA X (e :: es) t) (hdb : (x == ("__debug__" : Str)) = false := by decide) (he : starEach (e :: es) X.env = (false, eval e X.env) :: starEach es X.env := by rfl) (hpl : (backTo pos (starEach es X.env)).any (·.1) = false := by rfl) :
    PE X (.Call (.Name x p) (e :: es) [] pos) (tMkG C sp E t) := by
  constructor
  intro pins s σ H Q I h
  refine wpAny_Call_Name_kw (ld_glob I hg hm ?_ hdb)
  refine PySem.W.callWith_K (h₀ := X.base) I.ok.mod.kin M.kp (thn (ha.run pos pins s σ H _ I h) ?_) he hpl
  rintro us s1 ⟨vs, H1, I1, r, q⟩
  refine ⟨I1.kIn, run_mkg (all := fun a => a :: us) (allV := fun a => a :: vs) M F hr hx I1 (fun a s' ki hl => ?_) (fun a => .cons rfl r) q⟩
  have z := hb s' (.ref a :: us) ki (by simpa using hl)
  rw [List.append_nil] at z
  exact z
theorem pe_mkGK0 (M : Mk X.K C f) (F : FnG X.prog X.w X.K X.mg X.base CX k f fd ps sp) (hr : RG (k + 1) X.A) (hg : Gl X x) (hm : X.mg x = some (.ref C)) (hb : KBinds X.K fd ps ks g gV) (hx : Passes CX X E) (hkw : PK X kws tk)
    (hall : (backToKw pos (keywordEach kws X.env)).all (·.1.isSome) = true := by rfl)
    (hks : (backToKw pos (keywordEach kws X.env)).filterMap (·.1) = ks := by rfl)
    (hdb : (x == ("__debug__" : Str)) = false := by decide)
    (hpl : ((backTo pos (starEach [] X.env)).any (·.1) || (backToKw pos (keywordEach kws X.env)).any (·.1.isNone)) = false := by rfl) :
    PE X (.Call (.Name x p) [] kws pos) (tMkGK C sp E gV tNil tk) := by
  constructor
  intro pins s σ H Q I h
  refine wpAny_Call_Name_kw (ld_glob I hg hm ?_ hdb)
  refine PySem.W.callWith_KW0 (h₀ := X.base) I.ok.mod.kin M.kp hall ?_ hpl
  refine thn (hkw.run pos pins s σ H _ I h) ?_
  rintro ws s1 ⟨zs, H1, I1, r1, q1⟩
  refine ⟨I1.kIn, ?_⟩
  rw [hks]
  exact run_mkg (us := []) (all := fun a => g [a] ws) (allV := fun a => gV [a] zs) M F hr hx I1 (fun a s' ki hl => hb.to s' [.ref a] ws ki hl) (fun a => hb.rel (.cons rfl .nil) r1) q1
end
end FT
namespace FT
open PySem PySem.Spec PyProof.Rows L2
/-- what isinstance asks of an own class -/
structure IsO (K : PySem.W.Frag) (C : Addr) : Prop where
  ca : PySem.W.findIn K (.ref C) "__class__" = some (some (.builtin "object.__class__"))
  cn : PySem.W.specialIn K (.builtin "object.__class__") "__get__" = some (some (.builtin "getset_descriptor.__get__"))
  ct : PySem.W.takesIn K (.builtin "object.__class__") = some true
  cm : PySem.W.mroIn K C (.type "object") = some true
theorem own_ty {K : PySem.W.Frag} {H : Hp} {a C dx : Addr} {fs : List (Str × V)} (e : H a = some (.ins C dx fs)) (c : Cls K C) (i : IsO K C) : TyX K H (.ref a) (.ref C) := .base (.ins e c i.ca i.cn i.ct i.cm)
theorem kit_self {K : PySem.W.Frag} {C : Addr} : PySem.W.kitOne K (.ref C) (.ref C) = some true := by
  unfold PySem.W.kitOne
  rw [if_pos (beq_self_eq_true _)]
end FT
namespace FT
open PySem PySem.Spec PyProof.Rows L2
theorem cutV_take (xs : List V) (i : Nat) (h : i ≤ xs.length) : cutV xs none (some (i : Int)) = xs.take i := by
  unfold cutV
  rw [HT.sIx_none, HT.sIx_nat, List.drop_zero, Nat.sub_zero, Nat.min_eq_left h]
theorem cutV_drop (xs : List V) (i : Nat) (h : i ≤ xs.length) : cutV xs (some (i : Int)) none = xs.drop i := by
  unfold cutV
  rw [HT.sIx_none, HT.sIx_nat, Nat.min_eq_left h, List.take_of_length_le (by rw [List.length_drop]; exact Nat.le_refl _)]
section
variable {K : PySem.W.Frag} {H : Hp} {q a b : Addr} {xs ys : List V} {i : Nat} {Q : VK}
theorem slA_take (hq : H q = some (.tup xs)) (hi : i ≤ xs.length) (k : ∀ b H', Same H H' → H' b = some (.tup (xs.take i)) → Q (.ref b) H') : rSlA K (.ref q) none (some (i : Int)) H Q := by
  refine ⟨q, xs, rfl, SqT.of hq, fun w => ?_, fun _ p hp => ?_⟩
  · have e : i = xs.length := by
      have := w.2
      rw [HT.sIx_nat] at this
      omega
    exact k q H (fun _ _ h => h) (by rw [e, List.take_length]; exact hq)
  · rw [cutV_take xs i hi]
    exact k p _ (Same.new (fun _ _ h => h) hp) upd_same
theorem slA_drop {j : Int} (hj : j = (i : Int)) (hq : H q = some (.tup xs)) (hi : i ≤ xs.length) (k : ∀ b H', Same H H' → H' b = some (.tup (xs.drop i)) → Q (.ref b) H') : rSlA K (.ref q) (some j) none H Q := by
  subst hj
  refine ⟨q, xs, rfl, SqT.of hq, fun w => ?_, fun _ p hp => ?_⟩
  · have e : i = 0 := by
      have := w.1
      rw [HT.sIx_nat] at this
      omega
    exact k q H (fun _ _ h => h) (by rw [e, List.drop_zero]; exact hq)
  · rw [cutV_drop xs i hi]
    exact k p _ (Same.new (fun _ _ h => h) hp) upd_same
theorem catA_all (ha : H a = some (.tup xs)) (hb : H b = some (.tup ys)) (hl : xs.length + ys.length ≤ sizeLine) (k : ∀ c H', Same H H' → H' c = some (.tup (xs ++ ys)) → Q (.ref c) H') : rCatA K (.ref a) (.ref b) H Q := by
  refine ⟨a, b, xs, ys, rfl, rfl, SqT.of ha, SqT.of hb, hl, fun e => ?_, fun _ e => ?_, fun _ _ p hp => ?_⟩
  · exact k b H (fun _ _ h => h) (by rw [e]; exact hb)
  · exact k a H (fun _ _ h => h) (by rw [e, List.append_nil]; exact ha)
  · exact k p _ (Same.new (fun _ _ h => h) hp) upd_same
end
theorem paired_take {α β : Type} {R : α → β → Prop} : ∀ {xs : List α} {ys : List β}, Paired R xs ys → ∀ i, Paired R (xs.take i) (ys.take i)
  | _, _, .nil, i => by rw [List.take_nil, List.take_nil]; exact .nil
  | _, _, .cons h t, 0 => .nil
  | _, _, .cons h t, i + 1 => .cons h (paired_take t i)
theorem paired_drop {α β : Type} {R : α → β → Prop} : ∀ {xs : List α} {ys : List β}, Paired R xs ys → ∀ i, Paired R (xs.drop i) (ys.drop i)
  | _, _, .nil, i => by rw [List.drop_nil, List.drop_nil]; exact .nil
  | _, _, .cons h t, 0 => .cons h t
  | _, _, .cons h t, i + 1 => paired_drop t i
theorem paired_app {α β : Type} {R : α → β → Prop} {as : List α} {bs : List β} (q : Paired R as bs) : ∀ {xs : List α} {ys : List β}, Paired R xs ys → Paired R (xs ++ as) (ys ++ bs)
  | _, _, .nil => q
  | _, _, .cons h t => .cons h (paired_app q t)
end FT

/-! lambdas handed to defs, where the guards are told; tables of code objects; == and != by an own __eq__ -/
namespace FT
open PySem PySem.Spec PyProof.Rows L2 LamX
section
variable {X : Cx} {pins : List (Addr × Obj)} {σ : L2.St} {H HZ : Hp} {s s1 : Shared}
/-- x(), in the def that got the lambda -/
theorem pe_actG {CXg : CXT} {Eg : XK} {Ng : List Str} {qg : Str} {sg : Scope} {g f c' : Addr} {cdg pm ctv : Value} {params : Arguments} {body : Expr} {scope : Scope} {k i : Nat} {a : Str} {pn : List (Addr × Obj)} {xe : Value → Shared → Prop} {W : WX} {E : XK} {tb : TE} {p1 p2 : Pos}
    (I : Inv X pins σ H s) (L : LamS X.env.scope scope) (hf : s.heap.get? f = some (PySem.W.kla_obj "<lambda>" (X.env.qual ++ "<lambda>") params body scope (cloFrom X.env.cells scope.names []) pm c' ctv)) (hfn : H f = none) (hfr : f ∉ frs X.stack)
    (hbind : bindArgs (PySem.W.kla_fn "<lambda>" (X.env.qual ++ "<lambda>") params body scope (cloFrom X.env.cells scope.names []) pm (.ref c') ctv) ⟨[], []⟩ = pure [])
    (tk : Takes ((cxOf CXg X.prog X.w X.K X.mg X.base Ng qg sg g cdg X.A X.stack s H Eg).tr pn xe) W) (hr : RG (k + 1) (X.A.deeper (envOfC qg sg s.heap.objs.size g cdg)))
    (hbody : ∀ (A : Around) (outer : List Env) (s : Shared) (H : Hp), RG k (A.deeper (lamEnv X scope s.heap.objs.size f c')) → PE (lamCx X A outer s H E scope f c') body tb)
    (hN : Ng[i]? = some a) (hv : Vis sg a) (hd : (a == ("__debug__" : Str)) = false := by decide) (hcd : (a == ("__classdict__" : Str)) = false := by decide) :
    PE ((cxOf CXg X.prog X.w X.K X.mg X.base Ng qg sg g cdg X.A X.stack s H Eg).tr pn xe) (.Call (.Name a p1) [] [] p2)
      (fun σZ HZ Q => (∀ cls d H', E cls d H' → W cls d σZ H') ∧ σZ[i]? = some (some (.ref f)) ∧ HZ c' = some (CodeO c' (X.env.qual ++ "<lambda>")) ∧ tb σ HZ Q) := by
  refine ⟨fun pinsZ sZ σZ HZ Q IZ h => ?_⟩
  obtain ⟨hW, hs, hc, ht⟩ := h
  refine wpAny_Call_Name_kw (thn ((pe_var (pos := p1) (i := i) hN hv hd hcd).run pinsZ sZ σZ HZ (fun v H1 => v = .ref f ∧ H1 = HZ) IZ ⟨.ref f, hs, rfl, rfl⟩) fun u s1 ⟨v, H1, I1, r1, q1⟩ => ?_)
  obtain ⟨ev, eH⟩ := q1
  subst ev
  rw [eH] at I1
  obtain rfl : u = Value.ref f := r1
  have of1 : s1.heap.get? f = some (PySem.W.kla_obj "<lambda>" (X.env.qual ++ "<lambda>") params body scope (cloFrom X.env.cells scope.names []) pm c' ctv) := I1.base.keep f _ hf hfn hfr (fun z => nomatch (show f ∈ ([] : List Addr) from z))
  refine PySem.W.callWith_F0 ⟨_, _, _, _, of1⟩ ?_
  have un : Un (frs X.stack) [] H HZ s.heap s1.heap := I1.base
  obtain ⟨⟨oc, vs, t, hoc, hdc, hvc⟩, _, _⟩ := I1.hok c' _ hc
  have rc : codeAny (model X.prog X.w) (X.A.deeper (envOfC qg sg s.heap.objs.size g cdg)) (.call (.ref f) ⟨[], []⟩) (CR (L2.CX X.prog X.w) (envOfC qg sg s.heap.objs.size g cdg :: X.stack) X.prog X.w HZ s1 Q E) s1 := by
    refine PySem.W.kla_callFunE hr.room.depth of1 rfl L.co L.gen rfl ⟨c', oc, vs, t, rfl, hoc, hdc, hvc⟩ ?_
    rw [hbind]
    refine wpAny_pure (wpAny_newFunctionEnv (fun y hy => (L.own y hy).2) (fun y hy => absurd hy (by simp)) (fun h₁ hns hsb => ⟨I1.nolimit.fresh _ hsb, ?_⟩) L.kind)
    show codeAny _ _ (.expr body (lamEnv X scope s1.heap.objs.size f c')) _ _
    have kp : ∀ b o, s1.heap.get? b = some o → h₁.get? b = some o := fun b o e => hsb.extBut b o (Nat.ne_of_lt (Heap.lt_size e)) (Heap.get?_push_of_some _ e)
    have J : Inv (lamCx X (X.A.deeper (envOfC qg sg s.heap.objs.size g cdg)) (envOfC qg sg s.heap.objs.size g cdg :: X.stack) s1 HZ E scope f c') [] σ HZ { s1 with heap := h₁, toks := s1.toks + ([] : List (Str × Value)).length } :=
      lam_start2 I L I1.env0 hr.room.hd un hns kp
    refine PySem.W.kla_codeExpr (wpAny_mono ((hbody _ _ s1 HZ (hr.deeper _)).run [] _ _ HZ Q J ht) (fun v s' hq => ?_) fun e s' hq => hq)
    obtain ⟨w', H', J', rv, q⟩ := hq
    exact ⟨w', H', J'.os, J'.bare, J'.base, J'.hok, rv, q⟩
  refine wpAny_call (codeAny_mono rc fun r s' hq => ?_)
  cases r with
  | error e => exact tk e s' (XE.of_call I1 (fun cls d H' hE => hW cls d H' hE) hq)
  | ok fl =>
    cases fl with
    | ret u => exact I1.after hq
    | next => exact False.elim hq
    | brk => exact False.elim hq
    | cont => exact False.elim hq
end
/-- a def and the object of its code -/
structure FunC (K : PySem.W.Frag) (x qual : Str) (st : Stmt) (f : Addr) (fd : FuncData) (c : Addr) : Prop where
  ex : ∃ (oc : Value) (od : Option Addr) (kV doc pm : Value) (an : Option Addr) (ct : Value) (osl : Array (Option Value)), fd = PySem.W.fnOf x qual (defArgs st) (defBody st) (defScope st) .none kV doc pm an (.ref c) ct ∧
    K.lookup f = some ⟨oc, od, .func (PySem.W.fnOf x qual (defArgs st) (defBody st) (defScope st) .none kV doc pm an (.ref c) ct), osl⟩ ∧ PySem.W.codeIn K (.ref c) qual = true
  kp : PySem.W.keepIn K (.ref f) = true
section
variable {P : Program} {w : World} {K : PySem.W.Frag} {mg : Str → Option Value} {base : Heap} {CX : CXT}
/-- okG for a def whose code object is told -/
theorem okGC {x qual : Str} {st : Stmt} {f c : Addr} {fd : FuncData} {N ps : List Str} {k : Nat} {sp : Sp} (F : FunC K x qual st f fd c) (S : FnScope N ps (defScope st))
    (arity : ∀ vs H Q E, sp vs H Q E → vs.length = ps.length)
    (hbody : ∀ (A : Around) (outer : List Env) (s : Shared) (H : Hp) (vs : List V) (Q : VK) (E : XK),
      RG k (A.deeper (envOfC qual (defScope st) s.heap.objs.size f (.ref c))) → sp vs H Q E →
        ∃ t, PSs (cxOf CX P w K mg base N qual (defScope st) f (.ref c) A outer s H E).nox (defBody st) t ∧ t { nx := fun _ H' => Q .non H', rt := Q } (start N vs) H) :
    FnG P w K mg base CX (k + 1) f fd ps sp := by
  obtain ⟨oc, od, kV, doc, pm, an, ct, osl, rfl, lk, hcd⟩ := F.ex
  refine ⟨arity, ?_⟩
  intro A outer s H args us vs Q E hr e0 hb r hsp
  have KX : K.In s.heap := e0.mod.kin.keeps fun b o q => (e0.bs b o q).1
  have lim : s.heap.NoLimit := e0.mod.nolimit.keeps fun b o q => (e0.bs b o q).1
  have hl := arity _ _ _ _ hsp
  obtain ⟨t, ht, hq⟩ := hbody A outer s H vs Q E (hr.deeper _) hsp
  have ht := ht.nox
  refine codeAny_call_function hr.room.depth (KX _ _ lk) rfl S.co S.gen rfl (PySem.W.codeRec_of KX hcd) (hb _ _ _ _ ?_)
  refine wpAny_newFunctionEnv_cells S.kind ?_ ?_
  · rintro ⟨n, v⟩ hy
    cases S.par n (List.of_mem_zip hy).1 with
    | inl q => exact .inl q
    | inr q => exact .inr ⟨q, PySem.W.cellsFrom_some _ _ _ (.inl q)⟩
  · intro env he s1 hin
    subst he
    refine ⟨lim.keeps hin.toInCall.keep, codeAny_func ?_⟩
    have I := inv_start (CX := CX) (P := P) (w := w) (qual := qual) (f := f) (cd := .ref c) (E := E) S hr.room.hd e0 hl r hin
    refine wpAny_mono (ht.run [] s1 (start N vs) H _ I hq) ?_ (fun _ _ q => q)
    intro fl s' hs
    match fl, hs with
    | .ret u, ⟨v, σ', H', J, rv, q⟩ => exact ⟨v, H', J.os, J.bare, J.base, J.hok, rv, q⟩
    | .next, ⟨σ', H', J, q⟩ => exact ⟨.non, H', J.os, J.bare, J.base, J.hok, rfl, q⟩
    | .brk, ⟨_, _, _, q⟩ => exact q.elim
    | .cont, ⟨_, _, _, q⟩ => exact q.elim
theorem FunC.fun_ {x qual : Str} {st : Stmt} {f c : Addr} {fd : FuncData} (F : FunC K x qual st f fd c) : Fun K x qual st f fd := by
  obtain ⟨oc, od, kV, doc, pm, an, ct, osl, rfl, lk, hcd⟩ := F.ex
  exact ⟨⟨oc, od, kV, doc, pm, an, .ref c, ct, osl, rfl, lk, hcd⟩, F.kp⟩
/-- the promise told of the very state -/
theorem run_ofG {x qual : Str} {st : Stmt} {f : Addr} {fd : FuncData} {N ps : List Str} {k : Nat} (F : Fun K x qual st f fd) (S : FnScope N ps (defScope st))
    {A : Around} {outer : List Env} {s : Shared} {H : Hp} {args : Args} {us : List Value} {vs : List V} {Q : VK} {E : XK} (hr : RG (k + 1) A) (e0 : Env0 P w K mg base A outer s H) (hb : BindsTo s fd args (ps.zip us)) (r : Vals vs us) (hl : vs.length = ps.length)
    (hbody : ∀ cdv : Value, RG k (A.deeper (envOfC qual (defScope st) s.heap.objs.size f cdv)) → ∃ t, PSs (cxOf CX P w K mg base N qual (defScope st) f cdv A outer s H E) (defBody st) t ∧ t { nx := fun _ H' => Q .non H', rt := Q } (L2.start N vs) H) :
    codeAny (model P w) A (.call (.ref f) args) (CR CX outer P w H s Q E) s := by
  obtain ⟨oc, od, kV, doc, pm, an, cdv, ct, osl, rfl, lk, hcd⟩ := F.ex
  have KX : K.In s.heap := e0.mod.kin.keeps fun b o e => (e0.bs b o e).1
  have lim : s.heap.NoLimit := e0.mod.nolimit.keeps fun b o e => (e0.bs b o e).1
  refine codeAny_call_function hr.room.depth (KX _ _ lk) rfl S.co S.gen rfl (PySem.W.codeRec_of KX hcd) (hb _ _ _ _ ?_)
  refine wpAny_newFunctionEnv_cells S.kind ?_ ?_
  · rintro ⟨n, v⟩ hy
    cases S.par n (List.of_mem_zip hy).1 with
    | inl q => exact .inl q
    | inr q => exact .inr ⟨q, PySem.W.cellsFrom_some _ _ _ (.inl q)⟩
  · intro env he s1 hin
    subst he
    refine ⟨lim.keeps hin.toInCall.keep, codeAny_func ?_⟩
    obtain ⟨t, ht, hq⟩ := hbody cdv (hr.deeper _)
    have I := inv_start (CX := CX) (P := P) (w := w) (qual := qual) (f := f) (cd := cdv) (E := E) S hr.room.hd e0 hl r hin
    refine wpAny_mono (ht.run [] s1 (start N vs) H _ I hq) ?_ (fun _ _ q => q)
    intro fl s' hs
    match fl, hs with
    | .ret u, ⟨v, σ', H', J, rv, q⟩ => exact ⟨v, H', J.os, J.bare, J.base, J.hok, rv, q⟩
    | .next, ⟨σ', H', J, q⟩ => exact ⟨.non, H', J.os, J.bare, J.base, J.hok, rfl, q⟩
    | .brk, ⟨_, _, _, q⟩ => exact q.elim
    | .cont, ⟨_, _, _, q⟩ => exact q.elim
end
/-- the def that calls what it got -/
def GivesG (X : Cx) (Ng : List Str) (k : Nat) (x : Str) (sg : Scope) (g : Addr) (bg : List Stmt) (a : Str) (q : Str) (TT : (XK → Hp → VK → Prop) → Hp → VK → Prop) : Prop :=
  ∀ (cdg : Value) (f c' : Addr) (s : Shared) (H : Hp) (Q : VK) (tl : XK → Hp → VK → Prop), RG k (X.A.deeper (envOfC x sg s.heap.objs.size g cdg)) →
    (∀ (W : WX) (pn : List (Addr × Obj)) (xe : Value → Shared → Prop) (E : XK) (p1 p2 : Pos), Takes ((cxOf CX0 X.prog X.w X.K X.mg X.base Ng x sg g cdg X.A X.stack s H E0).tr pn xe) W →
      PE ((cxOf CX0 X.prog X.w X.K X.mg X.base Ng x sg g cdg X.A X.stack s H E0).tr pn xe) (.Call (.Name a p1) [] [] p2) (fun σZ HZ Q => (∀ cls d H', E cls d H' → W cls d σZ H') ∧ σZ[0]? = some (some (.ref f)) ∧ HZ c' = some (CodeO c' q) ∧ tl E HZ Q)) →
    H c' = some (CodeO c' q) → TT tl H Q →
    ∃ t, PSs (cxOf CX0 X.prog X.w X.K X.mg X.base Ng x sg g cdg X.A X.stack s H E0).nox bg t ∧ t { nx := fun _ H' => Q .non H', rt := Q } (L2.start Ng [.ref f]) H
section
variable {X : Cx}
/-- x(lambda: body) -/
theorem pe_lamG {T : List (Addr × Str)} {TT : (XK → Hp → VK → Prop) → Hp → VK → Prop} {x a : Str} {g c P : Addr} {k : Nat} {sg : Stmt} {fd : FuncData} {Ng : List Str}
    {params : Arguments} {body : Expr} {scope : Scope} {t : XK → TE} {p lpos pos : Pos} (hg : Gl X x) (hm : X.mg x = some (.ref g)) (F : Fun X.K x x sg g fd) (hb : L2.Binds X.K fd [a] []) (Sg : FnScope Ng [a] (defScope sg)) (hNg : Ng[0]? = some a) (hva : Vis (defScope sg) a)
    (hG : GivesG X Ng (k + 1) x (defScope sg) g (defBody sg) a (X.env.qual ++ "<lambda>") TT)
    (TB : TabB X.base X.mg c P) (hcode : X.env.code = .ref c) (hmT : (P, X.env.qual ++ "<lambda>") ∈ T) (hu : ∀ p ∈ T, p.1 = P → p.2 = X.env.qual ++ "<lambda>") (hr : RG (k + 2) X.A) (L : LamS X.env.scope scope) (hdef : defaultsOf params X.env = ([], []))
    (hbind : ∀ (q : Str) (cl : List (Str × Addr)) (pm cv ctv : Value), bindArgs (PySem.W.kla_fn "<lambda>" q params body scope cl pm cv ctv) ⟨[], []⟩ = pure [])
    (hbody : ∀ (A : Around) (outer : List Env) (s : Shared) (H : Hp) (E : XK) (f c' : Addr), RG k (A.deeper (lamEnv X scope s.heap.objs.size f c')) → PE (lamCx X A outer s H E scope f c') body (t E))
    (hdb : (x == ("__debug__" : Str)) = false := by decide) (hd : (a == ("__debug__" : Str)) = false := by decide) (hcd : (a == ("__classdict__" : Str)) = false := by decide) :
    PE X (.Call (.Name x p) [.Lambda params body scope lpos] [] pos) (tLam T TT t) := by
  refine ⟨fun pins s σ H Q I h => ?_⟩
  obtain ⟨hT, h⟩ := h
  refine wpAny_Call_Name_kw (ld_glob I hg hm ?_ hdb)
  refine PySem.W.callWith_K (h₀ := X.base) I.ok.mod.kin F.kp ?_ (by rfl) (by rfl)
  show wpAny _ _ (spliced ((false, eval (.Lambda params body scope lpos) X.env) :: backTo pos (starEach [] X.env))) _ _ s
  refine Calls.spliced_cons (lam_make2 I TB hcode hmT hu hT hdef (L.has I.ok) fun f c' pm' ctv H1 s' I1 eN T1 hf hfn hfr hco => ?_)
  refine Calls.spliced_nil ⟨I1.kIn, ?_⟩
  have rc : codeAny (model X.prog X.w) X.A (.call (.ref g) ⟨[.ref f], []⟩) (CR CX0 X.stack X.prog X.w H1 s' Q E0) s' := by
    refine run_ofG (N := Ng) (ps := [a]) (us := [.ref f]) (vs := [.ref f]) F Sg hr I1.env0 (hb s' [.ref f] I1.kIn rfl) (.cons rfl .nil) rfl fun cdv hr' => ?_
    obtain ⟨t', ht', hq'⟩ := hG cdv f c' s' H1 Q (fun E H' Q' => t E σ H' Q') hr' (fun W pn xe E p1 p2 tk => pe_actG (i := 0) I1 L hf hfn hfr (hbind _ _ _ _ _) tk hr' (fun A outer s H hr2 => hbody A outer s H E f c' hr2) hNg hva hd hcd) hco (h H1 eN T1)
    exact ⟨t', ht'.nox, hq'⟩
  refine wpAny_call (codeAny_mono rc fun r s2 hq => ?_)
  cases r with
  | error e => exact (show False from hq).elim
  | ok fl =>
    cases fl with
    | ret u => exact I1.after hq
    | next => exact False.elim hq
    | brk => exact False.elim hq
    | cont => exact False.elim hq
end
end FT

/-! == and != by an own __eq__ -/
namespace FT
open PySem PySem.Spec PyProof.Rows L2 LamX
theorem RG.in1 {k : Nat} {A : Around} (r : RG (k + 1) A) : RG k A.in1 := ⟨r.room.in1, r.gd⟩
/-- an own class with __eq__ and no __ne__ -/
structure OEq (K : PySem.W.Frag) (C f : Addr) : Prop where
  cls : ∃ nm q N bs hdct sn sub ab col dd k0 k1 k2 k3 k5 newId, K.lookup C = some (excClassObj nm q C N bs [.type "object"] hdct sn sub ab col dd k0 k1 k2 k3 k5 newId)
  fe : PySem.W.findIn K (.ref C) "__eq__" = some (some (.ref f))
  fn : PySem.W.isFn K (.ref f) = true
  ne : PySem.W.findIn K (.ref C) "__ne__" = some (some (.builtin "object.__ne__"))
section
variable {prog : Program} {w : World} {A : Around} {E : Value → Shared → Prop} {h : Heap} {g : Array GenState} {d : Drawn} {t : Nat} {os : OsState} {K : PySem.W.Frag} {C x y f : Addr} {ox : Obj} {od : Option Obj}
theorem ifBound_ne {M : Model} {args : List Value} {Q : Option Value → Shared → Prop} {s : Shared} (X : K.In s.heap) (I : PySem.W.InstAt s.heap x ox C od) (hs : PySem.W.findIn K (.ref C) "__ne__" = some (some (.builtin "object.__ne__")))
    (h : wpAny M A (call (.builtin "object.__ne__") (.ref x :: args)) (fun v => Q (some v)) E s) : wpAny M A (callSpecialIfBound? (.ref x) "__ne__" args) Q E s := by
  have S := PySem.F.cmp_object.ne
  simp only [callSpecialIfBound?, bindSpecialIfBound?]
  refine wpAny_holding (wpAny_bind (wpAny_bind (wpAny_bind (I.type.here ((PySem.W.looks_findIn X hs).here ?_)))))
  simp only [S.bind]
  refine wpAny_bind (wpAny_askSetting (wpAny_ite ?_))
  have fin : wpAny M A (call (.builtin "object.__ne__") ([.ref x] ++ args) >>= fun v => pure (some v)) Q E s := wpAny_bind (wpAny_mono h (fun v s' h' => wpAny_pure h') fun _ _ h' => h')
  split
  · exact wpAny_bind (wpAny_pure (wpAny_pure fin))
  · exact wpAny_tryCatch (wpAny_bind (wpAny_pure (wpAny_pure fin)))
theorem objNe_own (O : OEq K C f) (X : K.In h) (I : PySem.W.InstAt h x ox C od) (hu : A.units < cLine) {Q : Fin → Shared → Prop}
    (hcall : wpAny (model prog w) A (call (.ref f) [.ref x, .ref y]) (fun v s' => ∃ b, v = .bool b ∧ Q (.done (.ret (.bool (!b)))) s') E ⟨h, g, d, t, os⟩) :
    wpAny (model prog w) A (Builtin.«object.__ne__» ⟨[.ref x, .ref y], []⟩) Q E ⟨h, g, d, t, os⟩ := by
  unfold Builtin.«object.__ne__»
  repeat (first
    | with_reducible refine wpAny_cRoomFor hu ?_
    | (refine wpAny_bind (m := callSpecialIfBound? (.ref x) (Str.ofString "__eq__") [.ref y])
        (PySem.W.ifBound_K (s := ⟨h, g, d, t, os⟩) X I O.fe O.fn (wpAny_mono hcall (fun r s' hr => by
          obtain ⟨b, rfl, hq⟩ := hr
          repeat (first | exact hq | exact wpAny_pure hq | exact wpAny_truthy_bool hq | (refine wpAny_bind (m := truthy (.bool _)) (wpAny_truthy_bool ?_)) | wp_step)) fun _ _ e => e)))
    | wp_step)
theorem tryNe_own (O : OEq K C f) (X : K.In h) (I : PySem.W.InstAt h x ox C od) (hu : A.units + 1 < cLine) {Q : Option Value → Shared → Prop}
    (hcall : wpAny (model prog w) A.in1 (call (.ref f) [.ref x, .ref y]) (fun v s' => ∃ b, v = .bool b ∧ Q (some (.bool (!b))) s') E ⟨h, g, d, t, os⟩) :
    wpAny (model prog w) A (tryCompare (.ref x) "__ne__" (.ref y)) Q E ⟨h, g, d, t, os⟩ := by
  obtain ⟨nm, q, N, bs, hdct, sn, sub, ab, col, dd, k0, k1, k2, k3, k5, newId, hC⟩ := O.cls
  have FB := PySem.F.cmp_object
  simp only [tryCompare]
  refine wpAny_bind (ifBound_ne (s := ⟨h, g, d, t, os⟩) X I O.ne (wpAny_call (codeAny_call_builtin FB.ne.plain PySem.F.cmpEntry_ne
    (wpAny_check_slot_inst PySem.F.cmpKind_ne PySem.F.cmpSplit_ne (PySem.F.cmpArgs_ne _ _) FB.hasObject I.at_ I.cls (X _ _ hC)
      (objNe_own (A := A.in1) O X I hu (wpAny_mono hcall (fun v s' hv => ?_) fun _ _ e => e))))))
  obtain ⟨b, rfl, hq⟩ := hv
  first | exact ⟨b, rfl, wpAny_pure hq⟩ | exact ⟨b, rfl, wpAny_pure (wpAny_pure hq)⟩ | exact ⟨b, rfl, hq⟩
theorem compareNe_own (O : OEq K C f) (X : K.In h) (I : PySem.W.InstAt h x ox C od) {oy : Obj} (hy : h.get? y = some oy) (hyc : oy.cls = .ref C) (hu : A.units + 1 < cLine) {Q : Value → Shared → Prop}
    (hcall : wpAny (model prog w) A.in1 (call (.ref f) [.ref x, .ref y]) (fun v s' => ∃ b, v = .bool b ∧ Q (.bool (!b)) s') E ⟨h, g, d, t, os⟩) :
    wpAny (model prog w) A (compareOp .NotEq (.ref x) (.ref y)) Q E ⟨h, g, d, t, os⟩ := by
  unfold compareOp richCompare
  simp only [oneThing_ref]
  refine wpAny_holding ?_
  refine wpAny_bind (wpAny_cRoomFor (Nat.lt_of_succ_lt hu) ?_)
  rw [cmpInfo_NotEq]
  dsimp only
  refine wpAny_bind (wpAny_typeOf_ref I.at_ ?_)
  rw [I.cls]
  refine wpAny_bind (wpAny_typeOf_ref hy ?_)
  rw [hyc]
  rw [show (Value.ref C != Value.ref C) = false from by simp]
  simp only [Bool.false_eq_true, if_false]
  refine wpAny_bind (wpAny_pure ?_)
  simp only [Bool.false_eq_true, if_false]
  refine wpAny_bind (tryNe_own O X I hu (wpAny_mono hcall (fun v s' hv => ?_) fun _ _ e => e))
  obtain ⟨b, rfl, hq⟩ := hv
  first | exact ⟨b, rfl, wpAny_pure hq⟩ | exact ⟨b, rfl, wpAny_pure (wpAny_pure hq)⟩
end
/-- what stands to the right of an own object -/
def RightV (H : Hp) (C : Addr) : V → Prop
  | .ref b => (∃ xs, H b = some (.lst xs)) ∨ (∃ xs, H b = some (.tup xs)) ∨ ∃ dx fs, H b = some (.ins C dx fs)
  | _ => False
@[irreducible] def rEqO (C : Addr) (sp : Sp) (x y : V) (H : Hp) (Q : VK) : Prop := ∃ a dx fs, x = .ref a ∧ H a = some (.ins C dx fs) ∧ RightV H C y ∧ sp [x, y] H (fun v H' => ∃ b, v = .bl b ∧ Q (.bl b) H') (fun _ _ _ => False)
@[irreducible] def rNeO (C : Addr) (sp : Sp) (x y : V) (H : Hp) (Q : VK) : Prop := ∃ a b dx fs dy gs, x = .ref a ∧ y = .ref b ∧ H a = some (.ins C dx fs) ∧ H b = some (.ins C dy gs) ∧ sp [x, y] H (fun v H' => ∃ b, v = .bl b ∧ Q (.bl (!b)) H') (fun _ _ _ => False)
section
variable {X : Cx} {CX : CXT} {k : Nat} {f C : Addr} {fd : FuncData} {ps : List Str} {sp : Sp}
theorem own_run {A : Around} {pins : List (Addr × Obj)} {σ : L2.St} {H : Hp} {s : Shared} {Q : VK} {us : List Value} {vs : List V} (F : FnG X.prog X.w X.K X.mg X.base CX k f fd ps sp) (hr : RG k A) (e0 : Env0 X.prog X.w X.K X.mg X.base A X.stack s H) (hb : Binds X.K fd ps []) (hx : Passes CX X (fun _ _ _ => False)) (I : Inv X pins σ H s)
    (r : Vals vs us) (h : sp vs H Q (fun _ _ _ => False)) : wpAny (model X.prog X.w) A (call (.ref f) us) (EP X pins σ Q) X.xe s := by
  have hl : (us ++ []).length = ps.length := by
    rw [List.append_nil]
    exact r.length.symm.trans (F.arity _ _ _ _ h)
  have hb' := hb s us I.kIn hl
  rw [List.append_nil] at hb'
  refine wpAny_call (codeAny_mono (F.goes hr e0 hb' r h) fun r s' hq => ?_)
  cases r with
  | error e => exact hx pins σ H s e s' I hq
  | ok fl =>
    cases fl with
    | ret u => exact I.after hq
    | next => exact False.elim hq
    | brk => exact False.elim hq
    | cont => exact False.elim hq
theorem op_eqO (O : OEq X.K C f) (F : FnG X.prog X.w X.K X.mg X.base CX k f fd ps sp) (hr : RG k X.A) (hb : Binds X.K fd ps []) (hx : Passes CX X (fun _ _ _ => False))
    (hn1 : PySem.W.notFirst X.K C (.type "list") = true) (hn2 : PySem.W.notFirst X.K C (.type "tuple") = true) : OpR X (compareOp .Eq) (rEqO C sp) := by
  intro pins s σ H x y v u Q I rx ry h
  unfold rEqO at h
  obtain ⟨a, dx, fs, rfl, ha, hy, q⟩ := h
  cases (show v = Value.ref a from rx)
  obtain ⟨mA, J, _⟩ := ins_get I.hok ha
  obtain ⟨od, J, _⟩ := J.look
  obtain ⟨m, hF⟩ := I.fr
  have go : ∀ (tb : Value), (∃ b, y = .ref b) → PySem.W.Looks (model X.prog X.w) s.heap (typeOf u) tb → PySem.W.notFirst X.K C tb = true → wpAny (model X.prog X.w) X.A (compareOp .Eq (.ref a) u) (EP X pins σ Q) X.xe s := fun tb hb2 L hn => by
    show wpAny _ _ (richCompare .Eq (.ref a) u) _ _ _
    refine PySem.W.cmp_K (op := .Eq) (tb := tb) hr.room.units0 hF I.ok.mod.kin J L hn O.fe O.fn ?_
    refine wpAny_mono (own_run (us := [.ref a, u]) (vs := [.ref a, y]) F hr I.env0 hb hx I (.cons rfl (.cons ry .nil)) q) (fun w s' z => ?_) fun _ _ x => x
    obtain ⟨z', H', I', rz, b, eb, qz⟩ := z
    subst eb
    cases (show w = Value.bool b from rz)
    exact ⟨.bl b, H', I', rfl, qz⟩
  cases y with
  | ref b =>
    cases (show u = Value.ref b from ry)
    rcases hy with ⟨xs, hb1⟩ | ⟨xs, hb1⟩ | ⟨dy, gs, hb1⟩
    · obtain ⟨us, r1, p1, _⟩ := I.list (SqL.of hb1)
      obtain ⟨ob, hob, hoc⟩ : ∃ ob, s.heap.get? b = some ob ∧ ob.cls = .type "list" := by
        obtain ⟨o, e, c, _⟩ := p1.isList
        exact ⟨o, e, c⟩
      exact go (.type "list") ⟨b, rfl⟩ (fun A Q E s k q => wpAny_typeOf_ref (k _ _ hob) (by rw [hoc]; exact q)) hn1
    · obtain ⟨us, r1, p1, _⟩ := I.tuple (SqT.of hb1)
      obtain ⟨ob, hob, hoc⟩ : ∃ ob, s.heap.get? b = some ob ∧ ob.cls = .type "tuple" := by
        obtain ⟨o, e, c, _⟩ := p1
        exact ⟨o, e, c⟩
      exact go (.type "tuple") ⟨b, rfl⟩ (fun A Q E s k q => wpAny_typeOf_ref (k _ _ hob) (by rw [hoc]; exact q)) hn2
    · obtain ⟨mB, J', _⟩ := ins_get I.hok hb1
      obtain ⟨od', J', _⟩ := J'.look
      exact go (.ref C) ⟨b, rfl⟩ J'.type (by simp [PySem.W.notFirst])
  | _ => exact hy.elim
theorem op_neO (O : OEq X.K C f) (F : FnG X.prog X.w X.K X.mg X.base CX k f fd ps sp) (hr : RG (k + 1) X.A) (hu : X.A.units + 1 < cLine) (hb : Binds X.K fd ps []) (hx : Passes CX X (fun _ _ _ => False)) : OpR X (compareOp .NotEq) (rNeO C sp) := by
  intro pins s σ H x y v u Q I rx ry h
  unfold rNeO at h
  obtain ⟨a, b, dx, fs, dy, gs, rfl, rfl, ha, hb1, q⟩ := h
  cases (show v = Value.ref a from rx)
  cases (show u = Value.ref b from ry)
  obtain ⟨mA, J, _⟩ := ins_get I.hok ha
  obtain ⟨od, J, _⟩ := J.look
  obtain ⟨mB, J', _⟩ := ins_get I.hok hb1
  obtain ⟨od', J', _⟩ := J'.look
  have z := I.kIn
  have run := own_run (A := X.A.in1) (us := [.ref a, .ref b]) (vs := [.ref a, .ref b]) F hr.in1 I.env0.in1 hb hx I (.cons rfl (.cons rfl .nil)) q
  obtain ⟨hh, g, d, t, os⟩ := s
  refine compareNe_own O z J J'.at_ J'.cls hu (wpAny_mono run (fun w s' z => ?_) fun _ _ x => x)
  obtain ⟨z', H', I', rz, b, eb, qz⟩ := z
  subst eb
  cases (show w = Value.bool b from rz)
  exact ⟨b, rfl, .bl (!b), H', I', rfl, qz⟩
end
end FT

/-! static methods read off their class; str(x) by an own __str__; slices with a step -/
namespace FT
open PySem PySem.Spec PyProof.Rows L2 LamX
/-- C.m is a staticmethod: its record at p, its def at g -/
structure SMet (K : PySem.W.Frag) (C : Addr) (m : Str) (p g : Addr) : Prop where
  rd : PySem.W.readsIn K C (.type "type") = true
  ga : PySem.W.specialIn K (.ref C) "__getattribute__" = some (some (.builtin "type.__getattribute__"))
  at_ : PySem.W.findCls K (.ref C) (.type "type") m = some (.get (.builtin "staticmethod.__get__") (.ref p) .none (.ref C))
  rc : PySem.W.recIn K p "staticmethod" = some [.ref g] ∨ ∃ rest, PySem.W.recIn K p "staticmethod" = some (.ref g :: rest)
def tSM (C : Addr) (sp : Sp) (E : XK) (ta : TE) (t : TA) : TE := fun σ H Q => ta σ H fun x H1 => x = .ref C ∧ t σ H1 fun vs H2 => sp vs H2 Q E
def tSMK (C : Addr) (sp : Sp) (gV : List V → List V → List V) (E : XK) (ta : TE) (tk : TA) : TE := fun σ H Q => ta σ H fun x H1 => x = .ref C ∧ tk σ H1 fun zs H2 => sp (gV [] zs) H2 Q E
section
variable {X : Cx} {CX : CXT} {k : Nat} {C p g : Addr} {fd : FuncData} {ps ks : List Str} {gl : List Value → List Value → List Value} {gV : List V → List V → List V} {sp : Sp} {E : XK} {o e : Expr} {es : List Expr} {kws : List Keyword} {m : Str} {pos apos : Pos} {ta : TE} {t tk : TA} {pl : Sem Bool}
theorem getmethsm_ok {pins : List (Addr × Obj)} {σ : L2.St} {H : Hp} {s : Shared} {A : Around} {E : Value → Shared → Prop} {Q : Value × List Value → Shared → Prop} (I : Inv X pins σ H s) (S : SMet X.K C m p g)
    (h : ∀ s', Inv X pins σ H s' → Q (.ref g, []) s') : wpAny (model X.prog X.w) A (getMethod (.ref C) m pl) Q E s := by
  have ⟨rest, hp⟩ : ∃ rest, PySem.W.recIn X.K p "staticmethod" = some (.ref g :: rest) := by
    rcases S.rc with h | h
    · exact ⟨_, h⟩
    · exact h
  refine PySem.W.method_cls I.kIn S.ga (PySem.W.cls_bind I.kIn S.rd S.at_ (wpAny_call (PySem.W.sm_get (s := { s with toks := s.toks + 1 }) I.kIn hp (PySem.W.handed_on rfl ?_))))
  exact h _ (I.tok _)
theorem pe_smeth (he : PE X o ta) (S : SMet X.K C m p g) (F : FnG X.prog X.w X.K X.mg X.base CX k g fd ps sp) (hr : RG k X.A) (hk : PySem.W.keepIn X.K (.ref g) = true) (hb : Binds X.K fd ps []) (hx : Passes CX X E) (ha : PA X (e :: es) t)
    (hst : starEach (e :: es) X.env = (false, eval e X.env) :: starEach es X.env := by rfl) (hpl : (backTo pos (starEach es X.env)).any (·.1) = false := by rfl)
    (ht : eval (.Call (.Attribute o m apos) (e :: es) [] pos) X.env = (do
      let ov ← eval o X.env
      standAt apos.atName
      let (f, first) ← holding [ov] (getMethod ov m pl)
      callWith pos f first (backTo pos (starEach (e :: es) X.env)) (backToKw pos (keywordEach [] X.env))) := by rfl) :
    PE X (.Call (.Attribute o m apos) (e :: es) [] pos) (tSM C sp E ta t) := by
  refine ⟨fun pins s σ H Q I h => ?_⟩
  refine PySem.W.methodCall_KW (pl := pl) (thn (he.run pins s σ H _ I h) fun u s1 ⟨x, H1, I1, rx, ex, q⟩ => ?_) ht
  subst ex
  obtain rfl : u = Value.ref C := rx
  refine getmethsm_ok I1 S fun s2 I2 => ?_
  refine PySem.W.callWith_K (first := []) (h₀ := X.base) I2.ok.mod.kin hk (thn (ha.run pos pins s2 σ H1 _ I2 q) ?_) hst hpl
  rintro us s3 ⟨vs, H2, I3, r, q2⟩
  refine ⟨I3.kIn, ?_⟩
  have r2 := r.append (.nil : Vals [] [])
  have hl : (us ++ []).length = ps.length := by
    rw [List.append_nil]
    exact r.length.symm.trans (F.arity _ _ _ _ q2)
  have hb' := hb s3 us I3.kIn hl
  rw [List.append_nil] at hb'
  exact run_args (kw := []) F hr hx I3 hb' r q2
theorem pe_smethK0 (he : PE X o ta) (S : SMet X.K C m p g) (F : FnG X.prog X.w X.K X.mg X.base CX k g fd ps sp) (hr : RG k X.A) (hk : PySem.W.keepIn X.K (.ref g) = true) (hb : KBinds X.K fd ps ks gl gV) (hx : Passes CX X E) (hkw : PK X kws tk)
    (hall : (backToKw pos (keywordEach kws X.env)).all (·.1.isSome) = true := by rfl)
    (hks : (backToKw pos (keywordEach kws X.env)).filterMap (·.1) = ks := by rfl)
    (hpl : ((backTo pos (starEach [] X.env)).any (·.1) || (backToKw pos (keywordEach kws X.env)).any (·.1.isNone)) = false := by rfl)
    (ht : eval (.Call (.Attribute o m apos) [] kws pos) X.env = (do
      let ov ← eval o X.env
      standAt apos.atName
      let (f, first) ← holding [ov] (getMethod ov m pl)
      callWith pos f first (backTo pos (starEach [] X.env)) (backToKw pos (keywordEach kws X.env))) := by rfl) :
    PE X (.Call (.Attribute o m apos) [] kws pos) (tSMK C sp gV E ta tk) := by
  refine ⟨fun pins s σ H Q I h => ?_⟩
  refine PySem.W.methodCall_KW (pl := pl) (thn (he.run pins s σ H _ I h) fun u s1 ⟨x, H1, I1, rx, ex, q⟩ => ?_) ht
  subst ex
  obtain rfl : u = Value.ref C := rx
  refine getmethsm_ok I1 S fun s2 I2 => ?_
  refine PySem.W.callWith_KW0 (h₀ := X.base) I2.ok.mod.kin hk hall ?_ hpl
  refine thn (hkw.run pos pins s2 σ H1 _ I2 q) ?_
  rintro ws s3 ⟨zs, H2, I3, rz, q2⟩
  refine ⟨I3.kIn, ?_⟩
  rw [hks]
  have r3 := hb.rel (.nil : Vals [] []) rz
  exact run_args F hr hx I3 (hb.to s3 [] ws I3.kIn (r3.length.symm.trans (F.arity _ _ _ _ q2))) r3 q2
/-- str(x), x an own object with __str__ -/
@[irreducible] def rStrO (C : Addr) (sp : Sp) (xs : List V) (H : Hp) (Q : VK) : Prop := ∃ a dx fs, xs = [V.ref a] ∧ H a = some (.ins C dx fs) ∧ sp [.ref a] H (fun z H' => ∃ t, z = .str t ∧ Q z H') (fun _ _ _ => False)
theorem call_strO {f : Addr} (hs : PySem.W.findIn X.K (.ref C) "__str__" = some (some (.ref f))) (hf : PySem.W.isFn X.K (.ref f) = true) (F : FnG X.prog X.w X.K X.mg X.base CX k f fd ps sp) (hr : RG (k + 2) X.A) (hb : Binds X.K fd ps []) (hx : Passes CX X (fun _ _ _ => False)) : CallR X (.type "str") (rStrO C sp) := by
  intro pins s σ H xs us Q I r h
  unfold rStrO at h
  obtain ⟨a, dx, fs, rfl, ha, q⟩ := h
  obtain ⟨u, rfl, ru⟩ := r.one
  cases (show u = Value.ref a from ru)
  obtain ⟨mA, J, _⟩ := ins_get I.hok ha
  obtain ⟨od, J, _⟩ := J.look
  have hr2 : RG k X.A.in1.in1 := (show RG (k + 1) X.A.in1 from RG.in1 hr).in1
  refine PySem.W.kso_call hr2.room.units0 I.kIn J hs hf (wpAny_mono (own_run (us := [.ref a]) (vs := [.ref a]) F hr2 I.env0.in1.in1 hb hx I (.cons rfl .nil) q) (fun w s' z => ?_) fun _ _ x => x)
  obtain ⟨z', H', I', rz, t, ez, qz⟩ := z
  subst ez
  obtain ⟨tk, e⟩ := (show ∃ tk, w = Value.str t tk from rz)
  cases e
  exact ⟨.str t, H', I', ⟨tk, rfl⟩, qz⟩
/-! xs[a::2] -/
def stpV (lo : Option Int) (xs : List V) : List V := (sliceRange (sliceBounds lo none (some 2) xs.length).1 (sliceBounds lo none (some 2) xs.length).2.1 (sliceBounds lo none (some 2) xs.length).2.2).filterMap (xs[·]?)
theorem vals_pick {xs : List V} {its : List Value} (r : Vals xs its) : ∀ is : List Nat, Vals (is.filterMap (xs[·]?)) (is.filterMap (its[·]?))
  | [] => .nil
  | i :: is => by
    have ih := vals_pick r is
    have hl := r.length
    rw [List.filterMap_cons, List.filterMap_cons]
    by_cases h : i < xs.length
    · have h2 : i < its.length := by omega
      have e2 : its[i]? = some its[i] := List.getElem?_eq_getElem h2
      obtain ⟨x, hx, rx⟩ : ∃ x, xs[i]? = some x ∧ RelV x its[i] := by
        clear ih
        induction r generalizing i with
        | nil => cases h2
        | @cons a b as bs ab rest ih =>
          cases i with
          | zero => exact ⟨a, rfl, ab⟩
          | succ i => exact ih i rest.length (Nat.lt_of_succ_lt_succ h) (Nat.lt_of_succ_lt_succ h2) (List.getElem?_eq_getElem _)
      rw [hx, e2]
      exact .cons rx ih
    · rw [List.getElem?_eq_none (by omega), List.getElem?_eq_none (by omega)]
      exact ih
def tStp (K : PySem.W.Frag) (te : TE) (tl : TO) : TE := fun σ H Q => te σ H fun x H1 => ∃ a xs, x = .ref a ∧ tl σ H1 fun lo H2 => SqL K H2 a xs ∧ ∀ p, H2 p = none → Q (.ref p) (upd H2 p (.lst (stpV lo xs)))
theorem pe_stp {l : Option Expr} {tl : TO} {j : Nat} {p1 p3 : Pos} (he : PE X e ta) (hl : PO X l tl) : PE X (.Subscript e (.Slice l none (some (.Constant (.int 2) j p1)) p3) pos) (tStp X.K ta tl) := by
  refine ⟨fun pins s σ H Q I h => ?_⟩
  refine Subscript_ (thn (he.run pins s σ H _ I h) fun v s1 ⟨x, H1, I1, r1, q1⟩ => ?_)
  obtain ⟨a, xs, ex, q⟩ := q1
  subst ex
  cases r1
  have hst : PO X (some (.Constant (.int 2) j p1)) (tPart (tC (.int 2))) := po_some pe_int
  refine wpAny_Slice (thn (hl.run pins s1 σ H1 _ I1 q) fun vl s2 ⟨lo, H2, I2, pl, hx, q2⟩ => ?_)
  refine thn (po_none.run pins s2 σ H2 (fun o H3 => o = none ∧ H3 = H2) I2 ⟨rfl, rfl⟩) fun vu s3 ⟨u, H3, I3, pu, eu, e3⟩ => ?_
  subst eu e3
  refine thn (hst.run pins s3 σ H3 (fun o H4 => o = some 2 ∧ H4 = H3) I3 ⟨2, rfl, rfl, rfl⟩) fun vs s4 ⟨o, H4, I4, ps, eo, e4⟩ => ?_
  subst eo e4
  have I5 : Inv X pins σ H4 { s4 with heap := s4.heap.push { cls := .type "slice", data := .fields #[vl, vu, vs] } } := I4.kept (t' := s4.toks) fun b ob q => Heap.get?_push_of_some _ q
  obtain ⟨its, r, ht, hz⟩ := I5.list hx
  have hlen := r.length
  show wpAny (model X.prog X.w) X.A (subscriptTail e (.Slice l none (some (.Constant (.int 2) j p1)) p3) (.ref a) (.ref s4.heap.objs.size)) (EP X pins σ Q) X.xe { s4 with heap := s4.heap.push { cls := .type "slice", data := .fields #[vl, vu, vs] } }
  refine tail_any (ops := [.ref a, .ref s4.heap.objs.size]) ht.isList.typeIs (PySem.slot_list_getitem.lookup) ?_ (by with_unfolding_all rfl)
  refine wpAny_getItem_list_slice ht.isList (Heap.IsSliceOf.new _ vl vu vs) pl pu ps (by decide) ?_ (by rw [List.size_toArray]; omega)
  have ez : slicePick its.toArray lo none (some 2) = ((sliceRange (sliceBounds lo none (some 2) xs.length).1 (sliceBounds lo none (some 2) xs.length).2.1 (sliceBounds lo none (some 2) xs.length).2.2).filterMap (its[·]?)).toArray := by
    unfold slicePick
    rw [List.size_toArray, ← hlen]
    simp
  rw [ez]
  have rp := vals_pick r (sliceRange (sliceBounds lo none (some 2) xs.length).1 (sliceBounds lo none (some 2) xs.length).2.1 (sliceBounds lo none (some 2) xs.length).2.2)
  refine ⟨.ref _, _, I5.laid (t' := s4.toks) (o := .lst (stpV lo xs)) (fun b ob q => Heap.get?_push_of_some _ q) (Nat.le_refl _) ?_, rfl, q2 _ (I5.hok.fresh (Nat.le_refl _))⟩
  refine ⟨?_, _, 0, rp, Heap.get?_push_size _ rfl⟩
  refine Nat.le_trans ?_ hz
  refine Nat.le_trans (List.length_filterMap_le _ _) ?_
  refine sliceRange_length_le _ _ _ _ (fun _ => ?_) (fun h => absurd (show (2 : Int) > 0 by decide) h)
  unfold sliceBounds
  cases lo with
  | none => simp
  | some i =>
    simp only [Option.getD_some, show (2 : Int) > 0 by decide, if_true]
    exact ⟨by split <;> omega, Int.le_refl _⟩
end
end FT

/-! the law's own call, with tables of code objects -/
namespace FT
open PySem PySem.Spec PyProof.Rows L2 LamX
/-- law_call with tables: cs, the code objects and their tables -/
theorem law_callTG {P : Program} {w : World} {K : PySem.W.Frag} {mg mb : Str → Option Value} {CX : CXT} {k : Nat} {fa a : Addr} {cs : List (Addr × Addr)} {fd : FuncData} {x : Str} {sp : Sp} {s₁ : Shared} {vs : List Value} {ns : List Int}
    (KX : K.In s₁.heap) (hns : s₁.heap.Ns mainGlobals mg) (hb : s₁.heap.Ns builtinsNs mb) (hbb : ∀ x : Str, x ≠ "__name__" → mb x = bootBuiltins x) (hlim : s₁.heap.NoLimit) (hg : s₁.gens = #[])
    (hT : ∀ p ∈ cs, s₁.heap.get? p.2 = some { cls := .none, data := .fields #[] }) (nT : ∀ p ∈ cs, K.lookup p.2 = none) (C : ∀ p ∈ cs, PySem.W.CodeHd s₁.heap p.1 p.2)
    (hbm : ∃ (bm : Addr) (ob : Obj), mg "__builtins__" = some (.ref bm) ∧ bm ≠ builtinsNs ∧ s₁.heap.get? bm = some ob ∧ ob.cls = .type "module" ∧ ob.dict = some builtinsNs ∧ ob.data = .plain)
    (ha : s₁.heap.get? a = some { cls := .type "list", data := .seq vs.toArray }) (hi : IntsAre vs ns) (hl : ns.length ≤ sizeLine) (hr : RG k callerA)
    (F : ∀ base : Heap, K.In base → base.Ns mainGlobals mg → (∀ p ∈ cs, TabB base mg p.1 p.2) → FnG P w K mg base CX k fa fd [x] sp) (hbind : ∀ (s : Shared) (u : Value), BindsTo s fd ⟨[u], []⟩ [(x, u)])
    (hsp : ∀ H : Hp, (∀ p ∈ cs, H p.2 = some (.tbl #[])) → SqL K H a (ns.map V.int) → sp [.ref a] H (fun v _ => v = .bl true) fun _ _ _ => False)
    (hCX : ∀ H e s', CX [] H s₁ (fun _ _ _ => False) e s' → False) :
    codeAny (model P w) callerA (.call (.ref fa) ⟨[.ref a], []⟩) (fun r s' => r = .ok (.ret (.bool true)) ∧ OldK s₁.heap s'.heap ∧ s'.os = s₁.os ∧ AllBare s'.gens) s₁ := by
  have rv := vals_ints hi
  have lenV := hi.length
  have isT : ∀ b : Addr, b ∈ cs.map (·.2) → s₁.heap.get? b = some { cls := .none, data := .fields #[] } := fun b hb => by
    obtain ⟨p, hp, e⟩ := List.mem_map.mp hb
    rw [← e]
    exact hT p hp
  have aT : a ∉ cs.map (·.2) := fun z => by
    have q := isT a z
    rw [ha] at q
    have z' : Data.seq vs.toArray _ = Data.fields #[] := congrArg Obj.data (Option.some.inj q)
    cases z'
  have memT : ∀ p ∈ cs, p.2 ∈ cs.map (·.2) := fun p hp => List.mem_map.mpr ⟨p, hp, rfl⟩
  -- from an abstract heap in which nothing but the script and the tables may be tracked
  have core : ∀ H : Hp, (∀ p ∈ cs, H p.2 = some (.tbl #[])) → (∀ b, H b = none ∨ b ∈ cs.map (·.2) ∨ ∃ o xs, H b = some (.frz o (.lst xs))) → SqL K H a (ns.map V.int) → HOk P w H s₁.heap → (∀ b, H b ≠ none → b = a ∨ b ∈ cs.map (·.2)) → (H a ≠ none → K.lookup a = none) →
      codeAny (model P w) callerA (.call (.ref fa) ⟨[.ref a], []⟩) (fun r s' => r = .ok (.ret (.bool true)) ∧ OldK s₁.heap s'.heap ∧ s'.os = s₁.os ∧ AllBare s'.gens) s₁ := by
    intro H hH hO hS hok hA hK
    have base_of : ∀ {b : Addr} {o : Obj}, s₁.heap.get? b = some o → H b = none → (hidT s₁.heap H).get? b = some o := fun e n => hidT_get e n
    have noD : ∀ {b : Addr} {o : Obj}, s₁.heap.get? b = some o → (∀ vs n, o.data ≠ .seq vs n) → o.data ≠ .fields #[] → H b = none := fun {b o} e h1 h2 => by
      cases q : H b with
      | none => rfl
      | some u =>
        rcases hA b (by rw [q]; simp) with e' | e'
        · rw [e', ha] at e
          cases e
          exact (h1 _ _ rfl).elim
        · rw [isT b e'] at e
          cases e
          exact (h2 rfl).elim
    have noA : ∀ {b : Addr} {o : Obj} {es : Array DictEntry} {ep : Nat}, s₁.heap.get? b = some o → o.data = .dict es ep → H b = none := fun {b o es ep} e d => by
      refine noD e (fun vs n z => ?_) fun z => ?_
      · rw [d] at z
        cases z
      · rw [d] at z
        cases z
    have nsK : ∀ {b : Addr} {m : Str → Option Value}, s₁.heap.Ns b m → (hidT s₁.heap H).Ns b m := fun {b m} ⟨o, es, ep, e, d, r⟩ => ⟨o, es, ep, base_of e (noA e d), d, r⟩
    have hKb : K.In (hidT s₁.heap H) := fun b o e => base_of (KX b o e) (by
      cases q : H b with
      | none => rfl
      | some u =>
        rcases hA b (by rw [q]; simp) with e' | e'
        · rw [e'] at e q
          rw [hK (by rw [q]; simp)] at e
          cases e
        · obtain ⟨p, hp, ep⟩ := List.mem_map.mp e'
          rw [← ep, nT p hp] at e
          cases e)
    have hM : L2.Mod K mg (hidT s₁.heap H) := ⟨hKb, nsK hns, ⟨mb, nsK hb, hbb⟩, let ⟨mc, h1, h2⟩ := hlim; ⟨mc, nsK h1, h2⟩⟩
    have TB : ∀ p ∈ cs, TabB (hidT s₁.heap H) mg p.1 p.2 := fun p hp => by
      have hTp := hT p hp
      refine ⟨?_, ?_, fun z => ?_⟩
      · obtain ⟨o, us, file, tf, flags, tg, inF, text, tt, e1, r1, r2, r3, r4, r5, r6, r7, r8, hne⟩ := C p hp
        refine ⟨o, us, file, tf, flags, tg, inF, text, tt, base_of e1 (noD e1 (fun vs n z => ?_) fun z => ?_), r1, r2, r3, r4, r5, r6, r7, r8, hne⟩
        · rw [r2] at z
          cases z
        · rw [r2] at z
          cases z
          simp at r3
      · obtain ⟨bm, ob, b1, b2, b3, b4, b5, b6⟩ := hbm
        have nG : bm ≠ mainGlobals := fun q => by
          obtain ⟨o, es, ep, e, hd, _⟩ := hns
          rw [q, e] at b3
          cases b3
          rw [hd] at b6
          cases b6
        have nP : bm ≠ p.2 := fun q => by
          rw [q, hTp] at b3
          cases b3
          cases b6
        refine ⟨bm, ob, b1, b2, nG, nP, base_of b3 (noD b3 (fun vs n z => ?_) fun z => ?_), b4, b5, b6⟩
        · rw [b6] at z
          cases z
        · rw [b6] at z
          cases z
      · obtain ⟨o, es, ep, e, hd, _⟩ := hns
        rw [z, hTp] at e
        cases e
        cases hd
    have e0 : Env0 P w K mg (hidT s₁.heap H) callerA [] s₁ H := ⟨rfl, hM, fun b o e => of_hidT e, Nat.le_of_eq (hidT_size _ _), trivial, fun b hb => absurd (show b ∈ ([] : List Addr) from hb) (by simp), hok, .of_eq hg⟩
    refine codeAny_mono ((F _ hKb (nsK hns) TB).goes hr e0 (us := [.ref a]) (vs := [.ref a]) (hbind s₁ (.ref a)) (.cons rfl .nil) (hsp H hH hS)) fun r s' h => ?_
    cases r with
    | error e => exact (hCX H e s' h).elim
    | ok fl =>
      cases fl with
      | next => exact False.elim h
      | brk => exact False.elim h
      | cont => exact False.elim h
      | ret u =>
        obtain ⟨v, H', os, bare, un, hok', r', q⟩ := h
        have q' : v = .bl true := q
        subst q'
        obtain rfl : u = Value.bool true := r'
        have key : ∀ b o, b ∉ cs.map (·.2) → s₁.heap.get? b = some o → s'.heap.get? b = some o := fun b o nb e => by
          cases q : H b with
          | none => exact un.keep b o e q (by intro z; exact absurd (show b ∈ ([] : List Addr) from z) (by simp)) (by simp)
          | some u =>
            rcases hO b with z | z | ⟨ob, xs, z⟩
            · rw [q] at z; cases z
            · exact absurd z nb
            · have z2 := un.frzs b ob _ z
              obtain ⟨e1, _⟩ := hok b _ z
              obtain ⟨e2, _⟩ := hok' b _ z2
              rw [e] at e1; cases e1
              exact e2
        have grown : ∀ p ∈ cs, ∃ more : Array Value, s'.heap.get? p.2 = some { cls := .none, data := .fields more } := fun p hp => by
          obtain ⟨more, z⟩ := un.tbls p.2 #[] (hH p hp)
          exact ⟨_, hok' p.2 _ z⟩
        refine ⟨rfl, ⟨fun b o e => ?_, fun b o e => ?_⟩, os, bare⟩
        · by_cases hb : b ∈ cs.map (·.2)
          · obtain ⟨p, hp, ep⟩ := List.mem_map.mp hb
            obtain ⟨more, hm⟩ := grown p hp
            rw [← ep] at e ⊢
            rw [hT p hp] at e
            cases e
            exact .inr (.inl ⟨((C p hp).tab (hT p hp)).isCodeTable, rfl, #[], more, rfl, by rw [Array.empty_append]; exact hm⟩)
          · exact .inl (key b o hb e)
        · by_cases hb : b ∈ cs.map (·.2)
          · obtain ⟨p, hp, ep⟩ := List.mem_map.mp hb
            obtain ⟨more, hm⟩ := grown p hp
            rw [← ep]
            exact ⟨_, hm⟩
          · exact ⟨o, key b o hb e⟩
  cases hk : K.lookup a with
  | some o =>
    have e := KX a o hk
    rw [ha] at e
    cases e
    refine core (fun b => if b ∈ cs.map (·.2) then some (.tbl #[]) else none) (fun p hp => if_pos (memT p hp)) (fun b => ?_) (.inr ⟨_, vs.toArray, _, hk, rfl, rfl, rfl, by rw [List.size_toArray, lenV]; exact hl, by simpa using rv⟩) (fun b u z => ?_) (fun b z => ?_) fun z => absurd (show (if a ∈ cs.map (·.2) then some (HO.tbl #[]) else none) = none from if_neg aT) z
    · by_cases hb : b ∈ cs.map (·.2)
      · exact .inr (.inl hb)
      · exact .inl (if_neg hb)
    · by_cases hb : b ∈ cs.map (·.2)
      · have z' := (if_pos hb).symm.trans z
        cases z'
        exact isT b hb
      · have z' := (if_neg hb).symm.trans z
        cases z'
    · by_cases hb : b ∈ cs.map (·.2)
      · exact .inr hb
      · exact absurd (if_neg hb) z
  | none =>
    refine core (fun b => if b = a then some (.frz { cls := .type "list", data := .seq vs.toArray } (.lst (ns.map V.int))) else if b ∈ cs.map (·.2) then some (.tbl #[]) else none) (fun p hp => (if_neg (show ¬ p.2 = a from fun z => aT (by rw [← z]; exact memT p hp))).trans (if_pos (memT p hp))) (fun b => ?_)
      (.inl (.inr ⟨{ cls := .type "list", data := .seq vs.toArray }, if_pos rfl⟩)) (fun b u z => ?_) (fun b z => ?_) fun _ => hk
    · by_cases hb : b = a
      · exact .inr (.inr ⟨_, _, if_pos hb⟩)
      · by_cases hb2 : b ∈ cs.map (·.2)
        · exact .inr (.inl hb2)
        · exact .inl ((if_neg hb).trans (if_neg hb2))
    · by_cases hb : b = a
      · have z' := (if_pos hb).symm.trans z
        cases z'
        rw [hb]
        exact ⟨ha, by rw [List.length_map]; exact hl, vs, _, rv, ha⟩
      · have z1 := (if_neg hb).symm.trans z
        by_cases hb2 : b ∈ cs.map (·.2)
        · have z' := (if_pos hb2).symm.trans z1
          cases z'
          exact isT b hb2
        · have z' := (if_neg hb2).symm.trans z1
          cases z'
    · by_cases hb : b = a
      · exact .inl hb
      · by_cases hb2 : b ∈ cs.map (·.2)
        · exact .inr hb2
        · exact absurd ((if_neg hb).trans (if_neg hb2)) z
/-- what is known of the law's promise at the head's heap h -/
def LawAtG (l : PySem.W.OpenLaw) (w : World) (K : PySem.W.Frag) (CX : CXT) (k n : Nat) (x : Str) (mg : Str → Option Value) (fa : Addr) (h : Heap) : Prop :=
  ∃ (fd : FuncData) (cs : List (Addr × Addr)) (sp : Sp), (∀ p ∈ cs, h.get? p.2 = some { cls := .none, data := .fields #[] }) ∧ (∀ p ∈ cs, K.lookup p.2 = none) ∧ (∀ p ∈ cs, PySem.W.CodeHd h p.1 p.2) ∧ (∀ (s : Shared) (u : Value), BindsTo s fd ⟨[u], []⟩ [(x, u)]) ∧
    (∀ (H : Hp) (a : Addr) (ns : List Int), ns.length ≤ n → (∀ p ∈ cs, H p.2 = some (.tbl #[])) → SqL K H a (ns.map V.int) → sp [.ref a] H (fun v _ => v = .bl true) fun _ _ _ => False) ∧
    ∀ base : Heap, K.In base → base.Ns mainGlobals mg → (∀ p ∈ cs, TabB base mg p.1 p.2) → FnG l.prog w K mg base CX k fa fd [x] sp
/-- the table of the def x, as the head tells it -/
def TabOf (q : Program) (K : PySem.W.Frag) (h : Heap) : Prop := ∀ (x : Str) (e : DefRec) (c P : Addr), (recsOf q).find? (fun e => e.name == x) = some e → PySem.W.tabIn K x = some (c, P) → PySem.W.CodeHd h c P ∧ h.get? P = some { cls := .none, data := .fields #[] }
theorem walk_ofTG {l : PySem.W.OpenLaw} {n k : Nat} {q : Program} {loose : List Str} {XP : (Str → Option Value) → Heap → Prop} {YP : World → Heap → Prop} {d : DefRec} {K : Params → PySem.W.Frag} {CX : World → CXT} {x : Str}
    (hn : l.most = some n) (hn2 : n ≤ sizeLine) (hdf : d.params.defaults = []) (hr : RG k callerA) (hY : ∀ (w : World) (h : Heap), YP w h → (K w.params).In h)
    (F : ∀ (w : World) (mg : Str → Option Value) (fa : Addr) (h : Heap), (K w.params).In h → h.Ns mainGlobals mg → mg d.name = some (.ref fa) → TabOf q (K w.params) h → LawAtG l w (K w.params) (CX w) k n x mg fa h)
    (hCX : ∀ (w : World) (H : Hp) (s : Shared) (e : Value) (s' : Shared), CX w [] H s (fun _ _ _ => False) e s' → False) :
    PySem.W.WalkO q loose XP YP l.row.toRowW d [] (fun f vs => PySem.call f vs) := by
  refine Att.attach_callB hn hdf fun w s₀ s₁ mg mb fa o pm cd doc a vs ns G Y ho hd hcd hmg hobj hints hlen hbits hg => ?_
  have KX := hY w _ Y
  obtain ⟨fd, cs, sp, hT, nT, C, hb, hsp, hF⟩ := F w mg fa _ KX G.T.g hmg (fun x e c P h1 h2 => PySem.W.tab_of G.T KX h1 h2)
  exact law_callTG KX G.T.g G.T.b G.T.builtins G.T.nolimit hg hT nT C G.T.bmain hobj hints (Nat.le_trans hlen hn2) hr hF hb (fun H hH hS => hsp H a ns hlen hH hS) fun H e s' => hCX w H s₁ e s'
theorem upd_kp {H : Hp} {a dx : Addr} {o u : HO} (hd : H dx = none) (hda : dx ≠ a) : Kp a H (upd (upd H dx o) a u) := by
  intro b v n h
  rw [upd_ne n, upd_ne (ne_of_none h hd)]
  exact h
theorem walk_gen {J : It} {n : Nat} {G : Hp → Prop} {Y : Nat → Hp → V → Hp → Prop} (w : Walk J n G Y) {Body : (Hp → Prop) → V → Hp → Prop} {H0 : Hp} {Qd : Hp → Prop} (Pv : Nat → Hp → Prop) (h0 : Pv 0 H0) (hG : ∀ i H, i ≤ n → Pv i H → G H)
    (hs : ∀ i x H H', i < n → Pv i H → Y i H x H' → Body (Pv (i + 1)) x H') (hd : ∀ H, Pv n H → Qd H) :
    ∃ W : Nat → Nat → Hp → Prop, (∃ m, W 0 m H0) ∧ ∀ i m H, W i m H → (J.stop i H ∧ Qd H) ∨ (J.go i H ∧ ∃ Nx : Hp → Prop, (∀ H', Nx H' → ∃ m', m' < m ∧ W (i + 1) m' H') ∧ ∀ x H', J.yld i H x H' → Body Nx x H') := by
  refine ⟨fun i m H => m = n - i ∧ i ≤ n ∧ Pv i H, ⟨n, by simp, Nat.zero_le _, h0⟩, ?_⟩
  rintro i m H ⟨rfl, hi, p⟩
  have q := hG i H hi p
  by_cases hlt : i < n
  · exact .inr ⟨w.goes i H hlt q, Pv (i + 1), fun H' p' => ⟨n - (i + 1), by omega, rfl, hlt, p'⟩, fun x H' y => hs i x H H' hlt p (w.yields i H x H' hlt q y)⟩
  · have e : i = n := by omega
    subst e
    exact .inl ⟨w.stops H q, hd H p⟩
end FT

/-! list(zip(xs, ys)) -/
namespace FT
open PySem PySem.Spec PyProof.Rows L2
abbrev IsZipB (h : Heap) (z TI TO T : Addr) (f : Bool) : Prop :=
  h.get? z = some { cls := .type "zip", dict := none, data := .fields #[rawInt T, .bool f, .bool false, .ref TI, .ref TO], slots := #[] }
section
variable {prog : Program} {w : World} {A : Around} {E : Value → Shared → Prop} {s : Shared}
theorem free_busy {z TI TO T : Addr} {f : Bool} {oT : Obj} {Q : Bool → Shared → Prop} (hz : IsZipB s.heap z TI TO T f) (hT : s.heap.get? T = some oT)
    (hQ : ∀ h₁, IsZipB h₁ z TI TO T true → Heap.ExtBut z s.heap h₁ → h₁.objs.size = s.heap.objs.size → Q false { s with heap := h₁ }) : wpAny (model prog w) A (Builtin.SmallTypes.ownedTupleIsFree (.ref z)) Q E s := by
  unfold Builtin.SmallTypes.ownedTupleIsFree
  refine wpAny_bind (wpAny_field hz rfl (x := rawInt T) rfl ?_)
  show wpAny _ _ (loadIfAlive ((T : Int).toNat) >>= _) _ _ _
  rw [Int.toNat_natCast]
  refine wpAny_bind (PySem.W.kdx_alive hT ?_)
  simp only [Option.isNone_some, Bool.false_eq_true, if_false]
  refine wpAny_bind (wpAny_field hz rfl (x := .bool f) rfl ?_)
  cases f with
  | true =>
    rw [if_neg (by decide)]
    exact wpAny_pure (hQ _ hz (fun b o _ e => e) rfl)
  | false =>
    rw [if_pos (by decide)]
    refine wpAny_bind (wpAny_setField_rec hz (by simp) fun h₁ hz₁ hs₁ => ?_)
    exact wpAny_pure (hQ h₁ hz₁ hs₁.extBut hs₁.1)
theorem zipB_next_item {z TI TO i1 i2 l1 l2 T : Addr} {f : Bool} {oT : Obj} {k1 k2 : Nat} {xs ys : Array Value} {x y : Value} {Q : Value → Shared → Prop} (D : ZipApart z TI TO i1 i2 l1 l2)
    (hz : IsZipB s.heap z TI TO T f) (hT : s.heap.get? T = some oT) (hTI : IsPair s.heap TI (.ref i1) (.ref i2))
    (h1 : s.heap.IsListIter i1 l1 k1) (h2 : s.heap.IsListIter i2 l2 k2) (hl1 : s.heap.IsList l1 xs) (hl2 : s.heap.IsList l2 ys) (hx : xs[k1]? = some x) (hy : ys[k2]? = some y)
    (hQ : ∀ h', IsZipB h' z TI TO T true → h'.IsListIter i1 l1 (k1 + 1) → h'.IsListIter i2 l2 (k2 + 1) → IsPair h' s.heap.objs.size x y → h'.objs.size = s.heap.objs.size + 1 →
      (∀ c o, c ≠ z → c ≠ i1 → c ≠ i2 → s.heap.get? c = some o → h'.get? c = some o) → Q (.ref s.heap.objs.size) { s with heap := h' }) :
    wpAny (model prog w) A (Builtin.«zip.__next__» ⟨[.ref z], []⟩) (fun fin s' => ∃ v, fin = .done (.ret v) ∧ Q v s') E s := by
  show wpAny _ _ (field (.ref z) 2 >>= _) _ _ _
  refine wpAny_bind (wpAny_field hz rfl (x := .bool false) rfl ?_)
  show wpAny _ _ (field (.ref z) 3 >>= _) _ _ _
  refine wpAny_bind (wpAny_field hz rfl (x := .ref TI) rfl ?_)
  refine wpAny_bind (wpAny_seqItems hTI rfl ?_)
  show wpAny _ _ (Builtin.SmallTypes.ownedTupleIsFree (.ref z) >>= _) _ _ _
  refine wpAny_bind (free_busy hz hT fun h₁ hz₁ k₁ sz₁ => ?_)
  simp only [Bool.false_eq_true, if_false]
  rw [← Array.forIn_toList]
  simp only [List.forIn_cons, List.forIn_nil]
  have hl1' := hl1.extBut k₁ D.l1z
  have hl2' := hl2.extBut k₁ D.l2z
  have h1' := h1.extBut k₁ D.i1z
  have h2' := h2.extBut k₁ D.i2z
  refine wpAny_bind (wpAny_bind (wpAny_bind (wpAny_holding ?_)))
  show wpAny _ _ (Builtin.SmallTypes.nextOf (.ref i1) >>= _) _ _ _
  refine wpAny_bind (wpAny_nextOf_list_item h1' hl1' hx fun h₂ h1₂ hs₂ => wpAny_pure (wpAny_pure ?_))
  refine wpAny_bind (wpAny_bind (wpAny_holding ?_))
  show wpAny _ _ (Builtin.SmallTypes.nextOf (.ref i2) >>= _) _ _ _
  refine wpAny_bind (wpAny_nextOf_list_item (h2'.extBut hs₂.extBut D.i12.symm) (hl2'.extBut hs₂.extBut D.l2i1) hy fun h₃ h2₃ hs₃ => wpAny_pure (wpAny_pure (wpAny_pure ?_)))
  have sz : h₃.objs.size = s.heap.objs.size := by rw [hs₃.1, hs₂.1, sz₁]
  refine wpAny_bind (wpAny_newTuple ?_ (by show 2 ≤ sizeLine; decide))
  have up : ∀ c o, c ≠ z → c ≠ i1 → c ≠ i2 → s.heap.get? c = some o → h₃.get? c = some o := fun c o c1 c2 c3 e => hs₃.extBut _ _ c3 (hs₂.extBut _ _ c2 (k₁ _ _ c1 e))
  have hz₃ : IsZipB h₃ z TI TO T true := hs₃.extBut _ _ D.i2z.symm (hs₂.extBut _ _ D.i1z.symm hz₁)
  have h1₃ := h1₂.extBut hs₃.extBut D.i12
  refine wpAny_pure ⟨_, rfl, ?_⟩
  show Q (.ref h₃.objs.size) _
  have hp : IsPair (h₃.push { cls := .type "tuple", data := .seq #[x, y] }) h₃.objs.size x y := Heap.get?_push_size _ rfl
  rw [sz] at hp ⊢
  exact hQ _ (Heap.get?_push_of_some _ hz₃) (h1₃.at fun o e => Heap.get?_push_of_some _ e) (h2₃.at fun o e => Heap.get?_push_of_some _ e) hp (by rw [Heap.size_push, sz]) fun c o c1 c2 c3 e => Heap.get?_push_of_some _ (up c o c1 c2 c3 e)
theorem zipB_next_end {z TI TO i1 i2 l1 l2 T : Addr} {f : Bool} {oT : Obj} {k1 : Nat} {xs : Array Value} {Q : Fin → Shared → Prop} (hh : A.handled = none) (D : ZipApart z TI TO i1 i2 l1 l2)
    (hz : IsZipB s.heap z TI TO T f) (hT : s.heap.get? T = some oT) (hTI : IsPair s.heap TI (.ref i1) (.ref i2))
    (h1 : s.heap.IsListIter i1 l1 k1) (hl1 : s.heap.IsList l1 xs) (hx : xs[k1]? = none)
    (hE : ∀ h' e, (∀ c o, c ≠ z → c ≠ i1 → s.heap.get? c = some o → h'.get? c = some o) → (∃ o, h'.get? e = some o ∧ o.cls = .type "StopIteration") → E (.ref e) { s with heap := h' }) :
    wpAny (model prog w) A (Builtin.«zip.__next__» ⟨[.ref z], []⟩) Q E s := by
  show wpAny _ _ (field (.ref z) 2 >>= _) _ _ _
  refine wpAny_bind (wpAny_field hz rfl (x := .bool false) rfl ?_)
  show wpAny _ _ (field (.ref z) 3 >>= _) _ _ _
  refine wpAny_bind (wpAny_field hz rfl (x := .ref TI) rfl ?_)
  refine wpAny_bind (wpAny_seqItems hTI rfl ?_)
  show wpAny _ _ (Builtin.SmallTypes.ownedTupleIsFree (.ref z) >>= _) _ _ _
  refine wpAny_bind (free_busy hz hT fun h₁ hz₁ k₁ sz₁ => ?_)
  simp only [Bool.false_eq_true, if_false]
  rw [← Array.forIn_toList]
  simp only [List.forIn_cons, List.forIn_nil]
  refine wpAny_bind (wpAny_bind (wpAny_bind (wpAny_holding ?_)))
  show wpAny _ _ (Builtin.SmallTypes.nextOf (.ref i1) >>= _) _ _ _
  exact wpAny_bind (wpAny_nextOf_list_end hh (h1.extBut k₁ D.i1z) (hl1.extBut k₁ D.l1z) hx fun h₂ e hs₂ he => hE h₂ e (fun c o c1 c2 x => hs₂ _ _ c2 (k₁ _ _ c1 x)) he)
/-- a zip that has handed out i items -/
def ZSt (h : Heap) (z TI TO i1 i2 l1 l2 : Addr) (xs ys : Array Value) (i : Nat) : Prop :=
  (IsZip h z TI TO .none ∨ ∃ T f oT, IsZipB h z TI TO T f ∧ h.get? T = some oT ∧ T ≠ z ∧ T ≠ i1 ∧ T ≠ i2) ∧ IsPair h TI (.ref i1) (.ref i2) ∧ (∃ a b, IsPair h TO a b) ∧ h.IsListIter i1 l1 i ∧ h.IsListIter i2 l2 i ∧ h.IsList l1 xs ∧ h.IsList l2 ys
theorem zst_item {z TI TO i1 i2 l1 l2 : Addr} {i : Nat} {xs ys : Array Value} {x y : Value} {Q : Option Value → Shared → Prop} (D : ZipApart z TI TO i1 i2 l1 l2) (h : ZSt s.heap z TI TO i1 i2 l1 l2 xs ys i) (hx : xs[i]? = some x) (hy : ys[i]? = some y)
    (hQ : ∀ h', ZSt h' z TI TO i1 i2 l1 l2 xs ys (i + 1) → IsPair h' s.heap.objs.size x y → s.heap.objs.size < h'.objs.size → (∀ c o, c ≠ z → c ≠ TO → c ≠ i1 → c ≠ i2 → s.heap.get? c = some o → h'.get? c = some o) → Q (some (.ref s.heap.objs.size)) { s with heap := h' }) :
    wpAny (model prog w) A (pyNext (.ref z)) Q E s := by
  obtain ⟨hz, hTI, ⟨a, b, hTO⟩, h1, h2, hl1, hl2⟩ := h
  have lt : ∀ {c o}, s.heap.get? c = some o → s.heap.objs.size ≠ c := fun e => Nat.ne_of_gt (Heap.lt_size e)
  have li1 : s.heap.objs.size ≠ i1 := by obtain ⟨_, e, _⟩ := h1; exact lt e
  have li2 : s.heap.objs.size ≠ i2 := by obtain ⟨_, e, _⟩ := h2; exact lt e
  rcases hz with hz | ⟨T, f, oT, hz, hT, t1, t2, t3⟩
  · refine wpAny_pyNext_zip_item D hz hTI hTO h1 h2 hl1 hl2 hx hy fun h' a1 a2 a3 a4 a5 a6 hk => ?_
    refine hQ h' ⟨.inr ⟨_, false, _, a1, a5, lt hz, li1, li2⟩, hk _ _ D.TIz D.TITO D.TIi1 D.TIi2 hTI, ⟨_, _, a2⟩, a3, a4, hl1.at fun o e => hk _ o D.l1z D.l1TO D.l1i1 D.l1i2 e, hl2.at fun o e => hk _ o D.l2z D.l2TO D.l2i1 D.l2i2 e⟩ a5 (by omega) hk
  · have hTy : s.TypeIs (.ref z) "zip" := ⟨_, hz, rfl⟩
    unfold pyNext
    refine wpAny_bind (wpAny_attempt (wpAny_callSpecial?_slot (name := Str.ofString "__next__") hTy F.slot_zip_next
      (wpAny_call_entry F.slot_zip_next hTy F.entry_zip_next
        (zipB_next_item D hz hT hTI h1 h2 hl1 hl2 hx hy fun h' a1 a3 a4 a5 a6 hk => wpAny_pure ?_) (F.args_zip_next_1 _))))
    exact hQ h' ⟨.inr ⟨T, true, oT, a1, hk _ _ t1 t2 t3 hT, t1, t2, t3⟩, hk _ _ D.TIz D.TIi1 D.TIi2 hTI, ⟨_, _, hk _ _ D.TOz D.TOi1 D.TOi2 hTO⟩, a3, a4, hl1.at fun o e => hk _ o D.l1z D.l1i1 D.l1i2 e, hl2.at fun o e => hk _ o D.l2z D.l2i1 D.l2i2 e⟩ a5 (by omega) fun c o c1 _ c3 c4 e => hk c o c1 c3 c4 e
theorem zst_end {z TI TO i1 i2 l1 l2 : Addr} {i : Nat} {xs ys : Array Value} {Q : Option Value → Shared → Prop} (hh : A.handled = none) (D : ZipApart z TI TO i1 i2 l1 l2) (h : ZSt s.heap z TI TO i1 i2 l1 l2 xs ys i) (hx : xs[i]? = none)
    (hQ : ∀ h', (∀ c o, c ≠ z → c ≠ TO → c ≠ i1 → c ≠ i2 → s.heap.get? c = some o → h'.get? c = some o) → Q none { s with heap := h' }) :
    wpAny (model prog w) A (pyNext (.ref z)) Q E s := by
  obtain ⟨hz, hTI, ⟨a, b, hTO⟩, h1, h2, hl1, hl2⟩ := h
  rcases hz with hz | ⟨T, f, oT, hz, hT, t1, t2, t3⟩
  · exact wpAny_pyNext_zip_end hh D hz hTI hTO h1 h2 hl1 hl2 (.inl hx) hQ
  · have hTy : s.TypeIs (.ref z) "zip" := ⟨_, hz, rfl⟩
    unfold pyNext
    refine wpAny_bind (wpAny_attempt (wpAny_callSpecial?_slot (name := Str.ofString "__next__") hTy F.slot_zip_next
      (wpAny_call_entry F.slot_zip_next hTy F.entry_zip_next (zipB_next_end hh D hz hT hTI h1 hl1 hx fun h' e hk he => ?_) (F.args_zip_next_1 _))))
    obtain ⟨o, ho, hc⟩ := he
    refine wpAny_bind (wpAny_isInstance (T := "StopIteration") (b := true) ⟨o, ho, hc⟩ isSubtype_stop ?_)
    exact wpAny_pure (hQ _ fun c o c1 _ c3 _ e => hk c o c1 c3 e)
/-- the pairs handed out, at as, above S -/
structure ZG (h : Heap) (S : Addr) (xs ys : Array Value) (as : List Addr) : Prop where
  above : ∀ t ∈ as, S < t ∧ t < h.objs.size
  rise : as.Pairwise (· < ·)
  pairs : ∀ (j : Nat) (t : Addr), as[j]? = some t → ∃ x y, xs[j]? = some x ∧ ys[j]? = some y ∧ IsPair h t x y
theorem zip_loop {z TI TO i1 i2 l1 l2 S : Addr} {xs ys : Array Value} {n : Nat} {R : Result → Shared → Prop} (hh : A.in1.handled = none) (D : ZipApart z TI TO i1 i2 l1 l2) (hx : xs.size = n) (hy : ys.size = n) (hn : n ≤ sizeLine)
    (s1 : S ≠ z) (s2 : S ≠ TI) (s3 : S ≠ TO) (s4 : S ≠ i1) (s5 : S ≠ i2) (s6 : S ≠ l1) (s7 : S ≠ l2) (zS : z < S) (TOS : TO < S) (i1S : i1 < S) (i2S : i2 < S) :
    ∀ (k i : Nat) (s : Shared) (acc : Array Value) (c : Nat) (as : List Addr), n - i = k → i ≤ n → ZSt s.heap z TI TO i1 i2 l1 l2 xs ys i → s.heap.get? S = some { cls := .type "list", dict := none, data := .seq acc c, slots := #[] } → ZG s.heap S xs ys as → as.length = i → acc.toList = as.map Value.ref →
    (∀ h' acc' c' as', (∀ b o, b ≠ S → b ≠ z → b ≠ TO → b ≠ i1 → b ≠ i2 → s.heap.get? b = some o → h'.get? b = some o) → h'.get? S = some { cls := .type "list", dict := none, data := .seq acc' c', slots := #[] } → ZG h' S xs ys as' → as'.length = n → acc'.toList = as'.map Value.ref → R (.ok (.ret .none)) { s with heap := h' }) →
    codeAny (model prog w) A (.builtin "list.extend.loop" ⟨[.ref S, .ref z, .none], []⟩) R s := by
  intro k
  induction k with
  | zero =>
    intro i s acc c as hk hi hst hS hG hl ha hR
    have hin : i = n := by omega
    subst hin
    refine codeAny_builtin F.entry_extend_loop ?_
    rw [Around.under_plainId F.plain_extend_loop _]
    show wpAny _ A.in1 (pyNext (.ref z) >>= _) _ _ s
    refine wpAny_bind (zst_end hh D hst (Array.getElem?_eq_none (by omega)) fun h' hm => ?_)
    refine wpAny_pure (hR h' acc c as (fun b o _ b1 b2 b3 b4 e => hm b o b1 b2 b3 b4 e) (hm _ _ s1 s3 s4 s5 hS) ⟨fun t ht => ⟨(hG.above t ht).1, ?_⟩, hG.rise, fun j t hj => ?_⟩ hl ha)
    · have tm := hG.above t ht
      obtain ⟨j, hj⟩ := List.mem_iff_getElem?.mp ht
      obtain ⟨x, y, e1, e2, e3⟩ := hG.pairs j t hj
      exact Heap.lt_size (hm _ _ (Nat.ne_of_gt (Nat.lt_trans zS tm.1)) (Nat.ne_of_gt (Nat.lt_trans TOS tm.1)) (Nat.ne_of_gt (Nat.lt_trans i1S tm.1)) (Nat.ne_of_gt (Nat.lt_trans i2S tm.1)) e3)
    · obtain ⟨x, y, e1, e2, e3⟩ := hG.pairs j t hj
      have tm := hG.above t (List.mem_of_getElem? hj)
      exact ⟨x, y, e1, e2, hm _ _ (Nat.ne_of_gt (Nat.lt_trans zS tm.1)) (Nat.ne_of_gt (Nat.lt_trans TOS tm.1)) (Nat.ne_of_gt (Nat.lt_trans i1S tm.1)) (Nat.ne_of_gt (Nat.lt_trans i2S tm.1)) e3⟩
  | succ k ih =>
    intro i s acc c as hk hi hst hS hG hl ha hR
    have hlt : i < n := by omega
    have ex : xs[i]? = some xs[i] := Array.getElem?_eq_getElem (by omega)
    have ey : ys[i]? = some ys[i] := Array.getElem?_eq_getElem (by omega)
    refine codeAny_builtin F.entry_extend_loop ?_
    rw [Around.under_plainId F.plain_extend_loop _]
    show wpAny _ A.in1 (pyNext (.ref z) >>= _) _ _ s
    refine wpAny_bind (zst_item D hst ex ey fun h' hst' hp hsz hm => ?_)
    have hS' := hm S _ s1 s3 s4 s5 hS
    have asz : acc.size = i := by
      have e := congrArg List.length ha
      rw [List.length_map, Array.length_toList] at e
      omega
    have Ssz := Heap.lt_size hS
    show wpAny _ A.in1 (updateSeq S (·.push (.ref s.heap.objs.size)) >>= _) _ _ _
    refine wpAny_bind ?_
    have oth : ∀ b o, b ≠ S → h'.get? b = some o → (h'.update S (Obj.mapSeq (·.push (Value.ref s.heap.objs.size)))).get? b = some o := fun b o hb e => (Heap.get?_update_other _ _ (Ne.symm hb)).trans e
    have usz : (h'.update S (Obj.mapSeq (·.push (Value.ref s.heap.objs.size)))).objs.size = h'.objs.size := by
      first
      | exact Heap.size_update ..
      | simp [Heap.update]
    refine wpAny_updateSeq hS' rfl (wpAny_pure ⟨plainId_quiet F.plain_extend_loop _, ih (i + 1) _ (acc.push (.ref s.heap.objs.size)) _ (as ++ [s.heap.objs.size]) (by omega) hlt ?_ (Heap.get?_update_self _ hS' rfl) ⟨?_, ?_, ?_⟩ (by rw [List.length_append, hl]; rfl) (by simp [ha]) fun h'' acc'' c'' as'' hm'' hS'' hG'' hl'' ha'' => ?_⟩)
      (by rw [asz]; omega) (by show (acc.push _).size ≤ sizeLine + 1; rw [Array.size_push, asz]; omega)
    · obtain ⟨hz, hTI, ⟨a, b, hTO⟩, h1, h2, hl1, hl2⟩ := hst'
      refine ⟨?_, oth _ _ s2.symm hTI, ⟨a, b, oth _ _ s3.symm hTO⟩, h1.at fun o e => oth _ o s4.symm e, h2.at fun o e => oth _ o s5.symm e, hl1.at fun o e => oth _ o s6.symm e, hl2.at fun o e => oth _ o s7.symm e⟩
      rcases hz with hz | ⟨T, f, oT, hz, hT, t1, t2, t3⟩
      · exact .inl (oth _ _ s1.symm hz)
      · by_cases hTS : T = S
        · subst hTS
          exact .inr ⟨T, f, _, oth _ _ s1.symm hz, Heap.get?_update_self _ hS' rfl, t1, t2, t3⟩
        · exact .inr ⟨T, f, oT, oth _ _ s1.symm hz, oth _ _ hTS hT, t1, t2, t3⟩
    · intro t ht
      rw [usz]
      rcases List.mem_append.mp ht with ht | ht
      · have := hG.above t ht
        exact ⟨this.1, Nat.lt_trans this.2 hsz⟩
      · rw [List.mem_singleton.mp ht]
        exact ⟨Ssz, hsz⟩
    · refine List.pairwise_append.mpr ⟨hG.rise, List.pairwise_singleton _ _, fun a ha b hb => ?_⟩
      rw [List.mem_singleton.mp hb]
      exact (hG.above a ha).2
    · intro j t hj
      by_cases hji : j < i
      · rw [List.getElem?_append_left (by omega)] at hj
        obtain ⟨x, y, e1, e2, e3⟩ := hG.pairs j t hj
        have tm := hG.above t (List.mem_of_getElem? hj)
        exact ⟨x, y, e1, e2, oth _ _ (Nat.ne_of_gt tm.1) (hm _ _ (Nat.ne_of_gt (Nat.lt_trans zS tm.1)) (Nat.ne_of_gt (Nat.lt_trans TOS tm.1)) (Nat.ne_of_gt (Nat.lt_trans i1S tm.1)) (Nat.ne_of_gt (Nat.lt_trans i2S tm.1)) e3)⟩
      · have hj0 := (List.getElem?_eq_some_iff.mp hj).1
        rw [List.length_append, hl] at hj0
        have hj1 : j = i := by
          have : [s.heap.objs.size].length = 1 := rfl
          omega
        subst hj1
        rw [List.getElem?_append_right (by omega), hl, Nat.sub_self] at hj
        obtain rfl : s.heap.objs.size = t := Option.some.inj hj
        exact ⟨_, _, ex, ey, oth _ _ (Nat.ne_of_gt Ssz) hp⟩
    · exact hR h'' acc'' c'' as'' (fun b o b0 b1 b2 b3 b4 e => hm'' b o b0 b1 b2 b3 b4 (oth b o b0 (hm b o b1 b2 b3 b4 e))) hS'' hG'' hl'' ha''
theorem zip_no_len : typeLookup (.type "zip") "__len__" = pure none := by rw [typeLookup_type, builtinLookup_eq_fast]; kernel_rfl
theorem zip_no_hint : typeLookup (.type "zip") "__length_hint__" = pure none := by rw [typeLookup_type, builtinLookup_eq_fast]; kernel_rfl
theorem ZSt.at {h h' : Heap} {z TI TO i1 i2 l1 l2 S : Addr} {xs ys : Array Value} (hz : ZSt h z TI TO i1 i2 l1 l2 xs ys 0) (h0 : IsZip h z TI TO .none) (s1 : S ≠ z) (s2 : S ≠ TI) (s3 : S ≠ TO) (s4 : S ≠ i1) (s5 : S ≠ i2) (s6 : S ≠ l1) (s7 : S ≠ l2)
    (oth : ∀ b o, b ≠ S → h.get? b = some o → h'.get? b = some o) : ZSt h' z TI TO i1 i2 l1 l2 xs ys 0 ∧ IsZip h' z TI TO .none := by
  obtain ⟨_, hTI, ⟨a, b, hTO⟩, h1, h2, hl1, hl2⟩ := hz
  have hz' := oth _ _ s1.symm h0
  exact ⟨⟨.inl hz', oth _ _ s2.symm hTI, ⟨a, b, oth _ _ s3.symm hTO⟩, h1.at fun o e => oth _ o s4.symm e, h2.at fun o e => oth _ o s5.symm e, hl1.at fun o e => oth _ o s6.symm e, hl2.at fun o e => oth _ o s7.symm e⟩, hz'⟩
theorem extend_zip {z TI TO i1 i2 l1 l2 S : Addr} {xs ys : Array Value} {n c₀ : Nat} {R : Result → Shared → Prop} {s : Shared} (hh : A.in1.handled = none) (D : ZipApart z TI TO i1 i2 l1 l2) (hx : xs.size = n) (hy : ys.size = n) (hn : n ≤ sizeLine)
    (s1 : S ≠ z) (s2 : S ≠ TI) (s3 : S ≠ TO) (s4 : S ≠ i1) (s5 : S ≠ i2) (s6 : S ≠ l1) (s7 : S ≠ l2) (zS : z < S) (TOS : TO < S) (i1S : i1 < S) (i2S : i2 < S)
    (hst : ZSt s.heap z TI TO i1 i2 l1 l2 xs ys 0) (h0 : IsZip s.heap z TI TO .none) (hS : s.heap.get? S = some { cls := .type "list", dict := none, data := .seq #[] c₀, slots := #[] })
    (hR : ∀ h' acc' c' as', (∀ b o, b ≠ S → b ≠ z → b ≠ TO → b ≠ i1 → b ≠ i2 → s.heap.get? b = some o → h'.get? b = some o) → h'.get? S = some { cls := .type "list", dict := none, data := .seq acc' c', slots := #[] } → ZG h' S xs ys as' → as'.length = n → acc'.toList = as'.map Value.ref → R (.ok (.ret .none)) { s with heap := h' }) :
    wpAny (model prog w) A.in1 (Builtin.List.listExtendWith (.ref S) (.ref z) .none)
      (fun fin s' => match fin with | .done f => R (.ok f) s' | .again c' => c'.quiet = true ∧ codeAny (model prog w) A c' R s') (fun e s' => R (.error e) s') s := by
  have hT : s.TypeIs (.ref z) "zip" := ⟨_, h0, rfl⟩
  unfold Builtin.List.listExtendWith
  refine wpAny_bind (wpAny_typeOf hT ?_)
  have h1 : Builtin.List.listSameRef (.ref S) (.ref z) = false := by simp [Builtin.List.listSameRef, s1]
  have h2 : (Value.type "zip" == Value.type "list") = false := by decide
  have h3 : (Value.type "zip" == Value.type "tuple") = false := by decide
  simp only [h1, h2, h3, Bool.or_false, Bool.false_eq_true, if_false]
  refine wpAny_bind (wpAny_pyIter_zip h0 ?_)
  refine wpAny_bind (wpAny_holding ?_)
  unfold Builtin.List.listLengthHint
  refine wpAny_bind (wpAny_specialOf hT zip_no_len ?_)
  show wpAny _ A.in1 (specialOf (Value.ref z) (Str.ofString "__length_hint__") >>= _) _ _ _
  refine wpAny_bind (wpAny_specialOf hT zip_no_hint ?_)
  refine wpAny_pure ?_
  show wpAny _ A.in1 (rule "list.extend.makes-room" >>= fun _ => Builtin.List.listTouch (.ref S) >>= fun _ =>
    again (.builtin "list.extend.loop" ⟨[.ref S, .ref z, .none], []⟩)) _ _ _
  refine wpAny_bind (wpAny_rule ?_)
  refine wpAny_bind ?_
  show wpAny _ A.in1 (updateSeq S (·.push .none) >>= fun _ => updateSeq S (·.pop)) _ _ _
  refine wpAny_bind (wpAny_updateSeq hS rfl ?_)
  have hS₂ := Heap.get?_update_self (Obj.mapSeq (·.push Value.none)) hS rfl
  refine wpAny_updateSeq (hz := by seq_fits) hS₂ rfl ?_
  have hS₃ := Heap.get?_update_self (Obj.mapSeq (·.pop)) hS₂ rfl
  have oth : ∀ b o, b ≠ S → s.heap.get? b = some o → ((s.heap.update S (Obj.mapSeq (·.push Value.none))).update S (Obj.mapSeq (·.pop))).get? b = some o :=
    fun b o hb e => (Heap.get?_update_other _ _ (Ne.symm hb)).trans ((Heap.get?_update_other _ _ (Ne.symm hb)).trans e)
  obtain ⟨hst', h0'⟩ := hst.at h0 s1 s2 s3 s4 s5 s6 s7 oth
  refine wpAny_pure ⟨plainId_quiet F.plain_extend_loop _, zip_loop hh D hx hy hn s1 s2 s3 s4 s5 s6 s7 zS TOS i1S i2S n 0 _ _ _ [] rfl (Nat.zero_le _) hst' hS₃ ⟨fun t ht => (nomatch ht), .nil, fun j t hj => by simp at hj⟩ rfl rfl fun h' acc' c' as' hm hS' hG hl ha => ?_⟩
  exact hR h' acc' c' as' (fun b o b0 b1 b2 b3 b4 e => hm b o b0 b1 b2 b3 b4 (oth b o b0 e)) hS' hG hl ha
theorem call_list_zip {z TI TO i1 i2 l1 l2 : Addr} {xs ys : Array Value} {n : Nat} {Q : Value → Shared → Prop} {s : Shared} (hh : A.handled = none) (D : ZipApart z TI TO i1 i2 l1 l2) (hx : xs.size = n) (hy : ys.size = n) (hn : n ≤ sizeLine)
    (hst : ZSt s.heap z TI TO i1 i2 l1 l2 xs ys 0) (h0 : IsZip s.heap z TI TO .none)
    (hQ : ∀ h' acc' c' as', (∀ b o, b ≠ z → b ≠ TO → b ≠ i1 → b ≠ i2 → s.heap.get? b = some o → h'.get? b = some o) → h'.get? s.heap.objs.size = some { cls := .type "list", dict := none, data := .seq acc' c', slots := #[] } → ZG h' s.heap.objs.size xs ys as' → as'.length = n → acc'.toList = as'.map Value.ref → Q (.ref s.heap.objs.size) { s with heap := h' }) :
    wpAny (model prog w) A (call (.type "list") [.ref z]) Q E s := by
  have lt : ∀ {c o}, s.heap.get? c = some o → c < s.heap.objs.size := fun e => Heap.lt_size e
  have hst0 := hst
  obtain ⟨_, hTI, ⟨a, b, hTO⟩, h1, h2, hl1, hl2⟩ := hst0
  have z1 := lt h0
  have z2 := lt hTI
  have z3 := lt hTO
  have z4 : i1 < s.heap.objs.size := by obtain ⟨_, e, _⟩ := h1; exact lt e
  have z5 : i2 < s.heap.objs.size := by obtain ⟨_, e, _⟩ := h2; exact lt e
  have z6 : l1 < s.heap.objs.size := by obtain ⟨_, e, _⟩ := hl1; exact lt e
  have z7 : l2 < s.heap.objs.size := by obtain ⟨_, e, _⟩ := hl2; exact lt e
  refine callType_codes (Q₁ := fun obj s₁ => obj = .ref s.heap.objs.size ∧ s₁ = { s with heap := s.heap.push { cls := .type "list", data := .seq #[] } }) F.called_list (F.typeCall_list_1 _) F.entry_list_init
    (code_list_new _ ⟨rfl, rfl⟩) fun obj s₁ h₁ => ?_
  obtain ⟨rfl, rfl⟩ := h₁
  have hS : (s.heap.push { cls := .type "list", data := .seq #[] }).get? s.heap.objs.size = some { cls := .type "list", data := .seq #[] } := Heap.get?_push_size _ rfl
  refine ⟨⟨_, hS, rfl⟩, F.args_list_init_2 _ _, ?_⟩
  show wpAny _ A.in1.in1 (do let old ← Builtin.List.listItems (.ref s.heap.objs.size); Builtin.List.listUpdate (.ref s.heap.objs.size) (fun _ => #[]); letGo old.toList.reverse; Builtin.List.listExtendWith (.ref s.heap.objs.size) (.ref z) .none) _ _ _
  refine wpAny_bind ?_
  unfold Builtin.List.listItems
  refine wpAny_bind (wpAny_seqItems hS rfl (wpAny_pure ?_))
  show wpAny _ A.in1.in1 (updateSeq s.heap.objs.size (fun _ => #[]) >>= fun _ => letGo (#[] : Array Value).toList.reverse >>= fun _ => Builtin.List.listExtendWith (.ref s.heap.objs.size) (.ref z) .none) _ _ _
  refine wpAny_bind (wpAny_updateSeq hS rfl ?_)
  have hS₂ := Heap.get?_update_self (Obj.mapSeq (fun _ => (#[] : Array Value))) hS rfl
  have oth : ∀ b o, b ≠ s.heap.objs.size → s.heap.get? b = some o → ((s.heap.push { cls := .type "list", data := .seq #[] }).update s.heap.objs.size (Obj.mapSeq (fun _ => (#[] : Array Value)))).get? b = some o :=
    fun b o hb e => (Heap.get?_update_other _ _ (Ne.symm hb)).trans (Heap.get?_push_of_some _ e)
  refine wpAny_bind (wpAny_letGo ?_)
  obtain ⟨hst', h0'⟩ := hst.at h0 (Nat.ne_of_gt z1) (Nat.ne_of_gt z2) (Nat.ne_of_gt z3) (Nat.ne_of_gt z4) (Nat.ne_of_gt z5) (Nat.ne_of_gt z6) (Nat.ne_of_gt z7) oth
  refine extend_zip (A := A.in1) (R := wants (fun r s₂ => r = .none ∧ Q (.ref s.heap.objs.size) s₂) E) hh D hx hy hn (Nat.ne_of_gt z1) (Nat.ne_of_gt z2) (Nat.ne_of_gt z3) (Nat.ne_of_gt z4) (Nat.ne_of_gt z5) (Nat.ne_of_gt z6) (Nat.ne_of_gt z7) z1 z3 z4 z5 hst' h0' hS₂ fun h' acc' c' as' hm hS' hG hl ha => ?_
  exact ⟨rfl, hQ h' acc' c' as' (fun b o b1 b2 b3 b4 e => hm b o (Nat.ne_of_lt (Heap.lt_size e)) b1 b2 b3 b4 (oth b o (Nat.ne_of_lt (Heap.lt_size e)) e)) hS' hG hl ha⟩
end
/-! the rule -/
def putZ : Hp → List Addr → List (V × V) → Hp
  | H, a :: as, p :: ps => putZ (upd H a (.tup [p.1, p.2])) as ps
  | H, _, _ => H
theorem putZ_off {b : Addr} : ∀ (as : List Addr) (ps : List (V × V)) (H : Hp), b ∉ as → putZ H as ps b = H b
  | [], _, _, _ => rfl
  | _ :: _, [], _, _ => rfl
  | a :: as, p :: ps, H, h => by
    show putZ (upd H a (.tup [p.1, p.2])) as ps b = H b
    rw [putZ_off as ps _ (fun z => h (List.mem_cons_of_mem _ z)), upd_ne (fun z => h (by rw [z]; exact List.mem_cons_self))]
theorem putZ_at : ∀ (as : List Addr) (ps : List (V × V)) (H : Hp), as.length = ps.length → as.Nodup → Paired (fun (t : Addr) (p : V × V) => putZ H as ps t = some (.tup [p.1, p.2])) as ps
  | [], [], _, _, _ => .nil
  | [], _ :: _, _, h, _ => by cases h
  | _ :: _, [], _, h, _ => by cases h
  | a :: as, p :: ps, H, h, hn => by
    have hn' := List.nodup_cons.mp hn
    have ih := putZ_at as ps (upd H a (.tup [p.1, p.2])) (Nat.succ.inj h) hn'.2
    refine .cons ?_ ih
    show putZ (upd H a (.tup [p.1, p.2])) as ps a = some (.tup [p.1, p.2])
    rw [putZ_off as ps _ hn'.1, upd_same]
theorem valsAt : ∀ {xs : List V} {its : List Value}, Vals xs its → ∀ {i : Nat} {u : Value}, its[i]? = some u → ∃ x, xs[i]? = some x ∧ RelV x u
  | _, _, .nil, i, u, h => by cases h
  | _, _, .cons r t, 0, u, h => by
    obtain rfl := Option.some.inj h
    exact ⟨_, rfl, r⟩
  | _, _, .cons r t, i + 1, u, h => valsAt t h
def tLZip (K : PySem.W.Frag) (ta : TA) : TE := fun σ H Q => ta σ H fun vs H1 => ∃ a b xs ys, vs = [.ref a, .ref b] ∧ SqL K H1 a xs ∧ SqL K H1 b ys ∧ xs.length = ys.length ∧
  ∀ (H' : Hp) (p : Addr) (ts : List Addr), Same H1 H' → H' p = some (.lst (ts.map V.ref)) → Paired (fun (t : Addr) (q : V × V) => H' t = some (.tup [q.1, q.2])) ts (xs.zip ys) → Q (.ref p) H'
section
variable {X : Cx}
theorem zip_laid {pins : List (Addr × Obj)} {σ : L2.St} {H : Hp} {s : Shared} {h' : Heap} {tk : Nat} {S c : Addr} {xs ys : List V} {us ws : List Value} {acc : Array Value} {as : List Addr} (I : Inv X pins σ H s) (rx : Vals xs us) (ry : Vals ys ws) (hl : xs.length = ys.length) (hz : xs.length ≤ sizeLine)
    (hk : ∀ b o, s.heap.get? b = some o → h'.get? b = some o) (hS0 : s.heap.objs.size ≤ S) (hS : h'.get? S = some { cls := .type "list", dict := none, data := .seq acc c, slots := #[] }) (hla : as.length = xs.length) (hG : ZG h' S us.toArray ws.toArray as) (hacc : acc.toList = as.map Value.ref) :
    ∃ H' : Hp, Same H H' ∧ H' S = some (.lst (as.map V.ref)) ∧ Paired (fun (t : Addr) (q : V × V) => H' t = some (.tup [q.1, q.2])) as (xs.zip ys) ∧ Inv X pins σ H' { s with heap := h', toks := tk } := by
  have hSn : S ∉ as := fun z => Nat.lt_irrefl _ (hG.above _ z).1
  have nd : as.Nodup := List.Pairwise.imp (fun {a b} (h : a < b) => Nat.ne_of_lt h) hG.rise
  have new : ∀ t ∈ as, H t = none := fun t ht => I.hok.fresh (Nat.le_trans hS0 (Nat.le_of_lt (hG.above t ht).1))
  have newS : H S = none := I.hok.fresh hS0
  have zl : (xs.zip ys).length = xs.length := by rw [List.length_zip, ← hl, Nat.min_self]
  have atP := putZ_at as (xs.zip ys) (upd H S (.lst (as.map V.ref))) (by omega) nd
  have off : ∀ b, b ∉ as → b ≠ S → putZ (upd H S (.lst (as.map V.ref))) as (xs.zip ys) b = H b := fun b h1 h2 => by rw [putZ_off as _ _ h1, upd_ne h2]
  have low : ∀ b o, s.heap.get? b = some o → b ∉ as ∧ b ≠ S := fun b o e => ⟨fun z => absurd (Heap.lt_size e) (Nat.not_lt.mpr (Nat.le_trans hS0 (Nat.le_of_lt (hG.above b z).1))), Nat.ne_of_lt (Nat.lt_of_lt_of_le (Heap.lt_size e) hS0)⟩
  have kp : ∀ b u, H b = some u → (putZ (upd H S (.lst (as.map V.ref))) as (xs.zip ys)) b = some u := fun b u e => by
    rw [off b (fun z => by rw [new b z] at e; cases e) (fun z => by rw [z, newS] at e; cases e)]
    exact e
  have eS : putZ (upd H S (.lst (as.map V.ref))) as (xs.zip ys) S = some (.lst (as.map V.ref)) := by rw [putZ_off as _ _ hSn, upd_same]
  refine ⟨putZ (upd H S (.lst (as.map V.ref))) as (xs.zip ys), kp, eS, atP, ?_⟩
  refine I.call' (ch := []) rfl ⟨fun b o q _ _ _ => hk b o q, fun b o q _ _ _ => ⟨o.slots, hk b o q⟩, fun b o q n _ => ?_, fun b o q _ => ⟨o, hk b o q⟩, fun b xs q => kp b _ q, fun b o u q => kp b _ q, fun b ps q => ⟨#[], by rw [kp b _ q]; simp⟩⟩ (fun b u q => ?_) I.bare fun b z => by simp at z
  · obtain ⟨z1, z2⟩ := low b o q
    rw [off b z1 z2]
    exact n
  · by_cases hb : b ∈ as
    · obtain ⟨j, pk, e1, e2, e3⟩ := LiI.paired_ix atP hb
      rw [e3] at q
      cases q
      obtain ⟨x, y, f1, f2, f3⟩ := hG.pairs j b e1
      obtain ⟨vx, g1, g2⟩ := valsAt rx (show us[j]? = some x by simpa using f1)
      obtain ⟨vy, g3, g4⟩ := valsAt ry (show ws[j]? = some y by simpa using f2)
      have ez : (xs.zip ys)[j]? = some (vx, vy) := by
        rw [List.getElem?_zip_eq_some]
        exact ⟨g1, g3⟩
      obtain rfl : (vx, vy) = pk := Option.some.inj (ez.symm.trans e2)
      exact ⟨by show 2 ≤ sizeLine; decide, [x, y], .cons g2 (.cons g4 .nil), ⟨_, f3, rfl, _, rfl⟩⟩
    · by_cases hb2 : b = S
      · rw [hb2] at q ⊢
        rw [eS] at q
        cases q
        refine ⟨by rw [List.length_map]; omega, acc.toList, c, by rw [hacc]; exact LiI.vals_refs as, ?_⟩
        rw [Array.toArray_toList]
        exact hS
      · rw [off b hb hb2] at q
        exact (I.hok b u q).stay (fun d v _ y => hk d v y) (fun d y => kp d _ y) fun d xs y => kp d _ y
/-- list(zip(x, y)), two lists of one length -/
theorem pe_lzip {e e2 : Expr} {ta : TA} {p p2 pos pos2 : Pos} (hc : X.calm = true) (hg : Gl X "list") (hm : X.mg "list" = none) (hg2 : Gl X "zip") (hm2 : X.mg "zip" = none) (ha : PA X [e, e2] ta)
    (na : starEach [.Call (.Name "zip" p2) [e, e2] [] pos2] X.env = (false, eval (.Call (.Name "zip" p2) [e, e2] [] pos2) X.env) :: starEach [] X.env := by rfl)
    (hs : starEach [e, e2] X.env = (false, eval e X.env) :: starEach [e2] X.env := by rfl) (hpl : (backTo pos2 (starEach [e2] X.env)).any (·.1) = false := by rfl) :
    PE X (.Call (.Name "list" p) [.Call (.Name "zip" p2) [e, e2] [] pos2] [] pos) (tLZip X.K ta) := by
  refine ⟨fun pins s σ H Q I h => ?_⟩
  refine Call_ (ld_blt I hg hm boot_list (PyProof.Rows.callWith_type1 (args_cons ?_ na) na))
  refine Call_ (ld_blt I hg2 hm2 PyProof.Rows.boot_zip (PyProof.Rows.callWith_type1 (thn (ha.run pos2 pins s σ H _ I h) fun us s1 ⟨vs, H1, I1, r1, q1⟩ => ?_) hs hpl))
  obtain ⟨a, b, xs, ys, ex, hqx, hqy, hl, q⟩ := q1
  subst ex
  cases r1 with
  | cons r rr =>
    cases rr with
    | cons r' rr =>
      cases rr
      cases r
      cases r'
      obtain ⟨its, rv, p1, z1⟩ := I1.list hqx
      obtain ⟨its2, rv2, p2, z2⟩ := I1.list hqy
      have la : a < s1.heap.objs.size := p1.lt
      have lb : b < s1.heap.objs.size := p2.lt
      refine call_zip_2 p1.isList p2.isList fun h' hz hTI hTO h1 h2 hsz hk => args_nil ?_
      have hst : ZSt h' (s1.heap.objs.size + 4) (s1.heap.objs.size + 2) (s1.heap.objs.size + 3) s1.heap.objs.size (s1.heap.objs.size + 1) a b its.toArray its2.toArray 0 := ⟨.inl hz, hTI, ⟨_, _, hTO⟩, h1, h2, p1.isList.at fun o e => hk _ o e, p2.isList.at fun o e => hk _ o e⟩
      have e1 := rv.length
      have e2 := rv2.length
      refine call_list_zip (s := { s1 with heap := h' }) (n := xs.length) (I1.ok.hd hc) (PySem.W.ktu_apart s1.heap.objs.size a b la lb) (by simp; omega) (by simp; omega) z1 hst hz fun h'' acc c as hm hS hG hla hacc => ?_
      have ks : ∀ b o, s1.heap.get? b = some o → h''.get? b = some o := fun c o e => by
        have hlt := Heap.lt_size e
        exact hm c o (Nat.ne_of_lt (Nat.lt_of_lt_of_le hlt (Nat.le_add_right _ _))) (Nat.ne_of_lt (Nat.lt_of_lt_of_le hlt (Nat.le_add_right _ _))) (Nat.ne_of_lt hlt) (Nat.ne_of_lt (Nat.lt_of_lt_of_le hlt (Nat.le_add_right _ _))) (hk c o e)
      obtain ⟨H', k1, k2, k3, J⟩ := zip_laid (tk := s1.toks) I1 rv rv2 hl z1 ks (by show s1.heap.objs.size ≤ h'.objs.size; omega) hS hla hG hacc
      exact ⟨.ref _, H', J, rfl, q H' _ as k1 k2 k3⟩
end
end FT

/-! lots of pairs as data; type(x) of own objects -/
namespace FT
open PySem PySem.Spec PyProof.Rows L2
/-- a pair, as a tuple -/
def PrT (H : Hp) (x : V) (p : Nat × Nat) : Prop := ∃ t, x = .ref t ∧ H t = some (.tup [.int (p.1 : Int), .int (p.2 : Int)])
theorem PrT.keep {H H' : Hp} {x : V} {p : Nat × Nat} (h : PrT H x p) (s : Same H H') : PrT H' x p := by
  obtain ⟨t, e, q⟩ := h
  exact ⟨t, e, s _ _ q⟩
theorem PrT.i {H : Hp} {x : V} {p : Nat × Nat} (h : PrT H x p) : PrI H x p := by
  obtain ⟨t, e, q⟩ := h
  exact ⟨t, e, .inr q⟩
def dpr (p : Nat × Nat) : PyData := .tuple [.int (p.1 : Int), .int (p.2 : Int)]
def dprs (ps : MC.Pr) : List PyData := ps.map dpr
theorem dp_prs {K : PySem.W.Frag} {H : Hp} : ∀ {xs : List V} {ps : MC.Pr}, Paired (PrT H) xs ps → DpAll K H xs (dprs ps)
  | _, _, .nil => .nil
  | _, _, .cons ⟨t, e, h⟩ r => by
    subst e
    exact .cons (.tup (SqT.of h) (.cons (.int _) (.cons (.int _) .nil))) (dp_prs r)
theorem eqv_pr (p q : Nat × Nat) : PyData.eqv (dpr p) (dpr q) = decide (p = q) := by
  unfold dpr
  simp only [PyData.eqv, PyData.eqvAll]
  obtain ⟨a, b⟩ := p
  obtain ⟨c, d⟩ := q
  by_cases h1 : a = c <;> by_cases h2 : b = d <;> simp [h1, h2] <;> omega
theorem eqvAll_prs : ∀ ps qs : MC.Pr, PyData.eqvAll (dprs ps) (dprs qs) = decide (ps = qs)
  | [], [] => by simp [dprs, PyData.eqvAll]
  | [], q :: qs => by simp [dprs, PyData.eqvAll]
  | p :: ps, [] => by simp [dprs, PyData.eqvAll]
  | p :: ps, q :: qs => by
    have ih := eqvAll_prs ps qs
    unfold dprs at ih ⊢
    simp only [List.map_cons, PyData.eqvAll, ih, eqv_pr]
    by_cases h1 : p = q <;> by_cases h2 : ps = qs <;> simp [h1, h2]
theorem lay_prs : ∀ ps : MC.Pr, PyData.canLayAll0 (dprs ps) = true
  | [] => by simp [dprs, PyData.canLayAll0]
  | p :: ps => by
    have ih := lay_prs ps
    unfold dprs at ih ⊢
    simp only [List.map_cons, PyData.canLayAll0, ih, dpr, PyData.canLay0, Bool.and_self]
theorem depth_prs : ∀ ps : MC.Pr, PyData.depthAll (dprs ps) ≤ 1
  | [] => by simp [dprs, PyData.depthAll]
  | p :: ps => by
    have ih := depth_prs ps
    unfold dprs at ih ⊢
    simp only [List.map_cons, PyData.depthAll, dpr, PyData.depth]
    omega
theorem shaped_tps (ps : MC.Pr) : SeqAt.shaped (.tuple (dprs ps)) = true := by
  have := depth_prs ps
  unfold SeqAt.shaped
  simp only [PyData.canLay0, PyData.depth, lay_prs, Bool.true_and]
  exact decide_eq_true (by omega)
theorem shaped_lps (ps : MC.Pr) : SeqAt.shaped (.list (dprs ps)) = true := by
  have := depth_prs ps
  unfold SeqAt.shaped
  simp only [PyData.canLay0, PyData.depth, lay_prs, Bool.true_and]
  exact decide_eq_true (by omega)
theorem eqv_tps (ps qs : MC.Pr) : PyData.eqv (.tuple (dprs ps)) (.tuple (dprs qs)) = decide (ps = qs) := by
  simp only [PyData.eqv, eqvAll_prs]
theorem eqv_lps (ps qs : MC.Pr) : PyData.eqv (.list (dprs ps)) (.list (dprs qs)) = decide (ps = qs) := by
  simp only [PyData.eqv, eqvAll_prs]
section
variable {X : Cx}
/-- type(x), x an own object -/
def rTyO : List V → Hp → VK → Prop := fun xs H Q => ∃ a C dx fs, xs = [V.ref a] ∧ H a = some (.ins C dx fs) ∧ Q (.ref C) H
theorem call_typeO : CallR X (.type "type") rTyO := by
  intro pins s σ H xs us Q I r h
  obtain ⟨a, C, dx, fs, rfl, ha, q⟩ := h
  obtain ⟨u, rfl, ru⟩ := r.one
  cases (show u = Value.ref a from ru)
  obtain ⟨mA, J, _⟩ := ins_get I.hok ha
  obtain ⟨od, J, _⟩ := J.look
  exact PySem.W.kto_own J ⟨.ref C, H, I, rfl, q⟩
/-- x is x -/
theorem op_isSelf : OpR X (compareOp .Is) (fun x y H Q => ∃ a, x = .ref a ∧ y = .ref a ∧ Q (.bl true) H) := by
  intro pins s σ H x y v u Q I rx ry h
  obtain ⟨a, rfl, rfl, q⟩ := h
  cases (show v = Value.ref a from rx)
  cases (show u = Value.ref a from ry)
  exact wpAny_is_ref_self ⟨.bl true, H, I, rfl, q⟩
end
/-! texts of tuples -/
theorem joinL_leS {S : List Nat} {m : Nat} : ∀ ps : List (List Nat), (∀ p ∈ ps, p.length ≤ m) → (TL.joinL S ps).length ≤ ps.length * (m + S.length)
  | [], _ => Nat.zero_le _
  | [p], h => by
    have := h p List.mem_cons_self
    show p.length ≤ 1 * _
    omega
  | p :: q :: r, h => by
    have h1 := h p List.mem_cons_self
    have h2 := joinL_leS (S := S) (m := m) (q :: r) fun z hz => h z (List.mem_cons_of_mem _ hz)
    show (p ++ (S ++ TL.joinL S (q :: r))).length ≤ ((q :: r).length + 1) * _
    rw [List.length_append, List.length_append, Nat.succ_mul]
    omega
theorem tupleText_le {m : Nat} {ts : List Str} (h : ∀ t ∈ ts, t.length ≤ m) : (tupleText ts).length ≤ ts.length * (m + 2) + 3 := by
  unfold tupleText
  rw [strLen_append, strLen_append, TL.len_tl (Str.join ", " ts), TL.tl_join]
  have h1 := joinL_leS (S := TL.tl ", ") (m := m) (ts.map TL.tl) fun p hp => by
    obtain ⟨x, hx, rfl⟩ := List.mem_map.mp hp
    rw [← TL.len_tl]
    exact h x hx
  rw [List.length_map] at h1
  have e1 : (TL.tl ", ").length = 2 := rfl
  rw [e1] at h1
  have e2 : (("(" : Str)).length = 1 := rfl
  have e3 : Str.length (Str.ofString (if ts.length == 1 then ",)" else ")" : String)) ≤ 2 := by split <;> decide
  omega
theorem int13 {n : Nat} (h : n ≤ 13) : (Str.ofString (toString (n : Int))).length ≤ 2 := by
  have := List.all_eq_true.mp (show (List.range 14).all (fun n => decide ((Str.ofString (toString (n : Int))).length ≤ 2)) = true by decide +kernel) n (List.mem_range.mpr (by omega))
  exact of_decide_eq_true this
theorem log13' {n : Nat} (h : n ≤ 13) : ((n : Int)).natAbs.log2 < 1920 := by
  have := List.all_eq_true.mp (show (List.range 14).all (fun n => decide (((n : Int)).natAbs.log2 < 1920)) = true by decide +kernel) n (List.mem_range.mpr (by omega))
  exact of_decide_eq_true this
theorem show_pr {p : Nat × Nat} (h1 : p.1 ≤ 13) (h2 : p.2 ≤ 13) : (dpr p).shown.length ≤ 11 := by
  unfold dpr
  simp only [PyData.shown, PyData.shownAll]
  refine Nat.le_trans (tupleText_le (m := 2) fun t ht => ?_) (by show 2 * 4 + 3 ≤ 11; decide)
  rcases List.mem_cons.mp ht with rfl | ht
  · exact int13 h1
  · rw [List.mem_singleton.mp ht]
    exact int13 h2
theorem showable_prs : ∀ {ps : MC.Pr}, (∀ p ∈ ps, p.1 ≤ 13 ∧ p.2 ≤ 13) → PyData.showableAll (dprs ps) = true
  | [], _ => by simp [dprs, PyData.showableAll]
  | p :: ps, h => by
    obtain ⟨h1, h2⟩ := h p List.mem_cons_self
    have ih := showable_prs fun q hq => h q (List.mem_cons_of_mem _ hq)
    unfold dprs at ih ⊢
    simp only [List.map_cons, PyData.showableAll, ih, dpr, PyData.showable, Bool.and_true, Bool.and_eq_true, decide_eq_true_eq]
    exact ⟨log13' h1, log13' h2⟩
/-- the repr of a tuple of pairs, as a word -/
@[irreducible] def showP (ps : MC.Pr) : Str := (PyData.tuple (dprs ps)).shown
theorem rep_prs {K : PySem.W.Frag} {H : Hp} {q : Addr} {xs : List V} {ps : MC.Pr} {Q : VK} (h : H q = some (.tup xs)) (pp : Paired (PrT H) xs ps) (hb : ∀ p ∈ ps, p.1 ≤ 13 ∧ p.2 ≤ 13) (hl : ps.length ≤ 12) (k : Q (.str (showP ps)) H) : rRepr K [.ref q] H Q ∨ rReprD [.ref q] H Q := by
  unfold showP at k
  refine .inl ⟨_, .tuple (dprs ps), rfl, .tup (SqT.of h) (dp_prs pp), by simp only [PyData.showable, showable_prs hb], ?_, ?_, k⟩
  · have := depth_prs ps
    simp only [PyData.depth]
    omega
  · simp only [PyData.shown, shownAll_map]
    refine Nat.le_trans (tupleText_le (m := 11) fun t ht => ?_) ?_
    · obtain ⟨d, hd, rfl⟩ := List.mem_map.mp ht
      obtain ⟨p, hp, rfl⟩ := List.mem_map.mp hd
      exact show_pr (hb p hp).1 (hb p hp).2
    · unfold dprs
      rw [List.length_map, List.length_map]
      have : ps.length * (11 + 2) ≤ 12 * 13 := Nat.mul_le_mul_right _ hl
      have z : (200 : Nat) ≤ sizeLine := by decide
      omega
theorem showable_ints : ∀ {ns : List Nat}, (∀ n ∈ ns, n ≤ 13) → PyData.showableAll ((ns.map fun (n : Nat) => (n : Int)).map PyData.int) = true
  | [], _ => by simp [PyData.showableAll]
  | n :: ns, h => by
    have ih := showable_ints fun m hm => h m (List.mem_cons_of_mem _ hm)
    simp only [List.map_cons, PyData.showableAll, ih, PyData.showable, Bool.and_true, decide_eq_true_eq]
    exact log13' (h n List.mem_cons_self)
/-- the repr of a tuple of numbers -/
@[irreducible] def showN (ns : List Nat) : Str := (PyData.tuple ((ns.map fun (n : Nat) => (n : Int)).map PyData.int)).shown
theorem rep_nums {K : PySem.W.Frag} {H : Hp} {q : Addr} {ns : List Nat} {Q : VK} (h : H q = some (.tup (nv ns))) (hb : ∀ n ∈ ns, n ≤ 13) (hl : ns.length ≤ 100) (k : Q (.str (showN ns)) H) : rRepr K [.ref q] H Q ∨ rReprD [.ref q] H Q := by
  unfold showN at k
  refine .inl ⟨_, .tuple ((ns.map fun (n : Nat) => (n : Int)).map PyData.int), rfl, .tup (SqT.of h) (by rw [nv_ints]; exact dp_ints _), by simp only [PyData.showable, showable_ints hb], ?_, ?_, k⟩
  · simp only [PyData.depth, depthAll_ints]
    omega
  · simp only [PyData.shown, shownAll_map]
    refine Nat.le_trans (tupleText_le (m := 2) fun t ht => ?_) ?_
    · obtain ⟨d, hd, rfl⟩ := List.mem_map.mp ht
      obtain ⟨i, hi, rfl⟩ := List.mem_map.mp hd
      obtain ⟨n, hn, rfl⟩ := List.mem_map.mp hi
      simp only [PyData.shown]
      exact int13 (hb n hn)
    · rw [List.length_map, List.length_map, List.length_map]
      have : ns.length * (2 + 2) ≤ 100 * 4 := Nat.mul_le_mul_right _ hl
      have z : (500 : Nat) ≤ sizeLine := by decide
      omega
/-- list(x), x a list or a tuple -/
def rListOf (K : PySem.W.Frag) : List V → Hp → VK → Prop := fun xs H Q => ∃ p ys, xs = [V.ref p] ∧ (SqL K H p ys ∨ SqT K H p ys) ∧ ∀ l, H l = none → Q (.ref l) (upd H l (.lst ys))
end FT

/-! an own error caught by a name: isinstance and its fields -/
namespace FT
open PySem PySem.Spec PyProof.Rows L2
open LamX hiding takes0
/-- what isinstance asks of the class of a caught error -/
structure ExcF (K : PySem.W.Frag) (D : Addr) : Prop where
  cl : (PySem.W.clsIn K D).isSome = true
  ga : PySem.W.findIn K (.ref D) "__getattribute__" = some (some (.builtin "BaseException.__getattribute__"))
  gg : PySem.W.findIn K (.ref D) "__getattr__" = some none
  sb : PySem.W.subIn K (.ref D) (.type "BaseException") = some true
  ca : PySem.W.findIn K (.ref D) "__class__" = some (some (.builtin "object.__class__"))
  cn : PySem.W.specialIn K (.builtin "object.__class__") "__get__" = some (some (.builtin "getset_descriptor.__get__"))
  ct : PySem.W.takesIn K (.builtin "object.__class__") = some true
  cm : PySem.W.mroIn K D (.type "object") = some true
theorem inst_exc {X : Cx} {a D dd : Addr} {oe : Obj} {fs : List (Str × V)} {pins : List (Addr × Obj)} {σ : L2.St} {H : Hp} {s : Shared} (I : Inv X pins σ H s) (hget : s.heap.get? a = some oe) (hz : Zc (.ref D) (some dd) oe) (hf : ∃ vs, oe.data = .fields vs) (hd : H dd = some (.xd fs)) :
    ∃ od, PySem.W.InstAt s.heap a oe D (some od) := by
  obtain ⟨vs, hv⟩ := hf
  have hx : ObjOk X.prog X.w H s.heap dd (.xd fs) := I.hok dd _ hd
  obtain ⟨mA, hns, hr⟩ := hx
  obtain ⟨od, ho, hl⟩ := lookIn_ns hns
  refine ⟨od, hget, hz.1, ?_, ?_⟩
  · unfold PySem.W.notCls
    rw [hv] <;> rfl
  · rw [hz.2]
    exact ho
/-- isinstance(e, C), e the error that the suite holds -/
def rIsED (K : PySem.W.Frag) (D a : Addr) (cls : Value) (d : Option Addr) : List V → Hp → VK → Prop := fun xs H Q => ∃ (c : Addr) (b : Bool) (dd : Addr) (fs : List (Str × V)), xs = [.ref a, .ref c] ∧ cls = .ref D ∧ d = some dd ∧ H dd = some (.xd fs) ∧ PySem.W.kitOne K (.ref D) (.ref c) = some b ∧ Q (.bl b) H
theorem call_isED {X : Cx} {a D : Addr} {oe : Obj} {cls : Value} {d : Option Addr} {pn : List (Addr × Obj)} (C : ExcF X.K D) (hz : Zc cls d oe) (hf : ∃ vs, oe.data = .fields vs) : CallR (X.suite a ((a, oe) :: pn)) (.builtin "isinstance") (rIsED X.K D a cls d) := by
  intro pins s σ H xs us Q I r h
  obtain ⟨c, b, dd, fs, rfl, rfl, rfl, hd, e, q⟩ := h
  cases r with
  | cons rx rr =>
    cases rr with
    | cons rt rr =>
      cases rr
      cases rx
      cases rt
      obtain ⟨hget, _⟩ := I.pin (a, oe) (List.mem_append.mpr (.inl List.mem_cons_self))
      obtain ⟨od, J⟩ := inst_exc I hget hz hf hd
      exact PySem.W.kia_one (PySem.W.kitx_exc C.cl C.ga C.gg C.sb C.ca C.cn C.ct C.cm) I.kIn J e (fun z => nomatch z) fun tk => ⟨.bl b, H, I.kept (t' := tk) fun _ _ z => z, rfl, q⟩
theorem XT.excF {K : PySem.W.Frag} {mg : Str → Option Value} {x : Str} {C fI : Addr} {up : List Addr} {ns fs : List Str} (T : XT K mg x C fI up ns fs) : ExcF K C := by
  have e := T.oex
  refine ⟨?_, T.ga, T.gg, e.exC, T.ca, T.cn, T.ct, ?_⟩
  · obtain ⟨_, _, _, _, _, _, _, _, _, _, _, _, _, h⟩ := T.cls
    unfold PySem.W.clsIn
    rw [h]
    rfl
  · rw [T.mro, List.contains_cons]
    congr 1
    rw [ve_has, show PySem.HandSPX.veTail.contains (.type "object") = true by decide +kernel, Bool.or_true]
theorem XT.xfC {K : PySem.W.Frag} {mg : Str → Option Value} {x : Str} {C fI : Addr} {up : List Addr} {ns fs : List Str} (T : XT K mg x C fI up ns fs) : XfC K C := by
  have e := T.oex
  refine ⟨T.ga, T.gg, e.exC, ?_⟩
  obtain ⟨_, _, _, _, _, _, _, _, _, _, _, _, _, h⟩ := T.cls
  unfold PySem.W.hasDictIn PySem.W.clsIn
  rw [h]
  rfl
/-- told: heard = None; try: a() / except N as e: heard = e.f if isinstance(e, C) else ..; return heard -/
def TPart (C : Addr) (f : Str) : (XK → Hp → VK → Prop) → Hp → VK → Prop := fun tl H Q =>
  tl (fun cls d H' => cls = .ref C ∧ ∃ dd v fs, d = some dd ∧ H' dd = some (.xd fs) ∧ fs.lookup f = some v ∧ Q v H') H (fun _ H' => ∃ v, some (some V.non) = some (some v) ∧ Q v H')
end FT

namespace K04
open PySem PySem.Spec PyProof.Rows L2 FT
open LamX hiding takes0
def top (i : Nat) : Stmt := PySem.Challenge.pw_flowtells_k04_webs_made_and_kept.main.body.getD i (.Pass ⟨0, 0, 0, 0⟩)
def methN (i j : Nat) : Stmt := match top i with | .ClassDef _ _ _ b .. => b.getD j (.Pass ⟨0, 0, 0, 0⟩) | s => s
def meth (i : Nat) : Stmt := match top i with | .ClassDef _ _ _ b .. => b.headD (.Pass ⟨0, 0, 0, 0⟩) | s => s
abbrev s_is_integer : Stmt := top 1
abbrev s_is_within : Stmt := top 2
abbrev s_are_integers : Stmt := top 3
abbrev s_own_names : Stmt := top 9
abbrev s_joined : Stmt := top 10
abbrev s_names_of : Stmt := top 11
abbrev s_fixed : Stmt := top 13
abbrev s_items_of : Stmt := top 16
abbrev s_number_of : Stmt := top 17
abbrev s_item_at : Stmt := top 18
abbrev s_number_at : Stmt := top 19
abbrev s_read_colon : Stmt := top 20
abbrev s_read_end : Stmt := top 21
abbrev s_are_ties : Stmt := top 26
abbrev s_is_pair : Stmt := top 27
abbrev s_hang_together : Stmt := top 28
abbrev s_need_web : Stmt := top 29
abbrev s_bridges : Stmt := top 30
abbrev s_is_bridge : Stmt := top 31
abbrev s__law_loom : Stmt := top 33
abbrev s__law_thread : Stmt := top 34
abbrev s__law_choice : Stmt := top 35
abbrev s__law_web : Stmt := top 36
abbrev s__law_joined : Stmt := top 37
abbrev s__law_part : Stmt := top 38
abbrev s__law_kept_right : Stmt := top 39
abbrev s__law_equal_right : Stmt := top 40
abbrev s__law_bridges_right : Stmt := top 41
abbrev s_law : Stmt := top 42
abbrev s_init_BadWeb : Stmt := meth 6
abbrev s_init_BadText : Stmt := meth 7
abbrev s_Web___init__ : Stmt := methN 25 0
abbrev s_Web___eq__ : Stmt := methN 25 1
abbrev s_Web___str__ : Stmt := methN 25 2
abbrev s_Web_read : Stmt := methN 25 3
structure Ad where
  p_read : Addr
  k__law_bridges_right : Addr
  t__law_bridges_right : Addr
  k_law : Addr
  t_law : Addr
  c_Web : Addr
  a_is_integer : Addr
  d_is_integer : FuncData
  a_is_within : Addr
  d_is_within : FuncData
  a_are_integers : Addr
  d_are_integers : FuncData
  a_own_names : Addr
  d_own_names : FuncData
  a_joined : Addr
  d_joined : FuncData
  a_names_of : Addr
  d_names_of : FuncData
  a_fixed : Addr
  d_fixed : FuncData
  a_items_of : Addr
  d_items_of : FuncData
  a_number_of : Addr
  d_number_of : FuncData
  a_item_at : Addr
  d_item_at : FuncData
  a_number_at : Addr
  d_number_at : FuncData
  a_read_colon : Addr
  d_read_colon : FuncData
  a_read_end : Addr
  d_read_end : FuncData
  a_are_ties : Addr
  d_are_ties : FuncData
  a_is_pair : Addr
  d_is_pair : FuncData
  a_hang_together : Addr
  d_hang_together : FuncData
  a_need_web : Addr
  d_need_web : FuncData
  a_bridges : Addr
  d_bridges : FuncData
  a_is_bridge : Addr
  d_is_bridge : FuncData
  a__law_loom : Addr
  d__law_loom : FuncData
  a__law_thread : Addr
  d__law_thread : FuncData
  a__law_choice : Addr
  d__law_choice : FuncData
  a__law_web : Addr
  d__law_web : FuncData
  a__law_joined : Addr
  d__law_joined : FuncData
  a__law_part : Addr
  d__law_part : FuncData
  a__law_kept_right : Addr
  d__law_kept_right : FuncData
  a__law_equal_right : Addr
  d__law_equal_right : FuncData
  a__law_bridges_right : Addr
  d__law_bridges_right : FuncData
  a_law : Addr
  d_law : FuncData
  a_Web___init__ : Addr
  d_Web___init__ : FuncData
  a_Web___eq__ : Addr
  d_Web___eq__ : FuncData
  a_Web___str__ : Addr
  d_Web___str__ : FuncData
  a_Web_read : Addr
  d_Web_read : FuncData
  c_NetError : Addr
  c_BadWeb : Addr
  c_BadText : Addr
  i_BadWeb : Addr
  d_init_BadWeb : FuncData
  i_BadText : Addr
  d_init_BadText : FuncData
  t_MOST_DIGITS : Tok
  t_MOST_PLACES : Tok
  t_MOST_TIES : Tok
abbrev N_is_integer : List Str := ["value"]
abbrev P_is_integer : List Str := ["value"]
theorem sc_is_integer : FnScope N_is_integer P_is_integer (defScope s_is_integer) := ⟨rfl, rfl, rfl, by decide +kernel, rfl, by decide +kernel, by decide +kernel⟩
abbrev N_is_within : List Str := ["value", "least", "most"]
abbrev P_is_within : List Str := ["value", "least", "most"]
theorem sc_is_within : FnScope N_is_within P_is_within (defScope s_is_within) := ⟨rfl, rfl, rfl, by decide +kernel, rfl, by decide +kernel, by decide +kernel⟩
abbrev N_are_integers : List Str := ["value", "item"]
abbrev P_are_integers : List Str := ["value"]
theorem sc_are_integers : FnScope N_are_integers P_are_integers (defScope s_are_integers) := ⟨rfl, rfl, rfl, by decide +kernel, rfl, by decide +kernel, by decide +kernel⟩
abbrev N_own_names : List Str := ["many"]
abbrev P_own_names : List Str := ["many"]
theorem sc_own_names : FnScope N_own_names P_own_names (defScope s_own_names) := ⟨rfl, rfl, rfl, by decide +kernel, rfl, by decide +kernel, by decide +kernel⟩
abbrev N_joined : List Str := ["names", "one", "other", "low", "high", "name"]
abbrev P_joined : List Str := ["names", "one", "other"]
theorem sc_joined : FnScope N_joined P_joined (defScope s_joined) := ⟨rfl, rfl, rfl, by decide +kernel, rfl, by decide +kernel, by decide +kernel⟩
abbrev N_names_of : List Str := ["many", "pairs", "names", "one", "other"]
abbrev P_names_of : List Str := ["many", "pairs"]
theorem sc_names_of : FnScope N_names_of P_names_of (defScope s_names_of) := ⟨rfl, rfl, rfl, by decide +kernel, rfl, by decide +kernel, by decide +kernel⟩
abbrev N_fixed : List Str := ["value", "item"]
abbrev P_fixed : List Str := ["value"]
theorem sc_fixed : FnScope N_fixed P_fixed (defScope s_fixed) := ⟨rfl, rfl, rfl, by decide +kernel, rfl, by decide +kernel, by decide +kernel⟩
abbrev N_items_of : List Str := ["text"]
abbrev P_items_of : List Str := ["text"]
theorem sc_items_of : FnScope N_items_of P_items_of (defScope s_items_of) := ⟨rfl, rfl, rfl, by decide +kernel, rfl, by decide +kernel, by decide +kernel⟩
abbrev N_number_of : List Str := ["item", "digits"]
abbrev P_number_of : List Str := ["item"]
theorem sc_number_of : FnScope N_number_of P_number_of (defScope s_number_of) := ⟨rfl, rfl, rfl, by decide +kernel, rfl, by decide +kernel, by decide +kernel⟩
abbrev N_item_at : List Str := ["items", "index"]
abbrev P_item_at : List Str := ["items", "index"]
theorem sc_item_at : FnScope N_item_at P_item_at (defScope s_item_at) := ⟨rfl, rfl, rfl, by decide +kernel, rfl, by decide +kernel, by decide +kernel⟩
abbrev N_number_at : List Str := ["items", "index", "least", "most", "number"]
abbrev P_number_at : List Str := ["items", "index", "least", "most"]
theorem sc_number_at : FnScope N_number_at P_number_at (defScope s_number_at) := ⟨rfl, rfl, rfl, by decide +kernel, rfl, by decide +kernel, by decide +kernel⟩
abbrev N_read_colon : List Str := ["items", "index"]
abbrev P_read_colon : List Str := ["items", "index"]
theorem sc_read_colon : FnScope N_read_colon P_read_colon (defScope s_read_colon) := ⟨rfl, rfl, rfl, by decide +kernel, rfl, by decide +kernel, by decide +kernel⟩
abbrev N_read_end : List Str := ["items", "index"]
abbrev P_read_end : List Str := ["items", "index"]
theorem sc_read_end : FnScope N_read_end P_read_end (defScope s_read_end) := ⟨rfl, rfl, rfl, by decide +kernel, rfl, by decide +kernel, by decide +kernel⟩
abbrev N_are_ties : List Str := ["places", "value", "pair"]
abbrev P_are_ties : List Str := ["places", "value"]
theorem sc_are_ties : FnScope N_are_ties P_are_ties (defScope s_are_ties) := ⟨rfl, rfl, rfl, by decide +kernel, rfl, by decide +kernel, by decide +kernel⟩
abbrev N_is_pair : List Str := ["places", "value", "end"]
abbrev P_is_pair : List Str := ["places", "value"]
theorem sc_is_pair : FnScope N_is_pair P_is_pair (defScope s_is_pair) := ⟨rfl, rfl, rfl, by decide +kernel, rfl, by decide +kernel, by decide +kernel⟩
abbrev N_hang_together : List Str := ["places", "ties"]
abbrev P_hang_together : List Str := ["places", "ties"]
theorem sc_hang_together : FnScope N_hang_together P_hang_together (defScope s_hang_together) := ⟨rfl, rfl, rfl, by decide +kernel, rfl, by decide +kernel, by decide +kernel⟩
abbrev N_need_web : List Str := ["value", "part"]
abbrev P_need_web : List Str := ["value", "part"]
theorem sc_need_web : FnScope N_need_web P_need_web (defScope s_need_web) := ⟨rfl, rfl, rfl, by decide +kernel, rfl, by decide +kernel, by decide +kernel⟩
abbrev N_bridges : List Str := ["web", "tie"]
abbrev P_bridges : List Str := ["web"]
theorem sc_bridges : FnScope N_bridges P_bridges (defScope s_bridges) := ⟨rfl, rfl, rfl, by decide +kernel, rfl, by decide +kernel, by decide +kernel⟩
abbrev N_is_bridge : List Str := ["web", "tie", "one", "other", "names"]
abbrev P_is_bridge : List Str := ["web", "tie"]
theorem sc_is_bridge : FnScope N_is_bridge P_is_bridge (defScope s_is_bridge) := ⟨rfl, rfl, rfl, by decide +kernel, rfl, by decide +kernel, by decide +kernel⟩
abbrev N__law_loom : List Str := ["script", "cell"]
abbrev P__law_loom : List Str := ["script"]
theorem sc__law_loom : FnScope N__law_loom P__law_loom (defScope s__law_loom) := ⟨rfl, rfl, rfl, by decide +kernel, rfl, by decide +kernel, by decide +kernel⟩
abbrev N__law_thread : List Str := ["loom", "many", "left", "turn", "cell", "mixed"]
abbrev P__law_thread : List Str := ["loom", "many"]
theorem sc__law_thread : FnScope N__law_thread P__law_thread (defScope s__law_thread) := ⟨rfl, rfl, rfl, by decide +kernel, rfl, by decide +kernel, by decide +kernel⟩
abbrev N__law_choice : List Str := ["loom", "some"]
abbrev P__law_choice : List Str := ["loom", "some"]
theorem sc__law_choice : FnScope N__law_choice P__law_choice (defScope s__law_choice) := ⟨rfl, rfl, rfl, by decide +kernel, rfl, by decide +kernel, by decide +kernel⟩
abbrev N__law_web : List Str := ["loom", "places", "way", "ties", "place", "early", "turn", "left", "found"]
abbrev P__law_web : List Str := ["loom"]
theorem sc__law_web : FnScope N__law_web P__law_web (defScope s__law_web) := ⟨rfl, rfl, rfl, by decide +kernel, rfl, by decide +kernel, by decide +kernel⟩
abbrev N__law_joined : List Str := ["places", "ties", "least", "turn", "one", "other", "low"]
abbrev P__law_joined : List Str := ["places", "ties"]
theorem sc__law_joined : FnScope N__law_joined P__law_joined (defScope s__law_joined) := ⟨rfl, rfl, rfl, by decide +kernel, rfl, by decide +kernel, by decide +kernel⟩
abbrev N__law_part : List Str := ["ask", "heard", "error"]
abbrev P__law_part : List Str := ["ask"]
theorem sc__law_part : FnScope N__law_part P__law_part (defScope s__law_part) := ⟨rfl, rfl, rfl, by decide +kernel, rfl, by decide +kernel, by decide +kernel⟩
abbrev N__law_kept_right : List Str := ["loom", "places", "ties", "passed", "web", "due", "words", "one", "other", "ends", "again"]
abbrev P__law_kept_right : List Str := ["loom", "places", "ties"]
theorem sc__law_kept_right : FnScope N__law_kept_right P__law_kept_right (defScope s__law_kept_right) := ⟨rfl, rfl, rfl, by decide +kernel, rfl, by decide +kernel, by decide +kernel⟩
abbrev N__law_equal_right : List Str := ["loom", "places", "ties", "web", "at", "spot", "back", "swapped", "more", "ends"]
abbrev P__law_equal_right : List Str := ["loom", "places", "ties"]
theorem sc__law_equal_right : FnScope N__law_equal_right P__law_equal_right (defScope s__law_equal_right) := ⟨rfl, rfl, rfl, by decide +kernel, rfl, by decide +kernel, by decide +kernel⟩
abbrev N__law_bridges_right : List Str := ["loom", "places", "ties", "found", "at", "less", "due"]
abbrev P__law_bridges_right : List Str := ["loom", "places", "ties"]
theorem sc__law_bridges_right : FnScope N__law_bridges_right P__law_bridges_right (defScope s__law_bridges_right) := ⟨rfl, rfl, rfl, by decide +kernel, rfl, by decide +kernel, by decide +kernel⟩
abbrev N_law : List Str := ["script", "loom", "turn", "places", "ties", "row", "long", "place"]
abbrev P_law : List Str := ["script"]
theorem sc_law : FnScope N_law P_law (defScope s_law) := ⟨rfl, rfl, rfl, by decide +kernel, rfl, by decide +kernel, by decide +kernel⟩
abbrev N_Web___init__ : List Str := ["self", "places", "ties"]
abbrev P_Web___init__ : List Str := ["self", "places", "ties"]
theorem sc_Web___init__ : FnScope N_Web___init__ P_Web___init__ (defScope s_Web___init__) := ⟨rfl, rfl, rfl, by decide +kernel, rfl, by decide +kernel, by decide +kernel⟩
abbrev N_Web___eq__ : List Str := ["self", "other"]
abbrev P_Web___eq__ : List Str := ["self", "other"]
theorem sc_Web___eq__ : FnScope N_Web___eq__ P_Web___eq__ (defScope s_Web___eq__) := ⟨rfl, rfl, rfl, by decide +kernel, rfl, by decide +kernel, by decide +kernel⟩
abbrev N_Web___str__ : List Str := ["self", "pair", "end"]
abbrev P_Web___str__ : List Str := ["self"]
theorem sc_Web___str__ : FnScope N_Web___str__ P_Web___str__ (defScope s_Web___str__) := ⟨rfl, rfl, rfl, by decide +kernel, rfl, by decide +kernel, by decide +kernel⟩
abbrev N_Web_read : List Str := ["text", "items", "places", "behind", "ends", "index"]
abbrev P_Web_read : List Str := ["text"]
theorem sc_Web_read : FnScope N_Web_read P_Web_read (defScope s_Web_read) := ⟨rfl, rfl, rfl, by decide +kernel, rfl, by decide +kernel, by decide +kernel⟩
abbrev N_init_BadWeb : List Str := ["self", "part"]
abbrev P_init_BadWeb : List Str := ["self", "part"]
theorem sc_init_BadWeb : FnScope N_init_BadWeb P_init_BadWeb (defScope s_init_BadWeb) := ⟨rfl, rfl, rfl, by decide +kernel, rfl, by decide +kernel, by decide +kernel⟩
abbrev N_init_BadText : List Str := ["self", "line", "item"]
abbrev P_init_BadText : List Str := ["self", "line", "item"]
theorem sc_init_BadText : FnScope N_init_BadText P_init_BadText (defScope s_init_BadText) := ⟨rfl, rfl, rfl, by decide +kernel, rfl, by decide +kernel, by decide +kernel⟩
structure Txt (P : Program) (K : PySem.W.Frag) (mg : Str → Option Value) (A : Ad) : Prop where
  g_is_integer : mg "is_integer" = some (.ref A.a_is_integer)
  F_is_integer : Fun K "is_integer" "is_integer" s_is_integer A.a_is_integer A.d_is_integer
  b_is_integer : Binds K A.d_is_integer P_is_integer []
  g_is_within : mg "is_within" = some (.ref A.a_is_within)
  F_is_within : Fun K "is_within" "is_within" s_is_within A.a_is_within A.d_is_within
  b_is_within : Binds K A.d_is_within P_is_within []
  g_are_integers : mg "are_integers" = some (.ref A.a_are_integers)
  F_are_integers : Fun K "are_integers" "are_integers" s_are_integers A.a_are_integers A.d_are_integers
  b_are_integers : Binds K A.d_are_integers P_are_integers []
  g_own_names : mg "own_names" = some (.ref A.a_own_names)
  F_own_names : Fun K "own_names" "own_names" s_own_names A.a_own_names A.d_own_names
  b_own_names : Binds K A.d_own_names P_own_names []
  g_joined : mg "joined" = some (.ref A.a_joined)
  F_joined : Fun K "joined" "joined" s_joined A.a_joined A.d_joined
  b_joined : Binds K A.d_joined P_joined []
  g_names_of : mg "names_of" = some (.ref A.a_names_of)
  F_names_of : Fun K "names_of" "names_of" s_names_of A.a_names_of A.d_names_of
  b_names_of : Binds K A.d_names_of P_names_of []
  g_fixed : mg "fixed" = some (.ref A.a_fixed)
  F_fixed : Fun K "fixed" "fixed" s_fixed A.a_fixed A.d_fixed
  b_fixed : Binds K A.d_fixed P_fixed []
  g_items_of : mg "items_of" = some (.ref A.a_items_of)
  F_items_of : Fun K "items_of" "items_of" s_items_of A.a_items_of A.d_items_of
  b_items_of : Binds K A.d_items_of P_items_of []
  g_number_of : mg "number_of" = some (.ref A.a_number_of)
  F_number_of : Fun K "number_of" "number_of" s_number_of A.a_number_of A.d_number_of
  b_number_of : Binds K A.d_number_of P_number_of []
  g_item_at : mg "item_at" = some (.ref A.a_item_at)
  F_item_at : Fun K "item_at" "item_at" s_item_at A.a_item_at A.d_item_at
  b_item_at : Binds K A.d_item_at P_item_at []
  g_number_at : mg "number_at" = some (.ref A.a_number_at)
  F_number_at : Fun K "number_at" "number_at" s_number_at A.a_number_at A.d_number_at
  b_number_at : Binds K A.d_number_at P_number_at []
  g_read_colon : mg "read_colon" = some (.ref A.a_read_colon)
  F_read_colon : Fun K "read_colon" "read_colon" s_read_colon A.a_read_colon A.d_read_colon
  b_read_colon : Binds K A.d_read_colon P_read_colon []
  g_read_end : mg "read_end" = some (.ref A.a_read_end)
  F_read_end : Fun K "read_end" "read_end" s_read_end A.a_read_end A.d_read_end
  b_read_end : Binds K A.d_read_end P_read_end []
  g_are_ties : mg "are_ties" = some (.ref A.a_are_ties)
  F_are_ties : Fun K "are_ties" "are_ties" s_are_ties A.a_are_ties A.d_are_ties
  b_are_ties : Binds K A.d_are_ties P_are_ties []
  g_is_pair : mg "is_pair" = some (.ref A.a_is_pair)
  F_is_pair : Fun K "is_pair" "is_pair" s_is_pair A.a_is_pair A.d_is_pair
  b_is_pair : Binds K A.d_is_pair P_is_pair []
  g_hang_together : mg "hang_together" = some (.ref A.a_hang_together)
  F_hang_together : Fun K "hang_together" "hang_together" s_hang_together A.a_hang_together A.d_hang_together
  b_hang_together : Binds K A.d_hang_together P_hang_together []
  g_need_web : mg "need_web" = some (.ref A.a_need_web)
  F_need_web : Fun K "need_web" "need_web" s_need_web A.a_need_web A.d_need_web
  b_need_web : Binds K A.d_need_web P_need_web []
  g_bridges : mg "bridges" = some (.ref A.a_bridges)
  F_bridges : Fun K "bridges" "bridges" s_bridges A.a_bridges A.d_bridges
  b_bridges : Binds K A.d_bridges P_bridges []
  g_is_bridge : mg "is_bridge" = some (.ref A.a_is_bridge)
  F_is_bridge : Fun K "is_bridge" "is_bridge" s_is_bridge A.a_is_bridge A.d_is_bridge
  b_is_bridge : Binds K A.d_is_bridge P_is_bridge []
  g__law_loom : mg "_law_loom" = some (.ref A.a__law_loom)
  F__law_loom : Fun K "_law_loom" "_law_loom" s__law_loom A.a__law_loom A.d__law_loom
  b__law_loom : Binds K A.d__law_loom P__law_loom []
  g__law_thread : mg "_law_thread" = some (.ref A.a__law_thread)
  F__law_thread : Fun K "_law_thread" "_law_thread" s__law_thread A.a__law_thread A.d__law_thread
  b__law_thread : Binds K A.d__law_thread P__law_thread []
  g__law_choice : mg "_law_choice" = some (.ref A.a__law_choice)
  F__law_choice : Fun K "_law_choice" "_law_choice" s__law_choice A.a__law_choice A.d__law_choice
  b__law_choice : Binds K A.d__law_choice P__law_choice []
  g__law_web : mg "_law_web" = some (.ref A.a__law_web)
  F__law_web : Fun K "_law_web" "_law_web" s__law_web A.a__law_web A.d__law_web
  b__law_web : Binds K A.d__law_web P__law_web []
  g__law_joined : mg "_law_joined" = some (.ref A.a__law_joined)
  F__law_joined : Fun K "_law_joined" "_law_joined" s__law_joined A.a__law_joined A.d__law_joined
  b__law_joined : Binds K A.d__law_joined P__law_joined []
  g__law_part : mg "_law_part" = some (.ref A.a__law_part)
  F__law_part : Fun K "_law_part" "_law_part" s__law_part A.a__law_part A.d__law_part
  b__law_part : Binds K A.d__law_part P__law_part []
  g__law_kept_right : mg "_law_kept_right" = some (.ref A.a__law_kept_right)
  F__law_kept_right : Fun K "_law_kept_right" "_law_kept_right" s__law_kept_right A.a__law_kept_right A.d__law_kept_right
  b__law_kept_right : Binds K A.d__law_kept_right P__law_kept_right []
  g__law_equal_right : mg "_law_equal_right" = some (.ref A.a__law_equal_right)
  F__law_equal_right : Fun K "_law_equal_right" "_law_equal_right" s__law_equal_right A.a__law_equal_right A.d__law_equal_right
  b__law_equal_right : Binds K A.d__law_equal_right P__law_equal_right []
  g__law_bridges_right : mg "_law_bridges_right" = some (.ref A.a__law_bridges_right)
  F__law_bridges_right : FunC K "_law_bridges_right" "_law_bridges_right" s__law_bridges_right A.a__law_bridges_right A.d__law_bridges_right A.k__law_bridges_right
  b__law_bridges_right : Binds K A.d__law_bridges_right P__law_bridges_right []
  g_law : mg "law" = some (.ref A.a_law)
  F_law : FunC K "law" "law" s_law A.a_law A.d_law A.k_law
  b_law : Binds K A.d_law P_law []
  g_Web : mg "Web" = some (.ref A.c_Web)
  M_Web : Mk K A.c_Web A.a_Web___init__
  K_Web : Cls K A.c_Web
  I_Web : IsO K A.c_Web
  N_Web_places : NoAttr K A.c_Web "places"
  N_Web_ties : NoAttr K A.c_Web "ties"
  F_Web___init__ : Fun K "__init__" "Web.__init__" s_Web___init__ A.a_Web___init__ A.d_Web___init__
  b_Web___init__ : Binds K A.d_Web___init__ P_Web___init__ []
  F_Web___eq__ : Fun K "__eq__" "Web.__eq__" s_Web___eq__ A.a_Web___eq__ A.d_Web___eq__
  b_Web___eq__ : Binds K A.d_Web___eq__ P_Web___eq__ []
  F_Web___str__ : Fun K "__str__" "Web.__str__" s_Web___str__ A.a_Web___str__ A.d_Web___str__
  b_Web___str__ : Binds K A.d_Web___str__ P_Web___str__ []
  F_Web_read : Fun K "read" "Web.read" s_Web_read A.a_Web_read A.d_Web_read
  b_Web_read : Binds K A.d_Web_read P_Web_read []
  C_NetError : Cn K mg A.c_NetError "NetError"
  X_BadWeb : XT K mg "BadWeb" A.c_BadWeb A.i_BadWeb [A.c_NetError] ["NetError"] ["part"]
  F_init_BadWeb : Fun K "__init__" "BadWeb.__init__" s_init_BadWeb A.i_BadWeb A.d_init_BadWeb
  b_init_BadWeb : Binds K A.d_init_BadWeb P_init_BadWeb []
  X_BadText : XT K mg "BadText" A.c_BadText A.i_BadText [A.c_NetError] ["NetError"] ["line", "item"]
  F_init_BadText : Fun K "__init__" "BadText.__init__" s_init_BadText A.i_BadText A.d_init_BadText
  b_init_BadText : Binds K A.d_init_BadText P_init_BadText []
  m_MOST_DIGITS : mg "MOST_DIGITS" = some (.int 60 A.t_MOST_DIGITS)
  m_MOST_PLACES : mg "MOST_PLACES" = some (.int 13 A.t_MOST_PLACES)
  m_MOST_TIES : mg "MOST_TIES" = some (.int 12 A.t_MOST_TIES)
  n_abs : mg "abs" = none
  n_all : mg "all" = none
  n_any : mg "any" = none
  n_bool : mg "bool" = none
  n_int : mg "int" = none
  n_isinstance : mg "isinstance" = none
  n_len : mg "len" = none
  n_list : mg "list" = none
  n_max : mg "max" = none
  n_min : mg "min" = none
  n_range : mg "range" = none
  n_repr : mg "repr" = none
  n_str : mg "str" = none
  n_tuple : mg "tuple" = none
  n_type : mg "type" = none
  n_zip : mg "zip" = none
  S_read : SMet K A.c_Web "read" A.p_read A.a_Web_read
  O_eq : OEq K A.c_Web A.a_Web___eq__
  O_l : PySem.W.notFirst K A.c_Web (.type "list") = true
  O_t : PySem.W.notFirst K A.c_Web (.type "tuple") = true
  O_s : PySem.W.findIn K (.ref A.c_Web) "__str__" = some (some (.ref A.a_Web___str__))
  O_f : PySem.W.isFn K (.ref A.a_Web___str__) = true
  Z_l : PySem.W.kitOne K (.type "list") (.ref A.c_Web) = some false
  Z_t : PySem.W.kitOne K (.type "tuple") (.ref A.c_Web) = some false
  E_1 : PySem.W.subIn K (.ref A.c_NetError) (.type "BaseException") = some true
  E_2 : PySem.W.hasDictIn K A.c_NetError = true
  E_3 : PySem.W.typeIn K (.ref A.c_NetError) = some (.type "type")
  E_4 : PySem.W.subIn K (.ref A.c_BadWeb) (.ref A.c_NetError) = some true
section
variable {P : Program} {w : World} {K : PySem.W.Frag} {mg : Str → Option Value} {base : Heap} {A : Ad}
/-! ### checks -/
def sp_isint : Sp := fun vs H Q _ => ∃ v, vs = [v] ∧ OkV H v ∧ Q (.bl (isI v)) H
theorem G_is_integer (T : Txt P K mg A) : FnG P w K mg base CX0 1 A.a_is_integer A.d_is_integer P_is_integer sp_isint := by
  refine okG T.F_is_integer sc_is_integer (fun vs H Q E h => ?_) (fun cdv A0 outer s H vs Q E hr h => ?_)
  · obtain ⟨v, rfl, _⟩ := h
    rfl
  obtain ⟨v, rfl, ok, k⟩ := h
  obtain ⟨T1, ty, k1, k2, _⟩ := kindV (K := K) ok
  refine ⟨_, (pss_one (ps_ret (pe_and (pe_callB call_isi (by rfl) T.n_isinstance (by decide +kernel) (pa_cons (pv 0) (pa_cons (pe_bltn (v := .ty "int") (u := .type "int") (by rfl) T.n_int (by decide +kernel) rfl) pa_nil))) (pe_one (pe_not (pe_callB call_isi (by rfl) T.n_isinstance (by decide +kernel) (pa_cons (pv 0) (pa_cons (pe_bltn (v := .ty "bool") (u := .type "bool") (by rfl) T.n_bool (by decide +kernel) rfl) pa_nil)))))))), ?_⟩
  refine ⟨_, rfl, _, _, _, _, _, rfl, .ty "int", ty, kit_ty k1, _, rfl, ite2 (fun e => ?_) (fun e => ?_)⟩
  · refine ⟨_, rfl, _, _, _, _, _, rfl, .ty "bool", ty, kit_ty k2, _, rfl, ?_⟩
    have z : (!isB v) = isI v := by cases v <;> first | rfl | (simp [isI, isB] at e)
    rw [← z] at k
    exact k
  · have z : isI v = false := by cases v <;> first | rfl | (simp [isI, isB] at e)
    rw [z] at k
    exact k
def Bd : V → Prop
  | .non => True
  | .int _ => True
  | _ => False
def inLo (v lo : V) : Bool := match lo, v with
  | .int a, .int i => decide (a ≤ i)
  | _, _ => true
def inHi (v hi : V) : Bool := match hi, v with
  | .int b, .int i => decide (i ≤ b)
  | _, _ => true
def sp_within : Sp := fun vs H Q _ => ∃ v lo hi, vs = [v, lo, hi] ∧ OkV H v ∧ Bd lo ∧ Bd hi ∧ Q (.bl (isI v && (inLo v lo && inHi v hi))) H
theorem G_is_within (T : Txt P K mg A) : FnG P w K mg base CX0 2 A.a_is_within A.d_is_within P_is_within sp_within := by
  refine okG T.F_is_within sc_is_within (fun vs H Q E h => ?_) (fun cdv A0 outer s H vs Q E hr h => ?_)
  · obtain ⟨v, lo, hi, rfl, _⟩ := h
    rfl
  obtain ⟨v, lo, hi, rfl, ok, bl, bh, k⟩ := h
  refine ⟨_, (pss_cons (ps_if (pt_not (pt_val (pe_callG (G_is_integer T) (hr.mono (by decide)) rfl T.g_is_integer T.F_is_integer.kp T.b_is_integer .nil pass0 (pa_cons (pv 0) pa_nil)))) (pss_one (ps_ret pe_bl)) pss_nil)
      (pss_cons (ps_if (PW.pt (pw_and (pt_cmpR op_notN (pv 1) pe_non (nomark _)) (pw_and1 (pt_cmpR op_lt (pv 0) (pv 1) (nomark _))))) (pss_one (ps_ret pe_bl)) pss_nil)
      (pss_one (ps_ret (pe_or (pe_cmpR op_isN (pv 2) pe_non (nomark _)) (pe_one (pe_cmpR op_le (pv 0) (pv 2) (nomark _)))))))), ?_⟩
  refine ⟨_, rfl, _, rfl, ok, _, rfl, ite2 (fun e => ?_) (fun e => ?_)⟩
  · have z : isI v = false := by
      cases h : isI v with
      | false => rfl
      | true =>
        rw [h] at e
        cases e
    rw [z] at k
    exact k
  · cases v with
    | int i =>
      have last : inLo (.int i) lo = true → tRet (tOrV (tOp (fun x y H Q => y = V.non ∧ Q (.bl (decide (x = V.non))) H) (tVar 2) (tC .non)) (tOp (rI0 fun i j => .bl (decide (i ≤ j))) (tVar 0) (tVar 2)))
          { nx := fun _ H' => Q .non H', rt := Q } (start N_is_within [V.int i, lo, hi]) H := by
        intro hz
        rw [hz] at k
        cases hi with
        | non =>
          refine ⟨_, rfl, rfl, _, rfl, iteT ?_⟩
          exact k
        | int b =>
          refine ⟨_, rfl, rfl, _, rfl, iteF ?_⟩
          refine ⟨_, rfl, _, rfl, _, _, rfl, rfl, ?_⟩
          exact k
        | _ => exact bh.elim
      cases lo with
      | non => exact ⟨_, rfl, rfl, _, rfl, iteF (iteF (last rfl))⟩
      | int a =>
        refine ⟨_, rfl, rfl, _, rfl, iteT ⟨_, rfl, _, rfl, _, _, rfl, rfl, _, rfl, ite2 (fun e => ?_) (fun e => ?_)⟩⟩
        · have z : inLo (.int i) (.int a) = false := decide_eq_false (by have := of_decide_eq_true e; omega)
          rw [z] at k
          exact k
        · exact last (decide_eq_true (by
            have : ¬ i < a := fun q => e (decide_eq_true q)
            omega))
      | _ => exact bl.elim
    | _ => exact absurd rfl e
/-- what are_integers says of a value -/
def areI (H : Hp) : V → Bool
  | .ref a => match H a with
    | some (.lst xs) => xs.all isI
    | some (.tup xs) => xs.all isI
    | _ => false
  | _ => false
def sp_areint : Sp := fun vs H Q _ => ∃ v, vs = [v] ∧ OkV H v ∧ (∀ a xs, v = .ref a → (H a = some (.lst xs) ∨ H a = some (.tup xs)) → xs.length ≤ 1000 ∧ ∀ x ∈ xs, OkV H x) ∧ ∀ H', Same H H' → Q (.bl (areI H v)) H'
theorem all_take {xs : List V} {i : Nat} {x : V} (h : xs[i]? = some x) : (xs.take i).map isI ++ [isI x] = (xs.take (i + 1)).map isI := by
  rw [List.take_succ, h]
  simp
theorem G_are_integers (T : Txt P K mg A) : FnG P w K mg base CX0 2 A.a_are_integers A.d_are_integers P_are_integers sp_areint := by
  refine okG T.F_are_integers sc_are_integers (fun vs H Q E h => ?_) (fun cdv A0 outer s H vs Q E hr h => ?_)
  · obtain ⟨v, rfl, _⟩ := h
    rfl
  obtain ⟨v, rfl, ok, it, k⟩ := h
  refine ⟨_, (pss_one (ps_ret (pe_and (pe_callB call_isiT (by rfl) T.n_isinstance (by decide +kernel) (pa_cons (pv 0) (pa_cons (pe_tup (pa_cons (pe_bltn (v := .ty "list") (u := .type "list") (by rfl) T.n_list (by decide +kernel) rfl) (pa_cons (pe_bltn (v := .ty "tuple") (u := .type "tuple") (by rfl) T.n_tuple (by decide +kernel) rfl) pa_nil))) pa_nil))) (pe_one (pe_callB (cr_all rfl) (by rfl) T.n_all (by decide +kernel) (pa_cons (pe_lc (own := [("item", 1)]) (g := gName 1) (tt := tYes) rfl sc_are_integers.nd (pi_seqV (pv 0)) (blkOk_by (N := N_are_integers) (sc := defScope s_are_integers) (by decide +kernel)) (fun _ _ _ _ _ => (pg_name (i := 1) sc_are_integers.nd rfl (Or.inl rfl))) (fun _ _ _ _ _ => pts_nil) (fun _ _ _ _ _ => (pe_callG (G_is_integer T) (hr.mono (by decide)) rfl T.g_is_integer T.F_is_integer.kp T.b_is_integer .nil pass0 (pa_cons (pv 1) pa_nil)))) pa_nil)))))), ?_⟩
  refine ⟨_, rfl, (by show 2 ≤ sizeLine; decide), fun p np => ?_⟩
  have ok2 : OkV (upd H p (.tup [.ty "list", .ty "tuple"])) v := ok.mono fun a o _ h => at_new h np
  obtain ⟨T1, ty, _, _, k3⟩ := kindV (K := K) ok2
  refine ⟨_, _, _, _, _, _, rfl, upd_same, .cons (.ty "list") (.cons (.ty "tuple") .nil), ty, k3, _, rfl, ite2 (fun e => ?_) (fun e => ?_)⟩
  · -- a list or a tuple
    obtain ⟨a, xs, rfl, hx, hz⟩ : ∃ a xs, v = .ref a ∧ (H a = some (.lst xs) ∨ H a = some (.tup xs)) ∧ areI H v = xs.all isI := by
      cases v with
      | ref a =>
        rcases ok with ⟨xs, h⟩ | ⟨xs, h⟩ | ⟨kvs, h⟩
        · exact ⟨a, xs, rfl, .inl h, by simp only [areI, h]⟩
        · exact ⟨a, xs, rfl, .inr h, by simp only [areI, h]⟩
        · have z : isLT (upd H p (.tup [.ty "list", .ty "tuple"])) (.ref a) = false := by simp only [isLT, at_new h np]
          rw [z] at e
          cases e
      | _ => cases e
    have sq : SqA K H a xs := by
      rcases hx with h | h
      · exact .inl (SqL.of h)
      · exact .inr (SqT.of h)
    obtain ⟨hlen, hok⟩ := it a xs rfl hx
    have hsome : ∃ o, H a = some o := by
      rcases hx with h | h <;> exact ⟨_, h⟩
    have s1 : Same H (upd H p (.tup [.ty "list", .ty "tuple"])) := Same.new (fun _ _ h => h) np
    have sq1 : SqA K (upd H p (.tup [.ty "list", .ty "tuple"])) a xs := by
      rcases hx with h | h
      · exact .inl (SqL.of (s1 _ _ h))
      · exact .inr (SqT.of (s1 _ _ h))
    refine ⟨_, rfl, a, rfl, seq_by sq1 fun J G W gG D hD => ?_⟩
    have s2 : Same H (upd (upd H p (.tup [.ty "list", .ty "tuple"])) D (.lst [])) := Same.new s1 hD
    have nD : H D = none := s1.free hD
    refine lc_it W (fun i H' => Same H H' ∧ H' D = some (.lst (((xs.take i).map isI).map V.bl))) ⟨s2, upd_same⟩ (fun i H' _ q => gG H' fun o h => ?_) ?_ ?_
    · obtain ⟨o', ho'⟩ := hsome
      have e1 := (s1 _ _ ho').symm.trans h
      rw [← e1]
      exact q.1 _ _ ho'
    · rintro i x H' _ hi ⟨s3, hD3⟩ ⟨rfl, hx'⟩
      refine ⟨rfl, tYes_of (iteT ⟨_, rfl, x, rfl, (hok x (List.mem_of_getElem? hx')).mono fun a o _ h => s3 _ _ h, _, hD3, by rw [List.length_map, List.length_map]; exact Nat.lt_of_le_of_lt (List.length_take_le _ _) (small1000 (by omega)), ?_, ?_⟩)⟩
      · intro b o h
        rw [upd_ne (ne_of_none h nD)]
        exact s3 _ _ h
      · rw [upd_same, ← all_take hx']
        simp
    · rintro H' ⟨s3, hD3⟩
      refine ⟨D, xs.map isI, rfl, ?_, ?_⟩
      · rw [List.take_of_length_le (Nat.le_refl _)] at hD3
        exact SqL.of hD3
      · have z : (xs.map isI).all id = xs.all isI := by simp [List.all_map]
        rw [z, ← hz]
        exact k _ s3
  · have z : areI H v = false := by
      cases v with
      | ref a =>
        rcases ok with ⟨xs, h⟩ | ⟨xs, h⟩ | ⟨kvs, h⟩
        · exact absurd (by simp only [isLT, at_new h np]) e
        · exact absurd (by simp only [isLT, at_new h np]) e
        · simp only [areI, h]
      | _ => rfl
    rw [z] at k
    exact k _ (Same.new (fun _ _ h => h) np)
/-! ### joins -/
def sp_own : Sp := fun vs H Q _ => ∃ n : Nat, vs = [.int (n : Int)] ∧ n ≤ 1000 ∧ ∀ q H', Same H H' → H' q = some (.lst (nv (List.range n))) → Q (.ref q) H'
theorem G_own_names (T : Txt P K mg A) : FnG P w K mg base CX0 1 A.a_own_names A.d_own_names P_own_names sp_own := by
  refine okG T.F_own_names sc_own_names (fun vs H Q E h => ?_) (fun cdv A0 outer s H vs Q E hr h => ?_)
  · obtain ⟨n, rfl, _⟩ := h
    rfl
  obtain ⟨n, rfl, hn, k⟩ := h
  refine ⟨_, (pss_one (ps_ret (pe_listRg rfl (by rfl) T.n_list (prg_1 (by rfl) T.n_range (pv 0))))), ?_⟩
  refine ⟨_, rfl, _, rfl, RgOk.of_le (Int.le_refl _) (by omega) (by decide) (by omega), fun q hq => ?_⟩
  rw [nv_range]
  exact k q _ (Same.new (fun _ _ h => h) hq) upd_same
def sp_joined (K : PySem.W.Frag) : Sp := fun vs H Q _ => ∃ (a : Addr) (ns : List Nat) (i j : Nat), vs = [.ref a, .int (i : Int), .int (j : Int)] ∧ H a = some (.lst (nv ns)) ∧ i < ns.length ∧ j < ns.length ∧ ns.length ≤ 900 ∧
  ∀ q H', Same H H' → H' q = some (.lst (nv (MC.jn ns i j))) → Q (.ref q) H'
theorem G_joined (T : Txt P K mg A) : FnG P w K mg base CX0 1 A.a_joined A.d_joined P_joined (sp_joined K) := by
  refine okG T.F_joined sc_joined (fun vs H Q E h => ?_) (fun cdv A0 outer s H vs Q E hr h => ?_)
  · obtain ⟨a, ns, i, j, rfl, _⟩ := h
    rfl
  obtain ⟨a, ns, i, j, rfl, ha, hi, hj, hl, k⟩ := h
  refine ⟨_, (pss_cons (ps_asg (pe_tup (pa_cons (pe_callB (call_min2 rfl) (by rfl) T.n_min (by decide +kernel) (pa_cons (pe_ix (r := rIxL K) ix_list (pv 0) (pv 1) (fun _ _ => rfl)) (pa_cons (pe_ix (r := rIxL K) ix_list (pv 0) (pv 2) (fun _ _ => rfl)) pa_nil))) (pa_cons (pe_callB (call_max2 rfl) (by rfl) T.n_max (by decide +kernel) (pa_cons (pe_ix (r := rIxL K) ix_list (pv 0) (pv 1) (fun _ _ => rfl)) (pa_cons (pe_ix (r := rIxL K) ix_list (pv 0) (pv 2) (fun _ _ => rfl)) pa_nil))) pa_nil))) (pg_tup rfl (pgs_cons (pg_name (i := 3) sc_joined.nd rfl (Or.inr rfl)) (pgs_cons (pg_name (i := 4) sc_joined.nd rfl (Or.inr rfl)) pgs_nil))))
      (pss_one (ps_ret (pe_lc (own := [("name", 5)]) (g := gName 5) (tt := tYes) rfl sc_joined.nd (pi_list (pv 0)) (blkOk_by (N := N_joined) (sc := defScope s_joined) (by decide +kernel)) (fun _ _ _ _ _ => (pg_name (i := 5) sc_joined.nd rfl (Or.inl rfl))) (fun _ _ _ _ _ => pts_nil) (fun _ _ _ _ _ => (pe_ifExp (pt_cmpR op_eq (pv 5) (pv 4) (nomark _)) (pv 3) (pv 5))))))), ?_⟩
  have ga : ∀ x : Nat, x < ns.length → atI (nv ns) (x : Int) = some (.int ((ns.getD x 0 : Nat) : Int)) := fun x hx => nv_at hx
  refine ⟨_, rfl, _, rfl, _, _, _, _, rfl, rfl, SqL.of ha, ga i hi, _, rfl, _, rfl, _, _, _, _, rfl, rfl, SqL.of ha, ga j hj, _, _, rfl, ?_⟩
  refine ⟨_, rfl, _, rfl, _, _, _, _, rfl, rfl, SqL.of ha, ga i hi, _, rfl, _, rfl, _, _, _, _, rfl, rfl, SqL.of ha, ga j hj, _, _, rfl, ?_⟩
  have elo : V.int (if ((ns.getD j 0 : Nat) : Int) < ((ns.getD i 0 : Nat) : Int) then ((ns.getD j 0 : Nat) : Int) else ((ns.getD i 0 : Nat) : Int)) = V.int ((min (ns.getD i 0) (ns.getD j 0) : Nat) : Int) := by
    congr 1
    split <;> omega
  have ehi : V.int (if ((ns.getD j 0 : Nat) : Int) > ((ns.getD i 0 : Nat) : Int) then ((ns.getD j 0 : Nat) : Int) else ((ns.getD i 0 : Nat) : Int)) = V.int ((max (ns.getD i 0) (ns.getD j 0) : Nat) : Int) := by
    congr 1
    split <;> omega
  rw [elo, ehi]
  refine ⟨by show 2 ≤ sizeLine; decide, fun p hp => ⟨p, _, rfl, SqT.of upd_same, rfl, _, _, rfl, _, _, rfl, rfl, ?_⟩⟩
  have s1 : Same H (upd H p (.tup [.int ((min (ns.getD i 0) (ns.getD j 0) : Nat) : Int), .int ((max (ns.getD i 0) (ns.getD j 0) : Nat) : Int)])) := Same.new (fun _ _ h => h) hp
  refine ⟨_, rfl, a, rfl, ⟨_, SqL.of (s1 _ _ ha)⟩, fun D hD => ?_⟩
  refine lc_list (K := K) (a := a) (xs := nv ns) (fun m H' => Same H H' ∧ H' D = some (.lst (nv ((ns.take m).map fun x => if x = max (ns.getD i 0) (ns.getD j 0) then min (ns.getD i 0) (ns.getD j 0) else x))))
    ⟨Same.new s1 hD, upd_same⟩ (fun m H' _ h => SqL.of (h.1 _ _ ha)) ?_ ?_
  · rintro m x H' hx ⟨s2, hD2⟩
    obtain ⟨z, hz, rfl⟩ : ∃ z : Nat, ns[m]? = some z ∧ x = V.int (z : Int) := by
      rw [List.getElem?_map] at hx
      cases e : ns[m]? with
      | none => rw [e] at hx; cases hx
      | some z => rw [e] at hx; exact ⟨z, rfl, (Option.some.inj hx).symm⟩
    have hm : m < ns.length := (List.getElem?_eq_some_iff.mp hz).1
    have fin : ∀ y : Nat, y = (if z = max (ns.getD i 0) (ns.getD j 0) then min (ns.getD i 0) (ns.getD j 0) else z) → ∃ acc, H' D = some (.lst acc) ∧ acc.length < sizeLine ∧ (Same H (upd H' D (.lst (acc ++ [V.int (y : Int)]))) ∧ (upd H' D (.lst (acc ++ [V.int (y : Int)]))) D = some (.lst (nv ((ns.take (m + 1)).map fun x => if x = max (ns.getD i 0) (ns.getD j 0) then min (ns.getD i 0) (ns.getD j 0) else x)))) := by
      rintro y rfl
      refine ⟨_, hD2, ?_, ?_, ?_⟩
      · rw [List.length_map, List.length_map, List.length_take]
        exact small1000 (by omega)
      · intro b o h
        rw [upd_ne (ne_of_none (s1 _ _ h) hD)]
        exact s2 _ _ h
      · rw [upd_same, List.take_succ, hz]
        simp
    refine ⟨rfl, tYes_of (iteT ⟨_, rfl, _, rfl, rfl, _, rfl, ite2 (fun e => ⟨_, rfl, ?_⟩) (fun e => ⟨_, rfl, ?_⟩)⟩)⟩
    · have e' : z = max (ns.getD i 0) (ns.getD j 0) := by
        have q := V.int.inj (of_decide_eq_true e)
        exact Int.ofNat.inj q
      exact fin _ (by rw [if_pos e'])
    · have e' : ¬ z = max (ns.getD i 0) (ns.getD j 0) := fun q => e (decide_eq_true (by rw [q]))
      exact fin _ (by rw [if_neg e'])
  · rintro H' ⟨s2, hD2⟩
    have e : (nv ns).length = ns.length := List.length_map _
    rw [e, List.take_of_length_le (Nat.le_refl _)] at hD2
    exact k _ _ s2 hD2
def sp_names (K : PySem.W.Frag) : Sp := fun vs H Q _ => ∃ (n : Nat) (a : Addr) (ps : MC.Pr), vs = [.int (n : Int), .ref a] ∧ n ≤ 900 ∧ PrsA H a ps ∧ MC.Below n ps ∧
  ∀ q H', Same H H' → H' q = some (.lst (nv (MC.names n ps))) → Q (.ref q) H'
theorem G_names_of (T : Txt P K mg A) : FnG P w K mg base CX0 2 A.a_names_of A.d_names_of P_names_of (sp_names K) := by
  refine okG T.F_names_of sc_names_of (fun vs H Q E h => ?_) (fun cdv A0 outer s H vs Q E hr h => ?_)
  · obtain ⟨n, a, ps, rfl, _⟩ := h
    rfl
  obtain ⟨n, a, ps, rfl, hn, ⟨xs, hx, hp⟩, hb, k⟩ := h
  obtain ⟨oa, ha⟩ := hx.has
  refine ⟨_, (pss_cons (ps_set (i := 2) sc_names_of.nd rfl (Or.inl rfl) (pe_callG (G_own_names T) (hr.mono (by decide)) rfl T.g_own_names T.F_own_names.kp T.b_own_names .nil pass0 (pa_cons (pv 0) pa_nil)))
      (pss_cons (ps_for PassesOwn.never rfl (pi_seqV (pv 1)) (pg_sq rfl (pgs_cons (pg_name (i := 3) sc_names_of.nd rfl (Or.inl rfl)) (pgs_cons (pg_name (i := 4) sc_names_of.nd rfl (Or.inl rfl)) pgs_nil))) (pss_one (ps_set (i := 2) sc_names_of.nd rfl (Or.inl rfl) (pe_callG (G_joined T) (hr.mono (by decide)) rfl T.g_joined T.F_joined.kp T.b_joined .nil pass0 (pa_cons (pv 2) (pa_cons (pv 3) (pa_cons (pv 4) pa_nil)))))))
      (pss_one (ps_ret (pv 2))))), ?_⟩
  refine ⟨_, rfl, n, rfl, by omega, fun q1 H1 s1 h1 => ?_⟩
  refine ⟨_, rfl, a, rfl, seq_by (hx.same s1).sq fun J G W gG => ?_⟩
  refine for_it W (fun i σ H' => Same H H' ∧ ∃ (q : Addr) (u1 u2 : Option V), σ = [some (.int (n : Int)), some (.ref a), some (.ref q), u1, u2] ∧ H' q = some (.lst (nv ((ps.take i).foldl (fun ns p => MC.jn ns p.1 p.2) (List.range n)))))
    ⟨s1, q1, none, none, rfl, h1⟩ (fun i σ H' _ h => gG H' fun o e => ?_) ?_ ?_
  · have e1 := (s1 _ _ ha).symm.trans e
    rw [← e1]
    exact h.1 _ _ ha
  · rintro i x σ H' _ hi ⟨s2, q, u1, u2, rfl, hq⟩ ⟨rfl, hx'⟩
    obtain ⟨p, hpi, pr⟩ := paired_get hp hx'
    obtain ⟨t, rfl, ht⟩ := pr.same s2
    obtain ⟨b1, b2⟩ := hb p (List.mem_of_getElem? hpi)
    have bt : MC.Below n (ps.take i) := fun p m => hb p (List.mem_of_mem_take m)
    have nm := MC.names_nm bt
    have hl : ((ps.take i).foldl (fun ns p => MC.jn ns p.1 p.2) (List.range n)).length = n := nm.len
    refine ⟨t, _, rfl, ht.sq, rfl, _, _, rfl, _, _, rfl, rfl, ?_⟩
    refine ⟨_, rfl, _, rfl, _, rfl, q, _, p.1, p.2, rfl, hq, by rw [hl]; exact b1, by rw [hl]; exact b2, by rw [hl]; exact hn, fun q3 H3 s3 h3 => ?_⟩
    refine ⟨s2.trans s3, q3, _, _, rfl, ?_⟩
    rw [List.take_succ, hpi]
    simp only [Option.toList_some, List.foldl_append, List.foldl_cons, List.foldl_nil]
    exact h3
  · rintro σ H' ⟨s2, q, u1, u2, rfl, hq⟩
    have hl : ps.length = xs.length := (Paired.length hp).symm
    rw [List.take_of_length_le (by omega)] at hq
    exact ⟨_, rfl, k _ _ s2 hq⟩
/-- whether all hang together, by the law's own walk -/
def sp_lj (K : PySem.W.Frag) : Sp := fun vs H Q _ => ∃ (n : Nat) (a : Addr) (ps : MC.Pr), vs = [.int (n : Int), .ref a] ∧ 1 ≤ n ∧ n ≤ 900 ∧ PrsA H a ps ∧ MC.Below n ps ∧ ∀ H', Same H H' → Q (.bl (hang n ps)) H'
theorem nv_max {ns : List Nat} {m : Int} (h1 : m ∈ ns.map fun (n : Nat) => (n : Int)) (h2 : ∀ y, y ∈ (ns.map fun (n : Nat) => (n : Int)) → y ≤ m) : (m = 0 ↔ ∀ x ∈ ns, x = 0) := by
  constructor
  · intro e x hx
    have := h2 _ (List.mem_map_of_mem (f := fun (n : Nat) => (n : Int)) hx)
    omega
  · intro z
    obtain ⟨x, hx, e⟩ := List.mem_map.mp h1
    have := z x hx
    omega
theorem ixN_at {n j : Nat} (hj : j < n) : ixN n (j : Int) = some j := by
  unfold ixN
  rw [if_pos (by omega), if_pos (by omega)]
  simp
theorem rnds_succ (ps : MC.Pr) : ∀ (k : Nat) (ls : List Nat), MC.rnds ps (k + 1) ls = MC.rnd ps (MC.rnds ps k ls)
  | 0, _ => rfl
  | k + 1, ls => rnds_succ ps k (MC.rnd ps ls)
theorem G__law_joined (T : Txt P K mg A) : FnG P w K mg base CX0 1 A.a__law_joined A.d__law_joined P__law_joined (sp_lj K) := by
  refine okG T.F__law_joined sc__law_joined (fun vs H Q E h => ?_) (fun cdv A0 outer s H vs Q E hr h => ?_)
  · obtain ⟨n, a, ps, rfl, _⟩ := h
    rfl
  obtain ⟨n, a, ps, rfl, h1, hn, ⟨xs, hx, hp⟩, hb, k⟩ := h
  obtain ⟨oa, ha⟩ := hx.has
  refine ⟨_, (pss_cons (ps_set (i := 2) sc__law_joined.nd rfl (Or.inl rfl) (pe_listRg rfl (by rfl) T.n_list (prg_1 (by rfl) T.n_range (pv 0))))
      (pss_cons (ps_for PassesOwn.never rfl (pi_range1 (by rfl) T.n_range (pa_cons (pv 0) pa_nil)) (pg_name (i := 3) sc__law_joined.nd rfl (Or.inl rfl)) (pss_one (ps_for PassesOwn.never rfl (pi_seqV (pv 1)) (pg_sq rfl (pgs_cons (pg_name (i := 4) sc__law_joined.nd rfl (Or.inl rfl)) (pgs_cons (pg_name (i := 5) sc__law_joined.nd rfl (Or.inl rfl)) pgs_nil))) (pss_cons (ps_set (i := 6) sc__law_joined.nd rfl (Or.inl rfl) (pe_callB (call_min2 rfl) (by rfl) T.n_min (by decide +kernel) (pa_cons (pe_ix (r := rIxL K) ix_list (pv 2) (pv 4) (fun _ _ => rfl)) (pa_cons (pe_ix (r := rIxL K) ix_list (pv 2) (pv 5) (fun _ _ => rfl)) pa_nil))))
      (pss_cons (ps_asg (pv 6) (pg_sub (pv 2) (pv 4) set_list))
      (pss_one (ps_asg (pv 6) (pg_sub (pv 2) (pv 5) set_list))))))))
      (pss_one (ps_ret (pe_cmpR op_eq (pe_callB (cr_max rfl) (by rfl) T.n_max (by decide +kernel) (pa_cons (pv 2) pa_nil)) pe_int (nomark _)))))), ?_⟩
  refine ⟨_, rfl, _, rfl, RgOk.of_le (Int.le_refl _) (by omega) (by decide) (by omega), fun q hq => ?_⟩
  rw [nv_range]
  have s1 : Same H (upd H q (.lst (nv (List.range n)))) := Same.new (fun _ _ h => h) hq
  have pl : ps.length = xs.length := (Paired.length hp).symm
  have l0 : MC.Ls n ps (List.range n) := ⟨List.length_range, fun x hx => by rw [MC.getD_range hx]; exact ⟨hx, .refl _⟩⟩
  have lk : ∀ i, MC.Ls n ps (MC.rnds ps i (List.range n)) := fun i => (MC.rnds_spec hb i _ l0 (MC.getD_range (by omega))).1
  refine ⟨_, rfl, _, rfl, by omega, by omega, for_range (lo := 0) (n := (n : Int).toNat) (fun i σ H' => Same H H' ∧ (∃ u1 u2 u3 u4 : Option V, σ = [some (.int (n : Int)), some (.ref a), some (.ref q), u1, u2, u3, u4]) ∧ H' q = some (.lst (nv (MC.rnds ps i (List.range n)))))
    ⟨s1, ⟨none, none, none, none, rfl⟩, upd_same⟩ ?_ ?_⟩
  · rintro i σ H' hi ⟨s2, ⟨u1, u2, u3, u4, rfl⟩, hq2⟩
    have li := lk i
    have es := rnds_succ ps i (List.range n)
    generalize MC.rnds ps i (List.range n) = ls at hq2 li es
    have e0 : ∀ i, MC.Ls n ps ((ps.take i).foldl MC.rnd1 ls) := fun i => MC.Ls.fold hb _ ls li fun p m => List.mem_of_mem_take m
    refine ⟨_, rfl, a, rfl, seq_by (hx.same s2).sq fun J G W gG => ?_⟩
    refine for_it W (fun j σ H'' => Same H H'' ∧ (∃ u2 u3 u4 : Option V, σ = [some (.int (n : Int)), some (.ref a), some (.ref q), some (.int (0 + (i : Int))), u2, u3, u4]) ∧ H'' q = some (.lst (nv ((ps.take j).foldl MC.rnd1 ls))))
      ⟨s2, ⟨_, _, _, rfl⟩, hq2⟩ (fun j σ H'' _ h => gG H'' fun o e => ?_) ?_ ?_
    · have e1 := (s2 _ _ ha).symm.trans e
      rw [← e1]
      exact h.1 _ _ ha
    · rintro j x σ H'' _ hj ⟨s3, ⟨v2, v3, v4, rfl⟩, hq3⟩ ⟨rfl, hx'⟩
      obtain ⟨p, hpi, pr⟩ := paired_get hp hx'
      obtain ⟨t, rfl, ht⟩ := pr.same s3
      obtain ⟨b1, b2⟩ := hb p (List.mem_of_getElem? hpi)
      have lj := (e0 j).len
      have et : (ps.take (j + 1)).foldl MC.rnd1 ls = MC.rnd1 ((ps.take j).foldl MC.rnd1 ls) p := by
        rw [List.take_succ, hpi]
        simp only [Option.toList_some, List.foldl_append, List.foldl_cons, List.foldl_nil]
      rw [et]
      generalize (ps.take j).foldl MC.rnd1 ls = ms at hq3 lj
      have g1 := nv_at (ns := ms) (i := p.1) (by rw [lj]; exact b1)
      have g2 := nv_at (ns := ms) (i := p.2) (by rw [lj]; exact b2)
      refine ⟨t, _, rfl, ht.sq, rfl, _, _, rfl, _, _, rfl, rfl, ?_⟩
      refine ⟨_, rfl, _, rfl, _, _, _, _, rfl, rfl, SqL.of hq3, g1, _, rfl, _, rfl, _, _, _, _, rfl, rfl, SqL.of hq3, g2, _, _, rfl, ?_⟩
      have elo : V.int (if ((ms.getD p.2 0 : Nat) : Int) < ((ms.getD p.1 0 : Nat) : Int) then ((ms.getD p.2 0 : Nat) : Int) else ((ms.getD p.1 0 : Nat) : Int)) = V.int ((min (ms.getD p.1 0) (ms.getD p.2 0) : Nat) : Int) := by
        congr 1
        split <;> omega
      rw [elo]
      have i1 : ixN (nv ms).length (p.1 : Int) = some p.1 := ixN_at (by rw [List.length_map, lj]; exact b1)
      refine ⟨_, rfl, _, rfl, _, rfl, q, _, _, _, rfl, rfl, hq3, i1, ?_⟩
      rw [nv_set]
      have i2 : ixN (nv (ms.set p.1 (min (ms.getD p.1 0) (ms.getD p.2 0)))).length (p.2 : Int) = some p.2 := ixN_at (by rw [List.length_map, List.length_set, lj]; exact b2)
      refine ⟨_, rfl, _, rfl, _, rfl, q, _, _, _, rfl, rfl, upd_same, i2, ?_⟩
      rw [nv_set]
      refine ⟨?_, ⟨_, _, _, rfl⟩, upd_same⟩
      intro b o h
      rw [upd_ne (ne_of_none h hq), upd_ne (ne_of_none h hq)]
      exact s3 _ _ h
    · rintro σ H'' ⟨s3, ⟨v2, v3, v4, rfl⟩, hq3⟩
      rw [List.take_of_length_le (by omega)] at hq3
      refine ⟨s3, ⟨_, _, _, _, rfl⟩, ?_⟩
      rw [es]
      exact hq3
  · rintro σ H' ⟨s2, ⟨u1, u2, u3, u4, rfl⟩, hq2⟩
    have en : (n : Int).toNat = n := Int.toNat_natCast n
    rw [en] at hq2
    have ln := (lk n).len
    refine ⟨_, rfl, q, _, rfl, by rw [← nv_ints]; exact SqL.of hq2, by rw [List.length_map]; omega, fun m m1 m2 => ?_⟩
    refine ⟨rfl, ?_⟩
    have z : decide (V.int m = V.int 0) = hang n ps := by
      have e1 := nv_max m1 m2
      have e2 : (∀ x ∈ MC.rnds ps n (List.range n), x = 0) ↔ hang n ps = true := (MC.names_rnds hb (Nat.le_refl n) (by omega)).symm.trans hang_iff.symm
      by_cases hm : m = 0
      · rw [e2.mp (e1.mp hm), hm]
        exact decide_eq_true rfl
      · have : ¬ hang n ps = true := fun h => hm (e1.mpr (e2.mpr h))
        rw [Bool.eq_false_iff.mpr this]
        exact decide_eq_false fun h => hm (V.int.inj h)
    rw [z]
    exact k _ s2
/-! ### webs -/
theorem G_hang_together (T : Txt P K mg A) : FnG P w K mg base CX0 3 A.a_hang_together A.d_hang_together P_hang_together (sp_lj K) := by
  refine okG T.F_hang_together sc_hang_together (fun vs H Q E h => ?_) (fun cdv A0 outer s H vs Q E hr h => ?_)
  · obtain ⟨n, a, ps, rfl, _⟩ := h
    rfl
  obtain ⟨n, a, ps, rfl, h1, hn, hp, hb, k⟩ := h
  refine ⟨_, (pss_one (ps_ret (pe_not (pe_callB (cr_anyI rfl) (by rfl) T.n_any (by decide +kernel) (pa_cons (pe_callG (G_names_of T) (hr.mono (by decide)) rfl T.g_names_of T.F_names_of.kp T.b_names_of .nil pass0 (pa_cons (pv 0) (pa_cons (pv 1) pa_nil))) pa_nil))))), ?_⟩
  refine ⟨_, rfl, _, rfl, n, a, ps, rfl, hn, hp, hb, fun q H' s1 hq => ⟨q, _, rfl, by rw [← nv_ints]; exact SqL.of hq, ?_⟩⟩
  rw [any_names]
  refine ⟨_, rfl, ?_⟩
  rw [Bool.not_not]
  exact k _ s1
/-- two ends below n, as is_pair wants them -/
def sp_pair : Sp := fun vs H Q _ => ∃ (n : Nat) (a : Addr) (p : Nat × Nat), vs = [.int (n : Int), .ref a] ∧ SqX H a [.int (p.1 : Int), .int (p.2 : Int)] ∧ p.1 < n ∧ p.2 < n ∧ ∀ H', Same H H' → Q (.bl true) H'
theorem sqx_it {H : Hp} {a : Addr} {ys : List V} (h : SqX H a ys) (hl : ys.length ≤ 1000) (ok : ∀ x ∈ ys, OkV H x) : ∀ a' xs, V.ref a = V.ref a' → (H a' = some (.lst xs) ∨ H a' = some (.tup xs)) → xs.length ≤ 1000 ∧ ∀ x ∈ xs, OkV H x := by
  rintro a' xs e hx
  obtain rfl := V.ref.inj e
  obtain rfl := h.inj (show SqX H a xs from hx)
  exact ⟨hl, ok⟩
theorem areI_sqx {H : Hp} {a : Addr} {xs : List V} (h : SqX H a xs) : areI H (.ref a) = xs.all isI := by
  rcases h with h | h <;> simp only [areI, h]
theorem G_is_pair (T : Txt P K mg A) : FnG P w K mg base CX0 3 A.a_is_pair A.d_is_pair P_is_pair sp_pair := by
  refine okG T.F_is_pair sc_is_pair (fun vs H Q E h => ?_) (fun cdv A0 outer s H vs Q E hr h => ?_)
  · obtain ⟨n, a, p, rfl, _⟩ := h
    rfl
  obtain ⟨n, a, p, rfl, hq, b1, b2, k⟩ := h
  refine ⟨_, (pss_cons (ps_if (PW.pt (pw_or (pt_not (pt_val (pe_callG (G_are_integers T) (hr.mono (by decide)) rfl T.g_are_integers T.F_are_integers.kp T.b_are_integers .nil pass0 (pa_cons (pv 1) pa_nil)))) (pw_or1 (pt_cmpR op_ne (pe_callB call_len_seq (by rfl) T.n_len (by decide +kernel) (pa_cons (pv 1) pa_nil)) pe_int (nomark _))))) (pss_one (ps_ret pe_bl)) pss_nil)
      (pss_one (ps_ret (pe_callB (cr_all rfl) (by rfl) T.n_all (by decide +kernel) (pa_cons (pe_lc (own := [("end", 2)]) (g := gName 2) (tt := tYes) rfl sc_is_pair.nd (pi_seqV (pv 1)) (blkOk_by (N := N_is_pair) (sc := defScope s_is_pair) (by decide +kernel)) (fun _ _ _ _ _ => (pg_name (i := 2) sc_is_pair.nd rfl (Or.inl rfl))) (fun _ _ _ _ _ => pts_nil) (fun _ _ _ _ _ => (pe_callG (G_is_within T) (hr.mono (by decide)) rfl T.g_is_within T.F_is_within.kp T.b_is_within .nil pass0 (pa_cons (pv 2) (pa_cons pe_int (pa_cons (pe_op op_sub (pv 0) pe_int) pa_nil)))))) pa_nil))))), ?_⟩
  refine ⟨_, rfl, _, rfl, hq.ok, sqx_it hq (by show 2 ≤ 1000; decide) (fun x hx => ?_), fun H1 s1 => ?_⟩
  · rcases List.mem_cons.mp hx with rfl | hx
    · trivial
    · rw [List.mem_singleton.mp hx]
      trivial
  rw [areI_sqx hq]
  have hq1 := hq.same s1
  obtain ⟨oa, hoa⟩ := hq1.has
  refine ⟨_, rfl, iteF ⟨_, rfl, a, _, rfl, hq1.sq, rfl, _, rfl, iteF ?_⟩⟩
  refine ⟨_, rfl, a, rfl, seq_by hq1.sq fun J G W gG D hD => ?_⟩
  refine lc_it W (fun i H' => Same H1 H' ∧ H' D = some (.lst ((List.replicate i true).map V.bl))) ⟨Same.new (fun _ _ h => h) hD, upd_same⟩ (fun i H' _ q => gG H' fun o h => ?_) ?_ ?_
  · rw [← h]
    exact (q.1 _ _ hoa).trans hoa.symm
  · rintro i x H' _ hi ⟨s3, hD3⟩ ⟨rfl, hx'⟩
    obtain ⟨e, he, rfl⟩ : ∃ e : Nat, e < n ∧ x = .int (e : Int) := by
      have m := List.mem_of_getElem? hx'
      rcases List.mem_cons.mp m with rfl | m
      · exact ⟨_, b1, rfl⟩
      · exact ⟨_, b2, List.mem_singleton.mp m⟩
    have z : (isI (V.int (e : Int)) && (inLo (V.int (e : Int)) (.int 0) && inHi (V.int (e : Int)) (.int ((n : Int) - 1)))) = true := by
      have a1 : inLo (V.int (e : Int)) (.int 0) = true := show decide ((0 : Int) ≤ (e : Int)) = true from decide_eq_true (by omega)
      have a2 : inHi (V.int (e : Int)) (.int ((n : Int) - 1)) = true := show decide ((e : Int) ≤ (n : Int) - 1) = true from decide_eq_true (by omega)
      rw [a1, a2]
      rfl
    refine ⟨rfl, tYes_of (iteT ⟨_, rfl, _, rfl, _, _, rfl, rfl, _, .int 0, .int ((n : Int) - 1), rfl, trivial, trivial, trivial, ?_⟩)⟩
    rw [z]
    refine ⟨_, hD3, ?_, ?_, ?_⟩
    · rw [List.length_map, List.length_replicate]
      exact small1000 (by have : i < 2 := hi; omega)
    · intro b o h
      rw [upd_ne (ne_of_none h hD)]
      exact s3 _ _ h
    · rw [upd_same, List.replicate_succ', List.map_append]
      rfl
  · rintro H' ⟨s3, hD3⟩
    refine ⟨D, _, rfl, SqL.of hD3, ?_⟩
    exact k _ (s1.trans s3)
/-- pairs, as are_ties wants them -/
def sp_ties : Sp := fun vs H Q _ => ∃ (n : Nat) (a : Addr) (ps : MC.Pr), vs = [.int (n : Int), .ref a] ∧ PrsA H a ps ∧ MC.Below n ps ∧ ps.length ≤ 12 ∧ ∀ H', Same H H' → Q (.bl true) H'
theorem G_are_ties (T : Txt P K mg A) : FnG P w K mg base CX0 4 A.a_are_ties A.d_are_ties P_are_ties sp_ties := by
  refine okG T.F_are_ties sc_are_ties (fun vs H Q E h => ?_) (fun cdv A0 outer s H vs Q E hr h => ?_)
  · obtain ⟨n, a, ps, rfl, _⟩ := h
    rfl
  obtain ⟨n, a, ps, rfl, ⟨xs, hx, hp⟩, hb, hl, k⟩ := h
  have hxl : xs.length = ps.length := Paired.length hp
  refine ⟨_, (pss_cons (ps_if (PW.pt (pw_or (pt_not (pt_val (pe_callB call_isiT (by rfl) T.n_isinstance (by decide +kernel) (pa_cons (pv 1) (pa_cons (pe_tup (pa_cons (pe_bltn (v := .ty "list") (u := .type "list") (by rfl) T.n_list (by decide +kernel) rfl) (pa_cons (pe_bltn (v := .ty "tuple") (u := .type "tuple") (by rfl) T.n_tuple (by decide +kernel) rfl) pa_nil))) pa_nil))))) (pw_or1 (pt_cmpR op_gt (pe_callB call_len_seq (by rfl) T.n_len (by decide +kernel) (pa_cons (pv 1) pa_nil)) (pe_glob (v := .int 12) rfl T.m_MOST_TIES ⟨_, rfl⟩) (nomark _))))) (pss_one (ps_ret pe_bl)) pss_nil)
      (pss_one (ps_ret (pe_callB (cr_all rfl) (by rfl) T.n_all (by decide +kernel) (pa_cons (pe_lc (own := [("pair", 2)]) (g := gName 2) (tt := tYes) rfl sc_are_ties.nd (pi_seqV (pv 1)) (blkOk_by (N := N_are_ties) (sc := defScope s_are_ties) (by decide +kernel)) (fun _ _ _ _ _ => (pg_name (i := 2) sc_are_ties.nd rfl (Or.inl rfl))) (fun _ _ _ _ _ => pts_nil) (fun _ _ _ _ _ => (pe_callG (G_is_pair T) (hr.mono (by decide)) rfl T.g_is_pair T.F_is_pair.kp T.b_is_pair .nil pass0 (pa_cons (pv 0) (pa_cons (pv 2) pa_nil))))) pa_nil))))), ?_⟩
  refine ⟨_, rfl, by show 2 ≤ sizeLine; decide, fun q1 h1 => ?_⟩
  have s1 : Same H (upd H q1 (.tup [.ty "list", .ty "tuple"])) := Same.new (fun _ _ h => h) h1
  have hx1 := hx.same s1
  obtain ⟨T1, ty, _, _, k3⟩ := kindV (K := K) hx1.ok
  rw [hx1.lt] at k3
  refine ⟨_, _, _, _, _, _, rfl, upd_same, .cons (.ty "list") (.cons (.ty "tuple") .nil), ty, k3, _, rfl, iteF ?_⟩
  refine ⟨_, rfl, a, xs, rfl, hx1.sq, ?_⟩
  refine ⟨_, _, rfl, rfl, _, rfl, ?_⟩
  rw [decide_eq_false (by omega)]
  refine iteF ?_
  obtain ⟨oa, hoa⟩ := hx1.has
  refine ⟨_, rfl, a, rfl, seq_by hx1.sq fun J G W gG D hD => ?_⟩
  refine lc_it W (fun i H' => Same (upd H q1 (.tup [.ty "list", .ty "tuple"])) H' ∧ H' D = some (.lst ((List.replicate i true).map V.bl))) ⟨Same.new (fun _ _ h => h) hD, upd_same⟩ (fun i H' _ q => gG H' fun o h => ?_) ?_ ?_
  · rw [← h]
    exact (q.1 _ _ hoa).trans hoa.symm
  · rintro i x H' _ hi ⟨s3, hD3⟩ ⟨rfl, hx'⟩
    obtain ⟨p, hpi, pr⟩ := paired_get hp hx'
    obtain ⟨t, rfl, ht⟩ := pr.same (s1.trans s3)
    obtain ⟨b1, b2⟩ := hb p (List.mem_of_getElem? hpi)
    refine ⟨rfl, tYes_of (iteT ⟨_, rfl, _, rfl, n, t, p, rfl, ht, b1, b2, fun H4 s4 => ⟨_, s4 _ _ hD3, ?_, ?_, ?_⟩⟩)⟩
    · rw [List.length_map, List.length_replicate]
      exact small1000 (by omega)
    · intro b o h
      rw [upd_ne (ne_of_none h hD)]
      exact s4 _ _ (s3 _ _ h)
    · rw [upd_same, List.replicate_succ', List.map_append]
      rfl
  · rintro H' ⟨s3, hD3⟩
    refine ⟨D, _, rfl, SqL.of hD3, ?_⟩
    have z : (List.replicate xs.length true).all id = true := by
      rw [List.all_eq_true]
      intro b hb
      rw [List.eq_of_mem_replicate hb]
      rfl
    rw [z]
    exact k _ (s1.trans s3)
/-! ### fixed -/
def sp_fixed (d : Nat) : Sp := fun vs H Q _ => ∃ v t, vs = [v] ∧ Src d H v t ∧ ∀ v' H', Same H H' → Dst d H' v' t → Q v' H'
theorem G_fixed_leaf (T : Txt P K mg A) (d : Nat) (F : FnG P w K mg base CX0 (d + 1) A.a_fixed A.d_fixed P_fixed (sp_fixed d)) : FnG P w K mg base CX0 (d + 2) A.a_fixed A.d_fixed P_fixed (sp_fixed (d + 1)) := by
  refine okG T.F_fixed sc_fixed (fun vs H Q E h => ?_) (fun cdv A0 outer s H vs Q E hr h => ?_)
  · obtain ⟨v, t, rfl, _⟩ := h
    rfl
  obtain ⟨v, t, rfl, h, k⟩ := h
  refine ⟨_, (pss_cons (ps_if (pt_val (pe_callB call_isiT (by rfl) T.n_isinstance (by decide +kernel) (pa_cons (pv 0) (pa_cons (pe_tup (pa_cons (pe_bltn (v := .ty "list") (u := .type "list") (by rfl) T.n_list (by decide +kernel) rfl) (pa_cons (pe_bltn (v := .ty "tuple") (u := .type "tuple") (by rfl) T.n_tuple (by decide +kernel) rfl) pa_nil))) pa_nil)))) (pss_one (ps_ret (pe_callTy (T := "tuple") call_tuple_of (by rfl) T.n_tuple (by decide +kernel) (pa_cons (pe_lc (own := [("item", 1)]) (g := gName 1) (tt := tYes) rfl sc_fixed.nd (pi_seqV (pv 0)) (blkOk_by (N := N_fixed) (sc := defScope s_fixed) (by decide +kernel)) (fun _ _ _ _ _ => (pg_name (i := 1) sc_fixed.nd rfl (Or.inl rfl))) (fun _ _ _ _ _ => pts_nil) (fun _ _ _ _ _ => (pe_callG F hr rfl T.g_fixed T.F_fixed.kp T.b_fixed .nil pass0 (pa_cons (pv 1) pa_nil)))) pa_nil)))) pss_nil)
      (pss_one (ps_ret (pv 0)))), ?_⟩
  refine ⟨_, rfl, by show 2 ≤ sizeLine; decide, fun q1 h1 => ?_⟩
  have s1 : Same H (upd H q1 (.tup [.ty "list", .ty "tuple"])) := Same.new (fun _ _ h => h) h1
  rcases h with ⟨ok, lt, rfl⟩ | ⟨a, xs, ts, rfl, hx, hl, rfl, hp⟩
  · obtain ⟨T1, ty, _, _, k3⟩ := kindV (K := K) (ok.mono fun a o _ h => s1 a o h)
    rw [isLT_same ok s1 lt] at k3
    refine ⟨_, _, _, _, _, _, rfl, upd_same, .cons (.ty "list") (.cons (.ty "tuple") .nil), ty, k3, _, rfl, iteF ?_⟩
    exact ⟨_, rfl, k _ _ s1 (.inl rfl)⟩
  · have hx1 := hx.same s1
    obtain ⟨T1, ty, _, _, k3⟩ := kindV (K := K) hx1.ok
    rw [hx1.lt] at k3
    refine ⟨_, _, _, _, _, _, rfl, upd_same, .cons (.ty "list") (.cons (.ty "tuple") .nil), ty, k3, _, rfl, iteT ?_⟩
    obtain ⟨oa, hoa⟩ := hx1.has
    have hxl : xs.length = ts.length := Paired.length hp
    refine ⟨_, rfl, a, rfl, seq_by hx1.sq fun J G W gG D hD => ?_⟩
    refine lc_it W (fun i H' => Same (upd H q1 (.tup [.ty "list", .ty "tuple"])) H' ∧ ∃ ys, H' D = some (.lst ys) ∧ ys.length = i ∧ Paired (Dst d H') ys (ts.take i)) ⟨Same.new (fun _ _ h => h) hD, [], upd_same, rfl, .nil⟩ (fun i H' _ q => gG H' fun o h => ?_) ?_ ?_
    · rw [← h]
      exact (q.1 _ _ hoa).trans hoa.symm
    · rintro i x H' _ hi ⟨s3, ys, hD3, hly, py⟩ ⟨rfl, hx'⟩
      obtain ⟨t, hti, st⟩ := paired_get hp hx'
      refine ⟨rfl, tYes_of (iteT ⟨_, rfl, x, t, rfl, st.same (s1.trans s3), fun v' H4 s4 dt => ⟨_, s4 _ _ hD3, ?_, ?_, ys ++ [v'], upd_same, ?_, ?_⟩⟩)⟩
      · exact small1000 (by omega)
      · intro b o h
        rw [upd_ne (ne_of_none h hD)]
        exact s4 _ _ (s3 _ _ h)
      · rw [List.length_append, hly]
        rfl
      · rw [List.take_succ, hti]
        have kk : ∀ b zs, H4 b = some (.tup zs) → (upd H4 D (.lst (ys ++ [v']))) b = some (.tup zs) := fun b zs e => by
          have hd4 := s4 _ _ hD3
          rw [upd_ne (fun z => by rw [z, hd4] at e; cases e)]
          exact e
        exact paired_snoc (dt.keep kk) (paired_imp (fun _ _ z => (z.same s4).keep kk) py)
    · rintro H' ⟨s3, ys, hD3, hly, py⟩
      refine ⟨D, ys, rfl, .inl ⟨SqL.of hD3, fun q2 h2 => ?_⟩⟩
      rw [List.take_of_length_le (by omega)] at py
      have s4 : Same H' (upd H' q2 (.tup ys)) := Same.new (fun _ _ h => h) h2
      exact k _ _ (s1.trans (s3.trans s4)) (.inr ⟨q2, ys, ts, rfl, upd_same, rfl, paired_imp (fun _ _ z => z.same s4) py⟩)
theorem G_fixed_0 (T : Txt P K mg A) (F : FnG P w K mg base CX0 0 A.a_fixed A.d_fixed P_fixed (fun _ _ _ _ => False)) : FnG P w K mg base CX0 1 A.a_fixed A.d_fixed P_fixed (sp_fixed 0) := by
  refine okG T.F_fixed sc_fixed (fun vs H Q E h => ?_) (fun cdv A0 outer s H vs Q E hr h => ?_)
  · obtain ⟨v, t, rfl, _⟩ := h
    rfl
  obtain ⟨v, t, rfl, ⟨ok, lt, rfl⟩, k⟩ := h
  refine ⟨_, (pss_cons (ps_if (pt_val (pe_callB call_isiT (by rfl) T.n_isinstance (by decide +kernel) (pa_cons (pv 0) (pa_cons (pe_tup (pa_cons (pe_bltn (v := .ty "list") (u := .type "list") (by rfl) T.n_list (by decide +kernel) rfl) (pa_cons (pe_bltn (v := .ty "tuple") (u := .type "tuple") (by rfl) T.n_tuple (by decide +kernel) rfl) pa_nil))) pa_nil)))) (pss_one (ps_ret (pe_callTy (T := "tuple") call_tuple_of (by rfl) T.n_tuple (by decide +kernel) (pa_cons (pe_lc (own := [("item", 1)]) (g := gName 1) (tt := tYes) rfl sc_fixed.nd (pi_seqV (pv 0)) (blkOk_by (N := N_fixed) (sc := defScope s_fixed) (by decide +kernel)) (fun _ _ _ _ _ => (pg_name (i := 1) sc_fixed.nd rfl (Or.inl rfl))) (fun _ _ _ _ _ => pts_nil) (fun _ _ _ _ _ => (pe_callG F hr rfl T.g_fixed T.F_fixed.kp T.b_fixed .nil pass0 (pa_cons (pv 1) pa_nil)))) pa_nil)))) pss_nil)
      (pss_one (ps_ret (pv 0)))), ?_⟩
  refine ⟨_, rfl, by show 2 ≤ sizeLine; decide, fun q1 h1 => ?_⟩
  have s1 : Same H (upd H q1 (.tup [.ty "list", .ty "tuple"])) := Same.new (fun _ _ h => h) h1
  obtain ⟨T1, ty, _, _, k3⟩ := kindV (K := K) (ok.mono fun a o _ h => s1 a o h)
  rw [isLT_same ok s1 lt] at k3
  refine ⟨_, _, _, _, _, _, rfl, upd_same, .cons (.ty "list") (.cons (.ty "tuple") .nil), ty, k3, _, rfl, iteF ?_⟩
  exact ⟨_, rfl, k _ _ s1 rfl⟩
theorem G_fixed (T : Txt P K mg A) : ∀ d : Nat, FnG P w K mg base CX0 (d + 1) A.a_fixed A.d_fixed P_fixed (sp_fixed d)
  | 0 => G_fixed_0 T ⟨fun _ _ _ _ h => h.elim, fun _ _ _ _ h => h.elim⟩
  | d + 1 => G_fixed_leaf T d (G_fixed T d)
/-- an __init__ that keeps one thing -/
def sp1 (K : PySem.W.Frag) (f : Str) : Sp := fun vs H Q _ => ∃ (a C : Addr) (v : V), vs = [.ref a, v] ∧ OexC K C ∧ PySem.W.findIn K (.ref C) f = some none ∧ H a = some (exo a C none) ∧ ∀ H' dd, H dd = none → dd ≠ a → H' a = some (exo a C (some dd)) → H' dd = some (exd dd [(f, v)]) → Kp a H H' → Q .non H'
theorem G_init_BadWeb (T : Txt P K mg A) : FnG P w K mg base CX0 1 A.i_BadWeb A.d_init_BadWeb P_init_BadWeb (sp1 K "part") := by
  refine okG T.F_init_BadWeb sc_init_BadWeb (fun vs H Q E h => ?_) (fun cdv A0 outer s H vs Q E hr h => ?_)
  · obtain ⟨a, C, v, rfl, _⟩ := h
    rfl
  obtain ⟨a, C, v, rfl, o, n1, ha, k⟩ := h
  refine ⟨_, (pss_one (ps_ost (pv 0) (pv 1))), ?_⟩
  refine ⟨_, rfl, _, rfl, a, C, rfl, o, n1, .inl ⟨ha, fun dx hd hda => ?_⟩⟩
  exact k _ dx hd hda upd_same (by rw [upd_ne hda]; exact upd_same) (upd_kp hd hda)
theorem kb_init_BadWeb_part (T : Txt P K mg A) : KBinds K A.d_init_BadWeb P_init_BadWeb ["part"] two two :=
  kbindsF T.F_init_BadWeb rel_two fun _ _ _ _ _ _ us ws hl => match us, ws, hl with
    | [_], [_], _ => rfl

/-- raise C(text): where it goes -/
theorem raise1 {H : Hp} {C : Addr} {f : Str} {v : V} {W : XK} (o : OexC K C) (n1 : PySem.W.findIn K (.ref C) f = some none) (k : ∀ d H', H' d = some (.xd [(f, v)]) → Same H H' → W (.ref C) (some d) H') :
    ∀ a, H a = none → sp1 K f (.ref a :: ([v] ++ [])) (upd H a (exo a C none)) (fun y H2 => y = .non ∧ ∃ (d : Addr) (fs : List (Str × V)), H2 a = some (exo a C (some d)) ∧ H2 d = some (exd d fs) ∧ H d = none ∧ W (.ref C) (some d) (upd (del H2 a) d (.xd fs))) (fun _ _ _ => False) := by
  intro a ha
  refine ⟨a, C, v, rfl, o, n1, upd_same, fun H' dd hd hda h1 h2 kp => ⟨rfl, dd, _, h1, h2, ?_, k _ _ upd_same ?_⟩⟩
  · rw [upd_ne hda] at hd
    exact hd
  · rw [upd_ne hda] at hd
    intro b u hb
    have e1 : b ≠ a := fun z => by rw [z, ha] at hb; cases hb
    rw [upd_ne (ne_of_none hb hd), del_ne e1]
    exact kp b u e1 (by rw [upd_ne e1]; exact hb)
/-- the tree of a lot of pairs -/
def trPs (ps : MC.Pr) : Tr := .node (ps.map fun p => .node [.leaf (.int (p.1 : Int)), .leaf (.int (p.2 : Int))])
theorem src_leaf {d : Nat} {H : Hp} {v : V} (ok : OkV H v) (lt : isLT H v = false) : Src d H v (.leaf v) := by
  cases d with
  | zero => exact ⟨ok, lt, rfl⟩
  | succ d => exact .inl ⟨ok, lt, rfl⟩
theorem src_prs {H : Hp} {a : Addr} {ps : MC.Pr} (h : PrsA H a ps) (hl : ps.length ≤ 1000) : Src 2 H (.ref a) (trPs ps) := by
  obtain ⟨xs, hx, hp⟩ := h
  refine .inr ⟨a, xs, _, rfl, hx, by rw [Paired.length hp]; exact hl, rfl, ?_⟩
  clear hx hl
  induction hp with
  | nil => exact .nil
  | @cons x p xs ps h t ih =>
    obtain ⟨c, rfl, hc⟩ := h
    exact .cons (.inr ⟨c, _, _, rfl, hc, by show 2 ≤ 1000; decide, rfl, .cons (src_leaf trivial rfl) (.cons (src_leaf trivial rfl) .nil)⟩) ih
theorem prsA_mono {H H' : Hp} {a : Addr} {ps : MC.Pr} (h : PrsA H a ps) (s : ∀ b xs, SqX H b xs → SqX H' b xs) : PrsA H' a ps := by
  obtain ⟨xs, q, r⟩ := h
  refine ⟨xs, s _ _ q, paired_imp (fun _ _ z => ?_) r⟩
  obtain ⟨t, e, g⟩ := z
  exact ⟨t, e, s _ _ g⟩
def sp_webi (K : PySem.W.Frag) (C BW : Addr) : Sp := fun vs H Q E => ∃ (x dx a : Addr) (n : Nat) (ps : MC.Pr), vs = [.ref x, .int (n : Int), .ref a] ∧ H x = some (.ins C dx []) ∧ 1 ≤ n ∧ n ≤ 13 ∧ ps.length ≤ 12 ∧ PrsA H a ps ∧ MC.Below n ps ∧
  (hang n ps = true → ∀ H' y, H' x = some (.ins C dx [("places", .int (n : Int)), ("ties", y)]) → Dst 2 H' y (trPs ps) → Kp x H H' → Q .non H') ∧
  (hang n ps = false → ∀ d H', H' d = some (.xd [("part", .str "apart")]) → Same H H' → E (.ref BW) (some d) H')
theorem G_Web___init__ (T : Txt P K mg A) : FnG P w K mg base (L2.CX P w) 5 A.a_Web___init__ A.d_Web___init__ P_Web___init__ (sp_webi K A.c_Web A.c_BadWeb) := by
  refine okGX T.F_Web___init__ sc_Web___init__ (fun vs H Q E h => ?_) (fun cdv A0 outer s H vs Q E hr h => ?_)
  · obtain ⟨x, dx, a, n, ps, rfl, _⟩ := h
    rfl
  obtain ⟨x, dx, a, n, ps, rfl, hx, h1, hn, hl, hp, hb, k1, k2⟩ := h
  refine ⟨_, (pss_cons (ps_if (pt_not (pt_val (pe_callG (G_is_within T) (hr.mono (by decide)) rfl T.g_is_within T.F_is_within.kp T.b_is_within .nil pass0 (pa_cons (pv 1) (pa_cons pe_int (pa_cons (pe_glob (v := .int 13) rfl T.m_MOST_PLACES ⟨_, rfl⟩) pa_nil)))))) (pss_one (ps_raise rfl (takes_of rfl rfl rfl rfl) (pmk_G T.X_BadWeb.oex T.X_BadWeb.iC T.X_BadWeb.tI (G_init_BadWeb T) (hr.mono (by decide)) rfl T.X_BadWeb.gC T.b_init_BadWeb pass0 (pa_cons pe_str pa_nil)))) pss_nil)
      (pss_cons (ps_if (pt_not (pt_val (pe_callG (G_are_ties T) (hr.mono (by decide)) rfl T.g_are_ties T.F_are_ties.kp T.b_are_ties .nil pass0 (pa_cons (pv 1) (pa_cons (pv 2) pa_nil))))) (pss_one (ps_raise rfl (takes_of rfl rfl rfl rfl) (pmk_G T.X_BadWeb.oex T.X_BadWeb.iC T.X_BadWeb.tI (G_init_BadWeb T) (hr.mono (by decide)) rfl T.X_BadWeb.gC T.b_init_BadWeb pass0 (pa_cons pe_str pa_nil)))) pss_nil)
      (pss_cons (ps_if (pt_not (pt_val (pe_callG (G_hang_together T) (hr.mono (by decide)) rfl T.g_hang_together T.F_hang_together.kp T.b_hang_together .nil pass0 (pa_cons (pv 1) (pa_cons (pv 2) pa_nil))))) (pss_one (ps_raise rfl (takes_of rfl rfl rfl rfl) (pmk_G T.X_BadWeb.oex T.X_BadWeb.iC T.X_BadWeb.tI (G_init_BadWeb T) (hr.mono (by decide)) rfl T.X_BadWeb.gC T.b_init_BadWeb pass0 (pa_cons pe_str pa_nil)))) pss_nil)
      (pss_cons (ps_fld (pv 0) (pv 1) rfl)
      (pss_one (ps_fld (pv 0) (pe_callG (G_fixed T 2) (hr.mono (by decide)) rfl T.g_fixed T.F_fixed.kp T.b_fixed .nil pass0 (pa_cons (pv 2) pa_nil)) rfl)))))), ?_⟩
  have z : (isI (V.int (n : Int)) && (inLo (V.int (n : Int)) (.int 1) && inHi (V.int (n : Int)) (.int 13))) = true := by
    have a1 : inLo (V.int (n : Int)) (.int 1) = true := show decide ((1 : Int) ≤ (n : Int)) = true from decide_eq_true (by omega)
    have a2 : inHi (V.int (n : Int)) (.int 13) = true := show decide ((n : Int) ≤ 13) = true from decide_eq_true (by omega)
    rw [a1, a2]
    rfl
  refine ⟨_, rfl, _, .int 1, .int 13, rfl, trivial, trivial, trivial, ?_⟩
  rw [z]
  refine ⟨_, rfl, iteF ⟨_, rfl, _, rfl, n, a, ps, rfl, hp, hb, hl, fun H1 s1 => ⟨_, rfl, iteF ?_⟩⟩⟩
  refine ⟨_, rfl, _, rfl, n, a, ps, rfl, h1, by omega, hp.same s1, hb, fun H2 s2 => ⟨_, rfl, ?_⟩⟩
  cases hh : hang n ps with
  | false =>
    refine iteT ⟨by show 1 ≤ 1000; decide, raise1 T.X_BadWeb.oex (T.X_BadWeb.no _ List.mem_cons_self) fun d H' hd s3 => ?_⟩
    exact k2 hh d H' hd (s1.trans (s2.trans s3))
  | true =>
    refine iteF ?_
    have S2 := s1.trans s2
    have hx2 := S2 _ _ hx
    have pp : putF "places" (V.int (n : Int)) [] = ([("places", V.int (n : Int))] : List (Str × V)) := rfl
    refine ⟨_, rfl, _, rfl, x, A.c_Web, dx, [], rfl, hx2, T.K_Web, T.N_Web_places, by decide, ?_⟩
    rw [pp]
    have hp3 : PrsA (upd H2 x (.ins A.c_Web dx [("places", .int (n : Int))])) a ps := prsA_mono (hp.same S2) fun b xs h => by
      have e : b ≠ x := fun z => by
        subst z
        rcases h with h | h <;> cases hx2.symm.trans h
      rcases h with h | h
      · exact .inl (by rw [upd_ne e]; exact h)
      · exact .inr (by rw [upd_ne e]; exact h)
    refine ⟨_, rfl, .ref a, trPs ps, rfl, src_prs hp3 (by omega), fun y H4 s4 dt => ?_⟩
    have hx4 : H4 x = some (.ins A.c_Web dx [("places", .int (n : Int))]) := s4 _ _ upd_same
    have pt : putF "ties" y ([("places", V.int (n : Int))] : List (Str × V)) = ([("places", V.int (n : Int)), ("ties", y)] : List (Str × V)) := rfl
    refine ⟨_, rfl, x, A.c_Web, dx, _, rfl, hx4, T.K_Web, T.N_Web_ties, by show 1 < 1000; decide, ?_⟩
    rw [pt]
    refine k1 hh _ y upd_same (dt.keep fun b xs h => ?_) ?_
    · have e : b ≠ x := fun z => by
        subst z
        cases hx4.symm.trans h
      rw [upd_ne e]
      exact h
    · intro b o e h
      rw [upd_ne e]
      exact s4 _ _ (by rw [upd_ne e]; exact S2 _ _ h)
/-- a web stands at x -/
def WebAt (H : Hp) (x C : Addr) (n : Nat) (ps : MC.Pr) : Prop := ∃ dx q xs, H x = some (.ins C dx [("places", .int (n : Int)), ("ties", .ref q)]) ∧ H q = some (.tup xs) ∧ Paired (PrT H) xs ps
theorem WebAt.keep {H H' : Hp} {x C : Addr} {n : Nat} {ps : MC.Pr} (h : WebAt H x C n ps) (s : Same H H') : WebAt H' x C n ps := by
  obtain ⟨dx, q, xs, h1, h2, h3⟩ := h
  exact ⟨dx, q, xs, s _ _ h1, s _ _ h2, paired_imp (fun _ _ z => z.keep s) h3⟩
theorem dst_prs {H : Hp} {y : V} {ps : MC.Pr} (h : Dst 2 H y (trPs ps)) : ∃ q xs, y = .ref q ∧ H q = some (.tup xs) ∧ Paired (PrT H) xs ps := by
  rcases h with h | ⟨q, xs, ts, rfl, hq, et, hp⟩
  · cases h
  · obtain rfl := (Tr.node.inj et)
    refine ⟨q, xs, rfl, hq, ?_⟩
    clear hq et
    revert xs
    induction ps with
    | nil =>
      intro xs hp
      cases hp
      exact .nil
    | cons p ps ih =>
      intro xs hp
      cases hp with
      | cons h t =>
        refine .cons ?_ (ih _ t)
        rcases h with h | ⟨c, ys, us, rfl, hc, eu, hu⟩
        · cases h
        · obtain rfl := Tr.node.inj eu
          cases hu with
          | cons a1 r1 =>
            cases r1 with
            | cons a2 r2 =>
              cases r2
              cases a1
              cases a2
              exact ⟨c, rfl, hc⟩
def sp_need (C : Addr) : Sp := fun vs H Q _ => ∃ (x : Addr) (n : Nat) (ps : MC.Pr) (v : V), vs = [.ref x, v] ∧ WebAt H x C n ps ∧ Q .non H
theorem G_need_web (T : Txt P K mg A) : FnG P w K mg base CX0 3 A.a_need_web A.d_need_web P_need_web (sp_need A.c_Web) := by
  refine okG T.F_need_web sc_need_web (fun vs H Q E h => ?_) (fun cdv A0 outer s H vs Q E hr h => ?_)
  · obtain ⟨x, n, ps, v, rfl, _⟩ := h
    rfl
  obtain ⟨x, n, ps, v, rfl, ⟨dx, q, xs, hx, _⟩, k⟩ := h
  refine ⟨_, (pss_one (ps_if (pt_not (pt_val (pe_callB call_isi (by rfl) T.n_isinstance (by decide +kernel) (pa_cons (pv 0) (pa_cons (pe_glob (v := .ref A.c_Web) rfl T.g_Web rfl) pa_nil))))) (pss_one (ps_raise rfl takes0 (pmk_G T.X_BadWeb.oex T.X_BadWeb.iC T.X_BadWeb.tI (G_init_BadWeb T) (hr.mono (by decide)) rfl T.X_BadWeb.gC T.b_init_BadWeb pass0 (pa_cons (pv 1) pa_nil)))) pss_nil)), ?_⟩
  refine ⟨_, rfl, _, _, _, _, _, rfl, .own A.c_Web, own_ty hx T.K_Web T.I_Web, kit_self, _, rfl, iteF ?_⟩
  exact k
/-- ties with the one at i left out -/
theorem take_drop_nm {ps : MC.Pr} {i : Nat} {p : Nat × Nat} (h : ps[i]? = some p) : ps.take i ++ p :: ps.drop (i + 1) = ps := by
  have hi := (List.getElem?_eq_some_iff.mp h)
  obtain ⟨hl, e⟩ := hi
  rw [← e, ← List.drop_eq_getElem_cons hl, List.take_append_drop]
def bridge (n : Nat) (ps : MC.Pr) (i : Nat) : Bool := !hang n (ps.take i ++ ps.drop (i + 1))
def sp_isb (C : Addr) : Sp := fun vs H Q _ => ∃ (x : Addr) (n : Nat) (ps : MC.Pr) (i : Nat), vs = [.ref x, .int (i : Int)] ∧ WebAt H x C n ps ∧ i < ps.length ∧ ps.length ≤ 900 ∧ n ≤ 900 ∧ 1 ≤ n ∧ MC.Below n ps ∧ hang n ps = true ∧ ∀ H', Same H H' → Q (.bl (bridge n ps i)) H'
theorem G_is_bridge (T : Txt P K mg A) : FnG P w K mg base CX0 3 A.a_is_bridge A.d_is_bridge P_is_bridge (sp_isb A.c_Web) := by
  refine okG T.F_is_bridge sc_is_bridge (fun vs H Q E h => ?_) (fun cdv A0 outer s H vs Q E hr h => ?_)
  · obtain ⟨x, n, ps, i, rfl, _⟩ := h
    rfl
  obtain ⟨x, n, ps, i, rfl, ⟨dx, q, xs, hx, hq, hp⟩, hi, hl, hn, h1, hb, hh, k⟩ := h
  refine ⟨_, (pss_cons (ps_asg (pe_ix (r := rIxT K) ix_tup (pe_fld (pv 0) rfl) (pv 1) (fun _ _ => rfl)) (pg_tup rfl (pgs_cons (pg_name (i := 2) sc_is_bridge.nd rfl (Or.inl rfl)) (pgs_cons (pg_name (i := 3) sc_is_bridge.nd rfl (Or.inl rfl)) pgs_nil))))
      (pss_cons (ps_set (i := 4) sc_is_bridge.nd rfl (Or.inl rfl) (pe_callG (G_names_of T) (hr.mono (by decide)) rfl T.g_names_of T.F_names_of.kp T.b_names_of .nil pass0 (pa_cons (pe_fld (pv 0) rfl) (pa_cons (pe_op op_catA (pe_slice (r := rSlA K) sl_tupA (pe_fld (pv 0) rfl) po_none (po_some (pv 1))) (pe_slice (r := rSlA K) sl_tupA (pe_fld (pv 0) rfl) (po_some (pe_op op_add (pv 1) pe_int)) po_none)) pa_nil))))
      (pss_one (ps_ret (pe_cmpR op_ne (pe_ix (r := rIxL K) ix_list (pv 4) (pv 2) (fun _ _ => rfl)) (pe_ix (r := rIxL K) ix_list (pv 4) (pv 3) (fun _ _ => rfl)) (nomark _)))))), ?_⟩
  obtain ⟨p, hpi⟩ : ∃ p, ps[i]? = some p := ⟨ps[i], List.getElem?_eq_getElem hi⟩
  have hxl : xs.length = ps.length := Paired.length hp
  have hxi : xs[i]? = some xs[i] := List.getElem?_eq_getElem (by omega)
  obtain ⟨p', hp', t, et, ht⟩ := paired_get hp hxi
  obtain rfl : p = p' := Option.some.inj (hpi.symm.trans hp')
  obtain ⟨b1, b2⟩ := hb p (List.mem_of_getElem? hpi)
  have hxt : atI xs (i : Int) = some (.ref t) := atI_nat (by rw [hxi, et])
  refine ⟨_, rfl, x, A.c_Web, dx, _, _, rfl, hx, T.K_Web, T.N_Web_ties, rfl, _, rfl, q, xs, _, _, rfl, rfl, SqT.of hq, hxt, ?_⟩
  refine ⟨t, _, rfl, SqT.of ht, rfl, _, _, rfl, _, _, rfl, rfl, ?_⟩
  refine ⟨_, rfl, x, A.c_Web, dx, _, _, rfl, hx, T.K_Web, T.N_Web_places, rfl, ?_⟩
  refine ⟨_, rfl, x, A.c_Web, dx, _, _, rfl, hx, T.K_Web, T.N_Web_ties, rfl, ?_⟩
  have hxl2 : xs.length ≤ 900 := by omega
  have hi1 : i + 1 ≤ xs.length := by omega
  refine ⟨_, rfl, _, rfl, slA_take hq (by omega) fun c1 H1 s1 hc1 => ?_⟩
  refine ⟨_, rfl, x, A.c_Web, dx, _, _, rfl, s1 _ _ hx, T.K_Web, T.N_Web_ties, rfl, ?_⟩
  refine ⟨_, rfl, _, _, rfl, rfl, _, rfl, ?_⟩
  dsimp only [tNoPart]
  refine slA_drop (j := (i : Int) + 1) (i := i + 1) (by omega) (s1 _ _ hq) hi1 fun c2 H2 s2 hc2 => ?_
  refine catA_all (s2 _ _ hc1) hc2 ?_ fun c3 H3 s3 hc3 => ?_
  · rw [List.length_take, List.length_drop]
    have : (900 : Nat) ≤ sizeLine := by decide
    omega
  have S3 := s1.trans (s2.trans s3)
  have bl : MC.Below n (ps.take i ++ ps.drop (i + 1)) := fun p m => hb p (by
    rcases List.mem_append.mp m with m | m
    · exact List.mem_of_mem_take m
    · exact List.mem_of_mem_drop m)
  have pp : PrsA H3 c3 (ps.take i ++ ps.drop (i + 1)) := ⟨_, .inr hc3, paired_imp (fun y r z => by
    obtain ⟨t, e, g⟩ := z
    exact ⟨t, e, .inr (S3 _ _ g)⟩) (paired_app (paired_drop hp (i + 1)) (paired_take hp i))⟩
  refine ⟨n, c3, _, rfl, hn, pp, bl, fun q4 H4 s4 hq4 => ?_⟩
  have ln := (MC.names_nm bl).len
  refine ⟨_, rfl, _, rfl, _, _, _, _, rfl, rfl, SqL.of hq4, nv_at (by rw [ln]; exact b1), _, rfl, _, rfl, _, _, _, _, rfl, rfl, SqL.of hq4, nv_at (by rw [ln]; exact b2), ?_⟩
  refine ⟨rfl, ?_⟩
  have wl : MC.Whole n (ps.take i ++ p :: ps.drop (i + 1)) := by
    rw [take_drop_nm hpi]
    exact (MC.names_nm hb).whole.mpr (hang_iff.mp hh)
  have wb := MC.whole_less wl (by rw [take_drop_nm hpi]; exact hb)
  have e1 : (MC.names n (ps.take i ++ ps.drop (i + 1))).getD p.1 0 = (MC.names n (ps.take i ++ ps.drop (i + 1))).getD p.2 0 ↔ hang n (ps.take i ++ ps.drop (i + 1)) = true := wb.symm.trans ((MC.names_nm bl).whole.trans hang_iff.symm)
  have z : (!decide (V.int (((MC.names n (ps.take i ++ ps.drop (i + 1))).getD p.1 0 : Nat) : Int) = V.int (((MC.names n (ps.take i ++ ps.drop (i + 1))).getD p.2 0 : Nat) : Int))) = bridge n ps i := by
    unfold bridge
    congr 1
    by_cases g : (MC.names n (ps.take i ++ ps.drop (i + 1))).getD p.1 0 = (MC.names n (ps.take i ++ ps.drop (i + 1))).getD p.2 0
    · rw [e1.mp g, g]
      exact decide_eq_true rfl
    · have g2 : ¬ hang n (ps.take i ++ ps.drop (i + 1)) = true := fun h => g (e1.mpr h)
      rw [Bool.eq_false_iff.mpr g2]
      exact decide_eq_false fun h => g (by have := V.int.inj h; omega)
  rw [z]
  exact k _ (S3.trans s4)
def sp_bridges (C : Addr) : Sp := fun vs H Q _ => ∃ (x : Addr) (n : Nat) (ps : MC.Pr), vs = [.ref x] ∧ WebAt H x C n ps ∧ ps.length ≤ 900 ∧ n ≤ 900 ∧ 1 ≤ n ∧ MC.Below n ps ∧ hang n ps = true ∧
  ∀ q H', Same H H' → H' q = some (.tup (nv ((List.range ps.length).filter (bridge n ps)))) → Q (.ref q) H'
theorem G_bridges (T : Txt P K mg A) : FnG P w K mg base CX0 4 A.a_bridges A.d_bridges P_bridges (sp_bridges A.c_Web) := by
  refine okG T.F_bridges sc_bridges (fun vs H Q E h => ?_) (fun cdv A0 outer s H vs Q E hr h => ?_)
  · obtain ⟨x, n, ps, rfl, _⟩ := h
    rfl
  obtain ⟨x, n, ps, rfl, hw, hl, hn, h1, hb, hh, k⟩ := h
  refine ⟨_, (pss_cons (ps_expr (pe_callG (G_need_web T) (hr.mono (by decide)) rfl T.g_need_web T.F_need_web.kp T.b_need_web .nil pass0 (pa_cons (pv 0) (pa_cons pe_str pa_nil))))
      (pss_one (ps_ret (pe_callTy (T := "tuple") call_tuple_of (by rfl) T.n_tuple (by decide +kernel) (pa_cons (pe_lc (own := [("tie", 1)]) (g := gName 1) (tt := tB (tCall (sp_isb A.c_Web) [] E0 (tCons (tVar 0) (tCons (tVar 1) tNil)))) rfl sc_bridges.nd (pi_range1 (by rfl) T.n_range (pa_cons (pe_callB call_len_seq (by rfl) T.n_len (by decide +kernel) (pa_cons (pe_fld (pv 0) rfl) pa_nil)) pa_nil)) (blkOk_by (N := N_bridges) (sc := defScope s_bridges) (by decide +kernel)) (fun _ _ _ _ _ => (pg_name (i := 1) sc_bridges.nd rfl (Or.inl rfl))) (fun _ _ _ _ _ => pts_one (pt_val (pe_callG (G_is_bridge T) (hr.mono (by decide)) rfl T.g_is_bridge T.F_is_bridge.kp T.b_is_bridge .nil pass0 (pa_cons (pv 0) (pa_cons (pv 1) pa_nil))))) (fun _ _ _ _ _ => (pv 1))) pa_nil))))), ?_⟩
  refine ⟨_, rfl, x, n, ps, _, rfl, hw, ?_⟩
  obtain ⟨dx, q, xs, hx, hq, hp⟩ := id hw
  have hxl : xs.length = ps.length := Paired.length hp
  refine ⟨_, rfl, x, A.c_Web, dx, _, _, rfl, hx, T.K_Web, T.N_Web_ties, rfl, q, xs, rfl, .inr (SqT.of hq), ?_⟩
  refine ⟨_, rfl, by omega, by omega, fun D hD => ?_⟩
  refine lc_range (lo := 0) (n := ((xs.length : Nat) : Int).toNat) (fun i H' => Same H H' ∧ H' D = some (.lst (nv ((List.range i).filter (bridge n ps))))) ⟨Same.new (fun _ _ h => h) hD, upd_same⟩ ?_ ?_
  · rintro i H' hi ⟨s2, hD2⟩
    have hi2 : i < ps.length := by omega
    have e0 : (0 : Int) + (i : Int) = ((i : Nat) : Int) := by omega
    rw [e0]
    refine ⟨rfl, _, rfl, _, rfl, x, n, ps, i, rfl, hw.keep s2, hi2, hl, hn, h1, hb, hh, fun H3 s3 => ⟨_, rfl, ?_⟩⟩
    have er : (List.range (i + 1)).filter (bridge n ps) = (List.range i).filter (bridge n ps) ++ (if bridge n ps i = true then [i] else []) := by
      rw [List.range_succ, List.filter_append]
      congr 1
      by_cases e : bridge n ps i = true
      · rw [if_pos e, List.filter_cons_of_pos e]
        rfl
      · rw [if_neg e, List.filter_cons_of_neg e]
        rfl
    rw [er]
    refine ite2 (fun e => ⟨_, rfl, _, s3 _ _ hD2, ?_, ?_, ?_⟩) (fun e => ⟨s2.trans s3, ?_⟩)
    · have : ((List.range i).filter (bridge n ps)).length ≤ i := by
        have := List.length_filter_le (bridge n ps) (List.range i)
        rw [List.length_range] at this
        exact this
      rw [List.length_map]
      exact small1000 (by omega)
    · intro b o h
      rw [upd_ne (ne_of_none h hD)]
      exact s3 _ _ (s2 _ _ h)
    · rw [upd_same, if_pos e]
      simp
    · rw [if_neg e, List.append_nil]
      exact s3 _ _ hD2
  · rintro H' ⟨s2, hD2⟩
    have en : ((xs.length : Nat) : Int).toNat = ps.length := by omega
    rw [en] at hD2
    refine ⟨D, _, rfl, .inl ⟨SqL.of hD2, fun q2 h2 => ?_⟩⟩
    exact k q2 _ (s2.trans (Same.new (fun _ _ h => h) h2)) upd_same
/-! ### texts -/
/-- an __init__ that keeps two -/
def sp2 (K : PySem.W.Frag) (f g : Str) : Sp := fun vs H Q _ => ∃ (a C : Addr) (v u : V), vs = [.ref a, v, u] ∧ OexC K C ∧ PySem.W.findIn K (.ref C) f = some none ∧ PySem.W.findIn K (.ref C) g = some none ∧ H a = some (exo a C none) ∧ ∀ H', ExV H' a C [(g, u), (f, v)] → Kp a H H' → Q .non H'
theorem G_init_BadText (T : Txt P K mg A) : FnG P w K mg base CX0 1 A.i_BadText A.d_init_BadText P_init_BadText (sp2 K "line" "item") := by
  refine okG T.F_init_BadText sc_init_BadText (fun vs H Q E h => ?_) (fun cdv A0 outer s H vs Q E hr h => ?_)
  · obtain ⟨a, C, v, u, rfl, _⟩ := h
    rfl
  obtain ⟨a, C, v, u, rfl, o, n1, n2, ha, k⟩ := h
  refine ⟨_, (pss_cons (ps_ost (pv 0) (pv 1)) (pss_one (ps_ost (pv 0) (pv 2)))), ?_⟩
  refine ⟨_, rfl, _, rfl, a, C, rfl, o, n1, .inl ⟨ha, fun dx hd hda => ?_⟩⟩
  have e1 : (upd (upd H dx (exd dx [("line", v)])) a (exo a C (some dx))) a = some (exo a C (some dx)) := upd_same
  have e2 : (upd (upd H dx (exd dx [("line", v)])) a (exo a C (some dx))) dx = some (exd dx [("line", v)]) := by rw [upd_ne hda]; exact upd_same
  refine ⟨_, rfl, _, rfl, a, C, rfl, o, n2, .inr ⟨dx, _, e1, e2, by show 1 ≤ 900; decide, ?_⟩⟩
  refine k _ ⟨dx, by rw [upd_ne hda.symm]; exact e1, upd_same⟩ ?_
  intro b z n h
  rw [upd_ne (ne_of_none h hd)]
  exact (upd_kp hd hda) b z n h
/-- the text of a number -/
def wd (n : Nat) : Str := Str.ofString (toString (n : Int))
theorem by14 (f : Nat → Bool) (h : (List.range 14).all f = true) {n : Nat} (h1 : n ≤ 13) : f n = true := List.all_eq_true.mp h n (List.mem_range.mpr (by omega))
def sp_items : Sp := fun vs H Q _ => ∃ (ws : List Str), vs = [.str (Txt.join " " ws)] ∧ ws ≠ [] ∧ (∀ p ∈ ws, 32 ∉ TL.tl p) ∧ (Txt.join " " ws).length + 2 ≤ sizeLine ∧ ∀ q H', Same H H' → H' q = some (.lst (ws.map V.str)) → Q (.ref q) H'
theorem G_items_of (T : Txt P K mg A) : FnG P w K mg base CX0 3 A.a_items_of A.d_items_of P_items_of sp_items := by
  refine okG T.F_items_of sc_items_of (fun vs H Q E h => ?_) (fun cdv A0 outer s H vs Q E hr h => ?_)
  · obtain ⟨ws, rfl, _⟩ := h
    rfl
  obtain ⟨ws, rfl, h1, h2, h3, k⟩ := h
  refine ⟨_, (pss_cons (ps_if (pt_not (pt_val (pe_callB call_isi (by rfl) T.n_isinstance (by decide +kernel) (pa_cons (pv 0) (pa_cons (pe_bltn (v := .ty "str") (u := .type "str") (by rfl) T.n_str (by decide +kernel) rfl) pa_nil))))) (pss_one (ps_raise rfl takes0 (pmk_G T.X_BadText.oex T.X_BadText.iC T.X_BadText.tI (G_init_BadText T) (hr.mono (by decide)) rfl T.X_BadText.gC T.b_init_BadText pass0 (pa_cons pe_int (pa_cons pe_int pa_nil))))) pss_nil)
      (pss_one (ps_ret (pe_bm PySem.F.plainAttrs_str PySem.F.slot_str_split PySem.F.type_str_split mt_split (pv 0) (pa_cons pe_str pa_nil))))), ?_⟩
  refine ⟨_, rfl, _, _, _, _, _, rfl, .ty "str", .base (.str _), kit_ty (show kitB "str" "str" = some true by decide +kernel), _, rfl, iteF ?_⟩
  refine ⟨_, rfl, rfl, _, _, rfl, rfl, rfl, h3, fun q hq => ?_⟩
  have es : Txt.split (Txt.join " " ws) " " = ws := TL.split_join (s := 32) (S := []) (by rfl) (by decide +kernel) h1 h2
  rw [es]
  exact k q _ (Same.new (fun _ _ h => h) hq) upd_same
def sp_numof : Sp := fun vs H Q _ => ∃ n : Nat, vs = [.str (wd n)] ∧ n ≤ 13 ∧ Q (.int (n : Int)) H
theorem G_number_of (T : Txt P K mg A) : FnG P w K mg base CX0 1 A.a_number_of A.d_number_of P_number_of sp_numof := by
  refine okG T.F_number_of sc_number_of (fun vs H Q E h => ?_) (fun cdv A0 outer s H vs Q E hr h => ?_)
  · obtain ⟨n, rfl, _⟩ := h
    rfl
  obtain ⟨n, rfl, hn, k⟩ := h
  refine ⟨_, (pss_cons (ps_set (i := 1) sc_number_of.nd rfl (Or.inl rfl) (pe_ifExp (pt_val (pe_bm PySem.F.plainAttrs_str PySem.F.slot_str_startswith PySem.F.type_str_startswith mt_startswith (pv 0) (pa_cons pe_str pa_nil))) (pe_slice sl_str (pv 0) (po_some pe_int) po_none) (pv 0)))
      (pss_cons (ps_if (PW.pt (pw_or (pt_not (PW.pt (pw_and (pt_val (pe_bm0 PySem.F.plainAttrs_str PySem.F.slot_str_isascii PySem.F.type_str_isascii mt_isascii (pv 1))) (pw_and1 (pt_val (pe_bm0 PySem.F.plainAttrs_str PySem.F.slot_str_isdigit PySem.F.type_str_isdigit mt_isdigit (pv 1))))))) (pw_or1 (pt_cmpR op_gt (pe_callB call_len_str (by rfl) T.n_len (by decide +kernel) (pa_cons (pv 1) pa_nil)) (pe_glob (v := .int 60) rfl T.m_MOST_DIGITS ⟨_, rfl⟩) (nomark _))))) (pss_one (ps_ret pe_non)) pss_nil)
      (pss_cons (ps_if (PW.pt (pw_and (pt_val (pe_bm PySem.F.plainAttrs_str PySem.F.slot_str_startswith PySem.F.type_str_startswith mt_startswith (pv 1) (pa_cons pe_str pa_nil))) (pw_and1 (pt_cmpR op_ne (pv 0) pe_str (nomark _))))) (pss_one (ps_ret pe_non)) pss_nil)
      (pss_one (ps_ret (pe_callTy (T := "int") call_int_str (by rfl) T.n_int (by decide +kernel) (pa_cons (pv 0) pa_nil))))))), ?_⟩
  have e1 : Txt.startswith (wd n) "-" = false := by have := by14 (fun n => !Txt.startswith (wd n) "-") (by decide +kernel) hn; simpa using this
  have e2 : Txt.isascii (wd n) = true := by14 (fun n => Txt.isascii (wd n)) (by decide +kernel) hn
  have e3 : Txt.isdigit (wd n) = true := by14 (fun n => Txt.isdigit (wd n)) (by decide +kernel) hn
  have e4 : (wd n).length ≤ 2 := of_decide_eq_true (by14 (fun n => decide ((wd n).length ≤ 2)) (by decide +kernel) hn)
  have e5 : PySem.intText? (wd n) = some (n : Int) := of_decide_eq_true (by14 (fun n => decide (PySem.intText? (wd n) = some (n : Int))) (by decide +kernel) hn)
  refine ⟨_, rfl, rfl, _, _, rfl, rfl, _, rfl, ?_⟩
  rw [e1]
  refine iteF ⟨_, rfl, ?_⟩
  refine ⟨_, rfl, rfl, _, rfl, rfl, trivial, _, rfl, ?_⟩
  rw [e2]
  refine iteT ⟨_, rfl, rfl, _, rfl, rfl, trivial, _, rfl, ?_⟩
  rw [e3]
  have ll : (wd n).length ≤ sizeLine := Nat.le_trans e4 (by decide)
  refine iteF ⟨_, rfl, _, rfl, ll, _, _, rfl, rfl, _, rfl, ?_⟩
  rw [decide_eq_false (by omega)]
  refine iteF ?_
  have e6 : Txt.startswith (wd n) "0" = decide (n = 0) := of_decide_eq_true (by14 (fun n => decide (Txt.startswith (wd n) "0" = decide (n = 0))) (by decide +kernel) hn)
  refine ⟨_, rfl, rfl, _, _, rfl, rfl, _, rfl, ?_⟩
  rw [e6]
  have last : tRet (tCB (fun xs H Q => ∃ a n, xs = [V.str a] ∧ intText? a = some n ∧ a.length ≤ 640 ∧ Q (V.int n) H) (tCons (tVar 0) tNil)) { nx := fun x H' => Q V.non H', rt := Q } (List.set (L2.start N_number_of [V.str (wd n)]) 1 (some (V.str (wd n)))) H :=
    ⟨_, rfl, _, _, rfl, e5, by omega, k⟩
  refine ite2 (fun h0 => ?_) (fun _ => last)
  have h0 := of_decide_eq_true h0
  subst h0
  have ew : wd 0 = "0" := by decide +kernel
  refine ⟨_, rfl, ?_⟩
  rw [ew] at last ⊢
  exact ⟨rfl, _, rfl, iteF last⟩
def sp_itemat (K : PySem.W.Frag) : Sp := fun vs H Q _ => ∃ (a : Addr) (ws : List Str) (i : Nat) (x : Str), vs = [.ref a, .int (i : Int)] ∧ H a = some (.lst (ws.map V.str)) ∧ ws[i]? = some x ∧ Q (.str x) H
theorem G_item_at (T : Txt P K mg A) : FnG P w K mg base CX0 3 A.a_item_at A.d_item_at P_item_at (sp_itemat K) := by
  refine okG T.F_item_at sc_item_at (fun vs H Q E h => ?_) (fun cdv A0 outer s H vs Q E hr h => ?_)
  · obtain ⟨a, ws, i, x, rfl, _⟩ := h
    rfl
  obtain ⟨a, ws, i, x, rfl, ha, hx, k⟩ := h
  have hi : i < ws.length := (List.getElem?_eq_some_iff.mp hx).1
  refine ⟨_, (pss_cons (ps_if (pt_cmpR op_ge (pv 1) (pe_callB call_len_seq (by rfl) T.n_len (by decide +kernel) (pa_cons (pv 0) pa_nil)) (nomark _)) (pss_one (ps_raise rfl takes0 (pmk_G T.X_BadText.oex T.X_BadText.iC T.X_BadText.tI (G_init_BadText T) (hr.mono (by decide)) rfl T.X_BadText.gC T.b_init_BadText pass0 (pa_cons pe_int (pa_cons (pe_callB call_len_seq (by rfl) T.n_len (by decide +kernel) (pa_cons (pv 0) pa_nil)) pa_nil))))) pss_nil)
      (pss_one (ps_ret (pe_ix (r := rIxL K) ix_list (pv 0) (pv 1) (fun _ _ => rfl))))), ?_⟩
  refine ⟨_, rfl, _, rfl, a, _, rfl, .inl (SqL.of ha), _, _, rfl, rfl, _, rfl, ?_⟩
  rw [decide_eq_false (by rw [List.length_map]; omega)]
  refine iteF ⟨_, rfl, _, rfl, _, _, _, _, rfl, rfl, SqL.of ha, atI_nat (by rw [List.getElem?_map, hx]; rfl), k⟩
def sp_numat (K : PySem.W.Frag) : Sp := fun vs H Q _ => ∃ (a : Addr) (ws : List Str) (i n : Nat) (lo hi : Int), vs = [.ref a, .int (i : Int), .int lo, .int hi] ∧ H a = some (.lst (ws.map V.str)) ∧ ws[i]? = some (wd n) ∧ n ≤ 13 ∧ lo ≤ (n : Int) ∧ (n : Int) ≤ hi ∧ Q (.int (n : Int)) H
theorem G_number_at (T : Txt P K mg A) : FnG P w K mg base CX0 4 A.a_number_at A.d_number_at P_number_at (sp_numat K) := by
  refine okG T.F_number_at sc_number_at (fun vs H Q E h => ?_) (fun cdv A0 outer s H vs Q E hr h => ?_)
  · obtain ⟨a, ws, i, n, lo, hi, rfl, _⟩ := h
    rfl
  obtain ⟨a, ws, i, n, lo, hi, rfl, ha, hx, hn, h1, h2, k⟩ := h
  refine ⟨_, (pss_cons (ps_set (i := 4) sc_number_at.nd rfl (Or.inl rfl) (pe_callG (G_number_of T) (hr.mono (by decide)) rfl T.g_number_of T.F_number_of.kp T.b_number_of .nil pass0 (pa_cons (pe_callG (G_item_at T) (hr.mono (by decide)) rfl T.g_item_at T.F_item_at.kp T.b_item_at .nil pass0 (pa_cons (pv 0) (pa_cons (pv 1) pa_nil))) pa_nil)))
      (pss_cons (ps_if (pt_not (pt_val (pe_callG (G_is_within T) (hr.mono (by decide)) rfl T.g_is_within T.F_is_within.kp T.b_is_within .nil pass0 (pa_cons (pv 4) (pa_cons (pv 2) (pa_cons (pv 3) pa_nil)))))) (pss_one (ps_raise rfl takes0 (pmk_G T.X_BadText.oex T.X_BadText.iC T.X_BadText.tI (G_init_BadText T) (hr.mono (by decide)) rfl T.X_BadText.gC T.b_init_BadText pass0 (pa_cons pe_int (pa_cons (pv 1) pa_nil))))) pss_nil)
      (pss_one (ps_ret (pv 4))))), ?_⟩
  refine ⟨_, rfl, _, rfl, a, ws, i, _, rfl, ha, hx, n, rfl, hn, ?_⟩
  have z : (isI (V.int (n : Int)) && (inLo (V.int (n : Int)) (.int lo) && inHi (V.int (n : Int)) (.int hi))) = true := by
    have a1 : inLo (V.int (n : Int)) (.int lo) = true := show decide (lo ≤ (n : Int)) = true from decide_eq_true h1
    have a2 : inHi (V.int (n : Int)) (.int hi) = true := show decide ((n : Int) ≤ hi) = true from decide_eq_true h2
    rw [a1, a2]
    rfl
  refine ⟨_, rfl, _, rfl, _, rfl, _, .int lo, .int hi, rfl, trivial, trivial, trivial, ?_⟩
  rw [z]
  exact ⟨_, rfl, iteF ⟨_, rfl, k⟩⟩
def sp_colon (K : PySem.W.Frag) : Sp := fun vs H Q _ => ∃ (a : Addr) (ws : List Str) (i : Nat), vs = [.ref a, .int (i : Int)] ∧ H a = some (.lst (ws.map V.str)) ∧ ws[i]? = some ":" ∧ Q .non H
theorem G_read_colon (T : Txt P K mg A) : FnG P w K mg base CX0 4 A.a_read_colon A.d_read_colon P_read_colon (sp_colon K) := by
  refine okG T.F_read_colon sc_read_colon (fun vs H Q E h => ?_) (fun cdv A0 outer s H vs Q E hr h => ?_)
  · obtain ⟨a, ws, i, rfl, _⟩ := h
    rfl
  obtain ⟨a, ws, i, rfl, ha, hx, k⟩ := h
  refine ⟨_, (pss_one (ps_if (pt_cmpR op_ne (pe_callG (G_item_at T) (hr.mono (by decide)) rfl T.g_item_at T.F_item_at.kp T.b_item_at .nil pass0 (pa_cons (pv 0) (pa_cons (pv 1) pa_nil))) pe_str (nomark _)) (pss_one (ps_raise rfl takes0 (pmk_G T.X_BadText.oex T.X_BadText.iC T.X_BadText.tI (G_init_BadText T) (hr.mono (by decide)) rfl T.X_BadText.gC T.b_init_BadText pass0 (pa_cons pe_int (pa_cons (pv 1) pa_nil))))) pss_nil)), ?_⟩
  exact ⟨_, rfl, _, rfl, a, ws, i, _, rfl, ha, hx, rfl, _, rfl, iteF k⟩
def sp_rend (K : PySem.W.Frag) : Sp := fun vs H Q _ => ∃ (a : Addr) (ws : List Str) (i : Nat), vs = [.ref a, .int (i : Int)] ∧ H a = some (.lst (ws.map V.str)) ∧ ws.length ≤ i ∧ Q .non H
theorem G_read_end (T : Txt P K mg A) : FnG P w K mg base CX0 3 A.a_read_end A.d_read_end P_read_end (sp_rend K) := by
  refine okG T.F_read_end sc_read_end (fun vs H Q E h => ?_) (fun cdv A0 outer s H vs Q E hr h => ?_)
  · obtain ⟨a, ws, i, rfl, _⟩ := h
    rfl
  obtain ⟨a, ws, i, rfl, ha, hx, k⟩ := h
  refine ⟨_, (pss_one (ps_if (pt_cmpR op_gt (pe_callB call_len_seq (by rfl) T.n_len (by decide +kernel) (pa_cons (pv 0) pa_nil)) (pv 1) (nomark _)) (pss_one (ps_raise rfl takes0 (pmk_G T.X_BadText.oex T.X_BadText.iC T.X_BadText.tI (G_init_BadText T) (hr.mono (by decide)) rfl T.X_BadText.gC T.b_init_BadText pass0 (pa_cons pe_int (pa_cons (pv 1) pa_nil))))) pss_nil)), ?_⟩
  refine ⟨_, rfl, a, _, rfl, .inl (SqL.of ha), _, rfl, _, _, rfl, rfl, _, rfl, ?_⟩
  rw [decide_eq_false (by rw [List.length_map]; omega)]
  exact iteF k
/-! ### the text of a web -/
def words (n : Nat) (ps : MC.Pr) : List Str := wd n :: ":" :: ps.flatMap fun p => [wd p.1, wd p.2]
def text (n : Nat) (ps : MC.Pr) : Str := Txt.join " " (words n ps)
theorem log_of {i : Int} (h : i.natAbs < 2 ^ 200) : i.natAbs.log2 < 1920 := by
  by_cases h0 : i.natAbs = 0
  · rw [h0]
    decide
  · refine (Nat.log2_lt h0).mpr (Nat.lt_of_lt_of_le h ?_)
    exact Nat.pow_le_pow_right (by decide) (by decide)
theorem log13 {n : Nat} (h : n ≤ 13) : ((n : Int)).natAbs.log2 < 1920 := log_of (by
  have : (14 : Nat) ≤ 2 ^ 200 := by decide
  omega)
theorem wd_len {n : Nat} (h : n ≤ 13) : (wd n).length ≤ 2 := of_decide_eq_true (by14 (fun n => decide ((wd n).length ≤ 2)) (by decide +kernel) h)
theorem wd_sp {n : Nat} (h : n ≤ 13) : 32 ∉ TL.tl (wd n) := of_decide_eq_true (by14 (fun n => decide (32 ∉ TL.tl (wd n))) (by decide +kernel) h)
theorem words_mem {n : Nat} {ps : MC.Pr} {x : Str} (hn : n ≤ 13) (hb : MC.Below n ps) (h : x ∈ words n ps) : x.length ≤ 2 ∧ 32 ∉ TL.tl x := by
  rcases List.mem_cons.mp h with rfl | h
  · exact ⟨wd_len hn, wd_sp hn⟩
  · rcases List.mem_cons.mp h with rfl | h
    · exact ⟨by decide, by decide⟩
    · obtain ⟨p, hp, hx⟩ := List.mem_flatMap.mp h
      obtain ⟨h1, h2⟩ := hb p hp
      rcases List.mem_cons.mp hx with rfl | hx
      · exact ⟨wd_len (by omega), wd_sp (by omega)⟩
      · rw [List.mem_singleton.mp hx]
        exact ⟨wd_len (by omega), wd_sp (by omega)⟩
theorem words_len (n : Nat) (ps : MC.Pr) : (words n ps).length = 2 + 2 * ps.length := by
  have e : ∀ ps : MC.Pr, (ps.flatMap fun p => [wd p.1, wd p.2]).length = 2 * ps.length := fun ps => by
    induction ps with
    | nil => rfl
    | cons p r ih =>
      rw [List.flatMap_cons, List.length_append, ih]
      show 2 + 2 * r.length = 2 * (r.length + 1)
      omega
  show (_ + 1) + 1 = _
  rw [e]
  omega
theorem sum_le2 : ∀ (l : List Str), (∀ x ∈ l, x.length ≤ 2) → (l.map (·.length)).sum ≤ 2 * l.length
  | [], _ => by simp
  | x :: r, h => by
    have h1 := h x List.mem_cons_self
    have h2 := sum_le2 r fun y hy => h y (List.mem_cons_of_mem _ hy)
    rw [List.map_cons, List.sum_cons, List.length_cons]
    omega
def sp_str (C : Addr) : Sp := fun vs H Q _ => ∃ (x : Addr) (n : Nat) (ps : MC.Pr), vs = [.ref x] ∧ WebAt H x C n ps ∧ n ≤ 13 ∧ ps.length ≤ 12 ∧ MC.Below n ps ∧ ∀ H', Same H H' → Q (.str (text n ps)) H'
theorem G_Web___str__ (T : Txt P K mg A) : FnG P w K mg base CX0 2 A.a_Web___str__ A.d_Web___str__ P_Web___str__ (sp_str A.c_Web) := by
  refine okG T.F_Web___str__ sc_Web___str__ (fun vs H Q E h => ?_) (fun cdv A0 outer s H vs Q E hr h => ?_)
  · obtain ⟨x, n, ps, rfl, _⟩ := h
    rfl
  obtain ⟨x, n, ps, rfl, ⟨dx, q, xs, hx, hq, hp⟩, hn, hl, hb, k⟩ := h
  refine ⟨_, (pss_one (ps_ret (pe_bm PySem.F.plainAttrs_str PySem.F.slot_str_join PySem.F.type_str_join mt_join pe_str (pa_cons (pe_op op_cat (pe_lst (pa_cons (pe_callTy (T := "str") call_str_int (by rfl) T.n_str (by decide +kernel) (pa_cons (pe_fld (pv 0) rfl) pa_nil)) (pa_cons pe_str pa_nil))) (pe_lc2 (own := [("pair", 1), ("end", 2)]) (vs1 := [2]) (g := gName 1) (tt := tYes) (g1 := gName 2) (tt1 := tYes) (wi1 := iTup K (tVar 1)) rfl sc_Web___str__.nd (pi_tup (pe_fld (pv 0) rfl)) (blkOk_by (N := N_Web___str__) (sc := defScope s_Web___str__) (by decide +kernel)) (by decide) (fun _ _ _ _ _ => (pg_name (i := 1) sc_Web___str__.nd rfl (Or.inl rfl))) (fun _ _ _ _ _ => pts_nil) (fun _ _ _ _ _ => (pi_tup (pv 1))) (fun _ _ _ _ _ => (pg_name (i := 2) sc_Web___str__.nd rfl (Or.inl rfl))) (fun _ _ _ _ _ => pts_nil) (fun _ _ _ _ _ => (pe_callTy (T := "str") call_str_int (by rfl) T.n_str (by decide +kernel) (pa_cons (pv 2) pa_nil))))) pa_nil)))), ?_⟩
  have hxl : xs.length = ps.length := Paired.length hp
  refine ⟨rfl, _, rfl, x, A.c_Web, dx, _, _, rfl, hx, T.K_Web, T.N_Web_places, rfl, _, rfl, log13 hn, ?_⟩
  refine ⟨by show 2 ≤ sizeLine; decide, fun q1 h1 => ?_⟩
  have s1 : Same H (upd H q1 (.lst [.str (wd n), .str ":"])) := Same.new (fun _ _ h => h) h1
  refine ⟨_, rfl, x, A.c_Web, dx, _, _, rfl, s1 _ _ hx, T.K_Web, T.N_Web_ties, rfl, q, rfl, ⟨_, SqT.of (s1 _ _ hq)⟩, fun D hD => ?_⟩
  have nD : H D = none := s1.free hD
  refine walk_gen (walk_tup (K := K) (a := q) (xs := xs)) (fun i H' => Same (upd H q1 (.lst [.str (wd n), .str ":"])) H' ∧ H' D = some (.lst (((ps.take i).flatMap fun p => [wd p.1, wd p.2]).map V.str))) ⟨Same.new (fun _ _ h => h) hD, upd_same⟩ (fun i H' _ q => SqT.of (q.1 _ _ (s1 _ _ hq))) ?_ ?_
  · rintro i y H' _ hi ⟨s2, hD2⟩ ⟨rfl, hy⟩
    obtain ⟨p, hpi, t, rfl, ht⟩ := paired_get hp hy
    obtain ⟨b1, b2⟩ := hb p (List.mem_of_getElem? hpi)
    have ht2 := s2 _ _ (s1 _ _ ht)
    have et : (ps.take (i + 1)).flatMap (fun p => [wd p.1, wd p.2]) = (ps.take i).flatMap (fun p => [wd p.1, wd p.2]) ++ [wd p.1, wd p.2] := by
      rw [List.take_succ, hpi]
      simp
    have el : ((ps.take i).flatMap fun p => [wd p.1, wd p.2]).length ≤ 24 := by
      have := words_len n (ps.take i)
      have e2 : (words n (ps.take i)).length = ((ps.take i).flatMap fun p => [wd p.1, wd p.2]).length + 1 + 1 := rfl
      have := List.length_take_le i ps
      omega
    rw [et]
    generalize ((ps.take i).flatMap fun p => [wd p.1, wd p.2]) = acc at hD2 el
    refine ⟨rfl, tYes_of (iteT ⟨_, rfl, t, rfl, ⟨_, SqT.of ht2⟩, walk_gen (walk_tup (K := K) (a := t) (xs := [V.int (p.1 : Int), .int (p.2 : Int)])) (fun j H'' => Same (upd H q1 (.lst [.str (wd n), .str ":"])) H'' ∧ H'' D = some (.lst ((acc ++ [wd p.1, wd p.2].take j).map V.str))) ⟨s2, by simpa using hD2⟩ (fun j H'' _ q => SqT.of (q.1 _ _ (s1 _ _ ht))) ?_ ?_⟩)⟩
    · rintro j z H'' _ hj ⟨s3, hD3⟩ ⟨rfl, hz⟩
      obtain ⟨m, hm, hm2, rfl⟩ : ∃ m : Nat, m ≤ 13 ∧ [wd p.1, wd p.2][j]? = some (wd m) ∧ z = .int (m : Int) := by
        match j, hj, hz with
        | 0, _, hz => exact ⟨p.1, by omega, rfl, (Option.some.inj hz).symm⟩
        | 1, _, hz => exact ⟨p.2, by omega, rfl, (Option.some.inj hz).symm⟩
      refine ⟨rfl, tYes_of (iteT ⟨_, rfl, _, rfl, log13 hm, _, hD3, ?_, ?_, ?_⟩)⟩
      · rw [List.length_map, List.length_append, List.length_take]
        have e7 : [wd p.1, wd p.2].length = 2 := rfl
        exact small1000 (by omega)
      · intro b o h
        rw [upd_ne (ne_of_none h hD)]
        exact s3 _ _ h
      · rw [upd_same, List.take_succ, hm2]
        simp [wd]
    · rintro H'' ⟨s3, hD3⟩
      exact ⟨s3, hD3⟩
  · rintro H' ⟨s2, hD2⟩
    rw [List.take_of_length_le (by omega)] at hD2
    have hq2 := s2 _ _ (upd_same (a := q1))
    have e2 := words_len n ps
    have e3 : ((ps.flatMap fun p => [wd p.1, wd p.2]).map V.str).length = 2 * ps.length := by
      rw [List.length_map]
      have e4 : (words n ps).length = (ps.flatMap fun p => [wd p.1, wd p.2]).length + 1 + 1 := rfl
      omega
    refine ⟨q1, D, _, _, rfl, rfl, hq2, hD2, ?_, fun p1 hp1 => ?_⟩
    · rw [e3]
      have : (1000 : Nat) ≤ sizeLine := by decide
      show 2 + _ ≤ _
      omega
    · refine ⟨_, p1, words n ps, rfl, rfl, .inl (SqL.of upd_same), ?_, ?_⟩
      · have e5 := sum_le2 (words n ps) fun x hx => (words_mem hn hb hx).1
        have e6 : Str.length (Str.ofString " ") = 1 := rfl
        rw [e6]
        omega
      · exact k _ (s1.trans (s2.trans (Same.new (fun _ _ h => h) hp1)))
/-! ### webs are equal -/
def sp_eq (C : Addr) : Sp := fun vs H Q _ => ∃ (x : Addr) (n : Nat) (ps : MC.Pr) (y : V), vs = [.ref x, y] ∧ WebAt H x C n ps ∧
  ((∃ z m qs, y = .ref z ∧ WebAt H z C m qs ∧ Q (.bl (decide (n = m ∧ ps = qs))) H) ∨ ∃ b xs, y = .ref b ∧ SqX H b xs ∧ Q (.bl false) H)
theorem G_Web___eq__ (T : Txt P K mg A) : FnG P w K mg base CX0 1 A.a_Web___eq__ A.d_Web___eq__ P_Web___eq__ (sp_eq A.c_Web) := by
  refine okG T.F_Web___eq__ sc_Web___eq__ (fun vs H Q E h => ?_) (fun cdv A0 outer s H vs Q E hr h => ?_)
  · obtain ⟨x, n, ps, y, rfl, _⟩ := h
    rfl
  obtain ⟨x, n, ps, y, rfl, ⟨dx, q, xs, hx, hq, hp⟩, h⟩ := h
  refine ⟨_, (pss_cons (ps_if (pt_not (pt_val (pe_callB call_isi (by rfl) T.n_isinstance (by decide +kernel) (pa_cons (pv 1) (pa_cons (pe_glob (v := .ref A.c_Web) rfl T.g_Web rfl) pa_nil))))) (pss_one (ps_ret pe_bl)) pss_nil)
      (pss_one (ps_ret (pe_and (pe_cmpR op_isSelf (pe_callTy (T := "type") call_typeO (by rfl) T.n_type (by decide +kernel) (pa_cons (pv 0) pa_nil)) (pe_callTy (T := "type") call_typeO (by rfl) T.n_type (by decide +kernel) (pa_cons (pv 1) pa_nil)) (nomark _)) (pe_and (pe_cmpR op_eq (pe_fld (pv 0) rfl) (pe_fld (pv 1) rfl) (nomark _)) (pe_one (pe_cmpR (op_eqD hr.room.units) (pe_fld (pv 0) rfl) (pe_fld (pv 1) rfl) (nomark _)))))))), ?_⟩
  rcases h with ⟨z, m, qs, rfl, ⟨dz, r, zs, hz, hr', hp'⟩, k⟩ | ⟨b, zs, rfl, hb, k⟩
  · refine ⟨_, rfl, _, _, _, _, _, rfl, .own A.c_Web, own_ty hz T.K_Web T.I_Web, kit_self, _, rfl, iteF ?_⟩
    refine ⟨_, rfl, _, _, _, _, rfl, hx, _, rfl, _, _, _, _, rfl, hz, _, rfl, rfl, ?_⟩
    refine ⟨_, rfl, iteT ⟨_, rfl, x, A.c_Web, dx, _, _, rfl, hx, T.K_Web, T.N_Web_places, rfl, _, rfl, z, A.c_Web, dz, _, _, rfl, hz, T.K_Web, T.N_Web_places, rfl, rfl, _, rfl, ?_⟩⟩
    by_cases e : n = m
    · subst e
      rw [decide_eq_true rfl]
      refine iteT ⟨_, rfl, x, A.c_Web, dx, _, _, rfl, hx, T.K_Web, T.N_Web_ties, rfl, _, rfl, z, A.c_Web, dz, _, _, rfl, hz, T.K_Web, T.N_Web_ties, rfl, ?_⟩
      refine ⟨_, _, .tup (SqT.of hq) (dp_prs hp), .tup (SqT.of hr') (dp_prs hp'), shaped_tps _, shaped_tps _, ?_⟩
      rw [eqv_tps]
      simpa using k
    · have e' : ¬ (V.int (n : Int) = V.int (m : Int)) := fun h => e (by
        have := V.int.inj h
        omega)
      rw [decide_eq_false e']
      refine iteF ?_
      have z : decide (n = m ∧ ps = qs) = false := decide_eq_false fun h => e h.1
      rw [z] at k
      exact k
  · rcases hb with hb | hb
    · refine ⟨_, rfl, _, _, _, _, _, rfl, .own A.c_Web, .base (.lst hb), T.Z_l, _, rfl, iteT ?_⟩
      exact k
    · refine ⟨_, rfl, _, _, _, _, _, rfl, .own A.c_Web, .base (.tup hb), T.Z_t, _, rfl, iteT ?_⟩
      exact k
/-! ### webs made -/
theorem make_web (T : Txt P K mg A) {H : Hp} {n : Nat} {a : Addr} {ps : MC.Pr} {Q : VK} {E : XK} (h1 : 1 ≤ n) (hn : n ≤ 13) (hl : ps.length ≤ 12) (hp : PrsA H a ps) (hb : MC.Below n ps) (hh : hang n ps = true)
    (k : ∀ y H', Same H H' → WebAt H' y A.c_Web n ps → Q (.ref y) H') : ∀ x dx, H x = none → H dx = none → dx ≠ x → sp_webi K A.c_Web A.c_BadWeb [.ref x, .int (n : Int), .ref a] (upd (upd H dx (.own x)) x (.ins A.c_Web dx [])) (fun v H2 => v = .non ∧ Q (.ref x) H2) E := by
  intro x dx hx hdx hne
  have s0 : Same H (upd (upd H dx (.own x)) x (.ins A.c_Web dx [])) := fun b o e => by
    rw [upd_ne (ne_of_none e hx), upd_ne (ne_of_none e hdx)]
    exact e
  refine ⟨x, dx, a, n, ps, rfl, upd_same, h1, hn, hl, hp.same s0, hb, fun _ H' y e1 dt kp => ⟨rfl, ?_⟩, fun e => by rw [hh] at e; cases e⟩
  obtain ⟨q, xs, rfl, hq, pp⟩ := dst_prs dt
  refine k x H' (fun b o e => kp b o (ne_of_none e hx) (s0 b o e)) ⟨dx, q, xs, e1, hq, pp⟩
theorem make_apart (T : Txt P K mg A) {H : Hp} {n : Nat} {a : Addr} {ps : MC.Pr} {Q : VK} {E : XK} (h1 : 1 ≤ n) (hn : n ≤ 13) (hl : ps.length ≤ 12) (hp : PrsA H a ps) (hb : MC.Below n ps) (hh : hang n ps = false)
    (k : ∀ d H', H' d = some (.xd [("part", .str "apart")]) → Same H H' → E (.ref A.c_BadWeb) (some d) H') : ∀ x dx, H x = none → H dx = none → dx ≠ x → sp_webi K A.c_Web A.c_BadWeb [.ref x, .int (n : Int), .ref a] (upd (upd H dx (.own x)) x (.ins A.c_Web dx [])) (fun v H2 => v = .non ∧ Q (.ref x) H2) E := by
  intro x dx hx hdx hne
  have s0 : Same H (upd (upd H dx (.own x)) x (.ins A.c_Web dx [])) := fun b o e => by
    rw [upd_ne (ne_of_none e hx), upd_ne (ne_of_none e hdx)]
    exact e
  exact ⟨x, dx, a, n, ps, rfl, upd_same, h1, hn, hl, hp.same s0, hb, (fun e => by rw [hh] at e; cases e), fun _ d H' hd s1 => k d H' hd (s0.trans s1)⟩
/-! ### a text read -/
def fl (ps : MC.Pr) : List Nat := ps.flatMap fun p => [p.1, p.2]
theorem fl_len : ∀ ps : MC.Pr, (fl ps).length = 2 * ps.length
  | [] => rfl
  | p :: ps => by
    have ih := fl_len ps
    unfold fl at ih ⊢
    rw [List.flatMap_cons, List.length_append, ih]
    show 2 + 2 * ps.length = 2 * (ps.length + 1)
    omega
theorem words_fl (n : Nat) (ps : MC.Pr) : words n ps = wd n :: ":" :: (fl ps).map wd := by
  unfold words fl
  rw [List.map_flatMap]
  rfl
theorem fl_at : ∀ (ps : MC.Pr) (k : Nat), (fl ps)[2 * k]? = (ps.map (·.1))[k]? ∧ (fl ps)[2 * k + 1]? = (ps.map (·.2))[k]?
  | [], k => ⟨rfl, rfl⟩
  | p :: ps, 0 => ⟨rfl, rfl⟩
  | p :: ps, k + 1 => by
    have ih := fl_at ps k
    exact ih
theorem fm_congr {α β : Type} {f g : α → Option β} : ∀ {l : List α}, (∀ x ∈ l, f x = g x) → l.filterMap f = l.filterMap g
  | [], _ => rfl
  | a :: l, h => by
    rw [List.filterMap_cons, List.filterMap_cons, h a List.mem_cons_self, fm_congr fun x hx => h x (List.mem_cons_of_mem _ hx)]
theorem pickL (f : Nat → Nat) (xs ys : List V) (h : ∀ k, k < ys.length → xs[f k]? = ys[k]?) : ((List.range ys.length).map f).filterMap (xs[·]?) = ys := by
  rw [List.filterMap_map]
  have e : (List.range ys.length).filterMap (fun k => ys[k]?) = ys := by
    have := PySem.W.krv_all ys.toArray
    simpa using this
  refine Eq.trans (fm_congr fun k hk => ?_) e
  exact h k (List.mem_range.mp hk)
theorem stp_even (ps : MC.Pr) : stpV none (nv (fl ps)) = nv (ps.map (·.1)) := by
  have hl : (nv (fl ps)).length = 2 * ps.length := by rw [List.length_map, fl_len]
  have e := pickL (fun k => 2 * k) (nv (fl ps)) (nv (ps.map (·.1))) fun k hk => by
    rw [List.getElem?_map, (fl_at ps k).1, ← List.getElem?_map]
  have hm : (nv (ps.map (·.1))).length = ps.length := by rw [List.length_map, List.length_map]
  rw [hm] at e
  unfold stpV
  rw [hl]
  have eb : sliceBounds none none (some 2) (2 * ps.length) = (0, ((2 * ps.length : Nat) : Int), 2) := by simp [sliceBounds]
  rw [eb]
  have er : sliceRange 0 ((2 * ps.length : Nat) : Int) 2 = (List.range ps.length).map fun k => 2 * k := by
    unfold sliceRange
    rw [if_pos (by decide)]
    by_cases h0 : ps.length = 0
    · rw [h0]
      rfl
    · rw [if_pos (by omega)]
      show (List.range ((((2 * ps.length : Nat) : Int) - 0 + 2 - 1) / 2).toNat).map _ = _
      rw [show ((((2 * ps.length : Nat) : Int) - 0 + 2 - 1) / 2).toNat = ps.length by omega]
      refine List.map_congr_left fun k _ => ?_
      omega
  rw [er]
  exact e
theorem stp_odd (ps : MC.Pr) : stpV (some 1) (nv (fl ps)) = nv (ps.map (·.2)) := by
  have hl : (nv (fl ps)).length = 2 * ps.length := by rw [List.length_map, fl_len]
  have e := pickL (fun k => 2 * k + 1) (nv (fl ps)) (nv (ps.map (·.2))) fun k hk => by
    rw [List.getElem?_map, (fl_at ps k).2, ← List.getElem?_map]
  have hm : (nv (ps.map (·.2))).length = ps.length := by rw [List.length_map, List.length_map]
  rw [hm] at e
  unfold stpV
  rw [hl]
  by_cases h0 : ps.length = 0
  · have : ps = [] := List.length_eq_zero_iff.mp h0
    subst this
    rfl
  · have eb : sliceBounds (some 1) none (some 2) (2 * ps.length) = (1, ((2 * ps.length : Nat) : Int), 2) := by
      simp [sliceBounds]
      omega
    rw [eb]
    have er : sliceRange 1 ((2 * ps.length : Nat) : Int) 2 = (List.range ps.length).map fun k => 2 * k + 1 := by
      unfold sliceRange
      rw [if_pos (by decide), if_pos (by omega)]
      show (List.range ((((2 * ps.length : Nat) : Int) - 1 + 2 - 1) / 2).toNat).map _ = _
      rw [show ((((2 * ps.length : Nat) : Int) - 1 + 2 - 1) / 2).toNat = ps.length by omega]
      refine List.map_congr_left fun k _ => ?_
      omega
    rw [er]
    exact e
theorem zip_prs : ∀ ps : MC.Pr, (nv (ps.map (·.1))).zip (nv (ps.map (·.2))) = ps.map fun p => (V.int (p.1 : Int), V.int (p.2 : Int))
  | [] => rfl
  | p :: ps => by
    have ih := zip_prs ps
    exact congrArg ((V.int (p.1 : Int), V.int (p.2 : Int)) :: ·) ih
theorem prs_of {H : Hp} : ∀ {ts : List Addr} {ps : MC.Pr}, Paired (fun (t : Addr) (q : V × V) => H t = some (.tup [q.1, q.2])) ts (ps.map fun p => (V.int (p.1 : Int), V.int (p.2 : Int))) → Paired (PrI H) (ts.map V.ref) ps
  | [], [], _ => .nil
  | [], _ :: _, h => by cases h
  | _ :: _, [], h => by cases h
  | t :: ts, p :: ps, .cons h r => .cons ⟨t, rfl, .inr h⟩ (prs_of r)
theorem joinL_le {S : List Nat} (hS : S.length = 1) : ∀ ps : List (List Nat), (∀ p ∈ ps, p.length ≤ 2) → (TL.joinL S ps).length ≤ 3 * ps.length
  | [], _ => Nat.zero_le _
  | [p], h => by
    have := h p List.mem_cons_self
    show p.length ≤ 3
    omega
  | p :: q :: r, h => by
    have h1 := h p List.mem_cons_self
    have h2 := joinL_le hS (q :: r) fun z hz => h z (List.mem_cons_of_mem _ hz)
    show (p ++ (S ++ TL.joinL S (q :: r))).length ≤ _
    rw [List.length_append, List.length_append, hS]
    have : (p :: q :: r).length = (q :: r).length + 1 := rfl
    omega
theorem text_len {n : Nat} {ps : MC.Pr} (hn : n ≤ 13) (hb : MC.Below n ps) (hl : ps.length ≤ 12) : (text n ps).length ≤ 100 := by
  unfold text
  rw [TL.join_eq, TL.len_tl, TL.tl_join]
  have h := joinL_le (S := TL.tl " ") (by rfl) ((words n ps).map TL.tl) fun p hp => by
    obtain ⟨x, hx, rfl⟩ := List.mem_map.mp hp
    rw [← TL.len_tl]
    exact (words_mem hn hb hx).1
  rw [List.length_map, words_len] at h
  omega
def sp_read (C : Addr) : Sp := fun vs H Q _ => ∃ (n : Nat) (ps : MC.Pr), vs = [.str (text n ps)] ∧ 1 ≤ n ∧ n ≤ 13 ∧ ps.length ≤ 12 ∧ MC.Below n ps ∧ hang n ps = true ∧ ∀ y H', Same H H' → WebAt H' y C n ps → Q (.ref y) H'
theorem G_Web_read (T : Txt P K mg A) : FnG P w K mg base CX0 7 A.a_Web_read A.d_Web_read P_Web_read (sp_read A.c_Web) := by
  refine okG T.F_Web_read sc_Web_read (fun vs H Q E h => ?_) (fun cdv A0 outer s H vs Q E hr h => ?_)
  · obtain ⟨n, ps, rfl, _⟩ := h
    rfl
  obtain ⟨n, ps, rfl, h1, hn, hl, hb, hh, k⟩ := h
  refine ⟨_, (pss_cons (ps_set (i := 1) sc_Web_read.nd rfl (Or.inr rfl) (pe_callG (G_items_of T) (hr.mono (by decide)) rfl T.g_items_of T.F_items_of.kp T.b_items_of .nil pass0 (pa_cons (pv 0) pa_nil)))
      (pss_cons (ps_set (i := 2) sc_Web_read.nd rfl (Or.inr rfl) (pe_callG (G_number_at T) (hr.mono (by decide)) rfl T.g_number_at T.F_number_at.kp T.b_number_at .nil pass0 (pa_cons (pv 1) (pa_cons pe_int (pa_cons pe_int (pa_cons (pe_glob (v := .int 13) rfl T.m_MOST_PLACES ⟨_, rfl⟩) pa_nil))))))
      (pss_cons (ps_expr (pe_callG (G_read_colon T) (hr.mono (by decide)) rfl T.g_read_colon T.F_read_colon.kp T.b_read_colon .nil pass0 (pa_cons (pv 1) (pa_cons pe_int pa_nil))))
      (pss_cons (ps_set (i := 3) sc_Web_read.nd rfl (Or.inl rfl) (pe_op op_add pe_int (pe_op op_mul pe_int (pe_glob (v := .int 12) rfl T.m_MOST_TIES ⟨_, rfl⟩))))
      (pss_cons (ps_setLc (i := 4) (own := [("index", 5)]) (g := gName 5) (tt := tYes) (by rfl) sc_Web_read.nd rfl rfl (sw_true rfl rfl rfl (by decide +kernel)) (pi_range2 (by rfl) T.n_range (pa_cons pe_int (pa_cons (pe_callB (call_min2 rfl) (by rfl) T.n_min (by decide +kernel) (pa_cons (pe_callB call_len_seq (by rfl) T.n_len (by decide +kernel) (pa_cons (pv 1) pa_nil)) (pa_cons (pv 3) pa_nil))) pa_nil))) (blkOk_by (N := N_Web_read) (sc := defScope s_Web_read) (by decide +kernel)) (fun _ _ _ _ _ => (pg_name (i := 5) sc_Web_read.nd rfl (Or.inl rfl))) (fun _ _ _ _ _ => pts_nil) (fun _ _ _ _ _ => (pe_callG (G_number_at T) (hr.mono (by decide)) rfl T.g_number_at T.F_number_at.kp T.b_number_at .nil pass0 (pa_cons (pv 1) (pa_cons (pv 5) (pa_cons pe_int (pa_cons (pe_op op_sub (pv 2) pe_int) pa_nil)))))))
      (pss_cons (ps_expr (pe_callG (G_read_end T) (hr.mono (by decide)) rfl T.g_read_end T.F_read_end.kp T.b_read_end .nil pass0 (pa_cons (pv 1) (pa_cons (pv 3) pa_nil))))
      (pss_cons (ps_if (pt_truth (pe_op op_and (pe_callB call_len_seq (by rfl) T.n_len (by decide +kernel) (pa_cons (pv 4) pa_nil)) pe_int) (by intro _; rfl)) (pss_one (ps_raise rfl takes0 (pmk_G T.X_BadText.oex T.X_BadText.iC T.X_BadText.tI (G_init_BadText T) (hr.mono (by decide)) rfl T.X_BadText.gC T.b_init_BadText pass0 (pa_cons pe_int (pa_cons (pe_callB call_len_seq (by rfl) T.n_len (by decide +kernel) (pa_cons (pv 1) pa_nil)) pa_nil))))) pss_nil)
      (pss_one (ps_try_thru0 (pss_one (ps_ret (pe_mkG (E := fun _ _ _ => False) T.M_Web (G_Web___init__ T) (hr.mono (by decide)) rfl T.g_Web T.b_Web___init__ (passes_call (W := fun _ _ _ _ => False) L2.takes0 (fun _ _ _ _ h => h)) (pa_cons (pv 2) (pa_cons (pe_lzip rfl (by rfl) T.n_list (by rfl) T.n_zip (pa_cons (pe_stp (pv 4) po_none) (pa_cons (pe_stp (pv 4) (po_some pe_int)) pa_nil))) pa_nil)))))))))))))), ?_⟩
  have wl := words_len n ps
  have fll := fl_len ps
  have tlen : (Txt.join " " (words n ps)).length + 2 ≤ sizeLine := by
    have h1 := text_len hn hb hl
    unfold text at h1
    exact Nat.le_trans (Nat.add_le_add_right h1 2) (by decide)
  refine ⟨_, rfl, words n ps, rfl, (fun h => by cases h), fun p hp => (words_mem hn hb hp).2, tlen, fun q1 H1 s1 hq1 => ?_⟩
  refine ⟨_, rfl, q1, words n ps, 0, n, 1, 13, rfl, hq1, rfl, hn, by omega, by omega, ?_⟩
  refine ⟨_, rfl, q1, words n ps, 1, rfl, hq1, rfl, ?_⟩
  refine ⟨_, _, rfl, rfl, .inl ⟨by decide, by decide⟩, _, _, rfl, rfl, ?_⟩
  refine ⟨_, rfl, q1, _, rfl, .inl (SqL.of hq1), _, rfl, _, _, rfl, _, _, rfl, ?_⟩
  have eM : (if (2 + 2 * 12 : Int) < (((words n ps).map V.str).length : Int) then (2 + 2 * 12 : Int) else (((words n ps).map V.str).length : Int)) = ((2 + 2 * ps.length : Nat) : Int) := by
    rw [List.length_map, wl]
    split <;> omega
  rw [eM]
  have eN : (((2 + 2 * ps.length : Nat) : Int) - 2).toNat = 2 * ps.length := by omega
  rw [eN]
  refine ⟨⟨by omega, by omega, by omega, by omega⟩, fun D hD => ?_⟩
  refine lc_range (lo := 2) (n := 2 * ps.length) (fun i H' => Same H1 H' ∧ H' D = some (.lst (nv ((fl ps).take i)))) ⟨Same.new (fun _ _ h => h) hD, upd_same⟩ ?_ ?_
  · rintro i H' hi ⟨s2, hD2⟩
    have e0 : (2 : Int) + (i : Int) = ((2 + i : Nat) : Int) := by omega
    rw [e0]
    have hi2 : i < (fl ps).length := by omega
    obtain ⟨x, hx⟩ : ∃ x, (fl ps)[i]? = some x := ⟨_, List.getElem?_eq_getElem hi2⟩
    have hxn : x < n := by
      obtain ⟨p, hp, hm⟩ := List.mem_flatMap.mp (show x ∈ ps.flatMap (fun p => [p.1, p.2]) from List.mem_of_getElem? hx)
      obtain ⟨b1, b2⟩ := hb p hp
      rcases List.mem_cons.mp hm with rfl | hm
      · exact b1
      · rw [List.mem_singleton.mp hm]
        exact b2
    have hw : (words n ps)[2 + i]? = some (wd x) := by
      rw [words_fl, show 2 + i = i + 1 + 1 by omega]
      show ((fl ps).map wd)[i]? = _
      rw [List.getElem?_map, hx]
      rfl
    refine ⟨rfl, tYes_of (iteT ⟨_, rfl, _, rfl, _, rfl, _, _, rfl, rfl, q1, words n ps, 2 + i, x, 0, (n : Int) - 1, rfl, s2 _ _ hq1, hw, by omega, by omega, by omega, _, hD2, ?_, ?_, ?_⟩)⟩
    · rw [List.length_map, List.length_take]
      exact small1000 (by omega)
    · intro b o h
      rw [upd_ne (ne_of_none h hD)]
      exact s2 _ _ h
    · rw [upd_same, List.take_succ, hx]
      simp
  · rintro H2 ⟨s2, hD2⟩
    rw [List.take_of_length_le (by omega)] at hD2
    have S2 := s1.trans s2
    refine ⟨_, rfl, _, rfl, q1, words n ps, 26, rfl, s2 _ _ hq1, by omega, ?_⟩
    have ln : (nv (fl ps)).length = 2 * ps.length := by rw [List.length_map, fll]
    have eb : Builtin.bitAnd (((nv (fl ps)).length : Nat) : Int) 1 = 0 := by
      rw [ln]
      exact of_decide_eq_true (by14 (fun m => decide (Builtin.bitAnd ((2 * m : Nat) : Int) 1 = 0)) (by decide +kernel) (by omega))
    refine ⟨_, rfl, D, _, rfl, .inl (SqL.of hD2), _, _, rfl, rfl, false, ?_, iteF ?_⟩
    · show false = (Builtin.bitAnd (((nv (fl ps)).length : Nat) : Int) 1 != 0)
      rw [eb]
      rfl
    refine ⟨_, rfl, _, rfl, D, _, rfl, SqL.of hD2, fun p1 hp1 => ⟨_, rfl, D, _, rfl, _, rfl, SqL.of (at_new hD2 hp1), fun p2 hp2 => ?_⟩⟩
    rw [stp_even, stp_odd] at *
    have g1 : (upd (upd H2 p1 (.lst (nv (ps.map (·.1))))) p2 (.lst (nv (ps.map (·.2))))) p1 = some (.lst (nv (ps.map (·.1)))) := at_new upd_same hp2
    refine ⟨p1, p2, _, _, rfl, SqL.of g1, SqL.of upd_same, by rw [List.length_map, List.length_map, List.length_map, List.length_map], fun H3 p ts s3 hp hpr => ?_⟩
    rw [zip_prs] at hpr
    have S3 := S2.trans ((Same.new (Same.new (fun _ _ h => h) hp1) hp2).trans s3)
    unfold rMkG
    exact make_web T h1 hn hl ⟨_, .inl hp, prs_of hpr⟩ hb hh fun y H' s4 hy => k y H' (S3.trans s4) hy
def oneK {α : Type} : List α → List α → List α
  | [], [a] => [a]
  | _, _ => []
theorem rel_oneK {vs : List V} {us : List Value} {zs : List V} {ws : List Value} (r : Vals vs us) (q : Vals zs ws) : Vals (oneK vs zs) (oneK us ws) := by
  cases r with
  | nil =>
    cases q with
    | nil => exact .nil
    | cons b q =>
      cases q with
      | nil => exact .cons b .nil
      | cons _ _ => exact .nil
  | cons _ _ => exact .nil
theorem kb_Web_read_text (T : Txt P K mg A) : KBinds K A.d_Web_read P_Web_read ["text"] oneK oneK :=
  kbindsF T.F_Web_read rel_oneK fun _ _ _ _ _ _ us ws hl => match us, ws, hl with
    | [], [_], _ => rfl
theorem kb_Web___init___ties_places (T : Txt P K mg A) : KBinds K A.d_Web___init__ P_Web___init__ ["ties", "places"] twoX twoX :=
  kbindsF T.F_Web___init__ rel_twoX fun _ _ _ _ _ _ us ws hl => match us, ws, hl with
    | [_], [_, _], _ => rfl
theorem kb_bridges_web (T : Txt P K mg A) : KBinds K A.d_bridges P_bridges ["web"] oneK oneK :=
  kbindsF T.F_bridges rel_oneK fun _ _ _ _ _ _ us ws hl => match us, ws, hl with
    | [], [_], _ => rfl
/-- a draw: an int below m; the bag's own list alone is changed -/
def sp_tip : Sp := fun vs H Q _ => ∃ (p c : Addr) (n : Nat) (m : Int), vs = [.ref p, .int m] ∧ Bg H p c n ∧ n ≤ 100000 ∧ 1 ≤ m ∧ m < 1073741824 ∧
  ∀ (x : Int) (H' : Hp), 0 ≤ x → x < m → Kp p H H' → Bg H' p c (n + 1) → Q (.int x) H'
theorem G__law_thread (T : Txt P K mg A) : FnG P w K mg base CX0 1 A.a__law_thread A.d__law_thread P__law_thread sp_tip := by
  refine okG T.F__law_thread sc__law_thread (fun vs H Q E h => ?_) (fun cdv A0 outer s H vs Q E hr h => ?_)
  · obtain ⟨p, c, n, m, rfl, _⟩ := h
    rfl
  obtain ⟨p, c, n, m, rfl, ⟨npc, ms, t, l, hp, hc, hms, t0, tn⟩, hn, m0, m1, k⟩ := h
  have t1 : t ≤ 100000 := by omega
  have hm : m ≠ 0 ∧ m.natAbs < 1073741824 := by omega
  refine ⟨_, (pss_cons (ps_if (pt_cmpR op_gt (pe_ix (r := rIxL K) ix_list (pv 0) pe_int (fun _ _ => rfl)) pe_int (nomark _)) (pss_cons (ps_set (i := 2) sc__law_thread.nd rfl (Or.inl rfl) (pe_callTy (T := "int") call_int1 (by rfl) T.n_int (by decide +kernel) (pa_cons (pe_ix (r := rIxL K) ix_list (pv 0) pe_int (fun _ _ => rfl)) pa_nil)))
      (pss_cons (ps_asg (pe_op op_fdivN (pv 2) (pv 1)) (pg_sub (pv 0) pe_int set_list))
      (pss_one (ps_ret (pe_op op_modN (pe_callTy (T := "int") call_int1 (by rfl) T.n_int (by decide +kernel) (pa_cons (pv 2) pa_nil)) (pv 1)))))) pss_nil)
      (pss_cons (ps_set (i := 3) sc__law_thread.nd rfl (Or.inl rfl) (pe_ix (r := rIxL K) ix_list (pv 0) pe_int (fun _ _ => rfl)))
      (pss_cons (ps_asg (pe_op op_add (pv 3) pe_int) (pg_sub (pv 0) pe_int set_list))
      (pss_cons (ps_set (i := 4) sc__law_thread.nd rfl (Or.inl rfl) (pe_op op_add (pe_op op_mul pe_int (pv 3)) pe_int))
      (pss_cons (ps_if (pt_cmpR (op_neD hr.room.units) (pe_ix (r := rIxL K) ix_list (pv 0) pe_int (fun _ _ => rfl)) (pe_lst pa_nil) (nomark _)) (pss_one (ps_set (i := 4) sc__law_thread.nd rfl (Or.inl rfl) (pe_ix (r := rIxL K) ix_list (pe_ix (r := rIxL K) ix_list (pv 0) pe_int (fun _ _ => rfl)) (pe_op op_modN (pe_callTy (T := "int") call_int1 (by rfl) T.n_int (by decide +kernel) (pa_cons (pv 3) pa_nil)) (pe_callB call_len_seq (by rfl) T.n_len (by decide +kernel) (pa_cons (pe_ix (r := rIxL K) ix_list (pv 0) pe_int (fun _ _ => rfl)) pa_nil))) (fun _ _ => rfl)))) pss_nil)
      (pss_cons (ps_if (PW.pt (pw_and (pt_cmpR op_lt (pv 3) (pe_callB call_len_seq (by rfl) T.n_len (by decide +kernel) (pa_cons (pe_ix (r := rIxL K) ix_list (pv 0) pe_int (fun _ _ => rfl)) pa_nil)) (nomark _)) (pw_and1 (pt_cmpR op_ge (pe_callB call_abs (by rfl) T.n_abs (by decide +kernel) (pa_cons (pv 4) pa_nil)) (pe_op op_pow pe_int pe_int) (nomark _))))) (pss_cons (ps_set (i := 2) sc__law_thread.nd rfl (Or.inl rfl) (pe_op op_add (pe_op op_mul pe_int (pe_op op_sub (pe_callB call_abs (by rfl) T.n_abs (by decide +kernel) (pa_cons (pe_callTy (T := "int") call_int1 (by rfl) T.n_int (by decide +kernel) (pa_cons (pv 4) pa_nil)) pa_nil)) (pe_op op_pow pe_int pe_int))) (pe_callTy (T := "int") call_int1 (by rfl) T.n_int (by decide +kernel) (pa_cons (pe_cmpR op_lt (pv 4) pe_int (nomark _)) pa_nil))))
      (pss_cons (ps_asg (pe_op op_fdivN (pv 2) (pv 1)) (pg_sub (pv 0) pe_int set_list))
      (pss_one (ps_ret (pe_op op_modN (pe_callTy (T := "int") call_int1 (by rfl) T.n_int (by decide +kernel) (pa_cons (pv 2) pa_nil)) (pv 1)))))) pss_nil)
      (pss_cons (ps_set (i := 5) sc__law_thread.nd rfl (Or.inl rfl) (pe_op op_modN (pe_callTy (T := "int") call_int1 (by rfl) T.n_int (by decide +kernel) (pa_cons (pe_op op_pow (pe_op op_add (pe_op op_add (pe_op op_modN (pe_callTy (T := "int") call_int1 (by rfl) T.n_int (by decide +kernel) (pa_cons (pv 4) pa_nil)) pe_int) (pe_op op_mul pe_int (pv 3))) pe_int) pe_int) pa_nil)) pe_int))
      (pss_cons (ps_set (i := 5) sc__law_thread.nd rfl (Or.inl rfl) (pe_op op_modN (pe_callTy (T := "int") call_int1 (by rfl) T.n_int (by decide +kernel) (pa_cons (pe_op op_pow (pe_op op_add (pe_op op_add (pe_op op_mul (pv 5) (pe_op op_add (pe_op op_mul pe_int (pv 3)) pe_int)) (pe_op op_mul (pe_op op_mul pe_int (pv 3)) (pv 3))) pe_int) pe_int) pa_nil)) pe_int))
      (pss_one (ps_ret (pe_op op_modN (pe_callTy (T := "int") call_int1 (by rfl) T.n_int (by decide +kernel) (pa_cons (pe_op op_fdivN (pv 5) pe_int) pa_nil)) (pv 1)))))))))))), ?_⟩
  refine ⟨_, rfl, _, _, _, _, rfl, rfl, SqL.of hp, rfl, _, _, rfl, rfl, _, rfl, ite2 (fun _ => ?_) (fun _ => ?_)⟩
  · refine ⟨_, rfl, _, _, _, _, rfl, rfl, SqL.of hp, rfl, Or.inl ⟨_, rfl, ?_⟩⟩
    refine ⟨_, rfl, _, rfl, _, _, rfl, rfl, hm, _, rfl, _, _, _, _, rfl, rfl, hp, rfl, ?_⟩
    refine ⟨_, rfl, Or.inl ⟨_, rfl, _, rfl, _, _, rfl, rfl, hm.1, ?_⟩⟩
    exact k _ _ (mod_fits m0).1 (mod_fits m0).2 (Kp.refl p H).put ⟨npc, ms, t, _, upd_same, (Kp.refl p H).put c _ npc hc, hms, t0, by omega⟩
  · refine ⟨_, rfl, _, _, _, _, rfl, rfl, SqL.of hp, rfl, ?_⟩
    refine ⟨_, rfl, _, _, rfl, rfl, _, rfl, _, _, _, _, rfl, rfl, hp, rfl, ?_⟩
    refine ⟨_, rfl, _, _, rfl, rfl, .inl ⟨by decide, by decide⟩, _, _, rfl, rfl, ?_⟩
    have k1 : Kp p H (upd H p (.lst [.ref c, .int (t + 1), .int l])) := (Kp.refl p H).put
    have hp1 : (upd H p (.lst [.ref c, .int (t + 1), .int l])) p = some (.lst [.ref c, .int (t + 1), .int l]) := upd_same
    have hc1 := k1 c _ npc hc
    try dsimp only
    refine seq_cut (fun σ' H' => ∃ x : Int, σ' = [some (.ref p), some (.int m), none, some (.int t), some (.int x), none] ∧ Kp p H H' ∧ H' p = some (.lst [.ref c, .int (t + 1), .int l]) ∧ H' c = some (.lst (ms.map V.int))) (fun N hN => ?_) ?_
    · refine ⟨_, rfl, _, _, _, _, rfl, rfl, SqL.of hp1, rfl, Nat.zero_le _, fun q hq => ?_⟩
      have hp2 := at_new (u := .lst []) hp1 hq
      have hc2 := at_new (u := .lst []) hc1 hq
      refine ⟨.list (ms.map PyData.int), .list ([].map PyData.int), .lst (SqL.of hc2) (dp_ints ms), .lst (SqL.of upd_same) (dp_ints []), shaped_ints _, shaped_ints [], ?_⟩
      rw [eqv_list]
      refine ⟨_, rfl, ?_⟩
      by_cases e : ms = []
      · rw [decide_eq_true e]
        exact iteF (hN _ _ ⟨_, rfl, k1.new hq, hp2, hc2⟩)
      · rw [decide_eq_false e]
        obtain ⟨x, hx⟩ := at_mod t e
        have hl : ((ms.map V.int).length : Int) ≠ 0 := by
          rw [List.length_map]
          have := List.length_pos_iff.mpr e
          omega
        have hx' : atI (ms.map V.int) (t.fmod ((ms.map V.int).length : Int)) = some (.int x) := by
          rw [List.length_map]
          exact hx
        refine iteT ⟨_, rfl, _, _, _, _, rfl, rfl, SqL.of hp2, rfl, _, rfl, Or.inl ⟨_, rfl, _, rfl, _, _, _, _, rfl, rfl, SqL.of hp2, rfl, _, _, rfl, .inl (SqL.of hc2), _, _, rfl, rfl, hl, _, _, _, _, rfl, rfl, SqL.of hc2, hx', ?_⟩⟩
        exact hN _ _ ⟨x, rfl, k1.new hq, hp2, hc2⟩
    · rintro σ' H2 ⟨x, rfl, k2, hp2, hc2⟩
      try dsimp only
      refine seq_cut (fun σ' H' => σ' = [some (.ref p), some (.int m), none, some (.int t), some (.int x), none] ∧ H' = H2) (fun N hN => ?_) ?_
      · refine ⟨_, rfl, _, rfl, _, _, _, _, rfl, rfl, SqL.of hp2, rfl, _, _, rfl, .inl (SqL.of hc2), _, _, rfl, rfl, _, rfl, ite2 (fun _ => ?_) (fun _ => iteF (hN _ _ ⟨rfl, rfl⟩))⟩
        refine ⟨_, rfl, _, rfl, _, _, rfl, rfl, ⟨by decide, by decide, by decide⟩, _, _, rfl, rfl, _, rfl, ite2 (fun _ => ?_) (fun _ => hN _ _ ⟨rfl, rfl⟩)⟩
        refine ⟨_, rfl, Or.inl ⟨_, rfl, _, rfl, _, _, rfl, rfl, ⟨by decide, by decide, by decide⟩, _, _, rfl, rfl, _, _, rfl, rfl, .inl ⟨by decide, by decide⟩, _, rfl, _, _, rfl, rfl, Or.inr ⟨_, rfl, _, _, rfl, rfl, ?_⟩⟩⟩
        refine ⟨_, rfl, _, rfl, _, _, rfl, rfl, hm, _, rfl, _, _, _, _, rfl, rfl, hp2, rfl, ?_⟩
        refine ⟨_, rfl, Or.inl ⟨_, rfl, _, rfl, _, _, rfl, rfl, hm.1, ?_⟩⟩
        exact k _ _ (mod_fits m0).1 (mod_fits m0).2 k2.put ⟨npc, ms, t + 1, _, upd_same, k2.put c _ npc hc, hms, by omega, by omega⟩
      · rintro _ _ ⟨rfl, rfl⟩
        refine ⟨_, rfl, Or.inl ⟨_, rfl, _, _, rfl, rfl, by dsimp only; decide, _, rfl, _, _, rfl, rfl, .inl ⟨by decide, by decide⟩, _, _, rfl, rfl, _, _, rfl, rfl, _, _, rfl, rfl, ⟨by decide, by decide, ?_⟩, Or.inl ⟨_, rfl, _, _, rfl, rfl, by dsimp only; decide, ?_⟩⟩⟩
        · have := mod_fits (i := x) (m := 2147483587) (by decide)
          omega
        dsimp only
        generalize hy : Int.fmod ((x.fmod 2147483587 + 91009 * t + 8219) ^ (5 : Int).toNat) 2147483563 = y
        have hy2 : 0 ≤ y ∧ y < 2147483563 := hy ▸ mod_fits (by decide)
        clear hy
        have f1 : 0 ≤ y * (2 * t + 5231) := Int.mul_nonneg hy2.1 (by omega)
        have f2 : y * (2 * t + 5231) ≤ 2147483563 * (2 * t + 5231) := Int.mul_le_mul_of_nonneg_right (by omega) (by omega)
        have f3 : 0 ≤ 140009 * t * t := Int.mul_nonneg (by omega) t0
        have f4 : 140009 * t * t ≤ 140009 * 100000 * t := Int.mul_le_mul_of_nonneg_right (by omega) t0
        refine ⟨_, rfl, _, rfl, _, _, rfl, rfl, .inl ⟨by decide, by decide⟩, _, _, rfl, rfl, _, _, rfl, rfl, .inl ⟨by omega, by omega⟩, _, rfl, _, _, rfl, rfl, .inl ⟨by decide, by decide⟩, _, rfl, _, _, rfl, rfl, .inl ⟨by omega, by omega⟩, _, _, rfl, rfl, _, _, rfl, rfl, _, _, rfl, rfl, ⟨by decide, by decide, by omega⟩, Or.inl ⟨_, rfl, _, _, rfl, rfl, by dsimp only; decide, ?_⟩⟩
        refine ⟨_, rfl, _, _, rfl, rfl, ⟨by decide, by decide⟩, Or.inl ⟨_, rfl, _, rfl, _, _, rfl, rfl, hm.1, ?_⟩⟩
        exact k _ _ (mod_fits m0).1 (mod_fits m0).2 k2 ⟨npc, ms, t + 1, _, hp2, hc2, hms, by omega, by omega⟩

/-- the bag is made -/
def sp_bag (K : PySem.W.Frag) : Sp := fun vs H Q _ => ∃ (a : Addr) (ns : List Int), vs = [.ref a] ∧ SqL K H a (ns.map V.int) ∧ ns.length ≤ 63 ∧
  ∀ (p c : Addr) (H' : Hp), Same H H' → H p = none → H c = none → Bg H' p c 0 → Q (.ref p) H'
theorem G__law_loom (T : Txt P K mg A) : FnG P w K mg base CX0 1 A.a__law_loom A.d__law_loom P__law_loom (sp_bag K) := by
  refine okG T.F__law_loom sc__law_loom (fun vs H Q E h => ?_) (fun cdv A0 outer s H vs Q E hr h => ?_)
  · obtain ⟨a, ns, rfl, _⟩ := h
    rfl
  obtain ⟨a, ns, rfl, hS, hl, k⟩ := h
  refine ⟨_, (pss_one (ps_ret (pe_lst (pa_cons (pe_lc (own := [("cell", 1)]) (g := gName 1) (tt := tYes) rfl sc__law_loom.nd (pi_list (pe_slice (r := rSlL K) sl_list (pv 0) po_none (po_some pe_int))) (blkOk_by (N := N__law_loom) (sc := defScope s__law_loom) (by decide +kernel)) (fun _ _ _ _ _ => (pg_name (i := 1) sc__law_loom.nd rfl (Or.inl rfl))) (fun _ _ _ _ _ => pts_nil) (fun _ _ _ _ _ => (pe_callTy (T := "int") call_int1 (by rfl) T.n_int (by decide +kernel) (pa_cons (pv 1) pa_nil)))) (pa_cons pe_int (pa_cons pe_int pa_nil)))))), ?_⟩
  refine ⟨_, rfl, _, rfl, a, _, rfl, hS, fun q hq => ?_⟩
  obtain ⟨ms, em, lm⟩ : ∃ ms : List Int, cutV (ns.map V.int) none (some 61) = ms.map V.int ∧ ms.length ≤ 63 := by
    refine ⟨(ns.drop (HT.sIx ns.length 0 none)).take (HT.sIx ns.length ns.length (some 61) - HT.sIx ns.length 0 none), ?_, ?_⟩
    · unfold cutV
      rw [List.length_map, List.map_take, List.map_drop]
    · rw [List.length_take, List.length_drop]
      omega
  rw [em]
  refine ⟨q, rfl, ⟨_, SqL.of upd_same⟩, fun D hD => ?_⟩
  have s1 : Same H (upd H q (.lst (ms.map V.int))) := Same.new (fun _ _ h => h) hq
  have nD : H D = none := s1.free hD
  have nqD : q ≠ D := ne_of_none upd_same hD
  refine lc_list (K := K) (a := q) (xs := ms.map V.int) (fun i H' => Same H H' ∧ H' q = some (.lst (ms.map V.int)) ∧ H' D = some (.lst ((ms.take i).map V.int)))
    ⟨Same.new s1 hD, by rw [upd_ne nqD, upd_same], upd_same⟩ (fun i H' _ h => SqL.of h.2.1) ?_ ?_
  · rintro i x H' hx ⟨s2, hq2, hD2⟩
    obtain ⟨z, hz, rfl⟩ : ∃ z, ms[i]? = some z ∧ x = V.int z := by
      rw [List.getElem?_map] at hx
      cases e : ms[i]? with
      | none => rw [e] at hx; cases hx
      | some z => rw [e] at hx; exact ⟨z, rfl, (Option.some.inj hx).symm⟩
    have hi : i < ms.length := (List.getElem?_eq_some_iff.mp hz).1
    refine ⟨rfl, tYes_of (iteT ⟨_, rfl, Or.inl ⟨_, rfl, _, hD2, ?_, ?_, ?_, ?_⟩⟩)⟩
    · rw [List.length_map, List.length_take]
      exact small1000 (by omega)
    · intro b o h
      rw [upd_ne (ne_of_none h nD)]
      exact s2 _ _ h
    · rw [upd_ne nqD]
      exact hq2
    · rw [upd_same, List.take_succ, hz]
      simp
  · rintro H' ⟨s2, hq2, hD2⟩
    refine ⟨by show 3 ≤ sizeLine; decide, fun p hp => ?_⟩
    rw [List.take_of_length_le (by rw [List.length_map]; exact Nat.le_refl _)] at hD2
    have npD : D ≠ p := ne_of_none hD2 hp
    refine k p D _ (Same.new s2 hp) (s2.free hp) nD ⟨npD, ms, 0, 0, upd_same, ?_, lm, Int.le_refl _, Int.le_refl _⟩
    rw [upd_ne npD]
    exact hD2
/-- one of some -/
def sp_some : Sp := fun vs H Q _ => ∃ (p c q : Addr) (n : Nat) (xs : List V), vs = [.ref p, .ref q] ∧ Bg H p c n ∧ n ≤ 100000 ∧ H q = some (.lst xs) ∧ q ≠ p ∧ 1 ≤ xs.length ∧ xs.length ≤ 1000 ∧
  ∀ (v : V) (H' : Hp), v ∈ xs → Kp p H H' → Bg H' p c (n + 1) → Q v H'
theorem G__law_choice (T : Txt P K mg A) : FnG P w K mg base CX0 2 A.a__law_choice A.d__law_choice P__law_choice sp_some := by
  refine okG T.F__law_choice sc__law_choice (fun vs H Q E h => ?_) (fun cdv A0 outer s H vs Q E hr h => ?_)
  · obtain ⟨p, c, q, n, xs, rfl, _⟩ := h
    rfl
  obtain ⟨p, c, q, n, xs, rfl, bg, hn, hq, nqp, h1, h2, k⟩ := h
  refine ⟨_, (pss_one (ps_ret (pe_ix (r := rIxL K) ix_list (pv 1) (pe_callG (G__law_thread T) (hr.mono (by decide)) rfl T.g__law_thread T.F__law_thread.kp T.b__law_thread .nil pass0 (pa_cons (pv 0) (pa_cons (pe_callB call_len_seq (by rfl) T.n_len (by decide +kernel) (pa_cons (pv 1) pa_nil)) pa_nil))) (fun _ _ => rfl)))), ?_⟩
  refine ⟨_, rfl, _, rfl, _, rfl, _, _, rfl, .inl (SqL.of hq), p, c, n, _, rfl, bg, hn, by omega, by omega, fun x H' x0 x1 kp bg' => ?_⟩
  obtain ⟨j, rfl⟩ : ∃ j : Nat, x = (j : Int) := ⟨x.toNat, by omega⟩
  have hj : j < xs.length := by omega
  refine ⟨_, _, _, _, rfl, rfl, SqL.of (kp q _ nqp hq), atI_nat (List.getElem?_eq_getElem hj), ?_⟩
  exact k _ _ (List.getElem_mem hj) kp bg'

/-! ### the law's webs -/
/-- pairs at xs, kept where tuples are -/
theorem prts_keep {H H' : Hp} {xs : List V} {ps : MC.Pr} (h : Paired (PrT H) xs ps) (s : ∀ b ys, H b = some (.tup ys) → H' b = some (.tup ys)) : Paired (PrT H') xs ps :=
  paired_imp (fun _ _ z => by
    obtain ⟨t, e, q⟩ := z
    exact ⟨t, e, s _ _ q⟩) h
theorem seqIx {j n : Nat} (h : j < n) : seqIndex? (j : Int) n = some j := by
  unfold seqIndex?
  simp
  omega
theorem paired_erase {α β : Type} {R : α → β → Prop} : ∀ {xs : List α} {ys : List β}, Paired R xs ys → ∀ k, Paired R (xs.eraseIdx k) (ys.eraseIdx k)
  | _, _, .nil, k => by rw [List.eraseIdx_nil, List.eraseIdx_nil]; exact .nil
  | _, _, .cons h t, 0 => t
  | _, _, .cons h t, k + 1 => .cons h (paired_erase t k)
theorem mem_erase {ps : MC.Pr} {k : Nat} {p : Nat × Nat} (h : ps[k]? = some p) (q : Nat × Nat) : q ∈ ps ↔ q = p ∨ q ∈ ps.eraseIdx k := by
  have e := take_drop_nm h
  rw [List.eraseIdx_eq_take_drop_succ]
  conv => lhs; rw [← e]
  rw [List.mem_append, List.mem_append, List.mem_cons]
  constructor
  · rintro (h | h | h)
    · exact .inr (.inl h)
    · exact .inl h
    · exact .inr (.inr h)
  · rintro (h | h | h)
    · exact .inr (.inl h)
    · exact .inl h
    · exact .inr (.inr h)
theorem kp_free {p : Addr} {H H' : Hp} {t : Addr} {o : HO} (k : Kp p H H') (hp : H' p = some o) (h : H' t = none) : H t = none := by
  cases e : H t with
  | none => rfl
  | some u =>
    have n : t ≠ p := fun z => by rw [z, hp] at h; cases h
    have := k t u n e
    rw [h] at this
    cases this
theorem bg_not {H : Hp} {p c q : Addr} {n : Nat} (b : Bg H p c n) (hq : H q = none) : q ≠ p ∧ q ≠ c := by
  obtain ⟨⟨o, h1⟩, ⟨u, h2⟩⟩ := b.has
  exact ⟨(fun z => by rw [z, h1] at hq; cases hq), (fun z => by rw [z, h2] at hq; cases hq)⟩
theorem mem_ints {v : V} {x : Int} (h : v ∈ [V.int (1 + x), .int 4, .int 2, .int 6, .int 1, .int 13]) (x0 : 0 ≤ x) (x1 : x < 13) : ∃ n : Nat, v = .int (n : Int) ∧ 1 ≤ n ∧ n ≤ 13 := by
  simp only [List.mem_cons, List.not_mem_nil, or_false] at h
  rcases h with rfl | rfl | rfl | rfl | rfl | rfl
  · exact ⟨(1 + x).toNat, by congr 1; omega, by omega, by omega⟩
  · exact ⟨4, rfl, by omega, by omega⟩
  · exact ⟨2, rfl, by omega, by omega⟩
  · exact ⟨6, rfl, by omega, by omega⟩
  · exact ⟨1, rfl, by omega, by omega⟩
  · exact ⟨13, rfl, by omega, by omega⟩
def sp_lweb : Sp := fun vs H Q _ => ∃ (p c : Addr) (m : Nat), vs = [.ref p] ∧ Bg H p c m ∧ m ≤ 90000 ∧
  ∀ (t a : Addr) (n : Nat) (xs : List V) (ps : MC.Pr) (H' : Hp), Kp p H H' → Bg H' p c (m + 70) → H t = none → H a = none → a ≠ p → H' t = some (.tup [.int (n : Int), .ref a]) → H' a = some (.lst xs) → Paired (PrT H') xs ps → 1 ≤ n → n ≤ 13 → ps.length ≤ 12 → MC.Below n ps → hang n ps = true → Q (.ref t) H'
theorem G__law_web (T : Txt P K mg A) : FnG P w K mg base CX0 3 A.a__law_web A.d__law_web P__law_web sp_lweb := by
  refine okG T.F__law_web sc__law_web (fun vs H Q E h => ?_) (fun cdv A0 outer s H vs Q E hr h => ?_)
  · obtain ⟨p, c, m, rfl, _⟩ := h
    rfl
  obtain ⟨p, c, m, rfl, bg, hm, k⟩ := h
  refine ⟨_, (pss_cons (ps_par3 (i := 1) (j := 2) (l := 3) (by rfl) sc__law_web.nd rfl rfl rfl (by decide) (by decide) (by decide) rfl rfl rfl (pa_cons (pe_callG (G__law_choice T) (hr.mono (by decide)) rfl T.g__law_choice T.F__law_choice.kp T.b__law_choice .nil pass0 (pa_cons (pv 0) (pa_cons (pe_lst (pa_cons (pe_op op_add pe_int (pe_callG (G__law_thread T) (hr.mono (by decide)) rfl T.g__law_thread T.F__law_thread.kp T.b__law_thread .nil pass0 (pa_cons (pv 0) (pa_cons pe_int pa_nil)))) (pa_cons pe_int (pa_cons pe_int (pa_cons pe_int (pa_cons pe_int (pa_cons pe_int pa_nil))))))) pa_nil))) (pa_cons (pe_callG (G__law_thread T) (hr.mono (by decide)) rfl T.g__law_thread T.F__law_thread.kp T.b__law_thread .nil pass0 (pa_cons (pv 0) (pa_cons pe_int pa_nil))) (pa_cons (pe_lst pa_nil) pa_nil))) (by rfl))
      (pss_cons (ps_for PassesOwn.never rfl (pi_range2 (by rfl) T.n_range (pa_cons pe_int (pa_cons (pv 1) pa_nil))) (pg_name (i := 4) sc__law_web.nd rfl (Or.inl rfl)) (pss_cons (ps_set (i := 5) sc__law_web.nd rfl (Or.inl rfl) (pe_ifExp (pt_cmpR op_eq (pv 2) pe_int (nomark _)) (pe_op op_sub (pv 4) pe_int) (pe_callG (G__law_thread T) (hr.mono (by decide)) rfl T.g__law_thread T.F__law_thread.kp T.b__law_thread .nil pass0 (pa_cons (pv 0) (pa_cons (pv 4) pa_nil)))))
      (pss_one (ps_expr (pe_bm PySem.F.plainAttrs_list PySem.F.slot_list_append PySem.F.type_list_append mt_append (pv 3) (pa_cons (pe_ifExp (pt_cmpR op_eq (pe_callG (G__law_thread T) (hr.mono (by decide)) rfl T.g__law_thread T.F__law_thread.kp T.b__law_thread .nil pass0 (pa_cons (pv 0) (pa_cons pe_int pa_nil))) pe_int (nomark _)) (pe_tup (pa_cons (pv 4) (pa_cons (pv 5) pa_nil))) (pe_tup (pa_cons (pv 5) (pa_cons (pv 4) pa_nil)))) pa_nil))))))
      (pss_cons (ps_for PassesOwn.never rfl (pi_range1 (by rfl) T.n_range (pa_cons (pe_callG (G__law_thread T) (hr.mono (by decide)) rfl T.g__law_thread T.F__law_thread.kp T.b__law_thread .nil pass0 (pa_cons (pv 0) (pa_cons (pe_op op_sub pe_int (pv 1)) pa_nil))) pa_nil)) (pg_name (i := 6) sc__law_web.nd rfl (Or.inl rfl)) (pss_one (ps_expr (pe_bm PySem.F.plainAttrs_list PySem.F.slot_list_append PySem.F.type_list_append mt_append (pv 3) (pa_cons (pe_tup (pa_cons (pe_callG (G__law_thread T) (hr.mono (by decide)) rfl T.g__law_thread T.F__law_thread.kp T.b__law_thread .nil pass0 (pa_cons (pv 0) (pa_cons (pv 1) pa_nil))) (pa_cons (pe_callG (G__law_thread T) (hr.mono (by decide)) rfl T.g__law_thread T.F__law_thread.kp T.b__law_thread .nil pass0 (pa_cons (pv 0) (pa_cons (pv 1) pa_nil))) pa_nil))) pa_nil)))))
      (pss_cons (ps_par (i := 7) (j := 8) (by rfl) sc__law_web.nd rfl rfl (by decide) rfl rfl (pa_cons (pe_callTy (T := "list") call_list_of (by rfl) T.n_list (by decide +kernel) (pa_cons (pv 3) pa_nil)) (pa_cons (pe_lst pa_nil) pa_nil)) (by rfl))
      (pss_cons (ps_while PassesOwn.never (pt_cmpR (op_neD hr.room.units) (pv 7) (pe_lst pa_nil) (nomark _)) (pss_one (ps_expr (pe_bm PySem.F.plainAttrs_list PySem.F.slot_list_append PySem.F.type_list_append mt_append (pv 8) (pa_cons (pe_bm PySem.F.plainAttrs_list PySem.F.slot_list_pop PySem.F.type_list_pop mt_popAt (pv 7) (pa_cons (pe_callG (G__law_thread T) (hr.mono (by decide)) rfl T.g__law_thread T.F__law_thread.kp T.b__law_thread .nil pass0 (pa_cons (pv 0) (pa_cons (pe_callB call_len_seq (by rfl) T.n_len (by decide +kernel) (pa_cons (pv 7) pa_nil)) pa_nil))) pa_nil)) pa_nil)))))
      (pss_one (ps_ret (pe_tup (pa_cons (pv 1) (pa_cons (pv 8) pa_nil)))))))))), ?_⟩
  refine ⟨_, rfl, _, rfl, p, c, m, 13, rfl, bg, by omega, by decide, by decide, fun x H1 x0 x1 kp1 bg1 => ?_⟩
  refine ⟨_, _, rfl, rfl, by show 6 ≤ sizeLine; decide, fun q hq => ?_⟩
  obtain ⟨nqp, nqc⟩ := bg_not bg1 hq
  refine ⟨p, c, q, m + 1, _, rfl, bg1.new hq, by omega, upd_same, nqp, by show 1 ≤ 6; decide, by show 6 ≤ 1000; decide, fun v H2 hv kp2 bg2 => ?_⟩
  obtain ⟨n, rfl, n1, n13⟩ := mem_ints hv x0 x1
  refine ⟨_, rfl, p, c, _, 3, rfl, bg2, by omega, by decide, by decide, fun way H3 w0 w1 kp3 bg3 => ?_⟩
  refine ⟨Nat.zero_le _, fun a ha => ⟨_, _, _, rfl, ?_⟩⟩
  obtain ⟨nap, nac⟩ := bg_not bg3 ha
  have k3 : Kp p H H3 := (kp1.new hq).trans (kp2.trans kp3)
  have k4 : Kp p H (upd H3 a (.lst [])) := k3.new ha
  have bg4 : Bg (upd H3 a (.lst [])) p c (m + 1 + 1 + 1) := bg3.new ha
  obtain ⟨op, hop⟩ := bg3.has.1
  have hHa : H a = none := kp_free k3 hop ha
  try dsimp only
  refine seq_cut (fun σ' H' => (∃ u4 u5 u6 u7 u8 : Option V, σ' = [some (.ref p), some (.int (n : Int)), some (.int way), some (.ref a), u4, u5, u6, u7, u8]) ∧ Kp p H H' ∧ Bg H' p c (m + 3 + 2 * (n - 1)) ∧ ∃ xs ps, H' a = some (.lst xs) ∧ Paired (PrT H') xs ps ∧ ps.length = n - 1 ∧ MC.Below n ps ∧ ∀ x, x < n → MC.Con ps 0 x) (fun N hN => ?_) ?_
  · refine ⟨_, rfl, _, _, rfl, ⟨by omega, by omega, by omega, by omega⟩, ?_⟩
    have en : ((n : Int) - 1).toNat = n - 1 := by omega
    rw [en]
    refine for_range (lo := 1) (n := n - 1) (fun i σ' H' => (∃ u4 u5 u6 u7 u8 : Option V, σ' = [some (.ref p), some (.int (n : Int)), some (.int way), some (.ref a), u4, u5, u6, u7, u8]) ∧ Kp p H H' ∧ Bg H' p c (m + 3 + 2 * i) ∧ ∃ xs ps, H' a = some (.lst xs) ∧ Paired (PrT H') xs ps ∧ ps.length = i ∧ MC.Below n ps ∧ ∀ x, x ≤ i → MC.Con ps 0 x) ⟨⟨_, _, _, _, _, rfl⟩, k4, bg4.le (by omega), [], [], upd_same, .nil, rfl, (fun p m => by cases m), fun x hx => (show x = 0 by omega) ▸ .refl _⟩ ?_ ?_
    · rintro i σ' H' hi ⟨⟨u4, u5, u6, u7, u8, rfl⟩, kp, bgi, xs, ps, hxs, pp, lp, bl, cn⟩
      have e0 : (1 : Int) + (i : Int) = ((i + 1 : Nat) : Int) := by omega
      rw [e0]
      try dsimp only
      refine seq_cut (fun σ'' H'' => ∃ e : Nat, e ≤ i ∧ σ'' = [some (.ref p), some (.int (n : Int)), some (.int way), some (.ref a), some (.int ((i + 1 : Nat) : Int)), some (.int (e : Int)), u6, u7, u8] ∧ Kp p H' H'' ∧ Bg H'' p c (m + 3 + 2 * i + 1)) (fun N2 hN2 => ?_) ?_
      · refine ⟨_, rfl, rfl, _, rfl, ite2 (fun _ => ?_) (fun _ => ?_)⟩
        · refine ⟨_, rfl, _, _, rfl, rfl, ?_⟩
          have e1 : ((i + 1 : Nat) : Int) - 1 = (i : Int) := by omega
          dsimp only
          rw [e1]
          exact hN2 _ _ ⟨i, Nat.le_refl _, rfl, Kp.refl _ _, bgi.le (by omega)⟩
        · refine ⟨_, rfl, _, rfl, p, c, _, _, rfl, bgi, by omega, by omega, by omega, fun y H'' y0 y1 kp' bg' => ?_⟩
          have e1 : y = ((y.toNat : Nat) : Int) := by omega
          refine hN2 _ _ ⟨y.toNat, by omega, ?_, kp', bg'⟩
          rw [← e1]
          rfl
      · rintro σ'' H'' ⟨e, he, rfl, kp', bg'⟩
        have hxs2 := kp' _ _ nap hxs
        have kk := kp.trans kp'
        refine ⟨_, rfl, .inl ⟨rfl, _, SqL.of hxs2⟩, _, rfl, p, c, _, 2, rfl, bg', by omega, by decide, by decide, fun y H4 y0 y1 kp4 bg4 => ⟨rfl, _, rfl, ?_⟩⟩
        have hxs4 := kp4 _ _ nap hxs2
        have tupp : ∀ b ys, H' b = some (.tup ys) → H4 b = some (.tup ys) := fun b ys h => by
          have nb : b ≠ p := fun z => by
            obtain ⟨_, ms, t1, l1, e1, _⟩ := bgi
            rw [z, e1] at h
            cases h
          exact kp4 _ _ nb (kp' _ _ nb h)
        have fin : ∀ (g : Nat × Nat) (t : Addr), (g = (i + 1, e) ∨ g = (e, i + 1)) → H4 t = none →
            (∃ u4 u5 u6 u7 u8 : Option V, [some (V.ref p), some (.int (n : Int)), some (.int way), some (.ref a), some (.int ((i + 1 : Nat) : Int)), some (.int (e : Int)), u6, u7, u8] = [some (.ref p), some (.int (n : Int)), some (.int way), some (.ref a), u4, u5, u6, u7, u8]) ∧
            Kp p H (upd (upd H4 t (.tup [.int (g.1 : Int), .int (g.2 : Int)])) a (.lst (xs ++ [.ref t]))) ∧ Bg (upd (upd H4 t (.tup [.int (g.1 : Int), .int (g.2 : Int)])) a (.lst (xs ++ [.ref t]))) p c (m + 3 + 2 * (i + 1)) ∧
            ∃ xs' ps', (upd (upd H4 t (.tup [.int (g.1 : Int), .int (g.2 : Int)])) a (.lst (xs ++ [.ref t]))) a = some (.lst xs') ∧ Paired (PrT (upd (upd H4 t (.tup [.int (g.1 : Int), .int (g.2 : Int)])) a (.lst (xs ++ [.ref t])))) xs' ps' ∧ ps'.length = i + 1 ∧ MC.Below n ps' ∧ ∀ x, x ≤ i + 1 → MC.Con ps' 0 x := by
          intro g t hg ht
          have nta : t ≠ a := fun z => by rw [z, hxs4] at ht; cases ht
          refine ⟨⟨some (.int ((i + 1 : Nat) : Int)), some (.int (e : Int)), u6, u7, u8, rfl⟩, ?_, ?_, xs ++ [.ref t], ps ++ [g], upd_same, ?_, by rw [List.length_append, lp]; rfl, ?_, ?_⟩
          · intro b o nb h
            have h1 := kp4 _ _ nb (kk _ _ nb h)
            rw [upd_ne (fun z => by rw [z, hHa] at h; cases h), upd_ne (ne_of_none h1 ht)]
            exact h1
          · exact ((bg4.new ht).oth nap.symm nac.symm).le (by omega)
          · refine paired_snoc ⟨t, rfl, by rw [upd_ne nta]; exact upd_same⟩ (prts_keep pp fun b ys h => ?_)
            have h4 := tupp b ys h
            rw [upd_ne (fun z => by rw [z, hxs4] at h4; cases h4), upd_ne (ne_of_none h4 ht)]
            exact h4
          · intro r hr
            rcases List.mem_append.mp hr with hr | hr
            · exact bl r hr
            · rw [List.mem_singleton.mp hr]
              rcases hg with rfl | rfl
              · exact ⟨by show i + 1 < n; omega, by show e < n; omega⟩
              · exact ⟨by show e < n; omega, by show i + 1 < n; omega⟩
          · intro z hz
            have mono : ∀ {u v}, MC.Con ps u v → MC.Con (ps ++ [g]) u v := fun h => h.mono fun r hr => List.mem_append_left _ hr
            by_cases hzi : z ≤ i
            · exact mono (cn z hzi)
            · obtain rfl : z = i + 1 := by omega
              rcases hg with rfl | rfl
              · exact MC.con_snoc.mpr (.inr (.inr ⟨cn e he, .refl _⟩))
              · exact MC.con_snoc.mpr (.inr (.inl ⟨cn e he, .refl _⟩))
        have lx : xs.length ≤ 12 := by rw [Paired.length pp, lp]; omega
        refine ite2 (fun _ => ?_) (fun _ => ?_)
        · refine ⟨_, rfl, _, rfl, by show 2 ≤ sizeLine; decide, fun t ht => ⟨a, xs, _, rfl, rfl, at_new hxs4 ht, small1000 (by omega), ?_⟩⟩
          have z := fin (i + 1, e) t (.inl rfl) ht
          obtain ⟨z1, z2, z3, xs', ps', z4, z5, z6, z7, z8⟩ := z
          exact ⟨⟨_, _, _, _, _, rfl⟩, z2, z3, xs', ps', z4, z5, z6, z7, z8⟩
        · refine ⟨_, rfl, _, rfl, by show 2 ≤ sizeLine; decide, fun t ht => ⟨a, xs, _, rfl, rfl, at_new hxs4 ht, small1000 (by omega), ?_⟩⟩
          have z := fin (e, i + 1) t (.inr rfl) ht
          obtain ⟨z1, z2, z3, xs', ps', z4, z5, z6, z7, z8⟩ := z
          exact ⟨⟨_, _, _, _, _, rfl⟩, z2, z3, xs', ps', z4, z5, z6, z7, z8⟩
    · rintro σ' H' ⟨hσ, kp, bgi, xs, ps, hxs, pp, lp, bl, cn⟩
      exact hN _ _ ⟨hσ, kp, bgi, xs, ps, hxs, pp, lp, bl, fun x hx => cn x (by omega)⟩
  · rintro σ' H' ⟨⟨u4, u5, u6, u7, u8, rfl⟩, kp, bgi, xs, ps, hxs, pp, lp, bl, cn⟩
    have addT : ∀ {H1 H4 : Hp} {xs : List V} {ps : MC.Pr} {t : Addr} {k1 k2 : Nat} (g : Nat × Nat), Kp p H1 H4 → (∃ o, H1 p = some (.lst o)) → Kp p H H4 → Bg H4 p c k1 → k1 ≤ k2 → H4 a = some (.lst xs) → Paired (PrT H1) xs ps → H4 t = none →
        Kp p H (upd (upd H4 t (.tup [.int (g.1 : Int), .int (g.2 : Int)])) a (.lst (xs ++ [.ref t]))) ∧ Bg (upd (upd H4 t (.tup [.int (g.1 : Int), .int (g.2 : Int)])) a (.lst (xs ++ [.ref t]))) p c k2 ∧ Paired (PrT (upd (upd H4 t (.tup [.int (g.1 : Int), .int (g.2 : Int)])) a (.lst (xs ++ [.ref t])))) (xs ++ [.ref t]) (ps ++ [g]) := by
      rintro H1 H4 xs ps t k1 k2 g q1 ⟨op, hp1⟩ q2 q3 q4 q5 q6 ht
      have nta : t ≠ a := fun z => by rw [z, q5] at ht; cases ht
      refine ⟨?_, ?_, ?_⟩
      · intro b o nb h
        have h1 := q2 _ _ nb h
        rw [upd_ne (fun z => by rw [z, hHa] at h; cases h), upd_ne (ne_of_none h1 ht)]
        exact h1
      · exact ((q3.new ht).oth nap.symm nac.symm).le q4
      · refine paired_snoc ⟨t, rfl, by rw [upd_ne nta]; exact upd_same⟩ (prts_keep q6 fun b ys h => ?_)
        have nb : b ≠ p := fun z => by
          rw [z, hp1] at h
          cases h
        have h4 := q1 _ _ nb h
        rw [upd_ne (fun z => by rw [z, q5] at h4; cases h4), upd_ne (ne_of_none h4 ht)]
        exact h4
    try dsimp only
    refine seq_cut (fun σ' H' => (∃ u4 u5 u6 u7 u8 : Option V, σ' = [some (.ref p), some (.int (n : Int)), some (.int way), some (.ref a), u4, u5, u6, u7, u8]) ∧ Kp p H H' ∧ Bg H' p c (m + 54) ∧ ∃ xs ps, H' a = some (.lst xs) ∧ Paired (PrT H') xs ps ∧ ps.length ≤ 12 ∧ MC.Below n ps ∧ ∀ x, x < n → MC.Con ps 0 x) (fun N hN => ?_) ?_
    · refine ⟨_, rfl, _, rfl, _, _, rfl, rfl, p, c, _, _, rfl, bgi, by omega, by omega, by omega, fun y H2 y0 y1 kp2 bg2 => ⟨_, rfl, by omega, by omega, ?_⟩⟩
      obtain ⟨_, ms0, t0, l0, hp0, _⟩ := id bgi
      refine for_range (lo := 0) (n := y.toNat) (fun j σ' H' => (∃ u4 u5 u6 u7 u8 : Option V, σ' = [some (.ref p), some (.int (n : Int)), some (.int way), some (.ref a), u4, u5, u6, u7, u8]) ∧ Kp p H H' ∧ Bg H' p c (m + 28 + 2 * j) ∧ ∃ xs ps, H' a = some (.lst xs) ∧ Paired (PrT H') xs ps ∧ ps.length = n - 1 + j ∧ MC.Below n ps ∧ ∀ x, x < n → MC.Con ps 0 x) ⟨⟨_, _, _, _, _, rfl⟩, kp.trans kp2, bg2.le (by omega), xs, ps, kp2 _ _ nap hxs, prts_keep pp (fun b ys h => kp2 _ _ (fun z => by rw [z, hp0] at h; cases h) h), lp, bl, cn⟩ ?_ ?_
      · rintro j σ' H' hj ⟨⟨v4, v5, v6, v7, v8, rfl⟩, kpj, bgj, xs, ps, hxs, pp, lp, bl, cn⟩
        obtain ⟨_, ms1, t1, l1, hp1, _⟩ := id bgj
        refine ⟨_, rfl, .inl ⟨rfl, _, SqL.of hxs⟩, _, rfl, _, rfl, p, c, _, _, rfl, bgj, by omega, by omega, by omega, fun e1 H3 e10 e11 kp3 bg3 => ⟨_, rfl, _, rfl, p, c, _, _, rfl, bg3, by omega, by omega, by omega, fun e2 H4 e20 e21 kp4 bg4 => ⟨by show 2 ≤ sizeLine; decide, fun t ht => ?_⟩⟩⟩
        have hx4 := kp4 _ _ nap (kp3 _ _ nap hxs)
        have lx : xs.length ≤ 24 := by rw [Paired.length pp, lp]; omega
        obtain ⟨g1, eg1⟩ : ∃ g1 : Nat, e1 = (g1 : Int) := ⟨e1.toNat, by omega⟩
        obtain ⟨g2, eg2⟩ : ∃ g2 : Nat, e2 = (g2 : Int) := ⟨e2.toNat, by omega⟩
        subst eg1 eg2
        obtain ⟨r1, r2, r3⟩ := addT (k2 := m + 28 + 2 * (j + 1)) (g1, g2) (kp3.trans kp4) ⟨_, hp1⟩ (kpj.trans (kp3.trans kp4)) bg4 (by omega) hx4 pp ht
        refine ⟨a, xs, _, rfl, rfl, at_new hx4 ht, small1000 (by omega), ?_⟩
        refine ⟨⟨_, _, _, _, _, rfl⟩, r1, r2, _, _, upd_same, r3, by rw [List.length_append, lp]; rfl, ?_, fun x hx => (cn x hx).mono fun r hr => List.mem_append_left _ hr⟩
        intro r hr
        rcases List.mem_append.mp hr with hr | hr
        · exact bl r hr
        · rw [List.mem_singleton.mp hr]
          exact ⟨by show g1 < n; omega, by show g2 < n; omega⟩
      · rintro σ' H' ⟨hσ, kpj, bgj, xs, ps, hxs, pp, lp, bl, cn⟩
        exact hN _ _ ⟨hσ, kpj, bgj.le (by omega), xs, ps, hxs, pp, by omega, bl, cn⟩
    · clear hxs pp lp bl cn bgi kp
      rintro σ' H' ⟨⟨v4, v5, v6, v7, v8, rfl⟩, kp, bgi, xs, ps, hxs, pp, lp, bl, cn⟩
      obtain ⟨_, ms1, t1, l1, hp1, _⟩ := id bgi
      refine ⟨_, rfl, a, _, rfl, .inl (SqL.of hxs), fun l hl => ⟨Nat.zero_le _, fun f hf => ⟨_, _, rfl, ?_⟩⟩⟩
      have hl0 : upd H' l (.lst xs) l = some (.lst xs) := upd_same
      have nlf : l ≠ f := fun z => by rw [← z, hl0] at hf; cases hf
      obtain ⟨nlp, nlc⟩ := bg_not bgi hl
      have bgl := bgi.new (o := .lst xs) hl
      obtain ⟨nfp, nfc⟩ := bg_not bgl hf
      have kf : Kp p H (upd (upd H' l (.lst xs)) f (.lst [])) := (kp.new hl).new hf
      have hHl : H l = none := kp_free kp hp1 hl
      have hHf : H f = none := kp_free (kp.new (o := .lst xs) hl) (at_new hp1 hl) hf
      have ppf : Paired (PrT (upd (upd H' l (.lst xs)) f (.lst []))) xs ps := prts_keep pp fun b ys h => at_new (at_new h hl) hf
      have lx : xs.length = ps.length := Paired.length pp
      try dsimp only
      refine seq_cut (fun σ' H'' => (∃ v4 v5 v6 : Option V, σ' = [some (.ref p), some (.int (n : Int)), some (.int way), some (.ref a), v4, v5, v6, some (.ref l), some (.ref f)]) ∧ Kp p H H'' ∧ Bg H'' p c (m + 70) ∧ ∃ fs pf, H'' f = some (.lst fs) ∧ Paired (PrT H'') fs pf ∧ pf.length ≤ 12 ∧ MC.Below n pf ∧ ∀ x, x < n → MC.Con pf 0 x) (fun N hN => ?_) ?_
      · refine ⟨fun k σ' H'' => (∃ v4 v5 v6 : Option V, σ' = [some (.ref p), some (.int (n : Int)), some (.int way), some (.ref a), v4, v5, v6, some (.ref l), some (.ref f)]) ∧ Kp p H H'' ∧ k ≤ ps.length ∧ Bg H'' p c (m + 54 + (ps.length - k)) ∧ ∃ ls pl fs pf, H'' l = some (.lst ls) ∧ Paired (PrT H'') ls pl ∧ H'' f = some (.lst fs) ∧ Paired (PrT H'') fs pf ∧ pl.length = k ∧ pf.length + k = ps.length ∧ ∀ q, q ∈ ps ↔ q ∈ pl ∨ q ∈ pf,
          ⟨ps.length, ⟨v4, v5, v6, rfl⟩, kf, Nat.le_refl _, (bgl.new hf).le (by omega), xs, ps, [], [], at_new upd_same hf, ppf, upd_same, .nil, rfl, Nat.zero_add _, fun q => ⟨.inl, fun h => h.elim id fun h => by cases h⟩⟩, ?_⟩
        rintro k σ' H2 ⟨⟨w4, w5, w6, rfl⟩, kp2, hk, bg2, ls, pl, fs, pf, hls, ppl, hfs, ppf, lk, lf, hm2⟩
        obtain ⟨_, ms2, t2, l2, hp2, _⟩ := id bg2
        refine ⟨_, rfl, Nat.zero_le _, fun q0 hq0 => ⟨_, .list (dprs []), .lst (SqL.of (at_new hls hq0)) (dp_prs (prts_keep ppl fun b ys h => at_new h hq0)), .lst (SqL.of upd_same) .nil, shaped_lps _, shaped_lps _, ?_⟩⟩
        rw [eqv_lps]
        refine ⟨_, rfl, ?_⟩
        by_cases e : pl = []
        · rw [decide_eq_true e]
          refine hN _ _ ⟨⟨_, _, _, rfl⟩, kp2.new hq0, (bg2.new hq0).le (by omega), fs, pf, at_new hfs hq0, prts_keep ppf (fun b ys h => at_new h hq0), by omega, fun r hr => bl r ((hm2 r).mpr (.inr hr)), fun x hx => (cn x hx).mono fun r hr => ?_⟩
          rcases (hm2 r).mp hr with h | h
          · rw [e] at h
            cases h
          · exact h
        · rw [decide_eq_false e]
          have k0 : 0 < k := by
            rw [← lk]
            exact List.length_pos_iff.mpr e
          refine iteT ⟨fun σ' H'' => (∃ v4 v5 v6 : Option V, σ' = [some (.ref p), some (.int (n : Int)), some (.int way), some (.ref a), v4, v5, v6, some (.ref l), some (.ref f)]) ∧ Kp p H H'' ∧ k - 1 ≤ ps.length ∧ Bg H'' p c (m + 54 + (ps.length - (k - 1))) ∧ ∃ ls pl fs pf, H'' l = some (.lst ls) ∧ Paired (PrT H'') ls pl ∧ H'' f = some (.lst fs) ∧ Paired (PrT H'') fs pf ∧ pl.length = k - 1 ∧ pf.length + (k - 1) = ps.length ∧ ∀ q, q ∈ ps ↔ q ∈ pl ∨ q ∈ pf, fun σ' H'' h => ⟨k - 1, by omega, h⟩, ?_⟩
          have hls0 := at_new (u := .lst []) hls hq0
          have hfs0 := at_new (u := .lst []) hfs hq0
          have lls : ls.length = k := (Paired.length ppl).trans lk
          refine ⟨_, rfl, .inl ⟨rfl, _, SqL.of hfs0⟩, _, rfl, .inl ⟨rfl, _, SqL.of hls0⟩, _, rfl, _, rfl, l, _, rfl, .inl (SqL.of hls0), p, c, _, _, rfl, bg2.new hq0, by omega, by omega, by omega, fun x H5 x0 x1 kp5 bg5 => ?_⟩
          obtain ⟨j, ej⟩ : ∃ j : Nat, x = (j : Int) := ⟨x.toNat, by omega⟩
          subst ej
          have hj : j < ls.length := by omega
          have hls5 := kp5 _ _ nlp hls0
          have hfs5 := kp5 _ _ nfp hfs0
          have hlj : ls[j]? = some ls[j] := List.getElem?_eq_getElem hj
          obtain ⟨g, hg, hgt⟩ := paired_get ppl hlj
          have tk : ∀ b ys, H2 b = some (.tup ys) → H5 b = some (.tup ys) := fun b ys h => kp5 _ _ (fun z => by rw [z, hp2] at h; cases h) (at_new h hq0)
          have tk6 : ∀ b ys, H2 b = some (.tup ys) → (upd (upd H5 l (.lst (ls.eraseIdx j))) f (.lst (fs ++ [ls[j]]))) b = some (.tup ys) := fun b ys h => by
            rw [upd_ne (fun z => by rw [z, hfs] at h; cases h), upd_ne (fun z => by rw [z, hls] at h; cases h)]
            exact tk b ys h
          refine ⟨l, ls, _, j, ls[j], rfl, rfl, hls5, by omega, by omega, seqIx hj, hlj, ?_⟩
          have lfs : fs.length ≤ 12 := by rw [Paired.length ppf]; omega
          refine ⟨f, fs, _, rfl, rfl, by rw [upd_ne nlf.symm]; exact hfs5, small1000 (by omega), ?_⟩
          refine ⟨⟨_, _, _, rfl⟩, ?_, by omega, ?_, ls.eraseIdx j, pl.eraseIdx j, fs ++ [ls[j]], pf ++ [g], by rw [upd_ne nlf]; exact upd_same, prts_keep (paired_erase ppl j) tk6, upd_same, paired_snoc ?_ (prts_keep ppf tk6), ?_, ?_, ?_⟩
          · intro b o nb h
            have h1 := kp5 _ _ nb (at_new (u := .lst []) (kp2 _ _ nb h) hq0)
            rw [upd_ne (fun z => by rw [z, hHf] at h; cases h), upd_ne (fun z => by rw [z, hHl] at h; cases h)]
            exact h1
          · exact ((bg5.oth nlp.symm nlc.symm).oth nfp.symm nfc.symm).le (by omega)
          · obtain ⟨tt, e1, e2⟩ := hgt
            exact ⟨tt, e1, tk6 _ _ e2⟩
          · rw [List.length_eraseIdx, if_pos (by omega), lk]
          · rw [List.length_append]
            show pf.length + 1 + (k - 1) = _
            omega
          · intro q
            rw [hm2 q, mem_erase hg q, List.mem_append, List.mem_singleton]
            constructor
            · rintro ((h | h) | h)
              · exact .inr (.inr h)
              · exact .inl h
              · exact .inr (.inl h)
            · rintro (h | h | h)
              · exact .inl (.inr h)
              · exact .inr h
              · exact .inl (.inl h)
      · rintro σ' H2 ⟨⟨w4, w5, w6, rfl⟩, kp2, bg2, fs, pf, hfs, ppf, lf, blf, cnf⟩
        obtain ⟨_, ms2, t2, l2, hp2, _⟩ := id bg2
        refine ⟨_, rfl, _, rfl, by show 2 ≤ sizeLine; decide, fun t ht => ?_⟩
        exact k t f n fs pf _ (kp2.new ht) (bg2.new ht) (kp_free kp2 hp2 ht) hHf nfp upd_same (at_new hfs ht) (prts_keep ppf fun b ys h => at_new h ht) n1 n13 lf blf (hang_iff.mpr ((MC.names_nm blf).whole.mp fun x hx => cnf x hx))
/-! ### webs beside one another -/
theorem eqO_webs (T : Txt P K mg A) {H : Hp} {x y : Addr} {n m : Nat} {ps qs : MC.Pr} {Q : VK} (hx : WebAt H x A.c_Web n ps) (hy : WebAt H y A.c_Web m qs) (k : Q (.bl (decide (n = m ∧ ps = qs))) H) : rEqO A.c_Web (sp_eq A.c_Web) (.ref x) (.ref y) H Q := by
  obtain ⟨dx, q, xs, h1, h2⟩ := id hx
  obtain ⟨dy, r, ys, g1, g2⟩ := id hy
  unfold rEqO
  exact ⟨x, dx, _, rfl, h1, .inr (.inr ⟨dy, _, g1⟩), x, n, ps, .ref y, rfl, hx, .inl ⟨y, m, qs, rfl, hy, _, rfl, k⟩⟩
theorem eqO_seq (T : Txt P K mg A) {H : Hp} {x b : Addr} {n : Nat} {ps : MC.Pr} {xs : List V} {Q : VK} (hx : WebAt H x A.c_Web n ps) (hb : SqX H b xs) (k : Q (.bl false) H) : rEqO A.c_Web (sp_eq A.c_Web) (.ref x) (.ref b) H Q := by
  obtain ⟨dx, q, xs', h1, h2⟩ := id hx
  unfold rEqO
  refine ⟨x, dx, _, rfl, h1, ?_, x, n, ps, .ref b, rfl, hx, .inr ⟨b, xs, rfl, hb, _, rfl, k⟩⟩
  rcases hb with h | h
  · exact .inl ⟨_, h⟩
  · exact .inr (.inl ⟨_, h⟩)
theorem neO_webs (T : Txt P K mg A) {H : Hp} {x y : Addr} {n m : Nat} {ps qs : MC.Pr} {Q : VK} (hx : WebAt H x A.c_Web n ps) (hy : WebAt H y A.c_Web m qs) (k : Q (.bl (!decide (n = m ∧ ps = qs))) H) : rNeO A.c_Web (sp_eq A.c_Web) (.ref x) (.ref y) H Q := by
  obtain ⟨dx, q, xs, h1, h2⟩ := id hx
  obtain ⟨dy, r, ys, g1, g2⟩ := id hy
  unfold rNeO
  exact ⟨x, y, dx, _, dy, _, rfl, rfl, h1, g1, x, n, ps, .ref y, rfl, hx, .inl ⟨y, m, qs, rfl, hy, _, rfl, k⟩⟩
theorem str_web (T : Txt P K mg A) {H : Hp} {x : Addr} {n : Nat} {ps : MC.Pr} {Q : VK} (hx : WebAt H x A.c_Web n ps) (hn : n ≤ 13) (hl : ps.length ≤ 12) (hb : MC.Below n ps) (k : ∀ H', Same H H' → Q (.str (text n ps)) H') : rStrO A.c_Web (sp_str A.c_Web) [.ref x] H Q := by
  obtain ⟨dx, q, xs, h1, h2⟩ := id hx
  unfold rStrO
  exact ⟨x, dx, _, rfl, h1, x, n, ps, rfl, hx, hn, hl, hb, fun H' s => ⟨_, rfl, k H' s⟩⟩
theorem mk_web (T : Txt P K mg A) {H : Hp} {n : Nat} {a : Addr} {ps : MC.Pr} {Q : VK} {E : XK} {all : V → List V} (ha : ∀ x, all (.ref x) = [.ref x, .int (n : Int), .ref a]) (h1 : 1 ≤ n) (hn : n ≤ 13) (hl : ps.length ≤ 12) (hp : PrsA H a ps) (hb : MC.Below n ps) (hh : hang n ps = true)
    (k : ∀ y H', Same H H' → WebAt H' y A.c_Web n ps → Q (.ref y) H') : rMkG A.c_Web (sp_webi K A.c_Web A.c_BadWeb) E all H Q := by
  unfold rMkG
  intro x dx hx hd hne
  rw [ha]
  exact make_web T h1 hn hl hp hb hh k x dx hx hd hne
theorem mk_apart (T : Txt P K mg A) {H : Hp} {n : Nat} {a : Addr} {ps : MC.Pr} {Q : VK} {E : XK} {all : V → List V} (ha : ∀ x, all (.ref x) = [.ref x, .int (n : Int), .ref a]) (h1 : 1 ≤ n) (hn : n ≤ 13) (hl : ps.length ≤ 12) (hp : PrsA H a ps) (hb : MC.Below n ps) (hh : hang n ps = false)
    (k : ∀ d H', H' d = some (.xd [("part", .str "apart")]) → Same H H' → E (.ref A.c_BadWeb) (some d) H') : rMkG A.c_Web (sp_webi K A.c_Web A.c_BadWeb) E all H Q := by
  unfold rMkG
  intro x dx hx hd hne
  rw [ha]
  exact make_apart T h1 hn hl hp hb hh k x dx hx hd hne
/-- all but lists stay -/
def SameN (H H' : Hp) : Prop := ∀ b o, H b = some o → (∀ zs, o ≠ .lst zs) → H' b = some o
theorem SameN.of {H H' : Hp} (s : Same H H') : SameN H H' := fun b o h _ => s b o h
theorem SameN.trans {H H1 H2 : Hp} (a : SameN H H1) (b : SameN H1 H2) : SameN H H2 := fun c o h n => b c o (a c o h n) n
theorem SameN.put {H H' : Hp} {q : Addr} {xs ys : List V} (a : SameN H H') (hq : H' q = some (.lst xs)) : SameN H (upd H' q (.lst ys)) := fun b o h n => by
  have e := a b o h n
  rw [upd_ne (fun z => by rw [z, hq] at e; exact n _ (Option.some.inj e).symm)]
  exact e
theorem webN {H H' : Hp} {x C : Addr} {n : Nat} {ps : MC.Pr} (h : WebAt H x C n ps) (s : SameN H H') : WebAt H' x C n ps := by
  obtain ⟨dx, q, xs, h1, h2, h3⟩ := h
  refine ⟨dx, q, xs, s _ _ h1 (fun _ z => by cases z), s _ _ h2 (fun _ z => by cases z), prts_keep h3 fun b ys e => s _ _ e (fun _ z => by cases z)⟩
theorem rep_int {K : PySem.W.Frag} {H : Hp} {n : Nat} {Q : VK} (h : n ≤ 13) (k : Q (.str (PyData.int (n : Int)).shown) H) : rRepr K [.int (n : Int)] H Q ∨ rReprD [.int (n : Int)] H Q := by
  refine .inl ⟨_, .int (n : Int), rfl, .int _, ?_, ?_, ?_, k⟩
  · simp only [PyData.showable, decide_eq_true_eq]
    exact log13' h
  · simp only [PyData.depth]
    omega
  · simp only [PyData.shown]
    exact Nat.le_trans (int13 h) (by decide)
theorem below13 {n : Nat} {ps : MC.Pr} (hn : n ≤ 13) (bl : MC.Below n ps) : ∀ p ∈ ps, p.1 ≤ 13 ∧ p.2 ≤ 13 := fun p hp => by
  have := bl p hp
  omega
/-- what stands in the list that is passed -/
def EL (H0 : Hp) (D : Addr) (H : Hp) (x : V) (g : Nat × Nat) : Prop := ∃ t, x = .ref t ∧ (H t = some (.tup [.int (g.1 : Int), .int (g.2 : Int)]) ∨ (H t = some (.lst [.int (g.1 : Int), .int (g.2 : Int)]) ∧ H0 t = none ∧ t ≠ D))
theorem el_keep {H0 H H' : Hp} {D p : Addr} {xs : List V} {ps : MC.Pr} {op : List V} (h : Paired (EL H0 D H) xs ps) (hp0 : H0 p = some (.lst op)) (hp : ∃ o, H p = some (.lst o)) (hD : ∃ o, H D = some (.lst o)) (s : ∀ b o, H b = some o → b ≠ D → b ≠ p → H' b = some o) : Paired (EL H0 D H') xs ps :=
  paired_imp (fun x g z => by
    obtain ⟨t, e, q⟩ := z
    obtain ⟨o1, hp⟩ := hp
    obtain ⟨o2, hD⟩ := hD
    refine ⟨t, e, ?_⟩
    rcases q with q | ⟨q1, q2, q3⟩
    · exact .inl (s _ _ q (fun z => by rw [z, hD] at q; cases q) (fun z => by rw [z, hp] at q; cases q))
    · exact .inr ⟨s _ _ q1 q3 (fun z => by rw [z, hp0] at q2; cases q2), q2, q3⟩) h
theorem el_pr {H0 H : Hp} {D : Addr} {xs : List V} {ps : MC.Pr} (h : Paired (EL H0 D H) xs ps) : Paired (PrI H) xs ps :=
  paired_imp (fun x g z => by
    obtain ⟨t, e, q⟩ := z
    rcases q with q | ⟨q1, _⟩
    · exact ⟨t, e, .inr q⟩
    · exact ⟨t, e, .inl q1⟩) h
/-! ### webs are kept -/
def sp_kept : Sp := fun vs H Q _ => ∃ (p c a : Addr) (m n : Nat) (xs : List V) (ps : MC.Pr), vs = [.ref p, .int (n : Int), .ref a] ∧ Bg H p c m ∧ m ≤ 90000 ∧ H a = some (.lst xs) ∧ a ≠ p ∧ Paired (PrT H) xs ps ∧ 1 ≤ n ∧ n ≤ 13 ∧ ps.length ≤ 12 ∧ MC.Below n ps ∧ hang n ps = true ∧
  ∀ H', Kp p H H' → Bg H' p c (m + 12) → Q (.bl true) H'
theorem G__law_kept_right (T : Txt P K mg A) : FnG P w K mg base CX0 8 A.a__law_kept_right A.d__law_kept_right P__law_kept_right sp_kept := by
  refine okG T.F__law_kept_right sc__law_kept_right (fun vs H Q E h => ?_) (fun cdv A0 outer s H vs Q E hr h => ?_)
  · obtain ⟨p, c, a, m, n, xs, ps, rfl, _⟩ := h
    rfl
  obtain ⟨p, c, a, m, n, xs, ps, rfl, bg, hm, hxs, nap, pp, n1, n13, lp, bl, hh, k⟩ := h
  refine ⟨_, (pss_cons (ps_setLc (i := 3) (own := [("ends", 9)]) (g := gName 9) (tt := tYes) (te := tIf (tTest (tOp rEq (tCall sp_tip [] E0 (tCons (tVar 0) (tCons (tC (.int 2)) tNil))) (tC (.int 0)))) (tCB (rListOf K) (tCons (tVar 9) tNil)) (tVar 9)) (by rfl) sc__law_kept_right.nd rfl rfl (sw_true rfl rfl rfl (by decide +kernel)) (pi_list (pv 2)) (blkOk_by (N := N__law_kept_right) (sc := defScope s__law_kept_right) (by decide +kernel)) (fun _ _ _ _ _ => (pg_name (i := 9) sc__law_kept_right.nd rfl (Or.inl rfl))) (fun _ _ _ _ _ => pts_nil) (fun _ _ _ _ _ => (pe_ifExp (pt_cmpR op_eq (pe_callG (G__law_thread T) (hr.mono (by decide)) rfl T.g__law_thread T.F__law_thread.kp T.b__law_thread .nil pass0 (pa_cons (pv 0) (pa_cons pe_int pa_nil))) pe_int (nomark _)) (pe_callTy (T := "list") call_list_of (by rfl) T.n_list (by decide +kernel) (pa_cons (pv 9) pa_nil)) (pv 9))))
      (pss_cons (ps_par3 (i := 4) (j := 5) (l := 6) (by rfl) sc__law_kept_right.nd rfl rfl rfl (by decide) (by decide) (by decide) rfl rfl rfl (pa_cons (pe_mkGK0 (E := fun _ _ _ => False) T.M_Web (G_Web___init__ T) (hr.mono (by decide)) rfl T.g_Web (kb_Web___init___ties_places T) (passes_call (W := fun _ _ _ _ => False) L2.takes0 (fun _ _ _ _ h => h)) (pk_cons (pv 3) (pk_cons (pv 1) pk_nil))) (pa_cons (pe_callB (call_repr2 hr.gd hr.room.units) (by rfl) T.n_repr (by decide +kernel) (pa_cons (pe_callTy (T := "tuple") call_tuple_of (by rfl) T.n_tuple (by decide +kernel) (pa_cons (pv 2) pa_nil)) pa_nil)) (pa_cons (pe_lst (pa_cons (pe_callTy (T := "str") call_str_int (by rfl) T.n_str (by decide +kernel) (pa_cons (pv 1) pa_nil)) (pa_cons pe_str pa_nil))) pa_nil))) (by rfl))
      (pss_cons (ps_for PassesOwn.never rfl (pi_list (pv 2)) (pg_tup rfl (pgs_cons (pg_name (i := 7) sc__law_kept_right.nd rfl (Or.inl rfl)) (pgs_cons (pg_name (i := 8) sc__law_kept_right.nd rfl (Or.inl rfl)) pgs_nil))) (pss_one (ps_set (i := 6) sc__law_kept_right.nd rfl (Or.inl rfl) (pe_op op_cat (pv 6) (pe_lst (pa_cons (pe_callTy (T := "str") call_str_int (by rfl) T.n_str (by decide +kernel) (pa_cons (pv 7) pa_nil)) (pa_cons (pe_callTy (T := "str") call_str_int (by rfl) T.n_str (by decide +kernel) (pa_cons (pv 8) pa_nil)) pa_nil)))))))
      (pss_cons (ps_for PassesOwn.never rfl (pi_list (pv 3)) (pg_name (i := 9) sc__law_kept_right.nd rfl (Or.inl rfl)) (pss_one (ps_if (pt_val (pe_callB call_isi (by rfl) T.n_isinstance (by decide +kernel) (pa_cons (pv 9) (pa_cons (pe_bltn (v := .ty "list") (u := .type "list") (by rfl) T.n_list (by decide +kernel) rfl) pa_nil)))) (pss_one (ps_asg (pv 1) (pg_sub (pv 9) pe_int set_list))) pss_nil)))
      (pss_cons (ps_expr (pe_bm PySem.F.plainAttrs_list PySem.F.slot_list_append PySem.F.type_list_append mt_append (pv 3) (pa_cons (pe_lst (pa_cons pe_int (pa_cons pe_int pa_nil))) pa_nil)))
      (pss_cons (ps_if (PW.pt (pw_or (pt_cmpR op_ne (pe_callB (call_repr2 hr.gd hr.room.units) (by rfl) T.n_repr (by decide +kernel) (pa_cons (pe_fld (pv 4) rfl) pa_nil)) (pv 5) (nomark _)) (pw_or (pt_cmpR op_ne (pe_callB (call_repr2 hr.gd hr.room.units) (by rfl) T.n_repr (by decide +kernel) (pa_cons (pe_fld (pv 4) rfl) pa_nil)) (pe_callB (call_repr2 hr.gd hr.room.units) (by rfl) T.n_repr (by decide +kernel) (pa_cons (pv 1) pa_nil)) (nomark _)) (pw_or1 (pt_cmpR op_ne (pe_callTy (T := "str") (call_strO T.O_s T.O_f (G_Web___str__ T) (hr.mono (by decide)) T.b_Web___str__ pass0) (by rfl) T.n_str (by decide +kernel) (pa_cons (pv 4) pa_nil)) (pe_bm PySem.F.plainAttrs_str PySem.F.slot_str_join PySem.F.type_str_join mt_join pe_str (pa_cons (pv 6) pa_nil)) (nomark _)))))) (pss_one (ps_ret pe_bl)) pss_nil)
      (pss_cons (ps_set (i := 10) sc__law_kept_right.nd rfl (Or.inl rfl) (pe_smethK0 (pe_glob (v := .ref A.c_Web) rfl T.g_Web rfl) T.S_read (G_Web_read T) (hr.mono (by decide)) T.F_Web_read.kp (kb_Web_read_text T) pass0 (pk_cons (pe_bm PySem.F.plainAttrs_str PySem.F.slot_str_join PySem.F.type_str_join mt_join pe_str (pa_cons (pv 6) pa_nil)) pk_nil)))
      (pss_one (ps_ret (pe_and (pe_cmpR (op_eqO T.O_eq (G_Web___eq__ T) (hr.mono (by decide)) T.b_Web___eq__ pass0 T.O_l T.O_t) (pv 10) (pv 4) (nomark _)) (pe_and (pe_cmpR op_eq (pe_callB (call_repr2 hr.gd hr.room.units) (by rfl) T.n_repr (by decide +kernel) (pa_cons (pe_fld (pv 10) rfl) pa_nil)) (pv 5) (nomark _)) (pe_and (pe_cmpR op_eq (pe_callTy (T := "str") (call_strO T.O_s T.O_f (G_Web___str__ T) (hr.mono (by decide)) T.b_Web___str__ pass0) (by rfl) T.n_str (by decide +kernel) (pa_cons (pv 10) pa_nil)) (pe_callTy (T := "str") (call_strO T.O_s T.O_f (G_Web___str__ T) (hr.mono (by decide)) T.b_Web___str__ pass0) (by rfl) T.n_str (by decide +kernel) (pa_cons (pv 4) pa_nil)) (nomark _)) (pe_one (pe_cmpR op_eq (pe_fld (pe_smeth (pe_glob (v := .ref A.c_Web) rfl T.g_Web rfl) T.S_read (G_Web_read T) (hr.mono (by decide)) T.F_Web_read.kp T.b_Web_read pass0 (pa_cons (pe_callTy (T := "str") (call_strO T.O_s T.O_f (G_Web___str__ T) (hr.mono (by decide)) T.b_Web___str__ pass0) (by rfl) T.n_str (by decide +kernel) (pa_cons (pv 4) pa_nil)) pa_nil)) rfl) (pv 1) (nomark _))))))))))))))), ?_⟩
  obtain ⟨_, ms0, t0, l0, hp0, hc0, _⟩ := id bg
  refine seq_cut (fun σ' H' => ∃ D ys, (∃ u4 u5 u6 u7 u8 u9 u10 : Option V, σ' = [some (.ref p), some (.int (n : Int)), some (.ref a), some (.ref D), u4, u5, u6, u7, u8, u9, u10]) ∧ Kp p H H' ∧ Bg H' p c (m + 12) ∧ H D = none ∧ H' D = some (.lst ys) ∧ Paired (EL H D H') ys ps) (fun N hN => ?_) ?_
  · refine ⟨_, rfl, a, rfl, ⟨_, SqL.of hxs⟩, fun D hD => ?_⟩
    refine lc_list (K := K) (a := a) (xs := xs) (fun i H' => Kp p H H' ∧ Bg H' p c (m + i) ∧ ∃ ys, H' D = some (.lst ys) ∧ Paired (EL H D H') ys (ps.take i)) ⟨Kp.new (Kp.refl p H) hD, bg.new hD, [], upd_same, .nil⟩ (fun i H' _ h => SqL.of (h.1 _ _ nap hxs)) ?_ ?_
    · rintro i x H' hx ⟨kp, bgi, ys, hDy, el⟩
      obtain ⟨g, hg, t, rfl, ht⟩ := paired_get pp hx
      have hi := (List.getElem?_eq_some_iff.mp hx).1
      have lx : xs.length = ps.length := Paired.length pp
      have ntp : t ≠ p := fun z => by rw [z, hp0] at ht; cases ht
      have lys : ys.length ≤ 12 := by
        rw [Paired.length el, List.length_take]
        omega
      have nDp : D ≠ p := fun z => by rw [z, hp0] at hD; cases hD
      have nDc : D ≠ c := fun z => by rw [z, hc0] at hD; cases hD
      obtain ⟨_, ms1, t1, l1, hp1, hc1, _⟩ := id bgi
      have tk : ps.take (i + 1) = ps.take i ++ [g] := by rw [List.take_succ, hg]; rfl
      rw [tk]
      refine ⟨rfl, tYes_of (iteT ⟨_, rfl, p, c, _, 2, rfl, bgi, by omega, by decide, by decide, fun y H2 y0 y1 kp2 bg2 => ⟨rfl, _, rfl, ite2 (fun _ => ?_) (fun _ => ?_)⟩⟩)⟩
      · have ht2 := kp2 _ _ ntp (kp _ _ ntp ht)
        refine ⟨_, rfl, t, _, rfl, .inr (SqT.of ht2), fun l hl => ?_⟩
        have hD2 := kp2 _ _ nDp hDy
        have nlD : l ≠ D := fun z => by rw [z, hD2] at hl; cases hl
        obtain ⟨_, ms2, t2, l2, hp2, hc2, _⟩ := id bg2
        have hHl := kp_free (kp.trans kp2) hp2 hl
        refine ⟨ys, at_new hD2 hl, small1000 (by omega), ?_, ((bg2.new hl).oth nDp.symm nDc.symm).le (by omega), ys ++ [.ref l], upd_same, paired_snoc ⟨l, rfl, .inr ⟨by rw [upd_ne nlD]; exact upd_same, hHl, nlD⟩⟩ (el_keep (op := _) el hp0 ⟨_, hp1⟩ ⟨_, hDy⟩ fun b o h n1 n2 => ?_)⟩
        · intro b o nb h
          have h2 := kp2 _ _ nb (kp _ _ nb h)
          rw [upd_ne (fun z => by rw [z, hD] at h; cases h), upd_ne (ne_of_none h2 hl)]
          exact h2
        · have h2 := kp2 _ _ n2 h
          rw [upd_ne n1, upd_ne (ne_of_none h2 hl)]
          exact h2
      · have ht2 := kp2 _ _ ntp (kp _ _ ntp ht)
        have hD2 := kp2 _ _ nDp hDy
        have ntD : t ≠ D := fun z => by rw [z, hD] at ht; cases ht
        refine ⟨_, rfl, ys, hD2, small1000 (by omega), ?_, (bg2.oth nDp.symm nDc.symm).le (by omega), ys ++ [.ref t], upd_same, paired_snoc ⟨t, rfl, .inl (by rw [upd_ne ntD]; exact ht2)⟩ (el_keep (op := _) el hp0 ⟨_, hp1⟩ ⟨_, hDy⟩ fun b o h n1 n2 => ?_)⟩
        · intro b o nb h
          rw [upd_ne (fun z => by rw [z, hD] at h; cases h)]
          exact kp2 _ _ nb (kp _ _ nb h)
        · rw [upd_ne n1]
          exact kp2 _ _ n2 h
    · rintro H' ⟨kp, bgi, ys, hDy, el⟩
      have lx : xs.length = ps.length := Paired.length pp
      rw [List.take_of_length_le (by omega)] at el
      exact hN _ _ ⟨D, ys, ⟨_, _, _, _, _, _, _, rfl⟩, kp, bgi.le (by omega), hD, hDy, el⟩
  · rintro σ' H1 ⟨D, ys, ⟨u4, u5, u6, u7, u8, u9, u10, rfl⟩, kp1, bg1, hHD, hDy, el⟩
    have lys : ys.length ≤ 12 := by rw [Paired.length el]; exact lp
    have nDp : D ≠ p := fun z => by rw [z, hp0] at hHD; cases hHD
    have nDc : D ≠ c := fun z => by rw [z, hc0] at hHD; cases hHD
    have b13 := below13 n13 bl
    have lxp : xs.length = ps.length := Paired.length pp
    -- the web is made, its repr, the first words
    try dsimp only
    refine seq_cut (fun σ' H' => ∃ y w H3, (∃ u7 u8 u9 u10 : Option V, σ' = [some (.ref p), some (.int (n : Int)), some (.ref a), some (.ref D), some (.ref y), some (.str (showP ps)), some (.ref w), u7, u8, u9, u10]) ∧ Same H1 H3 ∧ Same H3 H' ∧ WebAt H3 y A.c_Web n ps ∧ H3 w = none ∧ H' w = some (.lst ([wd n, ":"].map V.str))) (fun N hN => ?_) ?_
    · refine ⟨_, rfl, _, rfl, ?_⟩
      refine mk_web T (fun x => rfl) n1 n13 lp ⟨ys, .inl hDy, el_pr el⟩ bl hh fun y H2 s2 hy => ?_
      have hxs2 := s2 _ _ (kp1 _ _ nap hxs)
      refine ⟨_, rfl, a, _, rfl, .inl ⟨SqL.of hxs2, fun q hq => ?_⟩⟩
      have ppq : Paired (PrT (upd H2 q (.tup xs))) xs ps := prts_keep pp fun b zs h => at_new (s2 _ _ (kp1 _ _ (fun z => by rw [z, hp0] at h; cases h) h)) hq
      refine rep_prs upd_same ppq b13 lp ?_
      refine ⟨_, rfl, _, rfl, log13 n13, by show 2 ≤ sizeLine; decide, fun w hw => ⟨_, _, _, rfl, ?_⟩⟩
      exact hN _ _ ⟨y, w, upd H2 q (.tup xs), ⟨_, _, _, _, rfl⟩, s2.trans (Same.new (fun _ _ h => h) hq), Same.new (fun _ _ h => h) hw, hy.keep (Same.new (fun _ _ h => h) hq), hw, upd_same⟩
    · rintro σ' H4 ⟨y, w0, H3, ⟨v7, v8, v9, v10, rfl⟩, s13, s34, hy3, hw3, hw4⟩
      have hp3 : ∃ o, H3 p = some (.lst o) := by
        obtain ⟨_, ms, t1, l1, e1, _⟩ := id bg1
        exact ⟨_, s13 _ _ e1⟩
      have hc3 : ∃ o, H3 c = some (.lst o) := by
        obtain ⟨_, ms, t1, l1, e1, e2, _⟩ := id bg1
        exact ⟨_, s13 _ _ e2⟩
      have hD3 := s13 _ _ hDy
      have hxs1 := kp1 _ _ nap hxs
      -- the words
      try dsimp only
      refine seq_cut (fun σ' H' => ∃ w, (∃ u7 u8 u9 u10 : Option V, σ' = [some (.ref p), some (.int (n : Int)), some (.ref a), some (.ref D), some (.ref y), some (.str (showP ps)), some (.ref w), u7, u8, u9, u10]) ∧ Same H3 H' ∧ H3 w = none ∧ H' w = some (.lst ((words n ps).map V.str))) (fun N hN => ?_) ?_
      · refine ⟨_, rfl, a, rfl, ⟨_, SqL.of (s34 _ _ (s13 _ _ hxs1))⟩, for_it (walk_list (K := K) (a := a) (xs := xs)) (fun i σ' H' => ∃ w, (∃ u7 u8 u9 u10 : Option V, σ' = [some (.ref p), some (.int (n : Int)), some (.ref a), some (.ref D), some (.ref y), some (.str (showP ps)), some (.ref w), u7, u8, u9, u10]) ∧ Same H3 H' ∧ H3 w = none ∧ H' w = some (.lst ((words n (ps.take i)).map V.str))) ⟨w0, ⟨_, _, _, _, rfl⟩, s34, hw3, hw4⟩ (fun i σ' H' _ h => ?_) ?_ ?_⟩
        · obtain ⟨w, _, s3, _⟩ := h
          exact SqL.of (s3 _ _ (s13 _ _ hxs1))
        · rintro i x σ' H' _ hi ⟨w, ⟨w7, w8, w9, w10, rfl⟩, s3, hw, hwd⟩ ⟨rfl, hx⟩
          obtain ⟨g, hg, t, rfl, ht⟩ := paired_get pp hx
          have ntp : t ≠ p := fun z => by rw [z, hp0] at ht; cases ht
          have ht3 := s3 _ _ (s13 _ _ (kp1 _ _ ntp ht))
          obtain ⟨b1, b2⟩ := b13 g (List.mem_of_getElem? hg)
          refine ⟨t, _, rfl, SqT.of ht3, rfl, _, _, rfl, _, _, rfl, rfl, ?_⟩
          refine ⟨_, rfl, _, rfl, _, rfl, log13 b1, _, rfl, _, rfl, log13 b2, by show 2 ≤ sizeLine; decide, fun q hq => ?_⟩
          have wl := words_len n (ps.take i)
          have tl := List.length_take_le i ps
          refine ⟨w, q, _, _, rfl, rfl, at_new hwd hq, upd_same, ?_, fun w2 hw2 => ?_⟩
          · rw [List.length_map, wl]
            show _ + 2 ≤ _
            have : (1000 : Nat) ≤ sizeLine := by decide
            omega
          · refine ⟨w2, ⟨_, _, _, _, rfl⟩, s3.trans (Same.new (Same.new (fun _ _ h => h) hq) hw2), ?_, ?_⟩
            · exact (s3.trans (Same.new (fun _ _ h => h) hq)).free hw2
            · rw [upd_same, List.take_succ, hg]
              show some (HO.lst (_ ++ [V.str (wd g.1), V.str (wd g.2)])) = _
              congr 2
              unfold words
              simp
        · rintro σ' H' ⟨w, hσ, s3, hw, hwd⟩
          rw [List.take_of_length_le (by omega)] at hwd
          exact hN _ _ ⟨w, hσ, s3, hw, hwd⟩
      · clear hw3 hw4 s34
        rintro σ' H5 ⟨w, ⟨w7, w8, w9, w10, rfl⟩, s35, hw3, hw5⟩
        obtain ⟨op3, hp3'⟩ := hp3
        obtain ⟨oc3, hc3'⟩ := hc3
        have nwD : w ≠ D := fun z => by rw [z, hD3] at hw3; cases hw3
        have nwp : w ≠ p := fun z => by rw [z, hp3'] at hw3; cases hw3
        have nwc : w ≠ c := fun z => by rw [z, hc3'] at hw3; cases hw3
        have hHw : H w = none := by
          cases e : H w with
          | none => rfl
          | some u =>
            have := s13 _ _ (kp1 _ _ nwp e)
            rw [hw3] at this
            cases this
        -- what was passed is changed
        try dsimp only
        refine seq_cut (fun σ' H' => (∃ u7 u8 u9 u10 : Option V, σ' = [some (.ref p), some (.int (n : Int)), some (.ref a), some (.ref D), some (.ref y), some (.str (showP ps)), some (.ref w), u7, u8, u9, u10]) ∧ SameN H5 H' ∧ Kp p H H' ∧ Bg H' p c (m + 12) ∧ H' D = some (.lst ys) ∧ H' w = some (.lst ((words n ps).map V.str))) (fun N hN => ?_) ?_
        · refine ⟨_, rfl, D, rfl, ⟨_, SqL.of (s35 _ _ hD3)⟩, for_it (walk_list (K := K) (a := D) (xs := ys)) (fun i σ' H' => (∃ u7 u8 u9 u10 : Option V, σ' = [some (.ref p), some (.int (n : Int)), some (.ref a), some (.ref D), some (.ref y), some (.str (showP ps)), some (.ref w), u7, u8, u9, u10]) ∧ SameN H5 H' ∧ Kp p H H' ∧ Bg H' p c (m + 12) ∧ H' D = some (.lst ys) ∧ H' w = some (.lst ((words n ps).map V.str)) ∧ ∀ x ∈ ys, ∃ t, x = .ref t ∧ ((∃ zs, H' t = some (.tup zs)) ∨ ∃ u v, H' t = some (.lst [u, v]) ∧ H t = none ∧ t ≠ D ∧ t ≠ w))
            ⟨⟨_, _, _, _, rfl⟩, fun b o h _ => h, fun b o nb h => s35 _ _ (s13 _ _ (kp1 _ _ nb h)), (bg1.keep s13).keep s35, s35 _ _ hD3, hw5, fun x hx => ?_⟩ (fun i σ' H' _ h => SqL.of h.2.2.2.2.1) ?_ ?_⟩
          · obtain ⟨jx, hjx⟩ := List.mem_iff_getElem?.mp hx
            obtain ⟨g, hg, t, e, q⟩ := paired_get el hjx
            refine ⟨t, e, ?_⟩
            rcases q with q | ⟨q1, q2, q3⟩
            · exact .inl ⟨_, s35 _ _ (s13 _ _ q)⟩
            · exact .inr ⟨_, _, s35 _ _ (s13 _ _ q1), q2, q3, fun z => by
                have e3 := s13 _ _ q1
                rw [z, hw3] at e3
                cases e3⟩
          · rintro i x σ' H' _ hi ⟨⟨z7, z8, z9, z10, rfl⟩, sN, kp, bgi, hD', hw', el'⟩ ⟨rfl, hx⟩
            obtain ⟨t, rfl, q⟩ := el' x (List.mem_of_getElem? hx)
            rcases q with ⟨zs, q⟩ | ⟨u, v, q1, q2, q3, q4⟩
            · refine ⟨_, rfl, _, _, _, _, _, rfl, .ty "list", .base (.tup q), kit_ty (show kitB "tuple" "list" = some false by decide +kernel), _, rfl, iteF ?_⟩
              exact ⟨⟨_, _, _, _, rfl⟩, sN, kp, bgi, hD', hw', el'⟩
            · refine ⟨_, rfl, _, _, _, _, _, rfl, .ty "list", .base (.lst q1), kit_ty (show kitB "list" "list" = some true by decide +kernel), _, rfl, iteT ?_⟩
              have ntp : t ≠ p := fun z => by rw [z, hp0] at q2; cases q2
              have ntc : t ≠ c := fun z => by rw [z, hc0] at q2; cases q2
              refine ⟨_, rfl, _, rfl, t, _, _, 0, rfl, rfl, q1, rfl, ?_⟩
              refine ⟨⟨_, _, _, _, rfl⟩, sN.put q1, ?_, bgi.oth ntp.symm ntc.symm, by rw [upd_ne q3.symm]; exact hD', by rw [upd_ne q4.symm]; exact hw', fun x2 hx2 => ?_⟩
              · intro b o nb h
                rw [upd_ne (fun z => by rw [z, q2] at h; cases h)]
                exact kp _ _ nb h
              · obtain ⟨t2, e2, r⟩ := el' x2 hx2
                by_cases e3 : t2 = t
                · rw [e3] at e2
                  exact ⟨t, e2, .inr ⟨_, _, upd_same, q2, q3, q4⟩⟩
                · refine ⟨t2, e2, ?_⟩
                  rw [upd_ne e3]
                  exact r
          · rintro σ' H' ⟨hσ, sN, kp, bgi, hD', hw', el'⟩
            exact hN _ _ ⟨hσ, sN, kp, bgi, hD', hw'⟩
        · rintro σ' H6 ⟨⟨z7, z8, z9, z10, rfl⟩, sN, kp6, bg6, hD6, hw6⟩
          refine ⟨_, rfl, .inl ⟨rfl, _, SqL.of hD6⟩, by show 2 ≤ sizeLine; decide, fun q hq => ⟨D, ys, _, rfl, rfl, at_new hD6 hq, small1000 (by omega), ?_⟩⟩
          have hy7 : WebAt (upd (upd H6 q (.lst [.int 0, .int 0])) D (.lst (ys ++ [.ref q]))) y A.c_Web n ps := webN hy3 (((SameN.of s35).trans sN).trans (SameN.put (SameN.of (Same.new (fun _ _ h => h) hq)) (at_new hD6 hq)))
          have hw7 : (upd (upd H6 q (.lst [.int 0, .int 0])) D (.lst (ys ++ [.ref q]))) w = some (.lst ((words n ps).map V.str)) := by
            rw [upd_ne nwD]
            exact at_new hw6 hq
          have bg7 : Bg (upd (upd H6 q (.lst [.int 0, .int 0])) D (.lst (ys ++ [.ref q]))) p c (m + 12) := (bg6.new hq).oth nDp.symm nDc.symm
          have kp7 : Kp p H (upd (upd H6 q (.lst [.int 0, .int 0])) D (.lst (ys ++ [.ref q]))) := fun b o nb h => by
            rw [upd_ne (fun z => by rw [z, hHD] at h; cases h)]
            exact at_new (kp6 _ _ nb h) hq
          generalize (upd (upd H6 q (.lst [.int 0, .int 0])) D (.lst (ys ++ [.ref q]))) = H7 at hy7 hw7 bg7 kp7
          have eS : ∀ x : Str, (!decide (V.str x = V.str x)) = false := fun x => by simp
          obtain ⟨dy, qy, zs, g1, g2, g3⟩ := id hy7
          refine ⟨_, rfl, y, A.c_Web, dy, _, _, rfl, g1, T.K_Web, T.N_Web_ties, rfl, rep_prs g2 g3 b13 lp ⟨_, rfl, rfl, _, rfl, ?_⟩⟩
          rw [eS]
          refine iteF ⟨_, rfl, y, A.c_Web, dy, _, _, rfl, g1, T.K_Web, T.N_Web_places, rfl, rep_int n13 ⟨_, rfl, rep_int n13 ⟨rfl, _, rfl, ?_⟩⟩⟩
          rw [eS]
          refine iteF ⟨_, rfl, str_web T hy7 n13 lp bl fun H8 s8 => ⟨rfl, _, rfl, _, w, words n ps, rfl, rfl, .inl (SqL.of (s8 _ _ hw7)), ?_, rfl, _, rfl, ?_⟩⟩
          · have e5 := sum_le2 (words n ps) fun x hx => (words_mem n13 bl hx).1
            have e2 := words_len n ps
            have e6 : Str.length (Str.ofString " ") = 1 := rfl
            rw [e6]
            omega
          have e9 : (!decide (V.str (text n ps) = V.str (Txt.join " " (words n ps)))) = false := eS _
          rw [e9]
          refine iteF ?_
          refine ⟨rfl, rfl, _, rfl, _, w, words n ps, rfl, rfl, .inl (SqL.of (s8 _ _ hw7)), ?_, ?_⟩
          · have e5 := sum_le2 (words n ps) fun x hx => (words_mem n13 bl hx).1
            have e2 := words_len n ps
            have e6 : Str.length (Str.ofString " ") = 1 := rfl
            rw [e6]
            omega
          refine ⟨n, ps, rfl, n1, n13, lp, bl, hh, fun y2 H9 s9 hy9 => ?_⟩
          have hy79 := (hy7.keep s8).keep s9
          have e10 : decide (n = n ∧ ps = ps) = true := decide_eq_true ⟨rfl, rfl⟩
          refine ⟨_, rfl, _, rfl, eqO_webs T hy9 hy79 ⟨_, rfl, ?_⟩⟩
          rw [e10]
          have eT : ∀ x : Str, decide (V.str x = V.str x) = true := fun x => decide_eq_true rfl
          obtain ⟨dz, qz, zs2, f1, f2, f3⟩ := id hy9
          refine iteT ⟨_, rfl, y2, A.c_Web, dz, _, _, rfl, f1, T.K_Web, T.N_Web_ties, rfl, rep_prs f2 f3 b13 lp ⟨_, rfl, rfl, _, rfl, ?_⟩⟩
          rw [eT]
          refine iteT ⟨_, rfl, str_web T hy9 n13 lp bl fun H10 s10 => ⟨_, rfl, str_web T (hy79.keep s10) n13 lp bl fun H11 s11 => ⟨rfl, _, rfl, ?_⟩⟩⟩
          rw [eT]
          refine iteT ⟨rfl, _, rfl, str_web T ((hy79.keep s10).keep s11) n13 lp bl fun H12 s12 => ⟨n, ps, rfl, n1, n13, lp, bl, hh, fun y3 H13 s13 hy13 => ?_⟩⟩
          obtain ⟨d3, q3, zs3, m1, m2, m3⟩ := id hy13
          refine ⟨y3, A.c_Web, d3, _, _, rfl, m1, T.K_Web, T.N_Web_places, rfl, _, rfl, rfl, ?_⟩
          have S := s8.trans (s9.trans (s10.trans (s11.trans (s12.trans s13))))
          rw [decide_eq_true rfl]
          exact k _ (fun b o nb h => S _ _ (kp7 _ _ nb h)) (bg7.keep S)
/-! ### equal webs -/
theorem hang_whole {n : Nat} {ps : MC.Pr} (bl : MC.Below n ps) : hang n ps = true ↔ MC.Whole n ps := hang_iff.trans (MC.names_nm bl).whole.symm
theorem con_of {ps qs : MC.Pr} {x y : Nat} (h : MC.Con ps x y) (s : ∀ p ∈ ps, MC.Con qs p.1 p.2) : MC.Con qs x y := by
  induction h with
  | refl => exact .refl _
  | to hm _ ih => exact (s _ hm).trans ih
  | fro hm _ ih => exact (s _ hm).symm.trans ih
theorem whole_of {n : Nat} {ps qs : MC.Pr} (w : MC.Whole n ps) (s : ∀ p ∈ ps, MC.Con qs p.1 p.2) : MC.Whole n qs := fun x hx => con_of (w x hx) s
theorem con_one {qs : MC.Pr} {p : Nat × Nat} (h : p ∈ qs) : MC.Con qs p.1 p.2 := .to h (.refl _)
theorem mem_set_of {ps : MC.Pr} {i : Nat} {g h p : Nat × Nat} (hg : ps[i]? = some g) (hp : p ∈ ps) : p = g ∨ p ∈ ps.set i h := by
  obtain ⟨j, hj⟩ := List.mem_iff_getElem?.mp hp
  by_cases e : i = j
  · subst e
    exact .inl (Option.some.inj (hj.symm.trans hg))
  · refine .inr (List.mem_iff_getElem?.mpr ⟨j, ?_⟩)
    rw [List.getElem?_set_ne e]
    exact hj
theorem paired_set {α β : Type} {R : α → β → Prop} {x : α} {y : β} (h : R x y) : ∀ {xs : List α} {ys : List β}, Paired R xs ys → ∀ i, Paired R (xs.set i x) (ys.set i y)
  | _, _, .nil, i => .nil
  | _, _, .cons a r, 0 => .cons h r
  | _, _, .cons a r, i + 1 => .cons a (paired_set h r i)
theorem prsL {H : Hp} {a : Addr} {xs : List V} {ps : MC.Pr} (h : SqX H a xs) (pp : Paired (PrT H) xs ps) : PrsA H a ps := ⟨xs, h, paired_imp (fun _ _ z => z.i) pp⟩
theorem eqB (n : Nat) (ps qs : MC.Pr) : decide (n = n ∧ ps = qs) = decide (qs = ps) := by
  by_cases h : ps = qs
  · subst h
    simp
  · have h2 : ¬ qs = ps := fun z => h z.symm
    simp [h, h2]
theorem below_one {n : Nat} (hn : 1 ≤ n) (hh : hang n [] = true) : n = 1 := by
  have w := (hang_whole (n := n) (ps := []) (fun p hp => by cases hp)).mp hh
  by_cases h : n = 1
  · exact h
  · have := MC.con_nil (w 1 (by omega))
    omega
theorem prts_same {H H' : Hp} {xs : List V} {ps : MC.Pr} (h : Paired (PrT H) xs ps) (s : Same H H') : Paired (PrT H') xs ps := paired_imp (fun _ _ z => z.keep s) h
def sp_same : Sp := fun vs H Q _ => ∃ (p c a : Addr) (m n : Nat) (xs : List V) (ps : MC.Pr), vs = [.ref p, .int (n : Int), .ref a] ∧ Bg H p c m ∧ m ≤ 90000 ∧ H a = some (.lst xs) ∧ a ≠ p ∧ Paired (PrT H) xs ps ∧ 1 ≤ n ∧ n ≤ 13 ∧ ps.length ≤ 12 ∧ MC.Below n ps ∧ hang n ps = true ∧
  ∀ H', Kp p H H' → Bg H' p c (m + 2) → Q (.bl true) H'
theorem G__law_equal_right (T : Txt P K mg A) : FnG P w K mg base CX0 8 A.a__law_equal_right A.d__law_equal_right P__law_equal_right sp_same := by
  refine okG T.F__law_equal_right sc__law_equal_right (fun vs H Q E h => ?_) (fun cdv A0 outer s H vs Q E hr h => ?_)
  · obtain ⟨p, c, a, m, n, xs, ps, rfl, _⟩ := h
    rfl
  obtain ⟨p, c, a, m, n, xs, ps, rfl, bg, hm, hxs, nap, pp, n1, n13, lp, bl, hh, k⟩ := h
  refine ⟨_, (pss_cons (ps_set (i := 3) sc__law_equal_right.nd rfl (Or.inl rfl) (pe_mkG (E := fun _ _ _ => False) T.M_Web (G_Web___init__ T) (hr.mono (by decide)) rfl T.g_Web T.b_Web___init__ (passes_call (W := fun _ _ _ _ => False) L2.takes0 (fun _ _ _ _ h => h)) (pa_cons (pv 1) (pa_cons (pv 2) pa_nil))))
      (pss_cons (ps_if (PW.pt (pw_or (pt_not (pt_cmpR (op_eqO T.O_eq (G_Web___eq__ T) (hr.mono (by decide)) T.b_Web___eq__ pass0 T.O_l T.O_t) (pv 3) (pe_mkG (E := fun _ _ _ => False) T.M_Web (G_Web___init__ T) (hr.mono (by decide)) rfl T.g_Web T.b_Web___init__ (passes_call (W := fun _ _ _ _ => False) L2.takes0 (fun _ _ _ _ h => h)) (pa_cons (pv 1) (pa_cons (pe_callTy (T := "tuple") call_tuple_of (by rfl) T.n_tuple (by decide +kernel) (pa_cons (pv 2) pa_nil)) pa_nil))) (nomark _))) (pw_or (pt_cmpR (op_neO T.O_eq (G_Web___eq__ T) (hr.mono (by decide)) (Nat.lt_of_le_of_lt (Nat.add_le_add_left (by decide) _) hr.room.units) T.b_Web___eq__ pass0) (pv 3) (pe_mkG (E := fun _ _ _ => False) T.M_Web (G_Web___init__ T) (hr.mono (by decide)) rfl T.g_Web T.b_Web___init__ (passes_call (W := fun _ _ _ _ => False) L2.takes0 (fun _ _ _ _ h => h)) (pa_cons (pv 1) (pa_cons (pe_lc (own := [("ends", 9)]) (g := gName 9) (tt := tYes) (te := tCB (rListOf K) (tCons (tVar 9) tNil)) rfl sc__law_equal_right.nd (pi_list (pv 2)) (blkOk_by (N := N__law_equal_right) (sc := defScope s__law_equal_right) (by decide +kernel)) (fun _ _ _ _ _ => (pg_name (i := 9) sc__law_equal_right.nd rfl (Or.inl rfl))) (fun _ _ _ _ _ => pts_nil) (fun _ _ _ _ _ => (pe_callTy (T := "list") call_list_of (by rfl) T.n_list (by decide +kernel) (pa_cons (pv 9) pa_nil)))) pa_nil))) (nomark _)) (pw_or (pt_cmpR (op_eqO T.O_eq (G_Web___eq__ T) (hr.mono (by decide)) T.b_Web___eq__ pass0 T.O_l T.O_t) (pv 3) (pv 2) (nomark _)) (pw_or1 (pt_cmpR (op_eqO T.O_eq (G_Web___eq__ T) (hr.mono (by decide)) T.b_Web___eq__ pass0 T.O_l T.O_t) (pv 3) (pe_tup (pa_cons (pv 1) (pa_cons (pe_callTy (T := "tuple") call_tuple_of (by rfl) T.n_tuple (by decide +kernel) (pa_cons (pv 2) pa_nil)) pa_nil))) (nomark _))))))) (pss_one (ps_ret pe_bl)) pss_nil)
      (pss_cons (ps_if (PW.pt (pw_and (pt_cmpR op_lt (pv 1) pe_int (nomark _)) (pw_and (pt_cmpR op_lt (pe_callB call_len_seq (by rfl) T.n_len (by decide +kernel) (pa_cons (pv 2) pa_nil)) pe_int (nomark _)) (pw_and1 (pt_cmpR (op_eqO T.O_eq (G_Web___eq__ T) (hr.mono (by decide)) T.b_Web___eq__ pass0 T.O_l T.O_t) (pv 3) (pe_mkG (E := fun _ _ _ => False) T.M_Web (G_Web___init__ T) (hr.mono (by decide)) rfl T.g_Web T.b_Web___init__ (passes_call (W := fun _ _ _ _ => False) L2.takes0 (fun _ _ _ _ h => h)) (pa_cons (pe_op op_add (pv 1) pe_int) (pa_cons (pe_op op_cat (pv 2) (pe_lst (pa_cons (pe_tup (pa_cons pe_int (pa_cons (pv 1) pa_nil))) pa_nil))) pa_nil))) (nomark _)))))) (pss_one (ps_ret pe_bl)) pss_nil)
      (pss_cons (ps_if (pt_cmpR (op_eqD hr.room.units) (pv 2) (pe_lst pa_nil) (nomark _)) (pss_one (ps_ret (pe_and (pe_cmpR (op_eqO T.O_eq (G_Web___eq__ T) (hr.mono (by decide)) T.b_Web___eq__ pass0 T.O_l T.O_t) (pv 3) (pe_mkG (E := fun _ _ _ => False) T.M_Web (G_Web___init__ T) (hr.mono (by decide)) rfl T.g_Web T.b_Web___init__ (passes_call (W := fun _ _ _ _ => False) L2.takes0 (fun _ _ _ _ h => h)) (pa_cons pe_int (pa_cons (pe_tup pa_nil) pa_nil))) (nomark _)) (pe_one (pe_not (pe_cmpR (op_neO T.O_eq (G_Web___eq__ T) (hr.mono (by decide)) (Nat.lt_of_le_of_lt (Nat.add_le_add_left (by decide) _) hr.room.units) T.b_Web___eq__ pass0) (pv 3) (pe_mkG (E := fun _ _ _ => False) T.M_Web (G_Web___init__ T) (hr.mono (by decide)) rfl T.g_Web T.b_Web___init__ (passes_call (W := fun _ _ _ _ => False) L2.takes0 (fun _ _ _ _ h => h)) (pa_cons pe_int (pa_cons (pe_lst pa_nil) pa_nil))) (nomark _))))))) pss_nil)
      (pss_cons (ps_par (i := 4) (j := 5) (by rfl) sc__law_equal_right.nd rfl rfl (by decide) rfl rfl (pa_cons (pe_callG (G__law_thread T) (hr.mono (by decide)) rfl T.g__law_thread T.F__law_thread.kp T.b__law_thread .nil pass0 (pa_cons (pv 0) (pa_cons (pe_callB call_len_seq (by rfl) T.n_len (by decide +kernel) (pa_cons (pv 2) pa_nil)) pa_nil))) (pa_cons (pe_callG (G__law_thread T) (hr.mono (by decide)) rfl T.g__law_thread T.F__law_thread.kp T.b__law_thread .nil pass0 (pa_cons (pv 0) (pa_cons (pe_callB call_len_seq (by rfl) T.n_len (by decide +kernel) (pa_cons (pv 2) pa_nil)) pa_nil))) pa_nil)) (by rfl))
      (pss_cons (ps_par (i := 6) (j := 7) (by rfl) sc__law_equal_right.nd rfl rfl (by decide) rfl rfl (pa_cons (pe_callTy (T := "list") call_list_of (by rfl) T.n_list (by decide +kernel) (pa_cons (pv 2) pa_nil)) (pa_cons (pe_callTy (T := "list") call_list_of (by rfl) T.n_list (by decide +kernel) (pa_cons (pv 2) pa_nil)) pa_nil)) (by rfl))
      (pss_cons (ps_asg (pe_tup (pa_cons (pe_ix (r := rIxT K) ix_tup (pe_ix (r := rIxL K) ix_list (pv 2) (pv 4) (fun _ _ => rfl)) pe_int (fun _ _ => rfl)) (pa_cons (pe_ix (r := rIxT K) ix_tup (pe_ix (r := rIxL K) ix_list (pv 2) (pv 4) (fun _ _ => rfl)) pe_int (fun _ _ => rfl)) pa_nil))) (pg_sub (pv 6) (pv 4) set_list))
      (pss_cons (ps_asg (pe_ix (r := rIxL K) ix_list (pv 2) (pv 5) (fun _ _ => rfl)) (pg_sub (pv 7) (pv 4) set_list))
      (pss_cons (ps_asg (pe_ix (r := rIxL K) ix_list (pv 2) (pv 4) (fun _ _ => rfl)) (pg_sub (pv 7) (pv 5) set_list))
      (pss_cons (ps_if (PW.pt (pw_or (pt_cmpR op_ne (pe_cmpR (op_eqO T.O_eq (G_Web___eq__ T) (hr.mono (by decide)) T.b_Web___eq__ pass0 T.O_l T.O_t) (pv 3) (pe_mkG (E := fun _ _ _ => False) T.M_Web (G_Web___init__ T) (hr.mono (by decide)) rfl T.g_Web T.b_Web___init__ (passes_call (W := fun _ _ _ _ => False) L2.takes0 (fun _ _ _ _ h => h)) (pa_cons (pv 1) (pa_cons (pv 6) pa_nil))) (nomark _)) (pe_cmpR (op_eqD hr.room.units) (pv 6) (pv 2) (nomark _)) (nomark _)) (pw_or1 (pt_cmpR op_ne (pe_cmpR (op_eqO T.O_eq (G_Web___eq__ T) (hr.mono (by decide)) T.b_Web___eq__ pass0 T.O_l T.O_t) (pv 3) (pe_mkG (E := fun _ _ _ => False) T.M_Web (G_Web___init__ T) (hr.mono (by decide)) rfl T.g_Web T.b_Web___init__ (passes_call (W := fun _ _ _ _ => False) L2.takes0 (fun _ _ _ _ h => h)) (pa_cons (pv 1) (pa_cons (pv 7) pa_nil))) (nomark _)) (pe_cmpR (op_eqD hr.room.units) (pv 7) (pv 2) (nomark _)) (nomark _))))) (pss_one (ps_ret pe_bl)) pss_nil)
      (pss_cons (ps_set (i := 8) sc__law_equal_right.nd rfl (Or.inl rfl) (pe_ifExp (pt_cmpR op_lt (pe_callB call_len_seq (by rfl) T.n_len (by decide +kernel) (pa_cons (pv 2) pa_nil)) pe_int (nomark _)) (pe_op op_cat (pe_op op_cat (pe_slice (r := rSlL K) sl_list (pv 2) po_none (po_some (pv 4))) (pe_lst (pa_cons (pe_tup (pa_cons (pe_ix (r := rIxT K) ix_tup (pe_ix (r := rIxL K) ix_list (pv 2) (pv 4) (fun _ _ => rfl)) pe_int (fun _ _ => rfl)) (pa_cons (pe_ix (r := rIxT K) ix_tup (pe_ix (r := rIxL K) ix_list (pv 2) (pv 4) (fun _ _ => rfl)) pe_int (fun _ _ => rfl)) pa_nil))) pa_nil))) (pe_slice (r := rSlL K) sl_list (pv 2) (po_some (pv 4)) po_none)) (pv 2)))
      (pss_one (ps_ret (pe_and (pe_cmpR op_eq (pe_cmpR (op_eqO T.O_eq (G_Web___eq__ T) (hr.mono (by decide)) T.b_Web___eq__ pass0 T.O_l T.O_t) (pv 3) (pe_mkG (E := fun _ _ _ => False) T.M_Web (G_Web___init__ T) (hr.mono (by decide)) rfl T.g_Web T.b_Web___init__ (passes_call (W := fun _ _ _ _ => False) L2.takes0 (fun _ _ _ _ h => h)) (pa_cons (pv 1) (pa_cons (pv 8) pa_nil))) (nomark _)) (pe_cmpR (op_eqD hr.room.units) (pv 8) (pv 2) (nomark _)) (nomark _)) (pe_one (pe_cmpR op_eq (pe_cmpR (op_neO T.O_eq (G_Web___eq__ T) (hr.mono (by decide)) (Nat.lt_of_le_of_lt (Nat.add_le_add_left (by decide) _) hr.room.units) T.b_Web___eq__ pass0) (pv 3) (pe_mkG (E := fun _ _ _ => False) T.M_Web (G_Web___init__ T) (hr.mono (by decide)) rfl T.g_Web T.b_Web___init__ (passes_call (W := fun _ _ _ _ => False) L2.takes0 (fun _ _ _ _ h => h)) (pa_cons (pv 1) (pa_cons (pv 8) pa_nil))) (nomark _)) (pe_cmpR (op_neD hr.room.units) (pv 8) (pv 2) (nomark _)) (nomark _))))))))))))))))), ?_⟩
  obtain ⟨_, ms0, t0, l0, hp0, hc0, _⟩ := id bg
  have W0 : MC.Whole n ps := (hang_whole bl).mp hh
  have lxp : xs.length = ps.length := Paired.length pp
  have eY : decide (n = n ∧ ps = ps) = true := decide_eq_true ⟨rfl, rfl⟩
  have sz : (1000 : Nat) ≤ sizeLine := by decide
  refine ⟨_, rfl, _, rfl, mk_web T (fun x => rfl) n1 n13 lp (prsL (.inl hxs) pp) bl hh fun y H1 s1 hy => ?_⟩
  have hxs1 := s1 _ _ hxs
  have pp1 := prts_same pp s1
  -- the first look
  try dsimp only
  refine seq_cut (fun σ' H' => (∃ u4 u5 u6 u7 u8 u9 : Option V, σ' = [some (.ref p), some (.int (n : Int)), some (.ref a), some (.ref y), u4, u5, u6, u7, u8, u9]) ∧ Same H1 H') (fun N hN => ?_) ?_
  · refine ⟨_, rfl, _, rfl, _, rfl, a, _, rfl, .inl ⟨SqL.of hxs1, fun q hq => ?_⟩⟩
    refine mk_web T (fun x => rfl) n1 n13 lp (prsL (.inr upd_same) (prts_same pp1 (Same.new (fun _ _ h => h) hq))) bl hh fun y2 H2 s2 hy2 => ?_
    have S2 : Same H1 H2 := (Same.new (fun _ _ h => h) hq).trans s2
    refine eqO_webs T (hy.keep S2) hy2 ⟨_, rfl, ?_⟩
    rw [eY]
    refine iteF ?_
    have hxs2 := S2 _ _ hxs1
    have pp2 := prts_same pp1 S2
    refine ⟨_, rfl, _, rfl, _, rfl, a, rfl, ⟨_, SqL.of hxs2⟩, fun D hD => ?_⟩
    refine lc_list (K := K) (a := a) (xs := xs) (fun i H' => Same H2 H' ∧ ∃ ys, H' D = some (.lst ys) ∧ Paired (PrI H') ys (ps.take i)) ⟨Same.new (fun _ _ h => h) hD, [], upd_same, .nil⟩ (fun i H' _ h => SqL.of (h.1 _ _ hxs2)) ?_ ?_
    · rintro i x H' hx ⟨s3, ys, hDy, py⟩
      obtain ⟨g, hg, t, rfl, ht⟩ := paired_get pp2 hx
      have ht3 := s3 _ _ ht
      have tk : ps.take (i + 1) = ps.take i ++ [g] := by rw [List.take_succ, hg]; rfl
      rw [tk]
      have lys : ys.length ≤ 12 := by
        rw [Paired.length py, List.length_take]
        omega
      refine ⟨rfl, tYes_of (iteT ⟨_, rfl, t, _, rfl, .inr (SqT.of ht3), fun l hl => ?_⟩)⟩
      have nlD : l ≠ D := fun z => by rw [z, hDy] at hl; cases hl
      refine ⟨ys, at_new hDy hl, small1000 (by omega), ?_, ys ++ [.ref l], upd_same, paired_snoc ⟨l, rfl, .inl (by rw [upd_ne nlD]; exact upd_same)⟩ (paired_imp (fun x g z => ?_) py)⟩
      · intro b o h
        rw [upd_ne (ne_of_none h hD)]
        exact at_new (s3 _ _ h) hl
      · obtain ⟨t2, e2, q2⟩ := z
        refine ⟨t2, e2, ?_⟩
        have key : ∀ zs, SqX H' t2 zs → zs.length = 2 → t2 ≠ D ∨ ys.length = 2 := fun zs h h2 => by
          by_cases e : t2 = D
          · rw [e] at h
            rcases h with h | h
            · rw [hDy] at h
              cases h
              exact .inr h2
            · rw [hDy] at h
              cases h
          · exact .inl e
        have nD : t2 ≠ D := fun e => by
          rw [e] at q2
          rcases q2 with h | h
          · rw [hDy] at h
            have e4 := HO.lst.inj (Option.some.inj h)
            have hx0 : ys[0]? = some (.int (g.1 : Int)) := by rw [e4]; rfl
            obtain ⟨_, _, t4, e5, _⟩ := paired_get py hx0
            cases e5
          · rw [hDy] at h
            cases h
        rcases q2 with h | h
        · exact .inl (by rw [upd_ne nD]; exact at_new h hl)
        · exact .inr (by rw [upd_ne nD]; exact at_new h hl)
    · rintro H3 ⟨s3, ys, hDy, py⟩
      rw [List.take_of_length_le (by omega)] at py
      refine mk_web T (fun x => rfl) n1 n13 lp ⟨ys, .inl hDy, py⟩ bl hh fun y3 H4 s4 hy4 => ?_
      have S4 := S2.trans (s3.trans s4)
      refine neO_webs T (hy.keep S4) hy4 ⟨_, rfl, ?_⟩
      rw [eY]
      refine iteF ⟨_, rfl, _, rfl, eqO_seq T (hy.keep S4) (.inl (S4 _ _ hxs1)) ⟨_, rfl, iteF ?_⟩⟩
      refine ⟨_, rfl, _, rfl, _, rfl, a, _, rfl, .inl ⟨SqL.of (S4 _ _ hxs1), fun q hq => ⟨by show 2 ≤ sizeLine; decide, fun t ht => ?_⟩⟩⟩
      have S5 : Same H1 (upd (upd H4 q (.tup xs)) t (.tup [.int (n : Int), .ref q])) := S4.trans (Same.new (Same.new (fun _ _ h => h) hq) ht)
      refine eqO_seq T (hy.keep S5) (.inr upd_same) ⟨_, rfl, iteF ?_⟩
      exact hN _ _ ⟨⟨_, _, _, _, _, _, rfl⟩, S5⟩
  · rintro σ' H2 ⟨⟨u4, u5, u6, u7, u8, u9, rfl⟩, s2⟩
    have S2 := s1.trans s2
    have hy2 := hy.keep s2
    have hxs2 := s2 _ _ hxs1
    have pp2 := prts_same pp1 s2
    -- one place more
    try dsimp only
    refine seq_cut (fun σ' H' => (∃ u4 u5 u6 u7 u8 u9 : Option V, σ' = [some (.ref p), some (.int (n : Int)), some (.ref a), some (.ref y), u4, u5, u6, u7, u8, u9]) ∧ Same H2 H') (fun N hN => ?_) ?_
    · refine ⟨_, rfl, _, _, rfl, rfl, _, rfl, ite2 (fun e1 => ?_) (fun _ => iteF (hN _ _ ⟨⟨_, _, _, _, _, _, rfl⟩, fun _ _ h => h⟩))⟩
      refine ⟨_, rfl, a, _, rfl, .inl (SqL.of hxs2), _, _, rfl, rfl, _, rfl, ite2 (fun e2 => ?_) (fun _ => iteF (hN _ _ ⟨⟨_, _, _, _, _, _, rfl⟩, fun _ _ h => h⟩))⟩
      have e1 := of_decide_eq_true e1
      have e2 := of_decide_eq_true e2
      refine ⟨_, rfl, _, rfl, _, _, rfl, rfl, _, rfl, _, rfl, by show 2 ≤ sizeLine; decide, fun t ht => ⟨by show 1 ≤ sizeLine; decide, fun q hq => ?_⟩⟩
      refine ⟨a, q, xs, _, rfl, rfl, at_new (at_new hxs2 ht) hq, upd_same, by show _ + 1 ≤ _; omega, fun b hb => ?_⟩
      have s3 : Same H2 (upd (upd (upd H2 t (.tup [.int 0, .int (n : Int)])) q (.lst [.ref t])) b (.lst (xs ++ [.ref t]))) := Same.new (Same.new (Same.new (fun _ _ h => h) ht) hq) hb
      have bl' : MC.Below (n + 1) (ps ++ [(0, n)]) := fun r hr => by
        rcases List.mem_append.mp hr with hr | hr
        · have := bl r hr
          omega
        · rw [List.mem_singleton.mp hr]
          exact ⟨by show 0 < n + 1; omega, by show n < n + 1; omega⟩
      have hh' : hang (n + 1) (ps ++ [(0, n)]) = true := (hang_whole bl').mpr fun x hx => by
        by_cases hxn : x < n
        · exact (W0 x hxn).mono fun r hr => List.mem_append_left _ hr
        · obtain rfl : x = n := by omega
          exact con_one (p := (0, x)) (List.mem_append_right _ List.mem_cons_self)
      refine mk_web T (n := n + 1) (fun x => rfl) (by omega) (by omega) (by rw [List.length_append]; show _ + 1 ≤ _; omega) (prsL (.inl upd_same) (paired_snoc ⟨t, rfl, at_new (at_new upd_same hq) hb⟩ (prts_same pp2 s3))) bl' hh' fun y3 H3 s4 hy3 => ?_
      refine eqO_webs T ((hy2.keep s3).keep s4) hy3 ⟨_, rfl, ?_⟩
      rw [show decide (n = n + 1 ∧ ps = ps ++ [(0, n)]) = false from decide_eq_false fun h => by omega]
      exact iteF (hN _ _ ⟨⟨_, _, _, _, _, _, rfl⟩, s3.trans s4⟩)
    · clear u4 u5 u6 u7 u8 u9
      rintro σ' H3 ⟨⟨u4, u5, u6, u7, u8, u9, rfl⟩, s3⟩
      have S3 := S2.trans s3
      have hy3 := hy2.keep s3
      have hxs3 := s3 _ _ hxs2
      have pp3 := prts_same pp2 s3
      refine ⟨_, rfl, Nat.zero_le _, fun q hq => ⟨_, .list (dprs []), .lst (SqL.of (at_new hxs3 hq)) (dp_prs (prts_same pp3 (Same.new (fun _ _ h => h) hq))), .lst (SqL.of upd_same) .nil, shaped_lps _, shaped_lps _, ?_⟩⟩
      rw [eqv_lps]
      refine ⟨_, rfl, ?_⟩
      have S4 : Same H (upd H3 q (.lst [])) := S3.trans (Same.new (fun _ _ h => h) hq)
      have s34 : Same H3 (upd H3 q (.lst [])) := Same.new (fun _ _ h => h) hq
      have hy4 := hy3.keep s34
      have hxs4 := s34 _ _ hxs3
      have pp4 := prts_same pp3 s34
      generalize upd H3 q (.lst []) = H4 at S4 s34 hy4 hxs4 pp4
      by_cases e : ps = []
      · rw [decide_eq_true e]
        subst e
        obtain rfl := below_one n1 hh
        have b1 : MC.Below 1 [] := fun r hr => by cases hr
        refine iteT ?_
        refine ⟨_, rfl, Nat.zero_le _, fun t ht => mk_web T (n := 1) (fun x => rfl) (Nat.le_refl _) (by omega) (Nat.zero_le _) (prsL (.inr upd_same) .nil) b1 hh fun y5 H5 s5 hy5 => ?_⟩
        have S5 := (Same.new (fun _ _ h => h) ht : Same H4 _).trans s5
        refine eqO_webs T (hy4.keep S5) hy5 ⟨_, rfl, ?_⟩
        rw [eY]
        refine iteT ⟨_, rfl, Nat.zero_le _, fun q hq => mk_web T (n := 1) (fun x => rfl) (Nat.le_refl _) (by omega) (Nat.zero_le _) (prsL (.inl upd_same) .nil) b1 hh fun y6 H6 s6 hy6 => ?_⟩
        have S6 := S5.trans ((Same.new (fun _ _ h => h) hq).trans s6)
        refine neO_webs T (hy4.keep S6) hy6 ⟨_, rfl, ?_⟩
        rw [eY]
        exact k _ (Kp.of_same (S4.trans S6)) ((bg.keep (S4.trans S6)).le (by omega))
      · rw [decide_eq_false e]
        refine iteF ?_
        have bg4 := bg.keep S4
        have lpos : 0 < xs.length := by
          rw [lxp]
          exact List.length_pos_iff.mpr e
        refine ⟨_, rfl, _, rfl, a, _, rfl, .inl (SqL.of hxs4), p, c, _, _, rfl, bg4, by omega, by omega, by omega, fun xi H5 i0 i1 kp5 bg5 => ?_⟩
        have hxs5 := kp5 _ _ nap hxs4
        refine ⟨_, rfl, _, rfl, a, _, rfl, .inl (SqL.of hxs5), p, c, _, _, rfl, bg5, by omega, by omega, by omega, fun xj H6 j0 j1 kp6 bg6 => ⟨_, _, rfl, ?_⟩⟩
        have kp46 := kp5.trans kp6
        have hp4 := S4 _ _ hp0
        have hxs6 := kp46 _ _ nap hxs4
        have pp6 : Paired (PrT H6) xs ps := prts_keep pp4 fun b zs h => kp46 _ _ (fun z => by rw [z, hp4] at h; cases h) h
        have hy6 : WebAt H6 y A.c_Web n ps := webN hy4 fun b o h hn => kp46 _ _ (fun z => by rw [z, hp4] at h; exact hn _ (Option.some.inj h).symm) h
        have K6 : Kp p H H6 := (Kp.of_same S4).trans kp46
        obtain ⟨i, ei⟩ : ∃ i : Nat, xi = (i : Int) := ⟨xi.toNat, by omega⟩
        obtain ⟨j, ej⟩ : ∃ j : Nat, xj = (j : Int) := ⟨xj.toNat, by omega⟩
        subst ei ej
        have hi : i < xs.length := by omega
        have hj : j < xs.length := by omega
        have hxi : xs[i]? = some xs[i] := List.getElem?_eq_getElem hi
        have hxj : xs[j]? = some xs[j] := List.getElem?_eq_getElem hj
        obtain ⟨g, hg, ti, eti, hti⟩ := paired_get pp6 hxi
        obtain ⟨h, hh2, tj, etj, htj⟩ := paired_get pp6 hxj
        have gm := List.mem_of_getElem? hg
        have hm2 := List.mem_of_getElem? hh2
        have ai : atI xs (i : Int) = some (.ref ti) := atI_nat (by rw [hxi, eti])
        have aj : atI xs (j : Int) = some (.ref tj) := atI_nat (by rw [hxj, etj])
        clear kp5 kp6 bg5 bg4 hxs5 i0 i1 j0 j1
        refine ⟨_, rfl, a, _, rfl, .inl (SqL.of hxs6), fun b1 hb1 => ⟨_, rfl, a, _, rfl, .inl (SqL.of (at_new hxs6 hb1)), fun b2 hb2 => ⟨_, _, rfl, ?_⟩⟩⟩
        have s67 : Same H6 (upd (upd H6 b1 (.lst xs)) b2 (.lst xs)) := Same.new (Same.new (fun _ _ h => h) hb1) hb2
        have g1 : (upd (upd H6 b1 (.lst xs)) b2 (.lst xs)) b1 = some (.lst xs) := at_new upd_same hb2
        have g2 : (upd (upd H6 b1 (.lst xs)) b2 (.lst xs)) b2 = some (.lst xs) := upd_same
        have nb12 : b1 ≠ b2 := fun z => by rw [← z, upd_same] at hb2; cases hb2
        have nba1 : b1 ≠ a := fun z => by rw [z, hxs6] at hb1; cases hb1
        have nba2 : b2 ≠ a := fun z => by rw [z, at_new hxs6 hb1] at hb2; cases hb2
        generalize (upd (upd H6 b1 (.lst xs)) b2 (.lst xs)) = H7 at s67 g1 g2
        -- one tie told from its other end
        refine ⟨_, rfl, _, rfl, a, xs, _, _, rfl, rfl, SqL.of (s67 _ _ hxs6), ai, ti, _, _, _, rfl, rfl, SqT.of (s67 _ _ hti), rfl, ?_⟩
        refine ⟨_, rfl, _, rfl, a, xs, _, _, rfl, rfl, SqL.of (s67 _ _ hxs6), ai, ti, _, _, _, rfl, rfl, SqT.of (s67 _ _ hti), rfl, by show 2 ≤ sizeLine; decide, fun tn htn => ?_⟩
        have s78 : Same H7 (upd H7 tn (.tup [.int (g.2 : Int), .int (g.1 : Int)])) := Same.new (fun _ _ h => h) htn
        have htn8 : (upd H7 tn (.tup [.int (g.2 : Int), .int (g.1 : Int)])) tn = some (.tup [.int (g.2 : Int), .int (g.1 : Int)]) := upd_same
        generalize upd H7 tn (.tup [.int (g.2 : Int), .int (g.1 : Int)]) = H8 at s78 htn8
        have S68 := s67.trans s78
        refine ⟨_, rfl, _, rfl, b1, xs, _, i, rfl, rfl, s78 _ _ g1, ixN_at hi, ?_⟩
        have hxs9 : (upd H8 b1 (.lst (xs.set i (.ref tn)))) a = some (.lst xs) := by
          rw [upd_ne nba1.symm]
          exact S68 _ _ hxs6
        have g29 : (upd H8 b1 (.lst (xs.set i (.ref tn)))) b2 = some (.lst xs) := by
          rw [upd_ne nb12.symm]
          exact s78 _ _ g2
        refine ⟨_, rfl, _, rfl, a, xs, _, _, rfl, rfl, SqL.of hxs9, aj, _, rfl, _, rfl, b2, xs, _, i, rfl, rfl, g29, ixN_at hi, ?_⟩
        have hxs10 : (upd (upd H8 b1 (.lst (xs.set i (.ref tn)))) b2 (.lst (xs.set i (.ref tj)))) a = some (.lst xs) := by
          rw [upd_ne nba2.symm]
          exact hxs9
        refine ⟨_, rfl, _, rfl, a, xs, _, _, rfl, rfl, SqL.of hxs10, ai, _, rfl, _, rfl, b2, _, _, j, rfl, rfl, upd_same, ixN_at (by rw [List.length_set]; exact hj), ?_⟩
        have eBB : ∀ b : Bool, (!decide (V.bl b = V.bl b)) = false := fun b => by simp
        have eBT : ∀ b : Bool, decide (V.bl b = V.bl b) = true := fun b => decide_eq_true rfl
        obtain ⟨_, ms6, t6, l6, hp6, hc6, _⟩ := id bg6
        have nb1p : b1 ≠ p := fun z => by rw [z, hp6] at hb1; cases hb1
        have nb1c : b1 ≠ c := fun z => by rw [z, hc6] at hb1; cases hb1
        have hb2' : H6 b2 = none := by
          rw [upd_ne nb12.symm] at hb2
          exact hb2
        have nb2p : b2 ≠ p := fun z => by rw [z, hp6] at hb2'; cases hb2'
        have nb2c : b2 ≠ c := fun z => by rw [z, hc6] at hb2'; cases hb2'
        have hHb1 := kp_free K6 hp6 hb1
        have hHb2 := kp_free K6 hp6 hb2'
        have g18 := s78 _ _ g1
        have N1 : SameN H8 (upd H8 b1 (.lst (xs.set i (.ref tn)))) := SameN.put (fun b o h _ => h) g18
        have N2 : SameN H8 (upd (upd H8 b1 (.lst (xs.set i (.ref tn)))) b2 (.lst (xs.set i (.ref tj)))) := N1.put g29
        have N3 : SameN H8 (upd (upd (upd H8 b1 (.lst (xs.set i (.ref tn)))) b2 (.lst (xs.set i (.ref tj)))) b2 (.lst ((xs.set i (.ref tj)).set j (.ref ti)))) := N2.put upd_same
        have hxs11 : (upd (upd (upd H8 b1 (.lst (xs.set i (.ref tn)))) b2 (.lst (xs.set i (.ref tj)))) b2 (.lst ((xs.set i (.ref tj)).set j (.ref ti)))) a = some (.lst xs) := by
          rw [upd_ne nba2.symm]
          exact hxs10
        have hb1' : (upd (upd (upd H8 b1 (.lst (xs.set i (.ref tn)))) b2 (.lst (xs.set i (.ref tj)))) b2 (.lst ((xs.set i (.ref tj)).set j (.ref ti)))) b1 = some (.lst (xs.set i (.ref tn))) := by
          rw [upd_ne nb12, upd_ne nb12]
          exact upd_same
        have hb2'' : (upd (upd (upd H8 b1 (.lst (xs.set i (.ref tn)))) b2 (.lst (xs.set i (.ref tj)))) b2 (.lst ((xs.set i (.ref tj)).set j (.ref ti)))) b2 = some (.lst ((xs.set i (.ref tj)).set j (.ref ti))) := upd_same
        have bg11 : Bg (upd (upd (upd H8 b1 (.lst (xs.set i (.ref tn)))) b2 (.lst (xs.set i (.ref tj)))) b2 (.lst ((xs.set i (.ref tj)).set j (.ref ti)))) p c (m + 2) := (((((bg6.keep S68).oth nb1p.symm nb1c.symm).oth nb2p.symm nb2c.symm).oth nb2p.symm nb2c.symm).le (by omega))
        have K11 : Kp p H (upd (upd (upd H8 b1 (.lst (xs.set i (.ref tn)))) b2 (.lst (xs.set i (.ref tj)))) b2 (.lst ((xs.set i (.ref tj)).set j (.ref ti)))) := fun b o nb hb => by
          have e1 : b ≠ b1 := fun z => by rw [z, hHb1] at hb; cases hb
          have e2 : b ≠ b2 := fun z => by rw [z, hHb2] at hb; cases hb
          rw [upd_ne e2, upd_ne e2, upd_ne e1]
          exact S68 _ _ (K6 _ _ nb hb)
        have hy11 := webN (hy6.keep S68) N3
        have tk11 : ∀ b zs, H8 b = some (.tup zs) → (upd (upd (upd H8 b1 (.lst (xs.set i (.ref tn)))) b2 (.lst (xs.set i (.ref tj)))) b2 (.lst ((xs.set i (.ref tj)).set j (.ref ti)))) b = some (.tup zs) := fun b zs h => N3 _ _ h (fun _ z => by cases z)
        generalize (upd (upd (upd H8 b1 (.lst (xs.set i (.ref tn)))) b2 (.lst (xs.set i (.ref tj)))) b2 (.lst ((xs.set i (.ref tj)).set j (.ref ti)))) = H11 at hxs11 hb1' hb2'' bg11 K11 hy11 tk11
        clear N1 N2 N3 g29 hxs10 hxs9 g18 g1 g2
        have pp11 : Paired (PrT H11) xs ps := prts_keep pp6 fun b zs h => tk11 b zs (S68 _ _ h)
        have hti11 := tk11 _ _ (S68 _ _ hti)
        have htj11 := tk11 _ _ (S68 _ _ htj)
        have PP1 : Paired (PrT H11) (xs.set i (.ref tn)) (ps.set i (g.2, g.1)) := paired_set ⟨tn, rfl, tk11 _ _ htn8⟩ pp11 i
        have PP2 : Paired (PrT H11) ((xs.set i (.ref tj)).set j (.ref ti)) ((ps.set i h).set j g) := paired_set ⟨ti, rfl, hti11⟩ (paired_set ⟨tj, rfl, htj11⟩ pp11 i) j
        have bl1 : MC.Below n (ps.set i (g.2, g.1)) := fun r hr => by
          rcases List.mem_or_eq_of_mem_set hr with hr | hr
          · exact bl r hr
          · rw [hr]
            have := bl g gm
            exact ⟨this.2, this.1⟩
        have bl2 : MC.Below n ((ps.set i h).set j g) := fun r hr => by
          rcases List.mem_or_eq_of_mem_set hr with hr | hr
          · rcases List.mem_or_eq_of_mem_set hr with hr | hr
            · exact bl r hr
            · rw [hr]
              exact bl h hm2
          · rw [hr]
            exact bl g gm
        have gi2 : i < ps.length := by omega
        have gj2 : j < ps.length := by omega
        have hh1 : hang n (ps.set i (g.2, g.1)) = true := (hang_whole bl1).mpr (whole_of W0 fun r hr => by
          rcases mem_set_of (h := (g.2, g.1)) hg hr with rfl | hr
          · exact (con_one (p := (r.2, r.1)) (List.mem_iff_getElem?.mpr ⟨i, by rw [List.getElem?_set_self gi2]⟩)).symm
          · exact con_one hr)
        have hh2' : hang n ((ps.set i h).set j g) = true := (hang_whole bl2).mpr (whole_of W0 fun r hr => by
          refine con_one ?_
          rcases mem_set_of (h := h) hg hr with rfl | hr
          · exact List.mem_iff_getElem?.mpr ⟨j, by rw [List.getElem?_set_self (by rw [List.length_set]; exact gj2)]⟩
          · by_cases eij : i = j
            · subst eij
              have eh : g = h := Option.some.inj (hg.symm.trans hh2)
              subst eh
              rw [List.set_set]
              exact hr
            · have hj3 : (ps.set i h)[j]? = some h := by rw [List.getElem?_set_ne eij]; exact hh2
              rcases mem_set_of (h := g) hj3 hr with rfl | hr
              · exact List.mem_iff_getElem?.mpr ⟨i, by rw [List.getElem?_set_ne (Ne.symm eij), List.getElem?_set_self gi2]⟩
              · exact hr)
        have l1 : (ps.set i (g.2, g.1)).length ≤ 12 := by rw [List.length_set]; exact lp
        have l2 : ((ps.set i h).set j g).length ≤ 12 := by rw [List.length_set, List.length_set]; exact lp
        refine ⟨_, rfl, _, rfl, _, rfl, mk_web T (fun x => rfl) n1 n13 l1 (prsL (.inl hb1') PP1) bl1 hh1 fun y1 H12 s12 hy1 => ?_⟩
        refine eqO_webs T (hy11.keep s12) hy1 ⟨_, rfl, _, rfl, _, _, .lst (SqL.of (s12 _ _ hb1')) (dp_prs (prts_same PP1 s12)), .lst (SqL.of (s12 _ _ hxs11)) (dp_prs (prts_same pp11 s12)), shaped_lps _, shaped_lps _, rfl, _, rfl, ?_⟩
        rw [eqv_lps, eqB, eBB]
        refine iteF ⟨_, rfl, _, rfl, _, rfl, mk_web T (fun x => rfl) n1 n13 l2 (prsL (.inl (s12 _ _ hb2'')) (prts_same PP2 s12)) bl2 hh2' fun y2 H13 s13 hy2' => ?_⟩
        have s113 := s12.trans s13
        refine eqO_webs T (hy11.keep s113) hy2' ⟨_, rfl, _, rfl, _, _, .lst (SqL.of (s113 _ _ hb2'')) (dp_prs (prts_same PP2 s113)), .lst (SqL.of (s113 _ _ hxs11)) (dp_prs (prts_same pp11 s113)), shaped_lps _, shaped_lps _, rfl, _, rfl, ?_⟩
        rw [eqv_lps, eqB, eBB]
        refine iteF ?_
        have hy13 := hy11.keep s113
        have hxs13 := s113 _ _ hxs11
        have pp13 := prts_same pp11 s113
        have bg13 := bg11.keep s113
        have K13 : Kp p H H13 := fun b o nb hb => s113 _ _ (K11 _ _ nb hb)
        have hti13 := s113 _ _ hti11
        dsimp only [tNext]
        refine seq_cut (fun σ' H' => ∃ b zs rs, (∃ u9 : Option V, σ' = [some (.ref p), some (.int (n : Int)), some (.ref a), some (.ref y), some (.int (i : Int)), some (.int (j : Int)), some (.ref b1), some (.ref b2), some (.ref b), u9]) ∧ Same H13 H' ∧ H' b = some (.lst zs) ∧ Paired (PrT H') zs rs ∧ rs.length ≤ 12 ∧ MC.Below n rs ∧ MC.Whole n rs) (fun N hN => ?_) ?_
        · refine ⟨_, rfl, a, _, rfl, .inl (SqL.of hxs13), _, _, rfl, rfl, _, rfl, ite2 (fun e2 => ?_) (fun _ => ?_)⟩
          · have e2 := of_decide_eq_true e2
            refine ⟨_, rfl, _, rfl, _, rfl, a, xs, rfl, SqL.of hxs13, fun q1 hq1 => ?_⟩
            rw [cutV_take xs i (by omega)]
            have w1 := (Same.new (fun _ _ h => h) hq1 : Same H13 (upd H13 q1 (.lst (xs.take i))))
            refine ⟨_, rfl, _, rfl, a, xs, _, _, rfl, rfl, SqL.of (w1 _ _ hxs13), ai, ti, _, _, _, rfl, rfl, SqT.of (w1 _ _ hti13), rfl, ?_⟩
            refine ⟨_, rfl, _, rfl, a, xs, _, _, rfl, rfl, SqL.of (w1 _ _ hxs13), ai, ti, _, _, _, rfl, rfl, SqT.of (w1 _ _ hti13), rfl, by show 2 ≤ sizeLine; decide, fun q2 hq2 => ⟨by show 1 ≤ sizeLine; decide, fun q3 hq3 => ?_⟩⟩
            have ltk : (xs.take i).length ≤ 12 := by rw [List.length_take]; omega
            refine ⟨q1, q3, _, _, rfl, rfl, at_new (at_new upd_same hq2) hq3, upd_same, by show _ + 1 ≤ _; omega, fun q4 hq4 => ?_⟩
            have w4 : Same H13 (upd (upd (upd (upd H13 q1 (.lst (xs.take i))) q2 (.tup [.int (g.1 : Int), .int (g.1 : Int)])) q3 (.lst [.ref q2])) q4 (.lst (xs.take i ++ [.ref q2]))) := Same.new (Same.new (Same.new w1 hq2) hq3) hq4
            have hq2' : (upd (upd (upd (upd H13 q1 (.lst (xs.take i))) q2 (.tup [.int (g.1 : Int), .int (g.1 : Int)])) q3 (.lst [.ref q2])) q4 (.lst (xs.take i ++ [.ref q2]))) q2 = some (.tup [.int (g.1 : Int), .int (g.1 : Int)]) := at_new (at_new upd_same hq3) hq4
            refine ⟨_, rfl, _, rfl, _, rfl, a, xs, rfl, SqL.of (w4 _ _ hxs13), fun q5 hq5 => ?_⟩
            rw [cutV_drop xs i (by omega)]
            have ldr : (xs.drop i).length ≤ 12 := by rw [List.length_drop]; omega
            refine ⟨q4, q5, _, _, rfl, rfl, at_new upd_same hq5, upd_same, by rw [List.length_append]; show _ + 1 + _ ≤ _; omega, fun q6 hq6 => ?_⟩
            have w6 := Same.new (o := .lst ((xs.take i ++ [.ref q2]) ++ xs.drop i)) (Same.new (o := .lst (xs.drop i)) w4 hq5) hq6
            refine hN _ _ ⟨q6, _, (ps.take i ++ [(g.1, g.1)]) ++ ps.drop i, ⟨_, rfl⟩, w6, upd_same, ?_, ?_, ?_, ?_⟩
            · refine paired_app (paired_drop (prts_same pp13 w6) i) (paired_snoc ⟨q2, rfl, at_new (at_new hq2' hq5) hq6⟩ (paired_take (prts_same pp13 w6) i))
            · rw [List.length_append, List.length_append, List.length_take, List.length_drop]
              show _ + 1 + _ ≤ 12
              omega
            · intro r hr
              rcases List.mem_append.mp hr with hr | hr
              · rcases List.mem_append.mp hr with hr | hr
                · exact bl r (List.mem_of_mem_take hr)
                · rw [List.mem_singleton.mp hr]
                  exact ⟨(bl g gm).1, (bl g gm).1⟩
              · exact bl r (List.mem_of_mem_drop hr)
            · refine whole_of W0 fun r hr => con_one ?_
              have e5 : r ∈ ps.take i ++ ps.drop i := by rw [List.take_append_drop]; exact hr
              rcases List.mem_append.mp e5 with h | h
              · exact List.mem_append_left _ (List.mem_append_left _ h)
              · exact List.mem_append_right _ h
          · exact ⟨_, rfl, hN _ _ ⟨a, xs, ps, ⟨_, rfl⟩, fun _ _ h => h, hxs13, pp13, lp, bl, W0⟩⟩
        · rintro σ' H14 ⟨b, zs, rs, ⟨u9', rfl⟩, s14, hb14, PP3, l3, bl3, w3⟩
          have hh3 : hang n rs = true := (hang_whole bl3).mpr w3
          have hxs14 := s14 _ _ hxs13
          have pp14 := prts_same pp13 s14
          refine ⟨_, rfl, _, rfl, _, rfl, mk_web T (fun x => rfl) n1 n13 l3 (prsL (.inl hb14) PP3) bl3 hh3 fun y3 H15 s15 hy3 => ?_⟩
          refine eqO_webs T ((hy13.keep s14).keep s15) hy3 ⟨_, rfl, _, rfl, _, _, .lst (SqL.of (s15 _ _ hb14)) (dp_prs (prts_same PP3 s15)), .lst (SqL.of (s15 _ _ hxs14)) (dp_prs (prts_same pp14 s15)), shaped_lps _, shaped_lps _, rfl, _, rfl, ?_⟩
          rw [eqv_lps, eqB, eBT]
          refine iteT ⟨_, rfl, _, rfl, _, rfl, mk_web T (fun x => rfl) n1 n13 l3 (prsL (.inl (s15 _ _ hb14)) (prts_same PP3 s15)) bl3 hh3 fun y4 H16 s16 hy4' => ?_⟩
          have s1416 := s15.trans s16
          refine neO_webs T (((hy13.keep s14).keep s15).keep s16) hy4' ⟨_, rfl, _, rfl, _, _, .lst (SqL.of (s1416 _ _ hb14)) (dp_prs (prts_same PP3 s1416)), .lst (SqL.of (s1416 _ _ hxs14)) (dp_prs (prts_same pp14 s1416)), shaped_lps _, shaped_lps _, rfl, ?_⟩
          rw [eqv_lps, eqB, eBT]
          have S16 := s14.trans s1416
          exact k _ (fun b o nb hb => S16 _ _ (K13 _ _ nb hb)) (bg13.keep S16)
/-! ### what is heard of a web that is refused -/
theorem part_gives {X : Cx} {k : Nat} {g : Addr} {q : Str} {BW NE iB : Addr} {up : List Addr} {ns : List Str} (TB : XT X.K X.mg "BadWeb" BW iB up ns ["part"]) (gN : X.mg "NetError" = some (.ref NE)) (hI : X.mg "isinstance" = none) (ex : PySem.W.exmOne X.K (.ref BW) (.ref NE) = some true) :
    GivesG X N__law_part k "_law_part" (defScope s__law_part) g (defBody s__law_part) "ask" q (TPart BW "part") := by
  intro cdg f c' s H Q tl hr act hc h
  refine ⟨_, pss_cons (ps_set (i := 1) sc__law_part.nd rfl (Or.inl rfl) pe_non) (pss_cons (ps_try_as (X := (cxOf CX0 X.prog X.w X.K X.mg X.base N__law_part "_law_part" (defScope s__law_part) g cdg X.A X.stack s H E0).nox) (i := 2) (c := .ref NE) (Wout := fun _ _ _ _ => False)
     (tb := fun W D σ H => ∃ Ech : XK, (∀ cls d H', Ech cls d H' → W cls d σ H') ∧ σ[0]? = some (some (.ref f)) ∧ H c' = some (CodeO c' q) ∧ tl Ech H (fun _ H' => D.nx σ H'))
     (ts := fun a cls d => tAsg (tIf (tB (tCB (rIsED X.K BW a cls d) (tCons (tVar 2) (tCons (tC (.ref BW)) tNil)))) (tXf a cls d BW "part" (tVar 2)) (tC (.str "another"))) (gName 1))
     rfl rfl sc__law_part.nd rfl rfl ⟨rfl, by decide, .inl gN⟩ L2.takes0 (fun W pn xe tk _ => ?_)
     (fun a oe cls d pn hz hf => pss_one (ps_set (i := 1) sc__law_part.nd rfl (Or.inl rfl) (pe_ifExp (pt_val (pe_callB (call_isED TB.excF hz hf) (by rfl) hI (by decide +kernel) (pa_cons (pv 2) (pa_cons (pe_glob (v := .ref BW) rfl TB.gC rfl) pa_nil)))) (pe_xf TB.xfC (TB.no _ List.mem_cons_self) hz hf (pv 2)) pe_str)))) (pss_one (ps_ret (pv 1)))), ?_⟩
  · refine ⟨fun pins s' σ H' D I h' => ?_⟩
    obtain ⟨Ech, hW, h1, h2, h3⟩ := h'
    exact (pss_one (ps_expr (act W pn xe Ech _ _ tk))).run pins s' σ H' D I ⟨hW, h1, h2, h3⟩
  · unfold TPart at h
    refine ⟨fun cls d H' => cls = .ref BW ∧ ∃ dd v fs, d = some dd ∧ H' dd = some (.xd fs) ∧ fs.lookup ("part" : Str) = some v ∧ Q v H', fun cls d H' hE => ?_, rfl, hc, ?_⟩
    · obtain ⟨rfl, dd, v, fs, rfl, h1, h2, h3⟩ := hE
      refine ⟨true, ex, fun _ a ha => ?_, fun z => by cases z⟩
      refine ⟨_, rfl, BW, true, dd, fs, rfl, rfl, rfl, h1, kit_self, _, rfl, iteT ⟨_, rfl, rfl, rfl, dd, fs, v, rfl, h1, h2, ?_⟩⟩
      exact ⟨_, rfl, h3⟩
    · exact h
/-! ### bridges -/
def rTupOf (K : PySem.W.Frag) : List V → Hp → VK → Prop := fun xs H Q => ∃ p ys, xs = [V.ref p] ∧ ((SqL K H p ys ∧ ∀ l, H l = none → Q (.ref l) (upd H l (.tup ys))) ∨ (SqT K H p ys ∧ Q (.ref p) H))
def lqn (f : Str) : Str := (f ++ ".<locals>.") ++ "<lambda>"
def tabs (A : Ad) : List (Addr × Str) := [(A.t__law_bridges_right, lqn "_law_bridges_right"), (A.t_law, lqn "law")]
theorem tabs_u1 (ne : A.t__law_bridges_right ≠ A.t_law) : ∀ p ∈ tabs A, p.1 = A.t__law_bridges_right → p.2 = lqn "_law_bridges_right" := fun p hp h => by
  rcases List.mem_cons.mp hp with rfl | hp
  · rfl
  · rw [List.mem_singleton.mp hp] at h
    exact absurd h.symm ne
theorem tabs_u2 (ne : A.t__law_bridges_right ≠ A.t_law) : ∀ p ∈ tabs A, p.1 = A.t_law → p.2 = lqn "law" := fun p hp h => by
  rcases List.mem_cons.mp hp with rfl | hp
  · exact absurd h ne
  · rw [List.mem_singleton.mp hp]
theorem exN (T : Txt P K mg A) : PySem.W.exmOne K (.ref A.c_BadWeb) (.ref A.c_NetError) = some true := PySem.W.exm_ref T.E_1 T.E_2 T.E_3 T.E_4
theorem bg_ext {H H1 : Hp} {p c : Addr} {n : Nat} (b : Bg H p c n) (e : ExtN H H1) : Bg H1 p c n := by
  obtain ⟨ne, ms, t, l, h1, h2, h3⟩ := b
  exact ⟨ne, ms, t, l, e _ _ h1 (fun _ z => by cases z), e _ _ h2 (fun _ z => by cases z), h3⟩
theorem tabs_keep {L : List (Addr × Str)} {H H' : Hp} (t : Tabs L H) (s : SameN H H') : Tabs L H' := fun p hp => by
  obtain ⟨ps, h1, h2, h3⟩ := t p hp
  refine ⟨ps, s _ _ h1 (fun _ z => by cases z), h2, fun pos cv hc => ?_⟩
  obtain ⟨c, e1, e2⟩ := h3 pos cv hc
  refine ⟨c, e1, s _ _ e2 (fun zs z => ?_)⟩
  unfold CodeO at z
  cases z
/-- all but the tables and what stands at p stay -/
def KT (p : Addr) (H H' : Hp) : Prop := ∀ b o, b ≠ p → H b = some o → (∀ ps, o ≠ .tbl ps) → H' b = some o
theorem kp_n {H H' : Hp} {p : Addr} {op : List V} (k : Kp p H H') (hp : H p = some (.lst op)) : SameN H H' := fun b o h n => k _ _ (fun z => by rw [z, hp] at h; exact n _ (Option.some.inj h).symm) h
/-- a loop is no bridge -/
theorem bridge_ends {n : Nat} {ps : MC.Pr} {i : Nat} {g : Nat × Nat} (bl : MC.Below n ps) (hh : hang n ps = true) (hg : ps[i]? = some g) (h : bridge n ps i = true) : g.1 ≠ g.2 := fun e => by
  have bl' : MC.Below n (ps.take i ++ ps.drop (i + 1)) := fun r hr => by
    rcases List.mem_append.mp hr with h | h
    · exact bl r (List.mem_of_mem_take h)
    · exact bl r (List.mem_of_mem_drop h)
  have w : MC.Whole n (ps.take i ++ ps.drop (i + 1)) := whole_of ((hang_whole bl).mp hh) fun r hr => by
    rw [← take_drop_nm hg] at hr
    rcases List.mem_append.mp hr with h | h
    · exact con_one (List.mem_append_left _ h)
    · rcases List.mem_cons.mp h with rfl | h
      · rw [← e]
        exact .refl _
      · exact con_one (List.mem_append_right _ h)
  unfold bridge at h
  rw [(hang_whole bl').mpr w] at h
  cases h
def sp_brid (A : Ad) : Sp := fun vs H Q _ => ∃ (p c a : Addr) (m n : Nat) (xs : List V) (ps : MC.Pr), vs = [.ref p, .int (n : Int), .ref a] ∧ Bg H p c m ∧ m ≤ 90000 ∧ H a = some (.lst xs) ∧ a ≠ p ∧ Paired (PrT H) xs ps ∧ 1 ≤ n ∧ n ≤ 13 ∧ ps.length ≤ 12 ∧ MC.Below n ps ∧ hang n ps = true ∧ Tabs (tabs A) H ∧
  ∀ H', Bg H' p c (m + 12) → Tabs (tabs A) H' → Q (.bl true) H'
theorem G__law_bridges_right (T : Txt P K mg A) (TB : TabB base mg A.k__law_bridges_right A.t__law_bridges_right) (ne : A.t__law_bridges_right ≠ A.t_law) : FnG P w K mg base CX0 9 A.a__law_bridges_right A.d__law_bridges_right P__law_bridges_right (sp_brid A) := by
  refine okGC T.F__law_bridges_right sc__law_bridges_right (fun vs H Q E h => ?_) (fun A0 outer s H vs Q E hr h => ?_)
  · obtain ⟨p, c, a, m, n, xs, ps, rfl, _⟩ := h
    rfl
  obtain ⟨p, c, a, m, n, xs, ps, rfl, bg, hm, hxs, nap, pp, n1, n13, lp, bl, hh, tb, k⟩ := h
  refine ⟨_, (pss_cons (ps_set (i := 3) sc__law_bridges_right.nd rfl (Or.inl rfl) (pe_lst pa_nil))
      (pss_cons (ps_for PassesOwn.never rfl (pi_range1 (by rfl) T.n_range (pa_cons (pe_callB call_len_seq (by rfl) T.n_len (by decide +kernel) (pa_cons (pv 2) pa_nil)) pa_nil)) (pg_name (i := 4) sc__law_bridges_right.nd rfl (Or.inl rfl)) (pss_cons (ps_set (i := 5) sc__law_bridges_right.nd rfl (Or.inr rfl) (pe_op op_cat (pe_slice (r := rSlL K) sl_list (pv 2) po_none (po_some (pv 4))) (pe_slice (r := rSlL K) sl_list (pv 2) (po_some (pe_op op_add (pv 4) pe_int)) po_none)))
      (pss_cons (ps_set (i := 6) sc__law_bridges_right.nd rfl (Or.inl rfl) (pe_ifExp (pt_val (pe_callG (G__law_joined T) (hr.mono (by decide)) rfl T.g__law_joined T.F__law_joined.kp T.b__law_joined .nil pass0 (pa_cons (pv 1) (pa_cons (pv 5) pa_nil)))) pe_non pe_str))
      (pss_cons (ps_if (pt_cmpR op_ne (pe_lamG (T := tabs A) (t := fun E => tMkG A.c_Web (sp_webi K A.c_Web A.c_BadWeb) E (tCons (tVar 1) (tCons (tCall sp_some [] E0 (tCons (tVar 0) (tCons (tLst (tCons (tVar 5) (tCons (tCB (rTupOf K) (tCons (tVar 5) tNil)) tNil))) tNil))) tNil))) rfl T.g__law_part T.F__law_part T.b__law_part sc__law_part rfl (Or.inl rfl) (part_gives T.X_BadWeb T.C_NetError.g T.n_isinstance (exN T)) TB rfl List.mem_cons_self (tabs_u1 ne) (k := 6) (hr.mono (by decide)) (lamS_by (sc := defScope s__law_bridges_right) (by decide +kernel)) rfl (fun _ _ _ _ _ => rfl) (fun A1 outer1 s1 H1 E1 f1 c1 hr1 => pe_mkG (E := E1) T.M_Web (G_Web___init__ T) (hr1.mono (by decide)) rfl T.g_Web T.b_Web___init__ (passes_call (takes_of rfl rfl rfl rfl) (fun _ _ _ _ h => h)) (pa_cons (pv 1) (pa_cons (pe_callG (G__law_choice T) (hr1.mono (by decide)) rfl T.g__law_choice T.F__law_choice.kp T.b__law_choice .nil pass0 (pa_cons (pv 0) (pa_cons (pe_lst (pa_cons (pv 5) (pa_cons (pe_callTy (T := "tuple") (r := rTupOf K) call_tuple_of (by rfl) T.n_tuple (by decide +kernel) (pa_cons (pv 5) pa_nil)) pa_nil))) pa_nil))) pa_nil)))) (pv 6) (nomark _)) (pss_one (ps_ret pe_bl)) pss_nil)
      (pss_one (ps_if (pt_cmpR op_notN (pv 6) pe_non (nomark _)) (pss_one (ps_expr (pe_bm PySem.F.plainAttrs_list PySem.F.slot_list_append PySem.F.type_list_append mt_append (pv 3) (pa_cons (pv 4) pa_nil)))) pss_nil))))))
      (pss_one (ps_ret (pe_and (pe_cmpR op_eq (pe_callB (call_repr2 hr.gd hr.room.units) (by rfl) T.n_repr (by decide +kernel) (pa_cons (pe_callGK0 (G_bridges T) (hr.mono (by decide)) rfl T.g_bridges T.F_bridges.kp (kb_bridges_web T) pass0 (pk_cons (pe_mkG (E := fun _ _ _ => False) T.M_Web (G_Web___init__ T) (hr.mono (by decide)) rfl T.g_Web T.b_Web___init__ (passes_call (W := fun _ _ _ _ => False) L2.takes0 (fun _ _ _ _ h => h)) (pa_cons (pv 1) (pa_cons (pv 2) pa_nil))) pk_nil)) pa_nil)) (pe_callB (call_repr2 hr.gd hr.room.units) (by rfl) T.n_repr (by decide +kernel) (pa_cons (pe_callTy (T := "tuple") call_tuple_of (by rfl) T.n_tuple (by decide +kernel) (pa_cons (pv 3) pa_nil)) pa_nil)) (nomark _)) (pe_one (pe_cmpR (op_eqD hr.room.units) (pe_lc (own := [("at", 4)]) (g := gName 4) (tt := tTest (tOp rEq (tOp (rIxT K) (tOp (rIxL K) (tVar 2) (tVar 4)) (tC (.int 0))) (tOp (rIxT K) (tOp (rIxL K) (tVar 2) (tVar 4)) (tC (.int 1))))) rfl sc__law_bridges_right.nd (pi_list (pv 3)) (blkOk_by (N := N__law_bridges_right) (sc := defScope s__law_bridges_right) (by decide +kernel)) (fun _ _ _ _ _ => (pg_name (i := 4) sc__law_bridges_right.nd rfl (Or.inl rfl))) (fun _ _ _ _ _ => pts_one (pt_cmpR op_eq (pe_ix (r := rIxT K) ix_tup (pe_ix (r := rIxL K) ix_list (pv 2) (pv 4) (fun _ _ => rfl)) pe_int (fun _ _ => rfl)) (pe_ix (r := rIxT K) ix_tup (pe_ix (r := rIxL K) ix_list (pv 2) (pv 4) (fun _ _ => rfl)) pe_int (fun _ _ => rfl)) (nomark _))) (fun _ _ _ _ _ => (pv 4))) (pe_lst pa_nil) (nomark _)))))))), ?_⟩
  obtain ⟨_, ms0, t0, l0, hp0, hc0, _⟩ := id bg
  have lxp : xs.length = ps.length := Paired.length pp
  have sz : (1000 : Nat) ≤ sizeLine := by decide
  refine ⟨Nat.zero_le _, fun f hf => ?_⟩
  have nfa : f ≠ a := fun z => by rw [z, hxs] at hf; cases hf
  have nfp : f ≠ p := fun z => by rw [z, hp0] at hf; cases hf
  have nfc : f ≠ c := fun z => by rw [z, hc0] at hf; cases hf
  have s0 : Same H (upd H f (.lst [])) := Same.new (fun _ _ h => h) hf
  refine ⟨_, rfl, a, _, rfl, .inl (SqL.of (s0 _ _ hxs)), _, rfl, by omega, by omega, ?_⟩
  have eN : ((xs.length : Nat) : Int).toNat = ps.length := by omega
  rw [eN]
  refine for_range (lo := 0) (n := ps.length) (fun i σ' H' => (∃ u4 u5 u6 : Option V, σ' = [some (.ref p), some (.int (n : Int)), some (.ref a), some (.ref f), u4, u5, u6]) ∧ Bg H' p c (m + i) ∧ Tabs (tabs A) H' ∧ H' a = some (.lst xs) ∧ Paired (PrT H') xs ps ∧ H' f = some (.lst (nv ((List.range i).filter (bridge n ps))))) ⟨⟨_, _, _, rfl⟩, bg.keep s0, tb.ext s0, s0 _ _ hxs, prts_same pp s0, upd_same⟩ ?_ ?_
  · rintro i σ' H' hi ⟨⟨u4, u5, u6, rfl⟩, bgi, tbi, hxi, ppi, hfi⟩
    have hix : i < xs.length := by omega
    have e0 : (0 : Int) + (i : Int) = ((i : Nat) : Int) := by omega
    rw [e0]
    obtain ⟨_, ms1, t1, l1, hp1, hc1, _⟩ := id bgi
    -- the ties but one
    refine ⟨_, rfl, _, rfl, _, rfl, a, xs, rfl, SqL.of hxi, fun q1 hq1 => ?_⟩
    rw [cutV_take xs i (by omega)]
    have w1 : Same H' (upd H' q1 (.lst (xs.take i))) := Same.new (fun _ _ h => h) hq1
    refine ⟨_, rfl, _, rfl, _, _, rfl, rfl, _, rfl, a, xs, rfl, SqL.of (w1 _ _ hxi), fun q2 hq2 => ?_⟩
    have ei1 : (i : Int) + 1 = ((i + 1 : Nat) : Int) := by omega
    rw [ei1, cutV_drop xs (i + 1) (by omega)]
    have w2 : Same H' (upd (upd H' q1 (.lst (xs.take i))) q2 (.lst (xs.drop (i + 1)))) := Same.new w1 hq2
    have ltk : (xs.take i).length ≤ 12 := by rw [List.length_take]; omega
    have ldr : (xs.drop (i + 1)).length ≤ 12 := by rw [List.length_drop]; omega
    refine ⟨q1, q2, _, _, rfl, rfl, at_new upd_same hq2, upd_same, by omega, fun q3 hq3 => ?_⟩
    have w3 : Same H' (upd (upd (upd H' q1 (.lst (xs.take i))) q2 (.lst (xs.drop (i + 1)))) q3 (.lst (xs.take i ++ xs.drop (i + 1)))) := Same.new w2 hq3
    have hq33 : (upd (upd (upd H' q1 (.lst (xs.take i))) q2 (.lst (xs.drop (i + 1)))) q3 (.lst (xs.take i ++ xs.drop (i + 1)))) q3 = some (.lst (xs.take i ++ xs.drop (i + 1))) := upd_same
    have PP : Paired (PrT H') (xs.take i ++ xs.drop (i + 1)) (ps.take i ++ ps.drop (i + 1)) := paired_app (paired_drop ppi (i + 1)) (paired_take ppi i)
    have nq3 : H' q3 = none := by
      by_cases z : H' q3 = none
      · exact z
      · obtain ⟨o, ho⟩ := Option.ne_none_iff_exists'.mp z
        rw [w2 _ _ ho] at hq3
        cases hq3
    have nq3p : q3 ≠ p := fun z => by rw [z, hp1] at nq3; cases nq3
    have nq3f : q3 ≠ f := fun z => by rw [z, hfi] at nq3; cases nq3
    generalize (upd (upd (upd H' q1 (.lst (xs.take i))) q2 (.lst (xs.drop (i + 1)))) q3 (.lst (xs.take i ++ xs.drop (i + 1)))) = H3 at w3 hq33
    have llen : (ps.take i ++ ps.drop (i + 1)).length ≤ 12 := by
      rw [List.length_append, List.length_take, List.length_drop]
      omega
    have bl3 : MC.Below n (ps.take i ++ ps.drop (i + 1)) := fun r hr => by
      rcases List.mem_append.mp hr with h | h
      · exact bl r (List.mem_of_mem_take h)
      · exact bl r (List.mem_of_mem_drop h)
    generalize hxs3 : xs.take i ++ xs.drop (i + 1) = xs3 at hq33 PP
    have lxs3 : xs3.length ≤ 12 := by rw [Paired.length PP]; exact llen
    -- what is due
    have ed : bridge n ps i = !hang n (ps.take i ++ ps.drop (i + 1)) := rfl
    try dsimp only
    refine seq_cut (fun σ'' H'' => σ'' = [some (.ref p), some (.int (n : Int)), some (.ref a), some (.ref f), some (.int (i : Int)), some (.ref q3), some (if bridge n ps i = true then V.str "apart" else V.non)] ∧ Same H3 H'') (fun N hN => ?_) ?_
    · refine ⟨_, rfl, _, rfl, n, q3, _, rfl, n1, by omega, ⟨xs3, .inl hq33, paired_imp (fun _ _ z => z.i) (prts_same PP w3)⟩, bl3, fun H4 s4 => ⟨_, rfl, ?_⟩⟩
      refine ite2 (fun e => ?_) (fun e => ?_)
      · refine hN _ _ ⟨?_, s4⟩
        rw [ed, e]
        rfl
      · refine hN _ _ ⟨?_, s4⟩
        rw [ed, Bool.not_eq_true _ |>.mp e]
        rfl
    · rintro σ'' H4 ⟨rfl, s4⟩
      have w4 := w3.trans s4
      have hp4 := w4 _ _ hp1
      have hq34 := s4 _ _ hq33
      have PP4 := prts_same PP w4
      have tb4 := tbi.ext w4
      have bg4 := bgi.keep w4
      have hxi4 := w4 _ _ hxi
      have ppi4 := prts_same ppi w4
      have hfi4 := w4 _ _ hfi
      clear w3 w2 w1 hq1 hq2 hq3 hq33 PP s4 u4 u5 u6 hxs3 ltk ldr
      refine seq_cut (fun σ'' H'' => σ'' = [some (.ref p), some (.int (n : Int)), some (.ref a), some (.ref f), some (.int (i : Int)), some (.ref q3), some (if bridge n ps i = true then V.str "apart" else V.non)] ∧ KT p H4 H'' ∧ Bg H'' p c (m + i + 1) ∧ Tabs (tabs A) H'') (fun N hN => ?_) ?_
      · refine ⟨tb4, fun H5 e5 tb5 => ?_⟩
        have bg5 := bg_ext bg4 e5
        have hq35 := e5 _ _ hq34 (fun _ z => by cases z)
        have hp5 := e5 _ _ hp4 (fun _ z => by cases z)
        have PP5 : Paired (PrT H5) xs3 (ps.take i ++ ps.drop (i + 1)) := prts_keep PP4 fun b ys h => e5 _ _ h (fun _ z => by cases z)
        have fin : ∀ H7, Kp p H5 H7 → Bg H7 p c (m + i + 1) → KT p H4 H7 ∧ Bg H7 p c (m + i + 1) ∧ Tabs (tabs A) H7 := fun H7 k7 b7 => ⟨fun b o nb h nt => k7 _ _ nb (e5 _ _ h nt), b7, tabs_keep tb5 (kp_n k7 hp5)⟩
        unfold TPart
        refine ⟨_, rfl, _, rfl, _, rfl, _, rfl, q3, xs3, rfl, .inl ⟨SqL.of hq35, fun t ht => ⟨by show 2 ≤ sizeLine; decide, fun l hl => ?_⟩⟩⟩
        have nlp : l ≠ p := fun z => by rw [z, at_new hp5 ht] at hl; cases hl
        have ntp : t ≠ p := fun z => by rw [z, hp5] at ht; cases ht
        refine ⟨p, c, l, m + i, _, rfl, (bg5.new ht).new hl, by omega, upd_same, nlp, by show 1 ≤ 2; decide, by show 2 ≤ 1000; decide, fun v H6 hv kp6 bg6 => ?_⟩
        have k56 : Kp p H5 H6 := fun b o nb h => kp6 _ _ nb (at_new (at_new h ht) hl)
        obtain ⟨b, rfl, hb⟩ : ∃ b, v = .ref b ∧ PrsA H6 b (ps.take i ++ ps.drop (i + 1)) := by
          have pp6 : Paired (PrT H6) xs3 (ps.take i ++ ps.drop (i + 1)) := prts_keep PP5 fun b ys h => k56 _ _ (fun z => by rw [z, hp5] at h; cases h) h
          rcases List.mem_cons.mp hv with rfl | hv
          · exact ⟨q3, rfl, prsL (.inl (k56 _ _ nq3p hq35)) pp6⟩
          · obtain rfl := List.mem_singleton.mp hv
            exact ⟨t, rfl, prsL (.inr (kp6 _ _ ntp (at_new upd_same hl))) pp6⟩
        cases hbr : hang n (ps.take i ++ ps.drop (i + 1)) with
        | true =>
          rw [hbr] at ed
          rw [ed] at hN ⊢
          refine mk_web T (fun x => rfl) n1 n13 llen hb bl3 hbr fun y H7 s7 hy => ⟨_, rfl, _, rfl, rfl, _, rfl, iteF ?_⟩
          exact hN _ _ ⟨rfl, fin H7 (fun b o nb h => s7 _ _ (k56 _ _ nb h)) (bg6.keep s7)⟩
        | false =>
          rw [hbr] at ed
          rw [ed] at hN ⊢
          refine mk_apart T (fun x => rfl) n1 n13 llen hb bl3 hbr fun d H7 hd s7 => ⟨rfl, d, _, _, rfl, hd, rfl, _, rfl, rfl, _, rfl, iteF ?_⟩
          exact hN _ _ ⟨rfl, fin H7 (fun b o nb h => s7 _ _ (k56 _ _ nb h)) (bg6.keep s7)⟩
      · rintro σ'' H5 ⟨rfl, k5, bg5, tb5⟩
        have hxi5 := k5 _ _ nap hxi4 (fun _ z => by cases z)
        have hfi5 := k5 _ _ nfp hfi4 (fun _ z => by cases z)
        have ppi5 : Paired (PrT H5) xs ps := prts_keep ppi4 fun b ys h => k5 _ _ (fun z => by rw [z, hp4] at h; cases h) h (fun _ z => by cases z)
        have er : (List.range (i + 1)).filter (bridge n ps) = (List.range i).filter (bridge n ps) ++ (if bridge n ps i = true then [i] else []) := by
          rw [List.range_succ, List.filter_append]
          congr 1
          by_cases e : bridge n ps i = true
          · rw [if_pos e, List.filter_cons_of_pos e]
            rfl
          · rw [if_neg e, List.filter_cons_of_neg e]
            rfl
        rw [er]
        cases hbr : bridge n ps i with
        | false =>
          refine ⟨_, rfl, rfl, _, rfl, iteF ⟨⟨_, _, _, rfl⟩, bg5.le (by omega), tb5, hxi5, ppi5, ?_⟩⟩
          simp only [Bool.false_eq_true, if_false, List.append_nil]
          exact hfi5
        | true =>
          have lf : ((List.range i).filter (bridge n ps)).length ≤ i := by
            have := List.length_filter_le (bridge n ps) (List.range i)
            rw [List.length_range] at this
            exact this
          refine ⟨_, rfl, rfl, _, rfl, iteT ⟨_, rfl, .inl ⟨rfl, _, SqL.of hfi5⟩, _, rfl, f, _, _, rfl, rfl, hfi5, by rw [List.length_map]; exact small1000 (by omega), ?_⟩⟩
          have kt : Kp f H5 (upd H5 f (.lst (nv ((List.range i).filter (bridge n ps)) ++ [.int (i : Int)]))) := fun b o nb h => by
            rw [upd_ne nb]
            exact h
          refine ⟨⟨_, _, _, rfl⟩, (bg5.oth nfp.symm nfc.symm).le (by omega), tabs_keep tb5 (kp_n kt hfi5), kt _ _ nfa.symm hxi5, prts_keep ppi5 fun b ys h => kt _ _ (fun z => by rw [z, hfi5] at h; cases h) h, ?_⟩
          rw [upd_same]
          simp
  · rintro σ' H' ⟨⟨u4, u5, u6, rfl⟩, bgi, tbi, hxi, ppi, hfi⟩
    refine ⟨_, rfl, _, rfl, mk_web T (fun x => rfl) n1 n13 lp (prsL (.inl hxi) ppi) bl hh fun y H1 s1 hy => ?_⟩
    refine ⟨y, n, ps, rfl, hy, by omega, by omega, n1, bl, hh, fun q H2 s2 hq2 => ?_⟩
    have s12 := s1.trans s2
    have hbd : ∀ j ∈ (List.range ps.length).filter (bridge n ps), j ≤ 13 := fun j hj => by
      have := List.mem_range.mp (List.mem_filter.mp hj).1
      omega
    have hln : ((List.range ps.length).filter (bridge n ps)).length ≤ 12 := by
      have := List.length_filter_le (bridge n ps) (List.range ps.length)
      rw [List.length_range] at this
      omega
    refine rep_nums hq2 hbd (by omega) ?_
    have hf2 := s12 _ _ hfi
    refine ⟨_, rfl, f, _, rfl, .inl ⟨SqL.of hf2, fun l hl => ?_⟩⟩
    have s3 : Same H' (upd H2 l (.tup (nv ((List.range ps.length).filter (bridge n ps))))) := s12.trans (Same.new (fun _ _ h => h) hl)
    refine rep_nums upd_same hbd (by omega) ⟨rfl, _, rfl, ?_⟩
    have hf3 := s3 _ _ hfi
    have hx3 := s3 _ _ hxi
    have pp3 := prts_same ppi s3
    have bg3 := bgi.keep s3
    have tb3 := tbi.ext s3
    generalize upd H2 l (.tup (nv ((List.range ps.length).filter (bridge n ps)))) = H3 at s3 hf3 hx3 pp3 bg3 tb3
    rw [if_pos (decide_eq_true rfl)]
    refine ⟨_, rfl, f, rfl, ⟨_, SqL.of hf3⟩, fun D hD => ?_⟩
    refine lc_list (K := K) (a := f) (xs := nv ((List.range ps.length).filter (bridge n ps))) (fun i H' => Same H3 H' ∧ H' D = some (.lst [])) ⟨Same.new (fun _ _ h => h) hD, upd_same⟩ (fun i H' _ h => SqL.of (h.1 _ _ hf3)) ?_ ?_
    · rintro i x H4 hx ⟨s4, hD4⟩
      rw [List.getElem?_map] at hx
      obtain ⟨j, hj, rfl⟩ := Option.map_eq_some_iff.mp hx
      have hm2 := List.mem_of_getElem? hj
      obtain ⟨hr1, hb1⟩ := List.mem_filter.mp hm2
      have hjl := List.mem_range.mp hr1
      have hxj : xs[j]? = some xs[j] := List.getElem?_eq_getElem (by omega)
      obtain ⟨g, hg, t, et, ht⟩ := paired_get pp3 hxj
      have ai : atI xs (j : Int) = some (.ref t) := atI_nat (by rw [hxj, et])
      have ne2 := bridge_ends bl hh hg hb1
      have ne3 : decide (V.int (g.1 : Int) = V.int (g.2 : Int)) = false := decide_eq_false fun z => ne2 (by have := V.int.inj z; omega)
      refine ⟨rfl, _, rfl, _, rfl, a, xs, _, _, rfl, rfl, SqL.of (s4 _ _ hx3), ai, t, _, _, _, rfl, rfl, SqT.of (s4 _ _ ht), rfl, _, rfl, _, rfl, a, xs, _, _, rfl, rfl, SqL.of (s4 _ _ hx3), ai, t, _, _, _, rfl, rfl, SqT.of (s4 _ _ ht), rfl, rfl, _, rfl, ?_⟩
      rw [ne3]
      exact iteF ⟨s4, hD4⟩
    · rintro H4 ⟨s4, hD4⟩
      refine ⟨Nat.zero_le _, fun e he => ⟨.list (dprs []), .list (dprs []), .lst (SqL.of (at_new hD4 he)) .nil, .lst (SqL.of upd_same) .nil, shaped_lps _, shaped_lps _, ?_⟩⟩
      rw [eqv_lps]
      have s5 := s4.trans (Same.new (o := .lst []) (fun _ _ h => h) he)
      exact k _ ((bg3.keep s5).le (by omega)) (tb3.ext s5)
/-! ### the law -/
/-- the row of thirteen places -/
def rowP : MC.Pr := (List.range 12).map fun j => (j, j + 1)
theorem row_below : MC.Below 13 rowP := by
  intro p hp
  obtain ⟨j, hj, rfl⟩ := List.mem_map.mp hp
  have := List.mem_range.mp hj
  exact ⟨by show j < 13; omega, by show j + 1 < 13; omega⟩
theorem row_hang : hang 13 rowP = true := by decide +kernel
theorem row_bridges : (List.range rowP.length).filter (bridge 13 rowP) = List.range 12 := by decide +kernel
theorem row_less : hang 13 (rowP.take 5 ++ rowP.drop 6) = false := by decide +kernel
theorem row_less_below : MC.Below 13 (rowP.take 5 ++ rowP.drop 6) := fun r hr => by
  rcases List.mem_append.mp hr with h | h
  · exact row_below r (List.mem_of_mem_take h)
  · exact row_below r (List.mem_of_mem_drop h)
theorem text_one : text 1 [] = "1 :" := by decide +kernel
def loopP : MC.Pr := List.replicate 12 (0, 0)
theorem loop_below : MC.Below 1 loopP := fun r hr => by
  rw [List.eq_of_mem_replicate hr]
  exact ⟨Nat.one_pos, Nat.one_pos⟩
theorem loop_hang : hang 1 loopP = true := by decide +kernel
theorem loop_bridges : (List.range loopP.length).filter (bridge 1 loopP) = [] := by decide +kernel
theorem nv_rg : nv (List.range 12) = rgV 0 12 := by rfl
def row12 : PyData := .tuple (((List.range 12).map fun (n : Nat) => (n : Int)).map PyData.int)
theorem dp_row12 {H : Hp} : DpAll K H (nv (List.range 12)) (((List.range 12).map fun (n : Nat) => (n : Int)).map PyData.int) := by
  rw [nv_ints]
  exact dp_ints _
theorem row12_shaped : SeqAt.shaped row12 = true := by decide +kernel
theorem row12_eqv : (!PyData.eqv row12 row12) = false := by decide +kernel
theorem paired_rep {α β : Type} {R : α → β → Prop} {x : α} {y : β} (h : R x y) : ∀ n, Paired R (List.replicate n [x]).flatten (List.replicate n y)
  | 0 => .nil
  | n + 1 => by
    rw [List.replicate_succ, List.flatten_cons, List.replicate_succ]
    exact .cons h (paired_rep h n)
def sp_law (A : Ad) (K : PySem.W.Frag) : Sp := fun vs H Q _ => ∃ (a : Addr) (ns : List Int), vs = [.ref a] ∧ SqL K H a (ns.map V.int) ∧ ns.length ≤ 63 ∧ Tabs (tabs A) H ∧ ∀ H', Q (.bl true) H'
theorem G_law (T : Txt P K mg A) (TB1 : TabB base mg A.k__law_bridges_right A.t__law_bridges_right) (TB2 : TabB base mg A.k_law A.t_law) (ne : A.t__law_bridges_right ≠ A.t_law) : FnG P w K mg base CX0 10 A.a_law A.d_law P_law (sp_law A K) := by
  refine okGC T.F_law sc_law (fun vs H Q E h => ?_) (fun A0 outer s H vs Q E hr h => ?_)
  · obtain ⟨a, ns, rfl, _⟩ := h
    rfl
  obtain ⟨a, ns, rfl, hS, hl, tb, k⟩ := h
  refine ⟨_, (pss_cons (ps_set (i := 1) sc_law.nd rfl (Or.inl rfl) (pe_callG (G__law_loom T) (hr.mono (by decide)) rfl T.g__law_loom T.F__law_loom.kp T.b__law_loom .nil pass0 (pa_cons (pv 0) pa_nil)))
      (pss_cons (ps_for PassesOwn.never rfl (pi_range1 (by rfl) T.n_range (pa_cons pe_int pa_nil)) (pg_name (i := 2) sc_law.nd rfl (Or.inl rfl)) (pss_cons (ps_asg (pe_callG (G__law_web T) (hr.mono (by decide)) rfl T.g__law_web T.F__law_web.kp T.b__law_web .nil pass0 (pa_cons (pv 1) pa_nil)) (pg_tup rfl (pgs_cons (pg_name (i := 3) sc_law.nd rfl (Or.inl rfl)) (pgs_cons (pg_name (i := 4) sc_law.nd rfl (Or.inl rfl)) pgs_nil))))
      (pss_one (ps_if (PW.pt (pw_or (pt_not (pt_val (pe_callG (G__law_kept_right T) (hr.mono (by decide)) rfl T.g__law_kept_right T.F__law_kept_right.kp T.b__law_kept_right .nil pass0 (pa_cons (pv 1) (pa_cons (pv 3) (pa_cons (pv 4) pa_nil)))))) (pw_or (pt_not (pt_val (pe_callG (G__law_equal_right T) (hr.mono (by decide)) rfl T.g__law_equal_right T.F__law_equal_right.kp T.b__law_equal_right .nil pass0 (pa_cons (pv 1) (pa_cons (pv 3) (pa_cons (pv 4) pa_nil)))))) (pw_or1 (pt_not (pt_val (pe_callG (G__law_bridges_right T TB1 ne) (hr.mono (by decide)) rfl T.g__law_bridges_right T.F__law_bridges_right.kp T.b__law_bridges_right .nil pass0 (pa_cons (pv 1) (pa_cons (pv 3) (pa_cons (pv 4) pa_nil)))))))))) (pss_one (ps_ret pe_bl)) pss_nil))))
      (pss_cons (ps_set (i := 5) sc_law.nd rfl (Or.inr rfl) (pe_lc (own := [("place", 7)]) (g := gName 7) (tt := tYes) rfl sc_law.nd (pi_range1 (by rfl) T.n_range (pa_cons pe_int pa_nil)) (blkOk_by (N := N_law) (sc := defScope s_law) (by decide +kernel)) (fun _ _ _ _ _ => (pg_name (i := 7) sc_law.nd rfl (Or.inl rfl))) (fun _ _ _ _ _ => pts_nil) (fun _ _ _ _ _ => (pe_tup (pa_cons (pv 7) (pa_cons (pe_op op_add (pv 7) pe_int) pa_nil))))))
      (pss_cons (ps_set (i := 6) sc_law.nd rfl (Or.inl rfl) (pe_mkG (E := fun _ _ _ => False) T.M_Web (G_Web___init__ T) (hr.mono (by decide)) rfl T.g_Web T.b_Web___init__ (passes_call (W := fun _ _ _ _ => False) L2.takes0 (fun _ _ _ _ h => h)) (pa_cons pe_int (pa_cons (pv 5) pa_nil))))
      (pss_cons (ps_if (PW.pt (pw_or (pt_cmpR (op_neD hr.room.units) (pe_callG (G_bridges T) (hr.mono (by decide)) rfl T.g_bridges T.F_bridges.kp T.b_bridges .nil pass0 (pa_cons (pv 6) pa_nil)) (pe_tupRg rfl (by rfl) T.n_tuple (prg_1 (by rfl) T.n_range pe_int)) (nomark _)) (pw_or (pt_cmpR (op_neO T.O_eq (G_Web___eq__ T) (hr.mono (by decide)) (Nat.lt_of_le_of_lt (Nat.add_le_add_left (by decide) _) hr.room.units) T.b_Web___eq__ pass0) (pe_smeth (pe_glob (v := .ref A.c_Web) rfl T.g_Web rfl) T.S_read (G_Web_read T) (hr.mono (by decide)) T.F_Web_read.kp T.b_Web_read pass0 (pa_cons (pe_callTy (T := "str") (call_strO T.O_s T.O_f (G_Web___str__ T) (hr.mono (by decide)) T.b_Web___str__ pass0) (by rfl) T.n_str (by decide +kernel) (pa_cons (pv 6) pa_nil)) pa_nil)) (pv 6) (nomark _)) (pw_or1 (pt_cmpR op_ne (pe_lamG (T := tabs A) (t := fun E => tMkG A.c_Web (sp_webi K A.c_Web A.c_BadWeb) E (tCons (tC (.int 13)) (tCons (tOp rCat (tSl (rSlL K) (tVar 5) tNoPart (tPart (tC (.int 5)))) (tSl (rSlL K) (tVar 5) (tPart (tC (.int 6))) tNoPart)) tNil))) rfl T.g__law_part T.F__law_part T.b__law_part sc__law_part rfl (Or.inl rfl) (part_gives T.X_BadWeb T.C_NetError.g T.n_isinstance (exN T)) TB2 rfl (List.mem_cons_of_mem _ List.mem_cons_self) (tabs_u2 ne) (k := 6) (hr.mono (by decide)) (lamS_by (sc := defScope s_law) (by decide +kernel)) rfl (fun _ _ _ _ _ => rfl) (fun A1 outer1 s1 H1 E1 f1 c1 hr1 => pe_mkG (E := E1) T.M_Web (G_Web___init__ T) (hr1.mono (by decide)) rfl T.g_Web T.b_Web___init__ (passes_call (takes_of rfl rfl rfl rfl) (fun _ _ _ _ h => h)) (pa_cons pe_int (pa_cons (pe_op op_cat (pe_slice (r := rSlL K) sl_list (pv 5) po_none (po_some pe_int)) (pe_slice (r := rSlL K) sl_list (pv 5) (po_some pe_int) po_none)) pa_nil)))) pe_str (nomark _)))))) (pss_one (ps_ret pe_bl)) pss_nil)
      (pss_one (ps_ret (pe_and (pe_cmpR op_eq (pe_callTy (T := "str") (call_strO T.O_s T.O_f (G_Web___str__ T) (hr.mono (by decide)) T.b_Web___str__ pass0) (by rfl) T.n_str (by decide +kernel) (pa_cons (pe_mkG (E := fun _ _ _ => False) T.M_Web (G_Web___init__ T) (hr.mono (by decide)) rfl T.g_Web T.b_Web___init__ (passes_call (W := fun _ _ _ _ => False) L2.takes0 (fun _ _ _ _ h => h)) (pa_cons pe_int (pa_cons (pe_lst pa_nil) pa_nil))) pa_nil)) pe_str (nomark _)) (pe_and (pe_cmpR (op_eqD hr.room.units) (pe_fld (pe_mkG (E := fun _ _ _ => False) T.M_Web (G_Web___init__ T) (hr.mono (by decide)) rfl T.g_Web T.b_Web___init__ (passes_call (W := fun _ _ _ _ => False) L2.takes0 (fun _ _ _ _ h => h)) (pa_cons pe_int (pa_cons (pe_op op_rep (pe_lst (pa_cons (pe_tup (pa_cons pe_int (pa_cons pe_int pa_nil))) pa_nil)) pe_int) pa_nil))) rfl) (pe_op op_repT (pe_tup (pa_cons (pe_tup (pa_cons pe_int (pa_cons pe_int pa_nil))) pa_nil)) pe_int) (nomark _)) (pe_one (pe_cmpR (op_eqD hr.room.units) (pe_callG (G_bridges T) (hr.mono (by decide)) rfl T.g_bridges T.F_bridges.kp T.b_bridges .nil pass0 (pa_cons (pe_mkG (E := fun _ _ _ => False) T.M_Web (G_Web___init__ T) (hr.mono (by decide)) rfl T.g_Web T.b_Web___init__ (passes_call (W := fun _ _ _ _ => False) L2.takes0 (fun _ _ _ _ h => h)) (pa_cons pe_int (pa_cons (pe_op op_rep (pe_lst (pa_cons (pe_tup (pa_cons pe_int (pa_cons pe_int pa_nil))) pa_nil)) pe_int) pa_nil))) pa_nil)) (pe_tup pa_nil) (nomark _)))))))))))), ?_⟩
  refine ⟨_, rfl, a, ns, rfl, hS, hl, fun p c H1 s1 hp hc bg1 => ?_⟩
  have tb1 := tb.ext s1
  refine ⟨4, rfl, by decide, by decide, ?_⟩
  refine for_range (lo := 0) (n := 4) (fun i σ' H' => (∃ u2 u3 u4 u5 u6 u7 : Option V, σ' = [some (.ref a), some (.ref p), u2, u3, u4, u5, u6, u7]) ∧ Bg H' p c (100 * i) ∧ Tabs (tabs A) H') ⟨⟨_, _, _, _, _, _, rfl⟩, bg1, tb1⟩ ?_ ?_
  · rintro i σ' H' hi ⟨⟨u2, u3, u4, u5, u6, u7, rfl⟩, bg, tb'⟩
    obtain ⟨_, ms0, t0, l0, hp0, hc0, _⟩ := id bg
    refine ⟨_, rfl, p, c, 100 * i, rfl, bg, by omega, fun t q n xs ps H2 kp2 bg2 ht hq nqp ht2 hq2 pp2 n1 n13 lp bl hh => ?_⟩
    have tb2 := tabs_keep tb' (kp_n kp2 hp0)
    refine ⟨t, _, rfl, SqT.of ht2, rfl, _, _, rfl, _, _, rfl, rfl, ?_⟩
    obtain ⟨_, ms2, t2, l2, hp2, hc2, _⟩ := id bg2
    refine ⟨_, rfl, _, rfl, _, rfl, p, c, q, _, n, xs, ps, rfl, bg2, by omega, hq2, nqp, pp2, n1, n13, lp, bl, hh, fun H3 kp3 bg3 => ⟨_, rfl, iteF ?_⟩⟩
    have pp3 : Paired (PrT H3) xs ps := prts_keep pp2 fun b zs h => kp3 _ _ (fun z => by rw [z, hp2] at h; cases h) h
    have tb3 := tabs_keep tb2 (kp_n kp3 hp2)
    obtain ⟨_, ms3, t3, l3, hp3, hc3, _⟩ := id bg3
    refine ⟨_, rfl, _, rfl, _, rfl, p, c, q, _, n, xs, ps, rfl, bg3, by omega, kp3 _ _ nqp hq2, nqp, pp3, n1, n13, lp, bl, hh, fun H4 kp4 bg4 => ⟨_, rfl, iteF ?_⟩⟩
    have pp4 : Paired (PrT H4) xs ps := prts_keep pp3 fun b zs h => kp4 _ _ (fun z => by rw [z, hp3] at h; cases h) h
    have tb4 := tabs_keep tb3 (kp_n kp4 hp3)
    refine ⟨_, rfl, _, rfl, _, rfl, p, c, q, _, n, xs, ps, rfl, bg4, by omega, kp4 _ _ nqp (kp3 _ _ nqp hq2), nqp, pp4, n1, n13, lp, bl, hh, tb4, fun H5 bg5 tb5 => ⟨_, rfl, iteF ?_⟩⟩
    exact ⟨⟨_, _, _, _, _, _, rfl⟩, bg5.le (by omega), tb5⟩
  · rintro σ' H' ⟨⟨u2, u3, u4, u5, u6, u7, rfl⟩, bg, tb'⟩
    -- a row
    refine ⟨12, rfl, by decide, by decide, fun D hD => ?_⟩
    refine lc_range (lo := 0) (n := 12) (fun i H2 => Same H' H2 ∧ ∃ ys, H2 D = some (.lst ys) ∧ Paired (PrT H2) ys (rowP.take i)) ⟨Same.new (fun _ _ h => h) hD, [], upd_same, .nil⟩ ?_ ?_
    · rintro i H2 hi ⟨s2, ys, hDy, py⟩
      have e0 : (0 : Int) + (i : Int) = (i : Int) := by omega
      rw [e0]
      have hg : rowP[i]? = some (i, i + 1) := by
        unfold rowP
        rw [List.getElem?_map, List.getElem?_range hi]
        rfl
      have tk : rowP.take (i + 1) = rowP.take i ++ [(i, i + 1)] := by rw [List.take_succ, hg]; rfl
      have lys : ys.length ≤ 12 := by
        rw [Paired.length py, List.length_take]
        omega
      refine ⟨rfl, tYes_of (iteT ⟨_, rfl, _, rfl, _, _, rfl, rfl, by show 2 ≤ sizeLine; decide, fun t ht => ?_⟩)⟩
      have ntD : t ≠ D := fun z => by rw [z, hDy] at ht; cases ht
      have ei : (i : Int) + 1 = ((i + 1 : Nat) : Int) := by omega
      refine ⟨ys, at_new hDy ht, small1000 (by omega), ?_, ys ++ [.ref t], upd_same, ?_⟩
      · intro b o h
        rw [upd_ne (ne_of_none h hD)]
        exact at_new (s2 _ _ h) ht
      · rw [tk]
        refine paired_snoc ⟨t, rfl, by rw [upd_ne ntD, upd_same]; show some (HO.tup [V.int (i : Int), V.int ((i : Int) + 1)]) = _; rw [ei]⟩ (prts_keep py fun b zs h => ?_)
        rw [upd_ne (fun z => by rw [z, hDy] at h; cases h)]
        exact at_new h ht
    · rintro H2 ⟨s2, ys, hDy, py⟩
      have e12 : rowP.take 12 = rowP := rfl
      rw [e12] at py
      have lys : ys.length = 12 := Paired.length py
      have bg2 := bg.keep s2
      have tb2 := tb'.ext s2
      refine ⟨_, rfl, mk_web T (n := 13) (fun x => rfl) (by decide) (by decide) (by decide) (prsL (.inl hDy) py) row_below row_hang fun y H3 s3 hy => ?_⟩
      try dsimp only
      refine ⟨_, rfl, y, 13, rowP, rfl, hy, by decide, by decide, by decide, row_below, row_hang, fun q H4 s4 hq => ?_⟩
      rw [row_bridges] at hq
      refine ⟨12, rfl, RgOk.of_le (by decide) (by decide) (by decide) (by decide), fun q2 hq2 => ⟨row12, row12, .tup (SqT.of (at_new hq hq2)) dp_row12, .tup (SqT.of (by rw [upd_same, nv_rg])) dp_row12, row12_shaped, row12_shaped, ?_⟩⟩
      rw [row12_eqv]
      have s5 : Same H2 (upd H4 q2 (.tup (rgV 0 12))) := (s3.trans s4).trans (Same.new (fun _ _ h => h) hq2)
      have hy5 : WebAt (upd H4 q2 (.tup (rgV 0 12))) y A.c_Web 13 rowP := hy.keep (s4.trans (Same.new (fun _ _ h => h) hq2))
      generalize upd H4 q2 (.tup (rgV 0 12)) = H5 at s5 hy5
      refine ⟨_, rfl, iteF ?_⟩
      -- read back
      refine ⟨rfl, _, rfl, str_web T hy5 (by decide) (by decide) row_below fun H6 s6 => ?_⟩
      refine ⟨13, rowP, rfl, by decide, by decide, by decide, row_below, row_hang, fun y7 H7 s7 hy7 => ⟨_, rfl, neO_webs T hy7 (hy5.keep (s6.trans s7)) ⟨_, rfl, ?_⟩⟩⟩
      rw [show (!decide (13 = 13 ∧ rowP = rowP)) = false by rw [decide_eq_true ⟨rfl, rfl⟩]; rfl]
      refine iteF ?_
      have s27 := s5.trans (s6.trans s7)
      have tb7 := tb2.ext s27
      have hD7 := s27 _ _ hDy
      have py7 := prts_same py s27
      -- one tie less
      refine ⟨tb7, fun H8 e8 tb8 => ?_⟩
      have hD8 := e8 _ _ hD7 (fun _ z => by cases z)
      have py8 : Paired (PrT H8) ys rowP := prts_keep py7 fun b zs h => e8 _ _ h (fun _ z => by cases z)
      unfold TPart
      refine ⟨_, rfl, _, rfl, D, ys, rfl, SqL.of hD8, fun q1 hq1 => ?_⟩
      rw [show cutV ys none (some 5) = ys.take 5 from cutV_take ys 5 (by omega)]
      refine ⟨_, rfl, _, rfl, D, ys, rfl, SqL.of (at_new hD8 hq1), fun q3 hq3 => ?_⟩
      rw [show cutV ys (some 6) none = ys.drop 6 from cutV_drop ys 6 (by omega)]
      have w3 : Same H8 (upd (upd H8 q1 (.lst (ys.take 5))) q3 (.lst (ys.drop 6))) := Same.new (Same.new (fun _ _ h => h) hq1) hq3
      have l8 : (ys.take 5).length + (ys.drop 6).length ≤ sizeLine := by
        rw [List.length_take, List.length_drop]
        have : (1000 : Nat) ≤ sizeLine := by decide
        omega
      refine ⟨q1, q3, _, _, rfl, rfl, at_new upd_same hq3, upd_same, l8, fun q4 hq4 => ?_⟩
      have w4 := Same.new (o := .lst (ys.take 5 ++ ys.drop 6)) w3 hq4
      refine mk_apart T (n := 13) (fun x => rfl) (by decide) (by decide) (by decide) (prsL (.inl upd_same) (prts_same (paired_app (paired_drop py8 6) (paired_take py8 5)) w4)) row_less_below row_less fun d H9 hd s9 => ⟨rfl, d, _, _, rfl, hd, rfl, rfl, _, rfl, iteF ?_⟩
      clear s9 w4 hq4 w3 hq3 hq1 py8 hD8 tb8 e8 hd
      -- small webs
      have b1 : MC.Below 1 [] := fun r hr => by cases hr
      have hg1 : hang 1 [] = true := by decide +kernel
      refine ⟨Nat.zero_le _, fun e he => mk_web T (n := 1) (fun x => rfl) (Nat.le_refl _) (by decide) (Nat.zero_le _) (prsL (.inl upd_same) .nil) b1 hg1 fun z1 G1 t1 hz1 => ?_⟩
      refine str_web T hz1 (by decide) (by decide) b1 fun G2 t2 => ⟨rfl, _, rfl, ?_⟩
      rw [text_one, if_pos (decide_eq_true rfl)]
      refine ⟨by show 2 ≤ sizeLine; decide, fun t ht => ⟨by show 1 ≤ sizeLine; decide, fun q hq => ⟨q, 12, _, rfl, rfl, upd_same, by decide, by decide, by show 1 * 12 ≤ sizeLine; decide, fun b hb => ?_⟩⟩⟩
      refine mk_web T (n := 1) (fun x => rfl) (Nat.le_refl _) (by decide) (by decide) (prsL (ps := loopP) (.inl upd_same) (paired_rep ⟨t, rfl, at_new (at_new upd_same hq) hb⟩ 12)) loop_below loop_hang fun z3 G3 t3 hz3 => ?_
      obtain ⟨dz, r, zs, hz, hr', hzp⟩ := id hz3
      refine ⟨z3, A.c_Web, dz, _, _, rfl, hz, T.K_Web, T.N_Web_ties, rfl, ?_⟩
      refine ⟨by show 2 ≤ sizeLine; decide, fun t' ht' => ⟨by show 1 ≤ sizeLine; decide, fun q' hq' => ⟨q', 12, _, rfl, rfl, SqT.of upd_same, (fun h => by cases h), by decide, by decide, by show 1 ≤ 1000; decide, fun b' hb' => ?_⟩⟩⟩
      have w5 := Same.new (o := .tup (List.replicate 12 [V.ref t']).flatten) (Same.new (o := .tup [.ref t']) (Same.new (o := .tup [.int 0, .int 0]) (fun _ _ h => h : Same G3 G3) ht') hq') hb'
      refine ⟨.tuple (dprs loopP), .tuple (dprs loopP), .tup (SqT.of (w5 _ _ hr')) (dp_prs (prts_same hzp w5)), .tup (SqT.of upd_same) (dp_prs (paired_rep ⟨t', rfl, at_new (at_new upd_same hq') hb'⟩ 12)), shaped_tps _, shaped_tps _, ?_⟩
      rw [eqv_tps, decide_eq_true rfl]
      refine ⟨_, rfl, iteT ?_⟩
      clear w5 hr' hzp
      generalize upd (upd (upd G3 t' (.tup [.int 0, .int 0])) q' (.tup [.ref t'])) b' (.tup (List.replicate (Int.toNat 12) [V.ref t']).flatten) = G4
      clear ht' hq' hb' hz hz3 t3 hb hq ht t2 hz1 t1 he
      refine ⟨by show 2 ≤ sizeLine; decide, fun t ht => ⟨by show 1 ≤ sizeLine; decide, fun q hq => ⟨q, 12, _, rfl, rfl, upd_same, by decide, by decide, by show 1 * 12 ≤ sizeLine; decide, fun b hb => ?_⟩⟩⟩
      refine mk_web T (n := 1) (fun x => rfl) (Nat.le_refl _) (by decide) (by decide) (prsL (ps := loopP) (.inl upd_same) (paired_rep ⟨t, rfl, at_new (at_new upd_same hq) hb⟩ 12)) loop_below loop_hang fun z5 G5 t5 hz5 => ?_
      refine ⟨z5, 1, loopP, rfl, hz5, by decide, by decide, by decide, loop_below, loop_hang, fun q6 G6 t6 hq6 => ?_⟩
      rw [loop_bridges] at hq6
      refine ⟨Nat.zero_le _, fun e he => ⟨.tuple (dprs []), .tuple (dprs []), .tup (SqT.of (at_new hq6 he)) .nil, .tup (SqT.of upd_same) .nil, shaped_tps _, shaped_tps _, ?_⟩⟩
      rw [eqv_tps, decide_eq_true rfl]
      exact k _
end
theorem all_mk {q : Program} {l : PySem.W.OpenLaw} {w : World} {K : PySem.W.Frag} {h : Heap} {mg : Str → Option Value} {fa : Addr} (X : K.In h) (GN : h.Ns mainGlobals mg) (hfa : mg "law" = some (.ref fa)) (TO : TabOf q K h)
    {f0 f1 f2 f3 f4 f5 f6 f7 f8 f9 f10 f11 f12 f13 f14 f15 f16 f17 f18 f19 f20 f21 f22 f23 f24 f25 f26 f27 f28 : Addr} {od0 an0 od1 an1 od2 an2 od3 an3 od4 an4 od5 an5 od6 an6 od7 an7 od8 an8 od9 an9 od10 an10 od11 an11 od12 an12 od13 an13 od14 an14 od15 an15 od16 an16 od17 an17 od18 an18 od19 an19 od20 an20 od21 an21 od22 an22 od23 an23 od24 an24 od25 an25 od26 an26 od27 an27 od28 an28 : Option Addr} {sl0 sl1 sl2 sl3 sl4 sl5 sl6 sl7 sl8 sl9 sl10 sl11 sl12 sl13 sl14 sl15 sl16 sl17 sl18 sl19 sl20 sl21 sl22 sl23 sl24 sl25 sl26 sl27 sl28 : Array (Option Value)} {oc0 kV0 dc0 pm0 ct0 cd0 oc1 kV1 dc1 pm1 ct1 cd1 oc2 kV2 dc2 pm2 ct2 cd2 oc3 kV3 dc3 pm3 ct3 cd3 oc4 kV4 dc4 pm4 ct4 cd4 oc5 kV5 dc5 pm5 ct5 cd5 oc6 kV6 dc6 pm6 ct6 cd6 oc7 kV7 dc7 pm7 ct7 cd7 oc8 kV8 dc8 pm8 ct8 cd8 oc9 kV9 dc9 pm9 ct9 cd9 oc10 kV10 dc10 pm10 ct10 cd10 oc11 kV11 dc11 pm11 ct11 cd11 oc12 kV12 dc12 pm12 ct12 cd12 oc13 kV13 dc13 pm13 ct13 cd13 oc14 kV14 dc14 pm14 ct14 cd14 oc15 kV15 dc15 pm15 ct15 cd15 oc16 kV16 dc16 pm16 ct16 cd16 oc17 kV17 dc17 pm17 ct17 cd17 oc18 kV18 dc18 pm18 ct18 cd18 oc19 kV19 dc19 pm19 ct19 cd19 oc20 kV20 dc20 pm20 ct20 cd20 oc21 kV21 dc21 pm21 ct21 cd21 oc22 kV22 dc22 pm22 ct22 cd22 oc23 kV23 dc23 pm23 ct23 cd23 oc24 kV24 dc24 pm24 ct24 cd24 oc25 kV25 dc25 pm25 ct25 cd25 oc26 kV26 dc26 pm26 ct26 cd26 oc27 kV27 dc27 pm27 ct27 oc28 kV28 dc28 pm28 ct28 : Value}
    {kk27 kp27 : Addr} {ko27 : Value} {kod27 : Option Addr} {kvs27 : Array Value} {ksl27 : Array (Option Value)} {ke27 : DefRec}
    {kk28 kp28 : Addr} {ko28 : Value} {kod28 : Option Addr} {kvs28 : Array Value} {ksl28 : Array (Option Value)} {ke28 : DefRec}
    {CO pR : Addr} {u0 u1 u2 u3 : Addr} {uod0 uan0 uod1 uan1 uod2 uan2 uod3 uan3 : Option Addr} {usl0 usl1 usl2 usl3 : Array (Option Value)} {uoc0 ukV0 udc0 upm0 ucd0 uct0 uoc1 ukV1 udc1 upm1 ucd1 uct1 uoc2 ukV2 udc2 upm2 ucd2 uct2 uoc3 ukV3 udc3 upm3 ucd3 uct3 : Value}
    {oq : Str} {oN : Addr} {obs osb : List Value} {ohd : Bool} {osn : List Str} {oab : Bool} {oco : Option Bool} {odd : Option Addr} {oma omb omc omd ome : Option Value} {oid : String} {rest : List Value}
    {C0 : Addr} {q_0 : Str} {N0 : Addr} {bs0 sb0 : List Value} {sn0 : List Str} {ab0 : Bool} {co0 : Option Bool} {dd0 : Option Addr} {m0a m0b m0c m0d m0e : Option Value}
    {C1 : Addr} {q_1 : Str} {N1 : Addr} {bs1 sb1 : List Value} {sn1 : List Str} {ab1 : Bool} {co1 : Option Bool} {dd1 : Option Addr} {m1a m1b m1c m1d m1e : Option Value}
    {g1 : Addr} {goc1 gkV1 gdc1 gpm1 gcd1 gct1 : Value} {god1 gan1 : Option Addr} {gsl1 : Array (Option Value)}
    {C2 : Addr} {q_2 : Str} {N2 : Addr} {bs2 sb2 : List Value} {sn2 : List Str} {ab2 : Bool} {co2 : Option Bool} {dd2 : Option Addr} {m2a m2b m2c m2d m2e : Option Value}
    {g2 : Addr} {goc2 gkV2 gdc2 gpm2 gcd2 gct2 : Value} {god2 gan2 : Option Addr} {gsl2 : Array (Option Value)}
    {tk_MOST_DIGITS tk_MOST_PLACES tk_MOST_TIES : Tok}
    (a0 : PySem.W.nsIn K mainGlobals "is_integer" = some (some (.ref f0)))
    (l0 : K.lookup f0 = some ⟨oc0, od0, .func (PySem.W.fnOf "is_integer" "is_integer" (defArgs s_is_integer) (defBody s_is_integer) (defScope s_is_integer) .none kV0 dc0 pm0 an0 cd0 ct0), sl0⟩)
    (c0 : PySem.W.codeIn K cd0 "is_integer" = true)
    (k0 : PySem.W.keepIn K (.ref f0) = true)
    (a1 : PySem.W.nsIn K mainGlobals "is_within" = some (some (.ref f1)))
    (l1 : K.lookup f1 = some ⟨oc1, od1, .func (PySem.W.fnOf "is_within" "is_within" (defArgs s_is_within) (defBody s_is_within) (defScope s_is_within) .none kV1 dc1 pm1 an1 cd1 ct1), sl1⟩)
    (c1 : PySem.W.codeIn K cd1 "is_within" = true)
    (k1 : PySem.W.keepIn K (.ref f1) = true)
    (a2 : PySem.W.nsIn K mainGlobals "are_integers" = some (some (.ref f2)))
    (l2 : K.lookup f2 = some ⟨oc2, od2, .func (PySem.W.fnOf "are_integers" "are_integers" (defArgs s_are_integers) (defBody s_are_integers) (defScope s_are_integers) .none kV2 dc2 pm2 an2 cd2 ct2), sl2⟩)
    (c2 : PySem.W.codeIn K cd2 "are_integers" = true)
    (k2 : PySem.W.keepIn K (.ref f2) = true)
    (a3 : PySem.W.nsIn K mainGlobals "own_names" = some (some (.ref f3)))
    (l3 : K.lookup f3 = some ⟨oc3, od3, .func (PySem.W.fnOf "own_names" "own_names" (defArgs s_own_names) (defBody s_own_names) (defScope s_own_names) .none kV3 dc3 pm3 an3 cd3 ct3), sl3⟩)
    (c3 : PySem.W.codeIn K cd3 "own_names" = true)
    (k3 : PySem.W.keepIn K (.ref f3) = true)
    (a4 : PySem.W.nsIn K mainGlobals "joined" = some (some (.ref f4)))
    (l4 : K.lookup f4 = some ⟨oc4, od4, .func (PySem.W.fnOf "joined" "joined" (defArgs s_joined) (defBody s_joined) (defScope s_joined) .none kV4 dc4 pm4 an4 cd4 ct4), sl4⟩)
    (c4 : PySem.W.codeIn K cd4 "joined" = true)
    (k4 : PySem.W.keepIn K (.ref f4) = true)
    (a5 : PySem.W.nsIn K mainGlobals "names_of" = some (some (.ref f5)))
    (l5 : K.lookup f5 = some ⟨oc5, od5, .func (PySem.W.fnOf "names_of" "names_of" (defArgs s_names_of) (defBody s_names_of) (defScope s_names_of) .none kV5 dc5 pm5 an5 cd5 ct5), sl5⟩)
    (c5 : PySem.W.codeIn K cd5 "names_of" = true)
    (k5 : PySem.W.keepIn K (.ref f5) = true)
    (a6 : PySem.W.nsIn K mainGlobals "fixed" = some (some (.ref f6)))
    (l6 : K.lookup f6 = some ⟨oc6, od6, .func (PySem.W.fnOf "fixed" "fixed" (defArgs s_fixed) (defBody s_fixed) (defScope s_fixed) .none kV6 dc6 pm6 an6 cd6 ct6), sl6⟩)
    (c6 : PySem.W.codeIn K cd6 "fixed" = true)
    (k6 : PySem.W.keepIn K (.ref f6) = true)
    (a7 : PySem.W.nsIn K mainGlobals "items_of" = some (some (.ref f7)))
    (l7 : K.lookup f7 = some ⟨oc7, od7, .func (PySem.W.fnOf "items_of" "items_of" (defArgs s_items_of) (defBody s_items_of) (defScope s_items_of) .none kV7 dc7 pm7 an7 cd7 ct7), sl7⟩)
    (c7 : PySem.W.codeIn K cd7 "items_of" = true)
    (k7 : PySem.W.keepIn K (.ref f7) = true)
    (a8 : PySem.W.nsIn K mainGlobals "number_of" = some (some (.ref f8)))
    (l8 : K.lookup f8 = some ⟨oc8, od8, .func (PySem.W.fnOf "number_of" "number_of" (defArgs s_number_of) (defBody s_number_of) (defScope s_number_of) .none kV8 dc8 pm8 an8 cd8 ct8), sl8⟩)
    (c8 : PySem.W.codeIn K cd8 "number_of" = true)
    (k8 : PySem.W.keepIn K (.ref f8) = true)
    (a9 : PySem.W.nsIn K mainGlobals "item_at" = some (some (.ref f9)))
    (l9 : K.lookup f9 = some ⟨oc9, od9, .func (PySem.W.fnOf "item_at" "item_at" (defArgs s_item_at) (defBody s_item_at) (defScope s_item_at) .none kV9 dc9 pm9 an9 cd9 ct9), sl9⟩)
    (c9 : PySem.W.codeIn K cd9 "item_at" = true)
    (k9 : PySem.W.keepIn K (.ref f9) = true)
    (a10 : PySem.W.nsIn K mainGlobals "number_at" = some (some (.ref f10)))
    (l10 : K.lookup f10 = some ⟨oc10, od10, .func (PySem.W.fnOf "number_at" "number_at" (defArgs s_number_at) (defBody s_number_at) (defScope s_number_at) .none kV10 dc10 pm10 an10 cd10 ct10), sl10⟩)
    (c10 : PySem.W.codeIn K cd10 "number_at" = true)
    (k10 : PySem.W.keepIn K (.ref f10) = true)
    (a11 : PySem.W.nsIn K mainGlobals "read_colon" = some (some (.ref f11)))
    (l11 : K.lookup f11 = some ⟨oc11, od11, .func (PySem.W.fnOf "read_colon" "read_colon" (defArgs s_read_colon) (defBody s_read_colon) (defScope s_read_colon) .none kV11 dc11 pm11 an11 cd11 ct11), sl11⟩)
    (c11 : PySem.W.codeIn K cd11 "read_colon" = true)
    (k11 : PySem.W.keepIn K (.ref f11) = true)
    (a12 : PySem.W.nsIn K mainGlobals "read_end" = some (some (.ref f12)))
    (l12 : K.lookup f12 = some ⟨oc12, od12, .func (PySem.W.fnOf "read_end" "read_end" (defArgs s_read_end) (defBody s_read_end) (defScope s_read_end) .none kV12 dc12 pm12 an12 cd12 ct12), sl12⟩)
    (c12 : PySem.W.codeIn K cd12 "read_end" = true)
    (k12 : PySem.W.keepIn K (.ref f12) = true)
    (a13 : PySem.W.nsIn K mainGlobals "are_ties" = some (some (.ref f13)))
    (l13 : K.lookup f13 = some ⟨oc13, od13, .func (PySem.W.fnOf "are_ties" "are_ties" (defArgs s_are_ties) (defBody s_are_ties) (defScope s_are_ties) .none kV13 dc13 pm13 an13 cd13 ct13), sl13⟩)
    (c13 : PySem.W.codeIn K cd13 "are_ties" = true)
    (k13 : PySem.W.keepIn K (.ref f13) = true)
    (a14 : PySem.W.nsIn K mainGlobals "is_pair" = some (some (.ref f14)))
    (l14 : K.lookup f14 = some ⟨oc14, od14, .func (PySem.W.fnOf "is_pair" "is_pair" (defArgs s_is_pair) (defBody s_is_pair) (defScope s_is_pair) .none kV14 dc14 pm14 an14 cd14 ct14), sl14⟩)
    (c14 : PySem.W.codeIn K cd14 "is_pair" = true)
    (k14 : PySem.W.keepIn K (.ref f14) = true)
    (a15 : PySem.W.nsIn K mainGlobals "hang_together" = some (some (.ref f15)))
    (l15 : K.lookup f15 = some ⟨oc15, od15, .func (PySem.W.fnOf "hang_together" "hang_together" (defArgs s_hang_together) (defBody s_hang_together) (defScope s_hang_together) .none kV15 dc15 pm15 an15 cd15 ct15), sl15⟩)
    (c15 : PySem.W.codeIn K cd15 "hang_together" = true)
    (k15 : PySem.W.keepIn K (.ref f15) = true)
    (a16 : PySem.W.nsIn K mainGlobals "need_web" = some (some (.ref f16)))
    (l16 : K.lookup f16 = some ⟨oc16, od16, .func (PySem.W.fnOf "need_web" "need_web" (defArgs s_need_web) (defBody s_need_web) (defScope s_need_web) .none kV16 dc16 pm16 an16 cd16 ct16), sl16⟩)
    (c16 : PySem.W.codeIn K cd16 "need_web" = true)
    (k16 : PySem.W.keepIn K (.ref f16) = true)
    (a17 : PySem.W.nsIn K mainGlobals "bridges" = some (some (.ref f17)))
    (l17 : K.lookup f17 = some ⟨oc17, od17, .func (PySem.W.fnOf "bridges" "bridges" (defArgs s_bridges) (defBody s_bridges) (defScope s_bridges) .none kV17 dc17 pm17 an17 cd17 ct17), sl17⟩)
    (c17 : PySem.W.codeIn K cd17 "bridges" = true)
    (k17 : PySem.W.keepIn K (.ref f17) = true)
    (a18 : PySem.W.nsIn K mainGlobals "is_bridge" = some (some (.ref f18)))
    (l18 : K.lookup f18 = some ⟨oc18, od18, .func (PySem.W.fnOf "is_bridge" "is_bridge" (defArgs s_is_bridge) (defBody s_is_bridge) (defScope s_is_bridge) .none kV18 dc18 pm18 an18 cd18 ct18), sl18⟩)
    (c18 : PySem.W.codeIn K cd18 "is_bridge" = true)
    (k18 : PySem.W.keepIn K (.ref f18) = true)
    (a19 : PySem.W.nsIn K mainGlobals "_law_loom" = some (some (.ref f19)))
    (l19 : K.lookup f19 = some ⟨oc19, od19, .func (PySem.W.fnOf "_law_loom" "_law_loom" (defArgs s__law_loom) (defBody s__law_loom) (defScope s__law_loom) .none kV19 dc19 pm19 an19 cd19 ct19), sl19⟩)
    (c19 : PySem.W.codeIn K cd19 "_law_loom" = true)
    (k19 : PySem.W.keepIn K (.ref f19) = true)
    (a20 : PySem.W.nsIn K mainGlobals "_law_thread" = some (some (.ref f20)))
    (l20 : K.lookup f20 = some ⟨oc20, od20, .func (PySem.W.fnOf "_law_thread" "_law_thread" (defArgs s__law_thread) (defBody s__law_thread) (defScope s__law_thread) .none kV20 dc20 pm20 an20 cd20 ct20), sl20⟩)
    (c20 : PySem.W.codeIn K cd20 "_law_thread" = true)
    (k20 : PySem.W.keepIn K (.ref f20) = true)
    (a21 : PySem.W.nsIn K mainGlobals "_law_choice" = some (some (.ref f21)))
    (l21 : K.lookup f21 = some ⟨oc21, od21, .func (PySem.W.fnOf "_law_choice" "_law_choice" (defArgs s__law_choice) (defBody s__law_choice) (defScope s__law_choice) .none kV21 dc21 pm21 an21 cd21 ct21), sl21⟩)
    (c21 : PySem.W.codeIn K cd21 "_law_choice" = true)
    (k21 : PySem.W.keepIn K (.ref f21) = true)
    (a22 : PySem.W.nsIn K mainGlobals "_law_web" = some (some (.ref f22)))
    (l22 : K.lookup f22 = some ⟨oc22, od22, .func (PySem.W.fnOf "_law_web" "_law_web" (defArgs s__law_web) (defBody s__law_web) (defScope s__law_web) .none kV22 dc22 pm22 an22 cd22 ct22), sl22⟩)
    (c22 : PySem.W.codeIn K cd22 "_law_web" = true)
    (k22 : PySem.W.keepIn K (.ref f22) = true)
    (a23 : PySem.W.nsIn K mainGlobals "_law_joined" = some (some (.ref f23)))
    (l23 : K.lookup f23 = some ⟨oc23, od23, .func (PySem.W.fnOf "_law_joined" "_law_joined" (defArgs s__law_joined) (defBody s__law_joined) (defScope s__law_joined) .none kV23 dc23 pm23 an23 cd23 ct23), sl23⟩)
    (c23 : PySem.W.codeIn K cd23 "_law_joined" = true)
    (k23 : PySem.W.keepIn K (.ref f23) = true)
    (a24 : PySem.W.nsIn K mainGlobals "_law_part" = some (some (.ref f24)))
    (l24 : K.lookup f24 = some ⟨oc24, od24, .func (PySem.W.fnOf "_law_part" "_law_part" (defArgs s__law_part) (defBody s__law_part) (defScope s__law_part) .none kV24 dc24 pm24 an24 cd24 ct24), sl24⟩)
    (c24 : PySem.W.codeIn K cd24 "_law_part" = true)
    (k24 : PySem.W.keepIn K (.ref f24) = true)
    (a25 : PySem.W.nsIn K mainGlobals "_law_kept_right" = some (some (.ref f25)))
    (l25 : K.lookup f25 = some ⟨oc25, od25, .func (PySem.W.fnOf "_law_kept_right" "_law_kept_right" (defArgs s__law_kept_right) (defBody s__law_kept_right) (defScope s__law_kept_right) .none kV25 dc25 pm25 an25 cd25 ct25), sl25⟩)
    (c25 : PySem.W.codeIn K cd25 "_law_kept_right" = true)
    (k25 : PySem.W.keepIn K (.ref f25) = true)
    (a26 : PySem.W.nsIn K mainGlobals "_law_equal_right" = some (some (.ref f26)))
    (l26 : K.lookup f26 = some ⟨oc26, od26, .func (PySem.W.fnOf "_law_equal_right" "_law_equal_right" (defArgs s__law_equal_right) (defBody s__law_equal_right) (defScope s__law_equal_right) .none kV26 dc26 pm26 an26 cd26 ct26), sl26⟩)
    (c26 : PySem.W.codeIn K cd26 "_law_equal_right" = true)
    (k26 : PySem.W.keepIn K (.ref f26) = true)
    (a27 : PySem.W.nsIn K mainGlobals "_law_bridges_right" = some (some (.ref f27)))
    (l27 : K.lookup f27 = some ⟨oc27, od27, .func (PySem.W.fnOf "_law_bridges_right" "_law_bridges_right" (defArgs s__law_bridges_right) (defBody s__law_bridges_right) (defScope s__law_bridges_right) .none kV27 dc27 pm27 an27 (.ref kk27) ct27), sl27⟩)
    (c27 : PySem.W.codeIn K (.ref kk27) "_law_bridges_right" = true)
    (k27 : PySem.W.keepIn K (.ref f27) = true)
    (a28 : PySem.W.nsIn K mainGlobals "law" = some (some (.ref f28)))
    (l28 : K.lookup f28 = some ⟨oc28, od28, .func (PySem.W.fnOf "law" "law" (defArgs s_law) (defBody s_law) (defScope s_law) .none kV28 dc28 pm28 an28 (.ref kk28) ct28), sl28⟩)
    (c28 : PySem.W.codeIn K (.ref kk28) "law" = true)
    (k28 : PySem.W.keepIn K (.ref f28) = true)
    (kl27 : K.lookup kk27 = some ⟨ko27, kod27, .fields kvs27, ksl27⟩)
    (kv27 : kvs27[11]? = some (.ref kp27))
    (kt27 : PySem.W.tabIn K "_law_bridges_right" = some (kk27, kp27))
    (kn27 : K.lookup kp27 = none)
    (kr27 : (recsOf q).find? (fun e => e.name == ("_law_bridges_right" : Str)) = some ke27)
    (kl28 : K.lookup kk28 = some ⟨ko28, kod28, .fields kvs28, ksl28⟩)
    (kv28 : kvs28[11]? = some (.ref kp28))
    (kt28 : PySem.W.tabIn K "law" = some (kk28, kp28))
    (kn28 : K.lookup kp28 = none)
    (kr28 : (recsOf q).find? (fun e => e.name == ("law" : Str)) = some ke28)
    (kne : kp27 ≠ kp28)
    (oa : PySem.W.nsIn K mainGlobals "Web" = some (some (.ref CO)))
    (ol : K.lookup CO = some (excClassObj "Web" oq CO oN obs [.type "object"] ohd osn osb oab oco odd oma omb omc omd ome oid))
    (omk : PySem.W.makesIn K CO = true)
    (uf0 : PySem.W.findIn K (.ref CO) "__init__" = some (some (.ref u0)))
    (ul0 : K.lookup u0 = some ⟨uoc0, uod0, .func (PySem.W.fnOf "__init__" "Web.__init__" (defArgs s_Web___init__) (defBody s_Web___init__) (defScope s_Web___init__) .none ukV0 udc0 upm0 uan0 ucd0 uct0), usl0⟩)
    (uc0 : PySem.W.codeIn K ucd0 "Web.__init__" = true)
    (uk0 : PySem.W.keepIn K (.ref u0) = true)
    (ufn0 : PySem.W.isFn K (.ref u0) = true)
    (uf1 : PySem.W.findIn K (.ref CO) "__eq__" = some (some (.ref u1)))
    (ul1 : K.lookup u1 = some ⟨uoc1, uod1, .func (PySem.W.fnOf "__eq__" "Web.__eq__" (defArgs s_Web___eq__) (defBody s_Web___eq__) (defScope s_Web___eq__) .none ukV1 udc1 upm1 uan1 ucd1 uct1), usl1⟩)
    (uc1 : PySem.W.codeIn K ucd1 "Web.__eq__" = true)
    (uk1 : PySem.W.keepIn K (.ref u1) = true)
    (ufn1 : PySem.W.isFn K (.ref u1) = true)
    (uf2 : PySem.W.findIn K (.ref CO) "__str__" = some (some (.ref u2)))
    (ul2 : K.lookup u2 = some ⟨uoc2, uod2, .func (PySem.W.fnOf "__str__" "Web.__str__" (defArgs s_Web___str__) (defBody s_Web___str__) (defScope s_Web___str__) .none ukV2 udc2 upm2 uan2 ucd2 uct2), usl2⟩)
    (uc2 : PySem.W.codeIn K ucd2 "Web.__str__" = true)
    (uk2 : PySem.W.keepIn K (.ref u2) = true)
    (ufn2 : PySem.W.isFn K (.ref u2) = true)
    (srd : PySem.W.readsIn K CO (.type "type") = true)
    (sga : PySem.W.specialIn K (.ref CO) "__getattribute__" = some (some (.builtin "type.__getattribute__")))
    (sat : PySem.W.findCls K (.ref CO) (.type "type") "read" = some (.get (.builtin "staticmethod.__get__") (.ref pR) .none (.ref CO)))
    (src : PySem.W.recIn K pR "staticmethod" = some (.ref u3 :: rest))
    (ul3 : K.lookup u3 = some ⟨uoc3, uod3, .func (PySem.W.fnOf "read" "Web.read" (defArgs s_Web_read) (defBody s_Web_read) (defScope s_Web_read) .none ukV3 udc3 upm3 uan3 ucd3 uct3), usl3⟩)
    (uc3 : PySem.W.codeIn K ucd3 "Web.read" = true)
    (uk3 : PySem.W.keepIn K (.ref u3) = true)
    (okp : PySem.W.keepIn K (.ref CO) = true)
    (opg : PySem.W.plainGet K CO Str.empty = true)
    (ohd_ : PySem.W.hasDictIn K CO = true)
    (opo : PySem.W.plainOver K CO = true)
    (osa : PySem.W.findIn K (.ref CO) "__setattr__" = some (some (.builtin "object.__setattr__")))
    (oca : PySem.W.findIn K (.ref CO) "__class__" = some (some (.builtin "object.__class__")))
    (ocm : PySem.W.mroIn K CO (.type "object") = some true)
    (on_places : PySem.W.findIn K (.ref CO) "places" = some none)
    (on_ties : PySem.W.findIn K (.ref CO) "ties" = some none)
    (one : PySem.W.findIn K (.ref CO) "__ne__" = some (some (.builtin "object.__ne__")))
    (onl : PySem.W.notFirst K CO (.type "list") = true)
    (ont : PySem.W.notFirst K CO (.type "tuple") = true)
    (ozl : PySem.W.kitOne K (.type "list") (.ref CO) = some false)
    (ozt : PySem.W.kitOne K (.type "tuple") (.ref CO) = some false)
    (hcn : PySem.W.specialIn K (.builtin "object.__class__") "__get__" = some (some (.builtin "getset_descriptor.__get__")))
    (hct : PySem.W.takesIn K (.builtin "object.__class__") = some true)
    (xa0 : PySem.W.nsIn K mainGlobals "NetError" = some (some (.ref C0)))
    (xl0 : K.lookup C0 = some (excClassObj "NetError" q_0 C0 N0 bs0 [.type "ValueError", .type "Exception", .type "BaseException", .type "object"] true sn0 sb0 ab0 co0 dd0 m0a m0b m0c m0d m0e "ValueError.__new__"))
    (xa1 : PySem.W.nsIn K mainGlobals "BadWeb" = some (some (.ref C1)))
    (xl1 : K.lookup C1 = some (excClassObj "BadWeb" q_1 C1 N1 bs1 [.ref C0, .type "ValueError", .type "Exception", .type "BaseException", .type "object"] true sn1 sb1 ab1 co1 dd1 m1a m1b m1c m1d m1e "ValueError.__new__"))
    (xs1 : PySem.W.findIn K (.ref C1) "__setattr__" = some (some (.builtin "object.__setattr__")))
    (xg1 : PySem.W.findIn K (.ref C1) "__getattribute__" = some (some (.builtin "BaseException.__getattribute__")))
    (xh1 : PySem.W.findIn K (.ref C1) "__getattr__" = some none)
    (xc1 : PySem.W.findIn K (.ref C1) "__class__" = some (some (.builtin "object.__class__")))
    (xi1 : PySem.W.findIn K (.ref C1) "__init__" = some (some (.ref g1)))
    (xt1 : PySem.W.typeIn K (.ref g1) = some (.type "function"))
    (xk1 : PySem.W.keepIn K (.ref C1) = true)
    (xn1_0 : PySem.W.findIn K (.ref C1) "part" = some none)
    (gl1 : K.lookup g1 = some ⟨goc1, god1, .func (PySem.W.fnOf "__init__" "BadWeb.__init__" (defArgs s_init_BadWeb) (defBody s_init_BadWeb) (defScope s_init_BadWeb) .none gkV1 gdc1 gpm1 gan1 gcd1 gct1), gsl1⟩)
    (gc1 : PySem.W.codeIn K gcd1 "BadWeb.__init__" = true)
    (gk1 : PySem.W.keepIn K (.ref g1) = true)
    (xa2 : PySem.W.nsIn K mainGlobals "BadText" = some (some (.ref C2)))
    (xl2 : K.lookup C2 = some (excClassObj "BadText" q_2 C2 N2 bs2 [.ref C0, .type "ValueError", .type "Exception", .type "BaseException", .type "object"] true sn2 sb2 ab2 co2 dd2 m2a m2b m2c m2d m2e "ValueError.__new__"))
    (xs2 : PySem.W.findIn K (.ref C2) "__setattr__" = some (some (.builtin "object.__setattr__")))
    (xg2 : PySem.W.findIn K (.ref C2) "__getattribute__" = some (some (.builtin "BaseException.__getattribute__")))
    (xh2 : PySem.W.findIn K (.ref C2) "__getattr__" = some none)
    (xc2 : PySem.W.findIn K (.ref C2) "__class__" = some (some (.builtin "object.__class__")))
    (xi2 : PySem.W.findIn K (.ref C2) "__init__" = some (some (.ref g2)))
    (xt2 : PySem.W.typeIn K (.ref g2) = some (.type "function"))
    (xk2 : PySem.W.keepIn K (.ref C2) = true)
    (xn2_0 : PySem.W.findIn K (.ref C2) "line" = some none)
    (xn2_1 : PySem.W.findIn K (.ref C2) "item" = some none)
    (gl2 : K.lookup g2 = some ⟨goc2, god2, .func (PySem.W.fnOf "__init__" "BadText.__init__" (defArgs s_init_BadText) (defBody s_init_BadText) (defScope s_init_BadText) .none gkV2 gdc2 gpm2 gan2 gcd2 gct2), gsl2⟩)
    (gc2 : PySem.W.codeIn K gcd2 "BadText.__init__" = true)
    (gk2 : PySem.W.keepIn K (.ref g2) = true)
    (e1 : PySem.W.subIn K (.ref C0) (.type "BaseException") = some true)
    (e2 : PySem.W.hasDictIn K C0 = true)
    (e3 : PySem.W.typeIn K (.ref C0) = some (.type "type"))
    (e4 : PySem.W.subIn K (.ref C1) (.ref C0) = some true)
    (mc_MOST_DIGITS : PySem.W.nsIn K mainGlobals "MOST_DIGITS" = some (some (.int 60 tk_MOST_DIGITS)))
    (mc_MOST_PLACES : PySem.W.nsIn K mainGlobals "MOST_PLACES" = some (some (.int 13 tk_MOST_PLACES)))
    (mc_MOST_TIES : PySem.W.nsIn K mainGlobals "MOST_TIES" = some (some (.int 12 tk_MOST_TIES)))
    (z0 : PySem.W.nsIn K mainGlobals "abs" = some none)
    (z1 : PySem.W.nsIn K mainGlobals "all" = some none)
    (z2 : PySem.W.nsIn K mainGlobals "any" = some none)
    (z3 : PySem.W.nsIn K mainGlobals "bool" = some none)
    (z4 : PySem.W.nsIn K mainGlobals "int" = some none)
    (z5 : PySem.W.nsIn K mainGlobals "isinstance" = some none)
    (z6 : PySem.W.nsIn K mainGlobals "len" = some none)
    (z7 : PySem.W.nsIn K mainGlobals "list" = some none)
    (z8 : PySem.W.nsIn K mainGlobals "max" = some none)
    (z9 : PySem.W.nsIn K mainGlobals "min" = some none)
    (z10 : PySem.W.nsIn K mainGlobals "range" = some none)
    (z11 : PySem.W.nsIn K mainGlobals "repr" = some none)
    (z12 : PySem.W.nsIn K mainGlobals "str" = some none)
    (z13 : PySem.W.nsIn K mainGlobals "tuple" = some none)
    (z14 : PySem.W.nsIn K mainGlobals "type" = some none)
    (z15 : PySem.W.nsIn K mainGlobals "zip" = some none)
    : LawAtG l w K CX0 10 63 "script" mg fa h := by
  have e := hfa.symm.trans (PySem.W.mg_of X GN a28)
  cases e
  have F0 := fun_mk (st := s_is_integer) l0 c0 k0
  have b0 := F0.binds (ps := P_is_integer) fun _ _ _ _ _ _ us hl => match us, hl with | [_], _ => rfl
  have F1 := fun_mk (st := s_is_within) l1 c1 k1
  have b1 := F1.binds (ps := P_is_within) fun _ _ _ _ _ _ us hl => match us, hl with | [_, _, _], _ => rfl
  have F2 := fun_mk (st := s_are_integers) l2 c2 k2
  have b2 := F2.binds (ps := P_are_integers) fun _ _ _ _ _ _ us hl => match us, hl with | [_], _ => rfl
  have F3 := fun_mk (st := s_own_names) l3 c3 k3
  have b3 := F3.binds (ps := P_own_names) fun _ _ _ _ _ _ us hl => match us, hl with | [_], _ => rfl
  have F4 := fun_mk (st := s_joined) l4 c4 k4
  have b4 := F4.binds (ps := P_joined) fun _ _ _ _ _ _ us hl => match us, hl with | [_, _, _], _ => rfl
  have F5 := fun_mk (st := s_names_of) l5 c5 k5
  have b5 := F5.binds (ps := P_names_of) fun _ _ _ _ _ _ us hl => match us, hl with | [_, _], _ => rfl
  have F6 := fun_mk (st := s_fixed) l6 c6 k6
  have b6 := F6.binds (ps := P_fixed) fun _ _ _ _ _ _ us hl => match us, hl with | [_], _ => rfl
  have F7 := fun_mk (st := s_items_of) l7 c7 k7
  have b7 := F7.binds (ps := P_items_of) fun _ _ _ _ _ _ us hl => match us, hl with | [_], _ => rfl
  have F8 := fun_mk (st := s_number_of) l8 c8 k8
  have b8 := F8.binds (ps := P_number_of) fun _ _ _ _ _ _ us hl => match us, hl with | [_], _ => rfl
  have F9 := fun_mk (st := s_item_at) l9 c9 k9
  have b9 := F9.binds (ps := P_item_at) fun _ _ _ _ _ _ us hl => match us, hl with | [_, _], _ => rfl
  have F10 := fun_mk (st := s_number_at) l10 c10 k10
  have b10 := F10.binds (ps := P_number_at) fun _ _ _ _ _ _ us hl => match us, hl with | [_, _, _, _], _ => rfl
  have F11 := fun_mk (st := s_read_colon) l11 c11 k11
  have b11 := F11.binds (ps := P_read_colon) fun _ _ _ _ _ _ us hl => match us, hl with | [_, _], _ => rfl
  have F12 := fun_mk (st := s_read_end) l12 c12 k12
  have b12 := F12.binds (ps := P_read_end) fun _ _ _ _ _ _ us hl => match us, hl with | [_, _], _ => rfl
  have F13 := fun_mk (st := s_are_ties) l13 c13 k13
  have b13 := F13.binds (ps := P_are_ties) fun _ _ _ _ _ _ us hl => match us, hl with | [_, _], _ => rfl
  have F14 := fun_mk (st := s_is_pair) l14 c14 k14
  have b14 := F14.binds (ps := P_is_pair) fun _ _ _ _ _ _ us hl => match us, hl with | [_, _], _ => rfl
  have F15 := fun_mk (st := s_hang_together) l15 c15 k15
  have b15 := F15.binds (ps := P_hang_together) fun _ _ _ _ _ _ us hl => match us, hl with | [_, _], _ => rfl
  have F16 := fun_mk (st := s_need_web) l16 c16 k16
  have b16 := F16.binds (ps := P_need_web) fun _ _ _ _ _ _ us hl => match us, hl with | [_, _], _ => rfl
  have F17 := fun_mk (st := s_bridges) l17 c17 k17
  have b17 := F17.binds (ps := P_bridges) fun _ _ _ _ _ _ us hl => match us, hl with | [_], _ => rfl
  have F18 := fun_mk (st := s_is_bridge) l18 c18 k18
  have b18 := F18.binds (ps := P_is_bridge) fun _ _ _ _ _ _ us hl => match us, hl with | [_, _], _ => rfl
  have F19 := fun_mk (st := s__law_loom) l19 c19 k19
  have b19 := F19.binds (ps := P__law_loom) fun _ _ _ _ _ _ us hl => match us, hl with | [_], _ => rfl
  have F20 := fun_mk (st := s__law_thread) l20 c20 k20
  have b20 := F20.binds (ps := P__law_thread) fun _ _ _ _ _ _ us hl => match us, hl with | [_, _], _ => rfl
  have F21 := fun_mk (st := s__law_choice) l21 c21 k21
  have b21 := F21.binds (ps := P__law_choice) fun _ _ _ _ _ _ us hl => match us, hl with | [_, _], _ => rfl
  have F22 := fun_mk (st := s__law_web) l22 c22 k22
  have b22 := F22.binds (ps := P__law_web) fun _ _ _ _ _ _ us hl => match us, hl with | [_], _ => rfl
  have F23 := fun_mk (st := s__law_joined) l23 c23 k23
  have b23 := F23.binds (ps := P__law_joined) fun _ _ _ _ _ _ us hl => match us, hl with | [_, _], _ => rfl
  have F24 := fun_mk (st := s__law_part) l24 c24 k24
  have b24 := F24.binds (ps := P__law_part) fun _ _ _ _ _ _ us hl => match us, hl with | [_], _ => rfl
  have F25 := fun_mk (st := s__law_kept_right) l25 c25 k25
  have b25 := F25.binds (ps := P__law_kept_right) fun _ _ _ _ _ _ us hl => match us, hl with | [_, _, _], _ => rfl
  have F26 := fun_mk (st := s__law_equal_right) l26 c26 k26
  have b26 := F26.binds (ps := P__law_equal_right) fun _ _ _ _ _ _ us hl => match us, hl with | [_, _, _], _ => rfl
  have F27 : FunC K "_law_bridges_right" "_law_bridges_right" s__law_bridges_right f27 (PySem.W.fnOf "_law_bridges_right" "_law_bridges_right" (defArgs s__law_bridges_right) (defBody s__law_bridges_right) (defScope s__law_bridges_right) .none kV27 dc27 pm27 an27 (.ref kk27) ct27) kk27 := ⟨⟨_, _, _, _, _, _, _, _, rfl, l27, c27⟩, k27⟩
  have b27 := F27.fun_.binds (ps := P__law_bridges_right) fun _ _ _ _ _ _ us hl => match us, hl with | [_, _, _], _ => rfl
  have F28 : FunC K "law" "law" s_law fa (PySem.W.fnOf "law" "law" (defArgs s_law) (defBody s_law) (defScope s_law) .none kV28 dc28 pm28 an28 (.ref kk28) ct28) kk28 := ⟨⟨_, _, _, _, _, _, _, _, rfl, l28, c28⟩, k28⟩
  have b28 := F28.fun_.binds (ps := P_law) fun _ _ _ _ _ _ us hl => match us, hl with | [_], _ => rfl
  have UF0 := fun_mk (st := s_Web___init__) ul0 uc0 uk0
  have ub0 := UF0.binds (ps := P_Web___init__) fun _ _ _ _ _ _ us hl => match us, hl with | [_, _, _], _ => rfl
  have UF1 := fun_mk (st := s_Web___eq__) ul1 uc1 uk1
  have ub1 := UF1.binds (ps := P_Web___eq__) fun _ _ _ _ _ _ us hl => match us, hl with | [_, _], _ => rfl
  have UF2 := fun_mk (st := s_Web___str__) ul2 uc2 uk2
  have ub2 := UF2.binds (ps := P_Web___str__) fun _ _ _ _ _ _ us hl => match us, hl with | [_], _ => rfl
  have UF3 := fun_mk (st := s_Web_read) ul3 uc3 uk3
  have ub3 := UF3.binds (ps := P_Web_read) fun _ _ _ _ _ _ us hl => match us, hl with | [_], _ => rfl
  have n0 : Cn K mg C0 "NetError" := ⟨PySem.W.mg_of X GN xa0, _, _, _, _, _, _, _, _, _, _, _, _, _, _, xl0⟩
  have n1 : Cn K mg C1 "BadWeb" := ⟨PySem.W.mg_of X GN xa1, _, _, _, _, _, _, _, _, _, _, _, _, _, _, xl1⟩
  have n2 : Cn K mg C2 "BadText" := ⟨PySem.W.mg_of X GN xa2, _, _, _, _, _, _, _, _, _, _, _, _, _, _, xl2⟩
  have X1 : XT K mg "BadWeb" C1 g1 [C0] ["NetError"] ["part"] := ⟨PySem.W.mg_of X GN xa1, ⟨_, _, _, _, _, _, _, _, _, _, _, _, _, xl1⟩, (.cons n0 .nil), xs1, xg1, xh1, xc1, hcn, hct, xi1, xt1, xk1, fun f hf => by
    rcases List.mem_cons.mp hf with rfl | hf
    · exact xn1_0
    cases hf⟩
  have GF1 := fun_mk (st := s_init_BadWeb) gl1 gc1 gk1
  have gb1 := GF1.binds (ps := P_init_BadWeb) fun _ _ _ _ _ _ us hl => match us, hl with | [_, _], _ => rfl
  have X2 : XT K mg "BadText" C2 g2 [C0] ["NetError"] ["line", "item"] := ⟨PySem.W.mg_of X GN xa2, ⟨_, _, _, _, _, _, _, _, _, _, _, _, _, xl2⟩, (.cons n0 .nil), xs2, xg2, xh2, xc2, hcn, hct, xi2, xt2, xk2, fun f hf => by
    rcases List.mem_cons.mp hf with rfl | hf
    · exact xn2_0
    rcases List.mem_cons.mp hf with rfl | hf
    · exact xn2_1
    cases hf⟩
  have GF2 := fun_mk (st := s_init_BadText) gl2 gc2 gk2
  have gb2 := GF2.binds (ps := P_init_BadText) fun _ _ _ _ _ _ us hl => match us, hl with | [_, _, _], _ => rfl
  let A : Ad := { p_read := pR, k__law_bridges_right := kk27, t__law_bridges_right := kp27, k_law := kk28, t_law := kp28, c_Web := CO, a_is_integer := f0, d_is_integer := (PySem.W.fnOf "is_integer" "is_integer" (defArgs s_is_integer) (defBody s_is_integer) (defScope s_is_integer) .none kV0 dc0 pm0 an0 cd0 ct0), a_is_within := f1, d_is_within := (PySem.W.fnOf "is_within" "is_within" (defArgs s_is_within) (defBody s_is_within) (defScope s_is_within) .none kV1 dc1 pm1 an1 cd1 ct1), a_are_integers := f2, d_are_integers := (PySem.W.fnOf "are_integers" "are_integers" (defArgs s_are_integers) (defBody s_are_integers) (defScope s_are_integers) .none kV2 dc2 pm2 an2 cd2 ct2), a_own_names := f3, d_own_names := (PySem.W.fnOf "own_names" "own_names" (defArgs s_own_names) (defBody s_own_names) (defScope s_own_names) .none kV3 dc3 pm3 an3 cd3 ct3), a_joined := f4, d_joined := (PySem.W.fnOf "joined" "joined" (defArgs s_joined) (defBody s_joined) (defScope s_joined) .none kV4 dc4 pm4 an4 cd4 ct4), a_names_of := f5, d_names_of := (PySem.W.fnOf "names_of" "names_of" (defArgs s_names_of) (defBody s_names_of) (defScope s_names_of) .none kV5 dc5 pm5 an5 cd5 ct5), a_fixed := f6, d_fixed := (PySem.W.fnOf "fixed" "fixed" (defArgs s_fixed) (defBody s_fixed) (defScope s_fixed) .none kV6 dc6 pm6 an6 cd6 ct6), a_items_of := f7, d_items_of := (PySem.W.fnOf "items_of" "items_of" (defArgs s_items_of) (defBody s_items_of) (defScope s_items_of) .none kV7 dc7 pm7 an7 cd7 ct7), a_number_of := f8, d_number_of := (PySem.W.fnOf "number_of" "number_of" (defArgs s_number_of) (defBody s_number_of) (defScope s_number_of) .none kV8 dc8 pm8 an8 cd8 ct8), a_item_at := f9, d_item_at := (PySem.W.fnOf "item_at" "item_at" (defArgs s_item_at) (defBody s_item_at) (defScope s_item_at) .none kV9 dc9 pm9 an9 cd9 ct9), a_number_at := f10, d_number_at := (PySem.W.fnOf "number_at" "number_at" (defArgs s_number_at) (defBody s_number_at) (defScope s_number_at) .none kV10 dc10 pm10 an10 cd10 ct10), a_read_colon := f11, d_read_colon := (PySem.W.fnOf "read_colon" "read_colon" (defArgs s_read_colon) (defBody s_read_colon) (defScope s_read_colon) .none kV11 dc11 pm11 an11 cd11 ct11), a_read_end := f12, d_read_end := (PySem.W.fnOf "read_end" "read_end" (defArgs s_read_end) (defBody s_read_end) (defScope s_read_end) .none kV12 dc12 pm12 an12 cd12 ct12), a_are_ties := f13, d_are_ties := (PySem.W.fnOf "are_ties" "are_ties" (defArgs s_are_ties) (defBody s_are_ties) (defScope s_are_ties) .none kV13 dc13 pm13 an13 cd13 ct13), a_is_pair := f14, d_is_pair := (PySem.W.fnOf "is_pair" "is_pair" (defArgs s_is_pair) (defBody s_is_pair) (defScope s_is_pair) .none kV14 dc14 pm14 an14 cd14 ct14), a_hang_together := f15, d_hang_together := (PySem.W.fnOf "hang_together" "hang_together" (defArgs s_hang_together) (defBody s_hang_together) (defScope s_hang_together) .none kV15 dc15 pm15 an15 cd15 ct15), a_need_web := f16, d_need_web := (PySem.W.fnOf "need_web" "need_web" (defArgs s_need_web) (defBody s_need_web) (defScope s_need_web) .none kV16 dc16 pm16 an16 cd16 ct16), a_bridges := f17, d_bridges := (PySem.W.fnOf "bridges" "bridges" (defArgs s_bridges) (defBody s_bridges) (defScope s_bridges) .none kV17 dc17 pm17 an17 cd17 ct17), a_is_bridge := f18, d_is_bridge := (PySem.W.fnOf "is_bridge" "is_bridge" (defArgs s_is_bridge) (defBody s_is_bridge) (defScope s_is_bridge) .none kV18 dc18 pm18 an18 cd18 ct18), a__law_loom := f19, d__law_loom := (PySem.W.fnOf "_law_loom" "_law_loom" (defArgs s__law_loom) (defBody s__law_loom) (defScope s__law_loom) .none kV19 dc19 pm19 an19 cd19 ct19), a__law_thread := f20, d__law_thread := (PySem.W.fnOf "_law_thread" "_law_thread" (defArgs s__law_thread) (defBody s__law_thread) (defScope s__law_thread) .none kV20 dc20 pm20 an20 cd20 ct20), a__law_choice := f21, d__law_choice := (PySem.W.fnOf "_law_choice" "_law_choice" (defArgs s__law_choice) (defBody s__law_choice) (defScope s__law_choice) .none kV21 dc21 pm21 an21 cd21 ct21), a__law_web := f22, d__law_web := (PySem.W.fnOf "_law_web" "_law_web" (defArgs s__law_web) (defBody s__law_web) (defScope s__law_web) .none kV22 dc22 pm22 an22 cd22 ct22), a__law_joined := f23, d__law_joined := (PySem.W.fnOf "_law_joined" "_law_joined" (defArgs s__law_joined) (defBody s__law_joined) (defScope s__law_joined) .none kV23 dc23 pm23 an23 cd23 ct23), a__law_part := f24, d__law_part := (PySem.W.fnOf "_law_part" "_law_part" (defArgs s__law_part) (defBody s__law_part) (defScope s__law_part) .none kV24 dc24 pm24 an24 cd24 ct24), a__law_kept_right := f25, d__law_kept_right := (PySem.W.fnOf "_law_kept_right" "_law_kept_right" (defArgs s__law_kept_right) (defBody s__law_kept_right) (defScope s__law_kept_right) .none kV25 dc25 pm25 an25 cd25 ct25), a__law_equal_right := f26, d__law_equal_right := (PySem.W.fnOf "_law_equal_right" "_law_equal_right" (defArgs s__law_equal_right) (defBody s__law_equal_right) (defScope s__law_equal_right) .none kV26 dc26 pm26 an26 cd26 ct26), a__law_bridges_right := f27, d__law_bridges_right := (PySem.W.fnOf "_law_bridges_right" "_law_bridges_right" (defArgs s__law_bridges_right) (defBody s__law_bridges_right) (defScope s__law_bridges_right) .none kV27 dc27 pm27 an27 (.ref kk27) ct27), a_law := fa, d_law := (PySem.W.fnOf "law" "law" (defArgs s_law) (defBody s_law) (defScope s_law) .none kV28 dc28 pm28 an28 (.ref kk28) ct28), a_Web___init__ := u0, d_Web___init__ := (PySem.W.fnOf "__init__" "Web.__init__" (defArgs s_Web___init__) (defBody s_Web___init__) (defScope s_Web___init__) .none ukV0 udc0 upm0 uan0 ucd0 uct0), a_Web___eq__ := u1, d_Web___eq__ := (PySem.W.fnOf "__eq__" "Web.__eq__" (defArgs s_Web___eq__) (defBody s_Web___eq__) (defScope s_Web___eq__) .none ukV1 udc1 upm1 uan1 ucd1 uct1), a_Web___str__ := u2, d_Web___str__ := (PySem.W.fnOf "__str__" "Web.__str__" (defArgs s_Web___str__) (defBody s_Web___str__) (defScope s_Web___str__) .none ukV2 udc2 upm2 uan2 ucd2 uct2), a_Web_read := u3, d_Web_read := (PySem.W.fnOf "read" "Web.read" (defArgs s_Web_read) (defBody s_Web_read) (defScope s_Web_read) .none ukV3 udc3 upm3 uan3 ucd3 uct3), c_NetError := C0, c_BadWeb := C1, c_BadText := C2, i_BadWeb := g1, d_init_BadWeb := (PySem.W.fnOf "__init__" "BadWeb.__init__" (defArgs s_init_BadWeb) (defBody s_init_BadWeb) (defScope s_init_BadWeb) .none gkV1 gdc1 gpm1 gan1 gcd1 gct1), i_BadText := g2, d_init_BadText := (PySem.W.fnOf "__init__" "BadText.__init__" (defArgs s_init_BadText) (defBody s_init_BadText) (defScope s_init_BadText) .none gkV2 gdc2 gpm2 gan2 gcd2 gct2), t_MOST_DIGITS := tk_MOST_DIGITS, t_MOST_PLACES := tk_MOST_PLACES, t_MOST_TIES := tk_MOST_TIES }
  have T : Txt l.prog K mg A := { g_is_integer := PySem.W.mg_of X GN a0, F_is_integer := F0, b_is_integer := b0, g_is_within := PySem.W.mg_of X GN a1, F_is_within := F1, b_is_within := b1, g_are_integers := PySem.W.mg_of X GN a2, F_are_integers := F2, b_are_integers := b2, g_own_names := PySem.W.mg_of X GN a3, F_own_names := F3, b_own_names := b3, g_joined := PySem.W.mg_of X GN a4, F_joined := F4, b_joined := b4, g_names_of := PySem.W.mg_of X GN a5, F_names_of := F5, b_names_of := b5, g_fixed := PySem.W.mg_of X GN a6, F_fixed := F6, b_fixed := b6, g_items_of := PySem.W.mg_of X GN a7, F_items_of := F7, b_items_of := b7, g_number_of := PySem.W.mg_of X GN a8, F_number_of := F8, b_number_of := b8, g_item_at := PySem.W.mg_of X GN a9, F_item_at := F9, b_item_at := b9, g_number_at := PySem.W.mg_of X GN a10, F_number_at := F10, b_number_at := b10, g_read_colon := PySem.W.mg_of X GN a11, F_read_colon := F11, b_read_colon := b11, g_read_end := PySem.W.mg_of X GN a12, F_read_end := F12, b_read_end := b12, g_are_ties := PySem.W.mg_of X GN a13, F_are_ties := F13, b_are_ties := b13, g_is_pair := PySem.W.mg_of X GN a14, F_is_pair := F14, b_is_pair := b14, g_hang_together := PySem.W.mg_of X GN a15, F_hang_together := F15, b_hang_together := b15, g_need_web := PySem.W.mg_of X GN a16, F_need_web := F16, b_need_web := b16, g_bridges := PySem.W.mg_of X GN a17, F_bridges := F17, b_bridges := b17, g_is_bridge := PySem.W.mg_of X GN a18, F_is_bridge := F18, b_is_bridge := b18, g__law_loom := PySem.W.mg_of X GN a19, F__law_loom := F19, b__law_loom := b19, g__law_thread := PySem.W.mg_of X GN a20, F__law_thread := F20, b__law_thread := b20, g__law_choice := PySem.W.mg_of X GN a21, F__law_choice := F21, b__law_choice := b21, g__law_web := PySem.W.mg_of X GN a22, F__law_web := F22, b__law_web := b22, g__law_joined := PySem.W.mg_of X GN a23, F__law_joined := F23, b__law_joined := b23, g__law_part := PySem.W.mg_of X GN a24, F__law_part := F24, b__law_part := b24, g__law_kept_right := PySem.W.mg_of X GN a25, F__law_kept_right := F25, b__law_kept_right := b25, g__law_equal_right := PySem.W.mg_of X GN a26, F__law_equal_right := F26, b__law_equal_right := b26, g__law_bridges_right := PySem.W.mg_of X GN a27, F__law_bridges_right := F27, b__law_bridges_right := b27, g_law := PySem.W.mg_of X GN a28, F_law := F28, b_law := b28, g_Web := PySem.W.mg_of X GN oa, M_Web := ⟨omk, uf0, ufn0, okp⟩, K_Web := ⟨opg, ohd_, opo, osa⟩, I_Web := ⟨oca, hcn, hct, ocm⟩, N_Web_places := on_places, N_Web_ties := on_ties, F_Web___init__ := UF0, b_Web___init__ := ub0, F_Web___eq__ := UF1, b_Web___eq__ := ub1, F_Web___str__ := UF2, b_Web___str__ := ub2, F_Web_read := UF3, b_Web_read := ub3, C_NetError := n0, X_BadWeb := X1, F_init_BadWeb := GF1, b_init_BadWeb := gb1, X_BadText := X2, F_init_BadText := GF2, b_init_BadText := gb2, m_MOST_DIGITS := PySem.W.mg_of X GN mc_MOST_DIGITS, m_MOST_PLACES := PySem.W.mg_of X GN mc_MOST_PLACES, m_MOST_TIES := PySem.W.mg_of X GN mc_MOST_TIES, n_abs := PySem.W.mg_none_of X GN z0, n_all := PySem.W.mg_none_of X GN z1, n_any := PySem.W.mg_none_of X GN z2, n_bool := PySem.W.mg_none_of X GN z3, n_int := PySem.W.mg_none_of X GN z4, n_isinstance := PySem.W.mg_none_of X GN z5, n_len := PySem.W.mg_none_of X GN z6, n_list := PySem.W.mg_none_of X GN z7, n_max := PySem.W.mg_none_of X GN z8, n_min := PySem.W.mg_none_of X GN z9, n_range := PySem.W.mg_none_of X GN z10, n_repr := PySem.W.mg_none_of X GN z11, n_str := PySem.W.mg_none_of X GN z12, n_tuple := PySem.W.mg_none_of X GN z13, n_type := PySem.W.mg_none_of X GN z14, n_zip := PySem.W.mg_none_of X GN z15, S_read := ⟨srd, sga, sat, Or.inr ⟨_, src⟩⟩, O_eq := ⟨⟨_, _, _, _, _, _, _, _, _, _, _, _, _, _, _, _, ol⟩, uf1, ufn1, one⟩, O_l := onl, O_t := ont, O_s := uf2, O_f := ufn2, Z_l := ozl, Z_t := ozt, E_1 := e1, E_2 := e2, E_3 := e3, E_4 := e4 }
  obtain ⟨o1, p1⟩ := TO _ _ _ _ kr27 kt27
  obtain ⟨o2, p2⟩ := TO _ _ _ _ kr28 kt28
  have two : ∀ {R : Addr × Addr → Prop}, R (kk27, kp27) → R (kk28, kp28) → ∀ p ∈ [(kk27, kp27), (kk28, kp28)], R p := fun r1 r2 p hp => by
    rcases List.mem_cons.mp hp with rfl | hp
    · exact r1
    · rw [List.mem_singleton.mp hp]
      exact r2
  refine ⟨(PySem.W.fnOf "law" "law" (defArgs s_law) (defBody s_law) (defScope s_law) .none kV28 dc28 pm28 an28 (.ref kk28) ct28), [(kk27, kp27), (kk28, kp28)], sp_law A K, two p1 p2, two kn27 kn28, two o1 o2, fun s v => .of_eq rfl, fun H a ns hl hH hS => ⟨a, ns, rfl, hS, hl, fun p hp => ?_, fun _ => rfl⟩, fun base _ _ hb => G_law T (hb _ List.mem_cons_self) (hb _ (List.mem_cons_of_mem _ List.mem_cons_self)) kne⟩
  rcases List.mem_cons.mp hp with rfl | hp
  · exact TabS.nil (hH _ List.mem_cons_self)
  · rw [List.mem_singleton.mp hp]
    exact TabS.nil (hH _ (List.mem_cons_of_mem _ List.mem_cons_self))
theorem walk {l : PySem.W.OpenLaw} {q : Program} {loose : List Str} {XP : (Str → Option Value) → Heap → Prop} {YP : World → Heap → Prop} {d : DefRec} {K : Params → PySem.W.Frag} (hn : l.most = some 63) (hdf : d.params.defaults = [])
    (hY : ∀ (w : World) (h : Heap), YP w h → (K w.params).In h)
    (F : ∀ (w : World) (mg : Str → Option Value) (fa : Addr) (h : Heap), (K w.params).In h → h.Ns mainGlobals mg → mg d.name = some (.ref fa) → TabOf q (K w.params) h → LawAtG l w (K w.params) CX0 10 63 "script" mg fa h) :
    PySem.W.WalkO q loose XP YP l.row.toRowW d [] (fun f vs => PySem.call f vs) :=
  walk_ofTG (n := 63) (k := 10) (x := "script") (CX := fun _ => CX0) hn (by decide) hdf ⟨⟨rfl, by decide, by decide⟩, rfl⟩ hY F fun _ _ _ _ _ z => z
end K04
open PySem PySem.W PyProof.Rows
set_option maxRecDepth 100000 in
set_option maxHeartbeats 0 in
theorem PySem.Challenge.cw_flowtells_k04_webs_made_and_kept_holds : PySem.Challenge.rw_flowtells_k04_webs_made_and_kept.Holds := by
  w_on; o_law; k_head; (case hw => w_witness2)
  k_fill
  refine K04.walk (l := PySem.Challenge.rw_flowtells_k04_webs_made_and_kept) rfl rfl (fun w h Y => PySem.W.km_in_of Y) ?F
  case F =>
    intro w mg fa h KX GN hmg TO
    refine' K04.all_mk KX GN hmg TO ?a0 ?l0 ?c0 ?k0 ?a1 ?l1 ?c1 ?k1 ?a2 ?l2 ?c2 ?k2 ?a3 ?l3 ?c3 ?k3 ?a4 ?l4 ?c4 ?k4 ?a5 ?l5 ?c5 ?k5 ?a6 ?l6 ?c6 ?k6 ?a7 ?l7 ?c7 ?k7 ?a8 ?l8 ?c8 ?k8 ?a9 ?l9 ?c9 ?k9 ?a10 ?l10 ?c10 ?k10 ?a11 ?l11 ?c11 ?k11 ?a12 ?l12 ?c12 ?k12 ?a13 ?l13 ?c13 ?k13 ?a14 ?l14 ?c14 ?k14 ?a15 ?l15 ?c15 ?k15 ?a16 ?l16 ?c16 ?k16 ?a17 ?l17 ?c17 ?k17 ?a18 ?l18 ?c18 ?k18 ?a19 ?l19 ?c19 ?k19 ?a20 ?l20 ?c20 ?k20 ?a21 ?l21 ?c21 ?k21 ?a22 ?l22 ?c22 ?k22 ?a23 ?l23 ?c23 ?k23 ?a24 ?l24 ?c24 ?k24 ?a25 ?l25 ?c25 ?k25 ?a26 ?l26 ?c26 ?k26 ?a27 ?l27 ?c27 ?k27 ?a28 ?l28 ?c28 ?k28 ?kl27 ?kv27 ?kt27 ?kn27 ?kr27 ?kl28 ?kv28 ?kt28 ?kn28 ?kr28 ?kne ?oa ?ol ?omk ?uf0 ?ul0 ?uc0 ?uk0 ?ufn0 ?uf1 ?ul1 ?uc1 ?uk1 ?ufn1 ?uf2 ?ul2 ?uc2 ?uk2 ?ufn2 ?srd ?sga ?sat ?src ?ul3 ?uc3 ?uk3 ?okp ?opg ?ohd_ ?opo ?osa ?oca ?ocm ?on_places ?on_ties ?one ?onl ?ont ?ozl ?ozt ?hcn ?hct ?xa0 ?xl0 ?xa1 ?xl1 ?xs1 ?xg1 ?xh1 ?xc1 ?xi1 ?xt1 ?xk1 ?xn1_0 ?gl1 ?gc1 ?gk1 ?xa2 ?xl2 ?xs2 ?xg2 ?xh2 ?xc2 ?xi2 ?xt2 ?xk2 ?xn2_0 ?xn2_1 ?gl2 ?gc2 ?gk2 ?e1 ?e2 ?e3 ?e4 ?mc_MOST_DIGITS ?mc_MOST_PLACES ?mc_MOST_TIES ?z0 ?z1 ?z2 ?z3 ?z4 ?z5 ?z6 ?z7 ?z8 ?z9 ?z10 ?z11 ?z12 ?z13 ?z14 ?z15
    (case a0 => k_is)
    (case l0 => k_is)
    (case c0 => k_is)
    (case k0 => k_is)
    (case a1 => k_is)
    (case l1 => k_is)
    (case c1 => k_is)
    (case k1 => k_is)
    (case a2 => k_is)
    (case l2 => k_is)
    (case c2 => k_is)
    (case k2 => k_is)
    (case a3 => k_is)
    (case l3 => k_is)
    (case c3 => k_is)
    (case k3 => k_is)
    (case a4 => k_is)
    (case l4 => k_is)
    (case c4 => k_is)
    (case k4 => k_is)
    (case a5 => k_is)
    (case l5 => k_is)
    (case c5 => k_is)
    (case k5 => k_is)
    (case a6 => k_is)
    (case l6 => k_is)
    (case c6 => k_is)
    (case k6 => k_is)
    (case a7 => k_is)
    (case l7 => k_is)
    (case c7 => k_is)
    (case k7 => k_is)
    (case a8 => k_is)
    (case l8 => k_is)
    (case c8 => k_is)
    (case k8 => k_is)
    (case a9 => k_is)
    (case l9 => k_is)
    (case c9 => k_is)
    (case k9 => k_is)
    (case a10 => k_is)
    (case l10 => k_is)
    (case c10 => k_is)
    (case k10 => k_is)
    (case a11 => k_is)
    (case l11 => k_is)
    (case c11 => k_is)
    (case k11 => k_is)
    (case a12 => k_is)
    (case l12 => k_is)
    (case c12 => k_is)
    (case k12 => k_is)
    (case a13 => k_is)
    (case l13 => k_is)
    (case c13 => k_is)
    (case k13 => k_is)
    (case a14 => k_is)
    (case l14 => k_is)
    (case c14 => k_is)
    (case k14 => k_is)
    (case a15 => k_is)
    (case l15 => k_is)
    (case c15 => k_is)
    (case k15 => k_is)
    (case a16 => k_is)
    (case l16 => k_is)
    (case c16 => k_is)
    (case k16 => k_is)
    (case a17 => k_is)
    (case l17 => k_is)
    (case c17 => k_is)
    (case k17 => k_is)
    (case a18 => k_is)
    (case l18 => k_is)
    (case c18 => k_is)
    (case k18 => k_is)
    (case a19 => k_is)
    (case l19 => k_is)
    (case c19 => k_is)
    (case k19 => k_is)
    (case a20 => k_is)
    (case l20 => k_is)
    (case c20 => k_is)
    (case k20 => k_is)
    (case a21 => k_is)
    (case l21 => k_is)
    (case c21 => k_is)
    (case k21 => k_is)
    (case a22 => k_is)
    (case l22 => k_is)
    (case c22 => k_is)
    (case k22 => k_is)
    (case a23 => k_is)
    (case l23 => k_is)
    (case c23 => k_is)
    (case k23 => k_is)
    (case a24 => k_is)
    (case l24 => k_is)
    (case c24 => k_is)
    (case k24 => k_is)
    (case a25 => k_is)
    (case l25 => k_is)
    (case c25 => k_is)
    (case k25 => k_is)
    (case a26 => k_is)
    (case l26 => k_is)
    (case c26 => k_is)
    (case k26 => k_is)
    (case a27 => k_is)
    (case l27 => k_is)
    (case c27 => k_is)
    (case k27 => k_is)
    (case a28 => k_is)
    (case l28 => k_is)
    (case c28 => k_is)
    (case k28 => k_is)
    (case kl27 => k_is)
    (case kv27 => rfl)
    (case kt27 => kernel_rfl)
    (case kn27 => kernel_rfl)
    (case kr27 => rfl)
    (case kl28 => k_is)
    (case kv28 => rfl)
    (case kt28 => kernel_rfl)
    (case kn28 => kernel_rfl)
    (case kr28 => rfl)
    (case kne => decide)
    (case oa => k_is)
    (case ol => k_is)
    (case omk => k_is)
    (case uf0 => k_is)
    (case ul0 => k_is)
    (case uc0 => k_is)
    (case uk0 => k_is)
    (case ufn0 => k_is)
    (case uf1 => k_is)
    (case ul1 => k_is)
    (case uc1 => k_is)
    (case uk1 => k_is)
    (case ufn1 => k_is)
    (case uf2 => k_is)
    (case ul2 => k_is)
    (case uc2 => k_is)
    (case uk2 => k_is)
    (case ufn2 => k_is)
    (case srd => k_is)
    (case sga => k_is)
    (case sat => k_is)
    (case src => k_is)
    (case ul3 => k_is)
    (case uc3 => k_is)
    (case uk3 => k_is)
    (case okp => k_is)
    (case opg => k_is)
    (case ohd_ => k_is)
    (case opo => k_is)
    (case osa => k_is)
    (case oca => k_is)
    (case ocm => k_is)
    (case on_places => k_is)
    (case on_ties => k_is)
    (case one => k_is)
    (case onl => k_is)
    (case ont => k_is)
    (case ozl => kernel_rfl)
    (case ozt => kernel_rfl)
    (case hcn => k_is)
    (case hct => k_is)
    (case xa0 => k_is)
    (case xl0 => k_is)
    (case xa1 => k_is)
    (case xl1 => k_is)
    (case xs1 => k_is)
    (case xg1 => k_is)
    (case xh1 => k_is)
    (case xc1 => k_is)
    (case xi1 => k_is)
    (case xt1 => k_is)
    (case xk1 => k_is)
    (case xn1_0 => k_is)
    (case gl1 => k_is)
    (case gc1 => k_is)
    (case gk1 => k_is)
    (case xa2 => k_is)
    (case xl2 => k_is)
    (case xs2 => k_is)
    (case xg2 => k_is)
    (case xh2 => k_is)
    (case xc2 => k_is)
    (case xi2 => k_is)
    (case xt2 => k_is)
    (case xk2 => k_is)
    (case xn2_0 => k_is)
    (case xn2_1 => k_is)
    (case gl2 => k_is)
    (case gc2 => k_is)
    (case gk2 => k_is)
    (case e1 => k_is)
    (case e2 => k_is)
    (case e3 => k_is)
    (case e4 => k_is)
    (case mc_MOST_DIGITS => k_is)
    (case mc_MOST_PLACES => k_is)
    (case mc_MOST_TIES => k_is)
    (case z0 => k_is)
    (case z1 => k_is)
    (case z2 => k_is)
    (case z3 => k_is)
    (case z4 => k_is)
    (case z5 => k_is)
    (case z6 => k_is)
    (case z7 => k_is)
    (case z8 => k_is)
    (case z9 => k_is)
    (case z10 => k_is)
    (case z11 => k_is)
    (case z12 => k_is)
    (case z13 => k_is)
    (case z14 => k_is)
    (case z15 => k_is)
