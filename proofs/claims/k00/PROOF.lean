import PyProof.Rows.All
import Wide.All
import OpenK.AllK
import Wide.FinOn
import HandS.ForMost
import HandS.Exc
import HandS.Defaults
import HandS.More
import HandS.Flow
import HandS.Wide
import HandS.IsInst
import HandS.Codes
import HandS.Conv
import HandS.SortInts
import HandS.TupAny
import HandS.TupMul
import HandS.DictComp
import HandS.Style
import HandS.Small
import PyProof.ReprRoads
import HandS.HeadHook1
import HandS.HeadHook2
import HandS.HeadHook3
import HandS.HeadHook4
import HandS.Gcd
import PyProof.Rows.RuleB_pow
import KE.KExcInit
import HandS.ExcInit
import HandS.TryMany
import HandS.ExcField
import HandS.Lambda
import HandS.ExcValue
import HandS.RaiseMore
import KE.KExcIs
import PyProof.StrOps2
import HandS.HotCalls
import PyProof.Rows.FactsExc_KeyError
import HandS.ExcBuiltin
import HandS.Head0
import HandS.Head1
import HandS.Head2
import HandS.Head3
import HandS.Head4
import HandS.HeadEnd
import KE.KStateDown
import KE.KNestM
import PySem.Challenge.RW_movemarks_k00_whole_errors
set_option Elab.async false
set_option maxRecDepth 100000
set_option maxHeartbeats 2000000
set_option linter.all false
namespace MM
open PySem PySem.Spec PyProof.Rows L2

/-! room, with nothing under way that is being shown -/
structure Rm (k : Nat) (A : Around) : Prop where
  room : Room k A
  still : A.guards = some []
theorem Rm.le {j k : Nat} {A : Around} (h : Rm k A) (le : j ≤ k) : Rm j A := ⟨h.room.mono le, h.still⟩
theorem Rm.down {k : Nat} {A : Around} {v : Env} (h : Rm (k + 1) A) : Rm k (A.deeper v) := ⟨h.room.deeper v, h.still⟩
theorem Rm.hu {k : Nat} {A : Around} (h : Rm k A) : A.units + 64 < cLine := h.room.units
theorem Rm.hu66 {k : Nat} {A : Around} (h : Rm k A) : A.units + 66 < cLine := by have := h.room.un; omega
theorem Rm.hu1 {k : Nat} {A : Around} (h : Rm k A) : A.units + 1 < cLine := by have := h.room.un; omega

/-- a def keeps its promise wherever nothing is being shown -/
structure FnG (P : Program) (w : World) (K : PySem.W.Frag) (mg : Str → Option Value) (base : Heap)
    (CX : CXT) (k : Nat) (f : Addr) (fd : FuncData) (ps : List Str) (sp : Sp) : Prop where
  arity : ∀ {vs H Q E}, sp vs H Q E → vs.length = ps.length
  runs : ∀ {A : Around} {out : List Env} {s : Shared} {H : Hp} {ar : Args} {us : List Value} {vs : List V} {Q : VK} {E : XK},
    Rm k A → Env0 P w K mg base A out s H → BindsTo s fd ar (ps.zip us) → Vals vs us → sp vs H Q E →
      codeAny (model P w) A (.call (.ref f) ar) (CR CX out P w H s Q E) s

section
variable {P : Program} {w : World} {K : PySem.W.Frag} {mg : Str → Option Value} {base : Heap} {CX : CXT}
  {j k : Nat} {f : Addr} {fd : FuncData} {ps : List Str} {sp : Sp}
theorem FnG.le (F : FnG P w K mg base CX j f fd ps sp) (h : j ≤ k) : FnG P w K mg base CX k f fd ps sp :=
  ⟨F.arity, fun r => F.runs (r.le h)⟩
theorem FnG.of (F : FnOk P w K mg base CX k f fd ps sp) : FnG P w K mg base CX k f fd ps sp :=
  ⟨fun h => F.len _ _ _ _ h, fun r e b v h => F.run _ _ _ _ _ _ _ _ _ r.room e b v h⟩

/-- by its body -/
theorem FnG.body {x qual : Str} {pa : Arguments} {bd : List Stmt} {sc : Scope} {N : List Str}
    (F : FunD K x qual pa bd sc [] [] f fd) (S : FnScope N ps sc)
    (arity : ∀ vs H Q E, sp vs H Q E → vs.length = ps.length)
    (hb : ∀ (cd : Value) (A : Around) (out : List Env) (s : Shared) (H : Hp) (vs : List V) (Q : VK) (E : XK),
      Rm k (A.deeper (envOfC qual sc s.heap.objs.size f cd)) → sp vs H Q E →
      ∃ t, PSs (cxOf CX P w K mg base N qual sc f cd A out s H E) bd t ∧
        t { nx := fun _ H' => Q .non H', rt := Q } (start N vs) H) :
    FnG P w K mg base CX (k + 1) f fd ps sp := by
  obtain ⟨oc, od, dV, kV, doc, pm, an, cd, ct, osl, rfl, lk, hcd, _, _⟩ := F.ex
  refine ⟨fun h => arity _ _ _ _ h, ?_⟩
  intro A out s H ar us vs Q E hr e0 hbd hv h
  have nv := arity _ _ _ _ h
  have inK : K.In s.heap := e0.mod.kin.keeps (fun b o e => (e0.bs b o e).1)
  have nl : s.heap.NoLimit := e0.mod.nolimit.keeps (fun b o e => (e0.bs b o e).1)
  have kd : ∀ y ∈ ps.zip us, sc.names.lookup y.1 = some .local ∨
      (sc.names.lookup y.1 = some .cell ∧ ((cellsFrom (s.heap.objs.size + 1) sc.names []).lookup y.1).isSome = true) := by
    rintro ⟨n, v⟩ hy
    cases S.par n (List.of_mem_zip hy).1 with
    | inl q => exact .inl q
    | inr q => exact .inr ⟨q, PySem.W.cellsFrom_some _ _ _ (.inl q)⟩
  refine codeAny_call_function hr.room.depth (inK _ _ lk) rfl S.co S.gen rfl (PySem.W.codeRec_of inK hcd) (hbd _ _ _ _ ?_)
  refine wpAny_newFunctionEnv_cells S.kind kd (fun env he s1 xc => ?_)
  subst he
  refine ⟨nl.keeps xc.toInCall.keep, codeAny_func ?_⟩
  obtain ⟨t, ht, hq⟩ := hb cd A out s H vs Q E hr.down h
  have I := inv_start (CX := CX) (P := P) (w := w) (qual := qual) (cd := cd) (f := f) (E := E) S hr.room.hd e0 nv hv xc
  refine wpAny_mono (ht.run [] s1 (start N vs) H _ I hq) (fun fl s' hs => ?_) (fun e s' hs => hs)
  cases fl with
  | ret u =>
    obtain ⟨v, σ', H', J, rv, q⟩ := hs
    exact ⟨v, H', J.os, J.bare, J.base, J.hok, rv, q⟩
  | next =>
    obtain ⟨σ', H', J, q⟩ := hs
    exact ⟨.non, H', J.os, J.bare, J.base, J.hok, rfl, q⟩
  | brk =>
    obtain ⟨_, _, _, q⟩ := hs
    exact q.elim
  | cont =>
    obtain ⟨_, _, _, q⟩ := hs
    exact q.elim
end

section
variable {X : Cx} {CX : CXT} {k : Nat} {f : Addr} {fd : FuncData} {ps : List Str} {sp : Sp} {E : XK}
  {x : Str} {p pos : Pos} {e : Expr} {es : List Expr} {t : TA}
theorem call_g {pins : List (Addr × Obj)} {σ : L2.St} {H : Hp} {s : Shared} {Q : VK} {us : List Value} {vs : List V}
    (F : FnG X.prog X.w X.K X.mg X.base CX k f fd ps sp) (hr : Rm k X.A) (hb : Binds X.K fd ps [])
    (hx : Passes CX X E) (I : Inv X pins σ H s) (r : Vals vs us) (h : sp vs H Q E) :
    wpAny (model X.prog X.w) X.A (call (.ref f) us) (EP X pins σ Q) X.xe s := by
  have nl : (us ++ []).length = ps.length := by
    rw [List.append_nil, ← r.length]
    exact F.arity h
  have bd := hb s us I.kIn nl
  rw [List.append_nil] at bd
  refine wpAny_call (codeAny_mono (F.runs hr I.env0 bd r h) ?_)
  intro res s' hq
  cases res with
  | error e => exact hx pins σ H s e s' I hq
  | ok fl =>
    cases fl with
    | ret u => exact I.after hq
    | next => exact hq.elim
    | brk => exact hq.elim
    | cont => exact hq.elim
/-- f(e, ..), f a def of the text -/
theorem pe_g (F : FnG X.prog X.w X.K X.mg X.base CX k f fd ps sp) (hr : Rm k X.A) (hm : X.mg x = some (.ref f))
    (hk : PySem.W.keepIn X.K (.ref f) = true) (hb : Binds X.K fd ps []) (hx : Passes CX X E) (ha : PA X (e :: es) t) (hg : Gl X x := by rfl)
    (hdb : (x == ("__debug__" : Str)) = false := by decide)
    (he : starEach (e :: es) X.env = (false, eval e X.env) :: starEach es X.env := by rfl)
    (hpl : (backTo pos (starEach es X.env)).any (·.1) = false := by rfl) :
    PE X (.Call (.Name x p) (e :: es) [] pos) (fun σ H Q => t σ H fun vs H1 => sp vs H1 Q E) := by
  constructor
  intro pins s σ H Q I h
  refine wpAny_Call_Name_kw (ld_glob I hg hm ?_ hdb)
  refine PySem.W.callWith_K (h₀ := X.base) I.ok.mod.kin hk ?_ he hpl
  exact thn (ha.run pos pins s σ H _ I h) fun us s1 ⟨vs, H1, I1, r, q⟩ => ⟨I1.kIn, call_g F hr hb hx I1 r q⟩
end

/-! the law's own end: its def is called where nothing is under way -/
section
variable {P : Program} {w : World} {K : PySem.W.Frag} {mg mb : Str → Option Value} {CX : CXT} {k : Nat} {fa a : Addr}
  {fd : FuncData} {x : Str} {sp : Sp} {s : Shared} {vs : List Value} {ns : List Int}
/-- the goal behind the call -/
def LawEnd (s : Shared) (r : Result) (t : Shared) : Prop :=
  r = .ok (.ret (.bool true)) ∧ OldK s.heap t.heap ∧ t.os = s.os ∧ AllBare t.gens
theorem law_core {H : Hp}
    (KX : K.In s.heap) (hns : s.heap.Ns mainGlobals mg) (hb : s.heap.Ns builtinsNs mb)
    (hbb : ∀ y : Str, y ≠ "__name__" → mb y = bootBuiltins y) (nl : s.heap.NoLimit) (hg : s.gens = #[])
    (ha : s.heap.get? a = some { cls := .type "list", data := .seq vs.toArray }) (hr : Rm k callerA)
    (F : ∀ base : Heap, K.In base → base.Ns mainGlobals mg → FnG P w K mg base CX k fa fd [x] sp)
    (hbind : ∀ (s : Shared) (u : Value), BindsTo s fd ⟨[u], []⟩ [(x, u)])
    (hsp : sp [.ref a] H (fun v _ => v = .bl true) fun _ _ _ => False)
    (hCX : ∀ e s', CX [] H s (fun _ _ _ => False) e s' → False)
    (only : Only H) (ok : HOk P w H s.heap) (at_a : ∀ b, H b ≠ none → b = a) (out : H a ≠ none → K.lookup a = none) :
    codeAny (model P w) callerA (.call (.ref fa) ⟨[.ref a], []⟩) (LawEnd s) s := by
  have ne_a : ∀ {b : Addr} {o : Obj}, s.heap.get? b = some o → (∀ y n, o.data ≠ .seq y n) → H b = none := by
    intro b o e no
    by_cases hb : H b = none
    · exact hb
    · rw [at_a b hb, ha] at e
      exact absurd (congrArg Obj.data (Option.some.inj e)).symm (no _ _)
  have sees : ∀ {b : Addr} {m : Str → Option Value}, s.heap.Ns b m → (hidT s.heap H).Ns b m := by
    rintro b m ⟨o, es, ep, e, d, r⟩
    refine ⟨o, es, ep, hidT_get e (ne_a e ?_), d, r⟩
    intro y n z
    rw [d] at z
    cases z
  have inB : K.In (hidT s.heap H) := by
    intro b o e
    refine hidT_get (KX b o e) ?_
    by_cases hb : H b = none
    · exact hb
    · have eb := at_a b hb
      subst eb
      rw [out hb] at e
      cases e
  obtain ⟨mc, l1, l2⟩ := nl
  have md : Mod K mg (hidT s.heap H) := ⟨inB, sees hns, ⟨mb, sees hb, hbb⟩, ⟨mc, sees l1, l2⟩⟩
  have e0 : Env0 P w K mg (hidT s.heap H) callerA [] s H := by
    refine ⟨rfl, md, fun b o e => of_hidT e, Nat.le_of_eq (hidT_size _ _), trivial, ?_, ok, .of_eq hg⟩
    intro b z
    cases z
  have vv : Vals [V.ref a] [Value.ref a] := .cons rfl .nil
  refine codeAny_mono ((F _ inB (sees hns)).runs (us := [.ref a]) hr e0 (hbind s (.ref a)) vv hsp) ?_
  intro r t h
  cases r with
  | error e => exact (hCX e t h).elim
  | ok fl =>
    cases fl with
    | next => exact h.elim
    | brk => exact h.elim
    | cont => exact h.elim
    | ret u =>
      obtain ⟨v, H', os, bare, un, ok', rv, q⟩ := h
      have q2 : v = .bl true := q
      subst q2
      have eu : u = Value.bool true := rv
      subst eu
      refine ⟨rfl, OldK.of_keep ?_, os, bare⟩
      intro b o e
      cases hb : H b with
      | none => exact un.keep b o e hb (by intro z; cases z) (by intro z; cases z)
      | some y =>
        cases only b with
        | inl z => exact absurd (hb.symm.trans z) (by intro z; cases z)
        | inr z =>
          obtain ⟨ob, xs, z⟩ := z
          have e1 := (ok b _ z).1
          have e2 := (ok' b _ (un.frzs b ob _ z)).1
          rw [e] at e1
          cases e1
          exact e2
theorem law_g
    (KX : K.In s.heap) (hns : s.heap.Ns mainGlobals mg) (hb : s.heap.Ns builtinsNs mb)
    (hbb : ∀ y : Str, y ≠ "__name__" → mb y = bootBuiltins y) (nl : s.heap.NoLimit) (hg : s.gens = #[])
    (ha : s.heap.get? a = some { cls := .type "list", data := .seq vs.toArray }) (hi : IntsAre vs ns) (hl : ns.length ≤ sizeLine)
    (hr : Rm k callerA)
    (F : ∀ base : Heap, K.In base → base.Ns mainGlobals mg → FnG P w K mg base CX k fa fd [x] sp)
    (hbind : ∀ (s : Shared) (u : Value), BindsTo s fd ⟨[u], []⟩ [(x, u)])
    (hsp : ∀ H : Hp, Only H → SqL K H a (ns.map V.int) → sp [.ref a] H (fun v _ => v = .bl true) fun _ _ _ => False)
    (hCX : ∀ H e s', CX [] H s (fun _ _ _ => False) e s' → False) :
    codeAny (model P w) callerA (.call (.ref fa) ⟨[.ref a], []⟩) (LawEnd s) s := by
  have rv := vals_ints hi
  have nv := hi.length
  cases free : K.lookup a with
  | some o =>
    have e := KX a o free
    rw [ha] at e
    cases e
    have only : Only (fun _ => none) := fun _ => .inl rfl
    refine law_core KX hns hb hbb nl hg ha hr F hbind (hsp _ only (.inr ⟨_, vs.toArray, _, free, rfl, rfl, rfl, ?_, by simpa using rv⟩))
      (hCX _) only (fun b u z => nomatch (show (none : Option HO) = some u from z)) (fun b z => absurd rfl z) (fun z => absurd rfl z)
    rw [List.size_toArray, nv]
    exact hl
  | none =>
    have only : Only (fun b => if b = a then some (.frz { cls := .type "list", data := .seq vs.toArray } (.lst (ns.map V.int))) else none) := by
      intro b
      by_cases e : b = a
      · exact .inr ⟨_, _, if_pos e⟩
      · exact .inl (if_neg e)
    refine law_core KX hns hb hbb nl hg ha hr F hbind (hsp _ only (.inl (.inr ⟨_, if_pos rfl⟩))) (hCX _) only ?_ ?_ (fun _ => free)
    · intro b u z
      by_cases e : b = a
      · have z1 := (if_pos e).symm.trans z
        cases z1
        subst e
        refine ⟨ha, ?_, vs, _, rv, ha⟩
        rw [List.length_map]
        exact hl
      · have z1 := (if_neg e).symm.trans z
        cases z1
    · intro b z
      by_cases e : b = a
      · exact e
      · exact absurd (if_neg e) z
end
/-- the head's end: what is known behind the top gives the law's promise -/
theorem walk_g {l : PySem.W.OpenLaw} {n k : Nat} {q : Program} {loose : List Str} {XP : (Str → Option Value) → Heap → Prop}
    {YP : World → Heap → Prop} {d : DefRec} {CX : CXT} {x : Str}
    (hn : l.most = some n) (hn2 : n ≤ sizeLine) (hdf : d.params.defaults = []) (hr : Rm k callerA)
    (F : ∀ (w : World) (mg : Str → Option Value) (fa : Addr) (h : Heap), YP w h → h.Ns mainGlobals mg → mg d.name = some (.ref fa) →
      ∃ (K : PySem.W.Frag) (fd : FuncData) (sp : Sp), K.In h ∧ (∀ (s : Shared) (u : Value), BindsTo s fd ⟨[u], []⟩ [(x, u)]) ∧
        (∀ (H : Hp) (a : Addr) (ns : List Int), ns.length ≤ n → SqL K H a (ns.map V.int) →
          sp [.ref a] H (fun v _ => v = .bl true) fun _ _ _ => False) ∧
        ∀ base : Heap, K.In base → base.Ns mainGlobals mg → FnG l.prog w K mg base CX k fa fd [x] sp)
    (hCX : ∀ (H : Hp) (s : Shared) (e : Value) (s' : Shared), CX [] H s (fun _ _ _ => False) e s' → False) :
    PySem.W.WalkO q loose XP YP l.row.toRowW d [] (fun f vs => PySem.call f vs) := by
  refine Att.attach_call hn hdf ?_
  intro w s0 s1 mg mb fa o pm cd doc a vs ns G Y ho hd hcd hmg hobj hints hlen hg
  obtain ⟨K, fd, sp, KX, hb, hsp, hF⟩ := F w mg fa _ Y G.T.g hmg
  exact law_g KX G.T.g G.T.b G.T.builtins G.T.nolimit hg hobj hints (Nat.le_trans hlen hn2) hr hF hb
    (fun H _ hS => hsp H a ns hlen hS) (fun H e s' => hCX H s1 e s')
end MM

set_option Elab.async false
set_option maxRecDepth 100000
set_option maxHeartbeats 2000000
set_option linter.all false
namespace MM
open PySem PySem.Spec PyProof.Rows L2

/-! a def of the text under its name -/
def Def (P : Program) (w : World) (K : PySem.W.Frag) (mg : Str → Option Value) (base : Heap) (CX : CXT) (k : Nat) (x : Str) (ps : List Str) (sp : Sp) : Prop :=
  ∃ f fd, FnG P w K mg base CX k f fd ps sp ∧ mg x = some (.ref f) ∧ PySem.W.keepIn K (.ref f) = true ∧ L2.Binds K fd ps [] ∧ ∃ oc od sl, K.lookup f = some ⟨oc, od, .func fd, sl⟩
/-- a def of the text as it stands behind the top -/
structure At (K : PySem.W.Frag) (mg : Str → Option Value) (x : Str) (st : Stmt) : Prop where
  fn : ∃ fd, FunD K x x (defArgs st) (defBody st) (defScope st) [] [] (He.ga K x) fd
  glo : mg x = some (.ref (He.ga K x))
section
variable {P : Program} {w : World} {K : PySem.W.Frag} {mg : Str → Option Value} {base : Heap} {CX : CXT} {j k : Nat} {x : Str} {ps : List Str} {sp : Sp} {st : Stmt}
theorem Def.le (D : Def P w K mg base CX j x ps sp) (h : j ≤ k) : Def P w K mg base CX k x ps sp :=
  let ⟨f, fd, F, r⟩ := D
  ⟨f, fd, F.le h, r⟩
theorem At.defX {N : List Str} (T : At K mg x st) (S : FnScope N ps (defScope st))
    (hb : ∀ (kV doc pm : Value) (an : Option Addr) (cd ct : Value) (us : List Value), us.length = ps.length →
      bindArgs (PySem.W.fnOf x x (defArgs st) (defBody st) (defScope st) .none kV doc pm an cd ct) ⟨us, []⟩ = pure (ps.zip us))
    (arity : ∀ vs H Q E, sp vs H Q E → vs.length = ps.length)
    (body : ∀ (f : Addr) (cd : Value) (A : Around) (out : List Env) (s : Shared) (H : Hp) (vs : List V) (Q : VK) (E : XK),
      Rm k (A.deeper (envOfC x (defScope st) s.heap.objs.size f cd)) → sp vs H Q E →
      ∃ t, PSs (cxOf CX P w K mg base N x (defScope st) f cd A out s H E) (defBody st) t ∧
        t { nx := fun _ H' => Q .non H', rt := Q } (start N vs) H) : Def P w K mg base CX (k + 1) x ps sp := by
  obtain ⟨fd, F⟩ := T.fn
  obtain ⟨oc, od, _, _, _, _, _, _, _, osl, _, lk, _⟩ := F.ex
  exact ⟨_, fd, FnG.body F S arity (body _), T.glo, F.kp, F.bindsN hb, oc, od, osl, lk⟩
/-- the same for a def that nothing leaves -/
theorem At.def_ {N : List Str} (T : At K mg x st) (S : FnScope N ps (defScope st))
    (hb : ∀ (kV doc pm : Value) (an : Option Addr) (cd ct : Value) (us : List Value), us.length = ps.length →
      bindArgs (PySem.W.fnOf x x (defArgs st) (defBody st) (defScope st) .none kV doc pm an cd ct) ⟨us, []⟩ = pure (ps.zip us))
    (arity : ∀ vs H Q E, sp vs H Q E → vs.length = ps.length)
    (body : ∀ (f : Addr) (cd : Value) (A : Around) (out : List Env) (s : Shared) (H : Hp) (vs : List V) (Q : VK) (E : XK),
      Rm k (A.deeper (envOfC x (defScope st) s.heap.objs.size f cd)) → sp vs H Q E →
      ∃ t, PSs (cxOf CX P w K mg base N x (defScope st) f cd A out s H E).nox (defBody st) t ∧
        t { nx := fun _ H' => Q .non H', rt := Q } (start N vs) H) : Def P w K mg base CX (k + 1) x ps sp := by
  refine T.defX S hb arity (fun f cd A out s H vs Q E hr h => ?_)
  obtain ⟨t, d, q⟩ := body f cd A out s H vs Q E hr h
  exact ⟨t, d.nox, q⟩
end
section
variable {X : Cx} {CX : CXT} {k : Nat} {ps : List Str} {sp : Sp} {E : XK} {x : Str} {p pos : Pos} {e : Expr} {es : List Expr} {t : TA}
/-- f(e, ..) -/
def tD (sp : Sp) (E : XK) (t : TA) : TE := fun σ H Q => t σ H fun vs H1 => sp vs H1 Q E
theorem pe_d (D : Def X.prog X.w X.K X.mg X.base CX k x ps sp) (hr : Rm k X.A) (hx : Passes CX X E) (ha : PA X (e :: es) t) (hg : Gl X x := by rfl)
    (hdb : (x == ("__debug__" : Str)) = false := by decide)
    (he : starEach (e :: es) X.env = (false, eval e X.env) :: starEach es X.env := by rfl)
    (hpl : (backTo pos (starEach es X.env)).any (·.1) = false := by rfl) : PE X (.Call (.Name x p) (e :: es) [] pos) (tD sp E t) := by
  obtain ⟨f, fd, F, hm, hk, hb, _⟩ := D
  exact pe_g F hr hm hk hb hx ha hg hdb he hpl
end

/-! tests whose answer is known -/
theorem ifT {c : Bool} {A B : Prop} (h : c = true) (a : A) : if c = true then A else B := by
  rw [if_pos h]
  exact a
theorem ifF {c : Bool} {A B : Prop} (h : c = false) (b : B) : if c = true then A else B := by
  rw [h, if_neg Bool.false_ne_true]
  exact b
theorem dInt (a b : Int) : decide (V.int a = V.int b) = decide (a = b) := by
  by_cases e : a = b
  · rw [e, decide_eq_true rfl, decide_eq_true rfl]
  · rw [decide_eq_false e, decide_eq_false (fun z => e (V.int.inj z))]
/-! more rules by values -/
section
variable {X : Cx}
/-- ** of great numbers -/
def CPw (i j : Int) : Prop := 0 ≤ j ∧ (Builtin.Int.intBits i : Int) * j ≤ 2 ^ 27
instance (i j : Int) : Decidable (CPw i j) := inferInstanceAs (Decidable (_ ∧ _))
instance (i j : Int) : Decidable (CDivW i j) := inferInstanceAs (Decidable (_ ∧ _))
theorem op_pw : OpR X (binaryOp .Pow) (rI CPw fun i j => .int (i ^ j.toNat)) := opI fun _ _ _ _ _ _ _ hc q => pow_int hc.1 hc.2 q
/-- repr of data -/
def rRepr (K : PySem.W.Frag) : List V → Hp → VK → Prop := fun xs H Q =>
  ∃ x d, xs = [x] ∧ Dp K H x d ∧ SeqAt.shaped d = true ∧ d.showable = true ∧ d.shown.length ≤ sizeLine ∧ Q (.str d.shown) H
theorem cr_repr (hg : X.A.guards = some []) (hu : X.A.units + 66 < cLine) : CallR X (.builtin "repr") (rRepr X.K) := by
  intro pins s σ H xs us Q I r h
  obtain ⟨x, d, rfl, hd, hs, hw, hz, q⟩ := h
  obtain ⟨u, rfl, ru⟩ := vals1 r
  have hdep := SeqAt.depth_of_shaped hs
  have hno := PyData.hasDict_of_canLay d (SeqAt.canLay_of_shaped hs)
  obtain ⟨as, rd⟩ := Dp.reads I d x u hd ru
  have fin : ∀ (h' : Heap) (z : Tok) (tk : Nat), (∀ b o, s.heap.get? b = some o → h'.get? b = some o) →
      EP X pins σ Q (.str d.shown z) { s with heap := h', toks := tk } := fun h' z tk hk => ⟨.str _, H, I.kept hk, ⟨_, rfl⟩, q⟩
  cases hd with
  | non =>
    cases ru
    exact PySem.P.repr_of_none (fin s.heap _ _ fun _ _ e => e)
  | bl b =>
    cases ru
    exact PySem.P.repr_of_bool (fin s.heap _ _ fun _ _ e => e)
  | int i =>
    obtain ⟨t, rfl⟩ := ru
    exact PySem.P.repr_of_int (of_decide_eq_true hw) (fin s.heap _ _ fun _ _ e => e)
  | str z =>
    obtain ⟨t, rfl⟩ := ru
    exact PySem.P.repr_of_str (fin s.heap _ _ fun _ _ e => e) hz
  | lst h1 h2 =>
    cases ru
    exact repr_of_reads' rd hw (PyData.noDict_hsm hno) hg (by omega) (fun _ _ e => e) (fun h' z tk hk => fin h' z tk hk) hz
  | tup h1 h2 =>
    cases ru
    exact repr_of_reads' rd hw (PyData.noDict_hsm hno) hg (by omega) (fun _ _ e => e) (fun h' z tk hk => fin h' z tk hk) hz
end
end MM

set_option Elab.async false
set_option maxRecDepth 100000
set_option maxHeartbeats 2000000
set_option linter.all false
namespace MM
open PySem PySem.Spec PyProof.Rows L2
/-! what kind a value is of -/
inductive Kn where
  | non | bl | int | str | lst | tup | dct
def Kn.name : Kn → String
  | .non => "NoneType"
  | .bl => "bool"
  | .int => "int"
  | .str => "str"
  | .lst => "list"
  | .tup => "tuple"
  | .dct => "dict"
def Kn.isa : Kn → Kn → Bool
  | .bl, .int => true
  | .non, .non => true
  | .bl, .bl => true
  | .int, .int => true
  | .str, .str => true
  | .lst, .lst => true
  | .tup, .tup => true
  | .dct, .dct => true
  | _, _ => false
theorem Kn.isa_ok (n m : Kn) : kitB n.name m.name = some (n.isa m) := by cases n <;> cases m <;> decide +kernel
inductive Kd (K : PySem.W.Frag) (H : Hp) : V → Kn → Prop where
  | non : Kd K H .non .non
  | bl (b : Bool) : Kd K H (.bl b) .bl
  | int (i : Int) : Kd K H (.int i) .int
  | str (z : Str) : Kd K H (.str z) .str
  | lst {a : Addr} {xs : List V} (h : SqL K H a xs) : Kd K H (.ref a) .lst
  | tup {a : Addr} {xs : List V} (h : SqT K H a xs) : Kd K H (.ref a) .tup
  | dct {a : Addr} {kvs : List (Key × V)} (h : H a = some (.dK kvs)) : Kd K H (.ref a) .dct
theorem Kd.ty {K : PySem.W.Frag} {H : Hp} {x : V} {n : Kn} (h : Kd K H x n) : TyX K H x (.type n.name) := by
  cases h with
  | non => exact .base .non
  | bl b => exact .base (.bl b)
  | int i => exact .base (.int i)
  | str z => exact .base (.str z)
  | lst h =>
    rcases h with (h | ⟨o, h⟩) | ⟨o, its, k, h, c, _⟩
    · exact .base (.lst h)
    · exact .base (.frz h)
    · exact .kList h c
  | tup h =>
    rcases h with h | h
    · rcases h with h | ⟨o, h⟩
      · exact .base (.tup h)
      · exact .fTuple h
    · obtain ⟨o, its, k, h, c, _⟩ := h
      exact .kTuple h c
  | dct h => exact .base (.dK h)
/-- an int, and no bool -/
def isW : V → Bool
  | .int _ => true
  | _ => false
section
variable {X : Cx}
def rIs (K : PySem.W.Frag) (m : Kn) : List V → Hp → VK → Prop := fun xs H Q => ∃ x n, xs = [x, .ty m.name] ∧ Kd K H x n ∧ Q (.bl (n.isa m)) H
theorem cr_is (m : Kn) : CallR X (.builtin "isinstance") (rIs X.K m) := by
  intro pins s σ H xs us Q I r h
  obtain ⟨x, n, rfl, hk, q⟩ := h
  exact call_isi pins s σ H _ us Q I r ⟨x, .ty m.name, .type n.name, .type m.name, n.isa m, rfl, .ty _, hk.ty, kit_ty (n.isa_ok m), q⟩
/-- a built-in class by its name -/
theorem pe_ty (m : Kn) {x : Str} {pos : Pos} (hm : X.mg x = none) (hv : bootBuiltins x = some (.type m.name)) (hg : Gl X x := by rfl) (hn : x ≠ "__name__" := by decide)
    (hdb : (x == ("__debug__" : Str)) = false := by decide) : PE X (.Name x pos) (tC (.ty m.name)) := pe_bltn hg hm hv rfl hn hdb
end
/-! heaps -/
theorem same_new {H : Hp} {p : Addr} {o : HO} (h : H p = none) : Same H (upd H p o) := fun b x e => by
  rw [upd_ne (ne_of_none e h)]
  exact e
theorem sql_new {K : PySem.W.Frag} {H : Hp} {p l : Addr} {xs : List V} {o : HO} (h : SqL K H l xs) (n : H p = none) : SqL K (upd H p o) l xs := (same_new n).seq h
theorem same_sqt {K : PySem.W.Frag} {H H' : Hp} {a : Addr} {xs : List V} (e : Same H H') (h : SqT K H a xs) : SqT K H' a xs := by
  rcases h with (h | ⟨o, h⟩) | h
  · exact .inl (.inl (e _ _ h))
  · exact .inl (.inr ⟨o, e _ _ h⟩)
  · exact .inr h
theorem sqt_new {K : PySem.W.Frag} {H : Hp} {p l : Addr} {xs : List V} {o : HO} (h : SqT K H l xs) (n : H p = none) : SqT K (upd H p o) l xs := same_sqt (same_new n) h
theorem sql_upd {K : PySem.W.Frag} {H : Hp} {p l : Addr} {xs : List V} {o : HO} (h : SqL K H l xs) (ne : l ≠ p) : SqL K (upd H p o) l xs := by
  rcases h with (h | ⟨u, h⟩) | h
  · exact .inl (.inl (by rw [upd_ne ne]; exact h))
  · exact .inl (.inr ⟨u, by rw [upd_ne ne]; exact h⟩)
  · exact .inr h
theorem sqt_upd {K : PySem.W.Frag} {H : Hp} {p l : Addr} {xs : List V} {o : HO} (h : SqT K H l xs) (ne : l ≠ p) : SqT K (upd H p o) l xs := by
  rcases h with (h | ⟨u, h⟩) | h
  · exact .inl (.inl (by rw [upd_ne ne]; exact h))
  · exact .inl (.inr ⟨u, by rw [upd_ne ne]; exact h⟩)
  · exact .inr h
theorem Kd.same {K : PySem.W.Frag} {H H' : Hp} {x : V} {n : Kn} (e : Same H H') (h : Kd K H x n) : Kd K H' x n := by
  cases h with
  | non => exact .non
  | bl b => exact .bl b
  | int i => exact .int i
  | str z => exact .str z
  | lst h => exact .lst (e.seq h)
  | tup h => exact .tup (same_sqt e h)
  | dct h => exact .dct (e _ _ h)
/-! a list comprehension whose elements are reckoned without a new object -/
section
variable {K : PySem.W.Frag} {v : Nat} {te : TE} {σ : L2.St} {H1 : Hp} {D : Addr} {Qd : Hp → Prop} {n : Nat}
/-- what tLc asks of its walk -/
def LcW (J : It) (g : TG) (tt : TT) (te : TE) (vs : List Nat) (σ : L2.St) (H1 : Hp) (D : Addr) (Qd : Hp → Prop) : Prop :=
  ∃ W : Nat → Nat → Hp → Prop, (∃ m, W 0 m (upd H1 D (.lst []))) ∧ ∀ i m H, W i m H →
    (J.stop i H ∧ Qd H) ∨ (J.go i H ∧ ∃ Nx : Hp → Prop, (∀ H', Nx H' → ∃ m', m' < m ∧ W (i + 1) m' H') ∧
      ∀ x H', J.yld i H x H' → g x (wipe σ vs) H' fun σ2 H2 => wipe σ2 vs = wipe σ vs ∧ tt σ2 H2 fun b H3 =>
        if b = true then te σ2 H3 fun y H4 => ∃ acc, H4 D = some (.lst acc) ∧ acc.length < sizeLine ∧ Nx (upd H4 D (.lst (acc ++ [y]))) else Nx H3)
theorem yes_ {H : Hp} {A B : Hp → Prop} (h : A H) : tYes σ H fun b H3 => if b = true then A H3 else B H3 := by
  show (if true = true then A H else B H)
  rw [if_pos rfl]
  exact h
theorem wipe_one {x : Option V} : wipe ((wipe σ [v]).set v x) [v] = wipe σ [v] := by
  show ((σ.set v none).set v x).set v none = σ.set v none
  rw [List.set_set, List.set_set]
theorem lc_rng {lo : Int} (f : Nat → V) (hn : n ≤ sizeLine)
    (hs : ∀ i acc, i < n → ∀ Q : VK, Q (f i) (upd H1 D (.lst acc)) → te ((wipe σ [v]).set v (some (.int (lo + i)))) (upd H1 D (.lst acc)) Q)
    (hd : Qd (upd H1 D (.lst ((List.range n).map f)))) : LcW (Itr lo n) (gName v) tYes te [v] σ H1 D Qd := by
  refine lc_range (Pv := fun i H => H = upd H1 D (.lst ((List.range i).map f))) rfl ?_ (fun H e => by rw [e]; exact hd)
  intro i H hi e
  subst e
  refine ⟨wipe_one, yes_ ?_⟩
  refine hs i _ hi _ ⟨_, upd_same, ?_, ?_⟩
  · rw [List.length_map, List.length_range]
    exact Nat.lt_of_lt_of_le hi hn
  · rw [upd_upd, List.range_succ, List.map_append]
    rfl
theorem lc_seq {a : Addr} {xs : List V} (f : V → V) (hx : SqL K H1 a xs) (nD : H1 D = none) (hn : xs.length ≤ sizeLine)
    (hs : ∀ x acc, x ∈ xs → ∀ Q : VK, Q (f x) (upd H1 D (.lst acc)) → te ((wipe σ [v]).set v (some x)) (upd H1 D (.lst acc)) Q)
    (hd : Qd (upd H1 D (.lst (xs.map f)))) : LcW (Itl K a) (gName v) tYes te [v] σ H1 D Qd := by
  refine lc_list (xs := xs) (Pv := fun i H => H = upd H1 D (.lst ((xs.take i).map f))) rfl (fun i H _ e => by rw [e]; exact sql_new hx nD) ?_ (fun H e => by rw [e, List.take_length]; exact hd)
  intro i x H hi e
  subst e
  have lt : i < xs.length := (List.getElem?_eq_some_iff.mp hi).1
  refine ⟨wipe_one, yes_ ?_⟩
  refine hs x _ (List.mem_of_getElem? hi) _ ⟨_, upd_same, ?_, ?_⟩
  · rw [List.length_map, List.length_take]
    omega
  · rw [upd_upd, List.take_add_one, hi, List.map_append]
    rfl
theorem lc_tpl {a : Addr} {xs : List V} (f : V → V) (hx : SqT K H1 a xs) (nD : H1 D = none) (hn : xs.length ≤ sizeLine)
    (hs : ∀ x acc, x ∈ xs → ∀ Q : VK, Q (f x) (upd H1 D (.lst acc)) → te ((wipe σ [v]).set v (some x)) (upd H1 D (.lst acc)) Q)
    (hd : Qd (upd H1 D (.lst (xs.map f)))) : LcW (Itt K a) (gName v) tYes te [v] σ H1 D Qd := by
  refine lc_tup (xs := xs) (Pv := fun i H => H = upd H1 D (.lst ((xs.take i).map f))) rfl (fun i H _ e => by rw [e]; exact sqt_new hx nD) ?_ (fun H e => by rw [e, List.take_length]; exact hd)
  intro i x H hi e
  subst e
  have lt : i < xs.length := (List.getElem?_eq_some_iff.mp hi).1
  refine ⟨wipe_one, yes_ ?_⟩
  refine hs x _ (List.mem_of_getElem? hi) _ ⟨_, upd_same, ?_, ?_⟩
  · rw [List.length_map, List.length_take]
    omega
  · rw [upd_upd, List.take_add_one, hi, List.map_append]
    rfl
/-- with a test -/
theorem lc_rngF {tt : TT} {lo : Int} (p : Nat → Bool) (f : Nat → V) (hn : n ≤ sizeLine)
    (ht : ∀ i acc, i < n → ∀ Q : Bool → Hp → Prop, Q (p i) (upd H1 D (.lst acc)) → tt ((wipe σ [v]).set v (some (.int (lo + i)))) (upd H1 D (.lst acc)) Q)
    (hs : ∀ i acc, i < n → p i = true → ∀ Q : VK, Q (f i) (upd H1 D (.lst acc)) → te ((wipe σ [v]).set v (some (.int (lo + i)))) (upd H1 D (.lst acc)) Q)
    (hd : Qd (upd H1 D (.lst (((List.range n).filter p).map f)))) : LcW (Itr lo n) (gName v) tt te [v] σ H1 D Qd := by
  refine lc_range (Pv := fun i H => H = upd H1 D (.lst (((List.range i).filter p).map f))) rfl ?_ (fun H e => by rw [e]; exact hd)
  intro i H hi e
  subst e
  have le : (((List.range i).filter p).map f).length ≤ i := by
    rw [List.length_map]
    exact Nat.le_trans (List.length_filter_le _ _) (Nat.le_of_eq List.length_range)
  refine ⟨wipe_one, ht i _ hi _ ?_⟩
  cases e : p i with
  | true =>
    rw [if_pos rfl]
    refine hs i _ hi e _ ⟨_, upd_same, Nat.lt_of_le_of_lt le (Nat.lt_of_lt_of_le hi hn), ?_⟩
    rw [upd_upd, List.range_succ, List.filter_append, List.map_append]
    simp [e]
  | false =>
    rw [if_neg Bool.false_ne_true, List.range_succ, List.filter_append, List.map_append]
    simp [e]
end
/-! data: ints and bools in lists and tuples -/
section
variable {K : PySem.W.Frag} {H : Hp}
theorem dp_ints : ∀ ns : List Int, DpAll K H (ns.map V.int) (ns.map PyData.int)
  | [] => .nil
  | n :: r => .cons (.int n) (dp_ints r)
theorem dp_bools : ∀ bs : List Bool, DpAll K H (bs.map V.bl) (bs.map PyData.bool)
  | [] => .nil
  | b :: r => .cons (.bl b) (dp_bools r)
end
theorem lay_ints : ∀ ns : List Int, PyData.canLayAll0 (ns.map PyData.int) = true
  | [] => rfl
  | n :: r => by
    show (PyData.canLay0 (.int n) && PyData.canLayAll0 (r.map PyData.int)) = true
    rw [lay_ints r]
    rfl
theorem dep_ints : ∀ ns : List Int, PyData.depthAll (ns.map PyData.int) ≤ 1
  | [] => by decide
  | n :: r => by
    have := dep_ints r
    simp only [List.map_cons, PyData.depthAll, PyData.depth]
    omega
theorem shaped_ints (ns : List Int) : SeqAt.shaped (.list (ns.map PyData.int)) = true := by
  unfold SeqAt.shaped
  have h := dep_ints ns
  rw [show PyData.canLay0 (.list (ns.map PyData.int)) = true from lay_ints ns, Bool.true_and]
  refine decide_eq_true ?_
  simp only [PyData.depth]
  omega
theorem lay_bools : ∀ bs : List Bool, PyData.canLayAll0 (bs.map PyData.bool) = true
  | [] => rfl
  | b :: r => by
    show (PyData.canLay0 (.bool b) && PyData.canLayAll0 (r.map PyData.bool)) = true
    rw [lay_bools r]
    rfl
theorem dep_bools : ∀ bs : List Bool, PyData.depthAll (bs.map PyData.bool) ≤ 1
  | [] => by decide
  | n :: r => by
    have := dep_bools r
    simp only [List.map_cons, PyData.depthAll, PyData.depth]
    omega
theorem shaped_bools (bs : List Bool) : SeqAt.shaped (.list (bs.map PyData.bool)) = true := by
  unfold SeqAt.shaped
  have h := dep_bools bs
  rw [show PyData.canLay0 (.list (bs.map PyData.bool)) = true from lay_bools bs, Bool.true_and]
  refine decide_eq_true ?_
  simp only [PyData.depth]
  omega
theorem shapedT_ints (ns : List Int) : SeqAt.shaped (.tuple (ns.map PyData.int)) = true := by
  unfold SeqAt.shaped
  have h := dep_ints ns
  rw [show PyData.canLay0 (.tuple (ns.map PyData.int)) = true from lay_ints ns, Bool.true_and]
  refine decide_eq_true ?_
  simp only [PyData.depth]
  omega
theorem eqvAll_ints : ∀ ns ms : List Int, PyData.eqvAll (ns.map PyData.int) (ms.map PyData.int) = decide (ns = ms)
  | [], [] => rfl
  | [], _ :: _ => rfl
  | _ :: _, [] => rfl
  | n :: r, m :: q => by
    show (PyData.eqv (.int n) (.int m) && PyData.eqvAll (r.map PyData.int) (q.map PyData.int)) = _
    rw [eqvAll_ints r q]
    show ((n == m) && decide (r = q)) = _
    by_cases e : n = m
    · subst e
      by_cases f : r = q
      · subst f
        simp
      · simp [f]
    · simp [e]
end MM

set_option Elab.async false
set_option maxRecDepth 100000
set_option maxHeartbeats 2000000
set_option linter.all false
/-! own exceptions over any built-in base, whose own __init__ asks the base's and keeps one field -/
namespace ME
open PySem PySem.Spec PyProof.Rows L2

/-- the class at C stands over B, by own classes between, or none -/
structure Over (K : PySem.W.Frag) (C : Addr) (B newId initId : String) (top : List Value) : Prop where
  base : ExcBaseFacts B newId initId top
  put : StoreFacts B top "object.__setattr__" "object"
  row : ∃ nm q N bs bm sn sub ab col dd k0 k1 k2 k3 k5,
    K.lookup C = some (excClassObj nm q C N bs bm true sn sub ab col dd k0 k1 k2 k3 k5 newId) ∧ PySem.W.excTail top bm = true
  hook : PySem.W.findIn K (.ref C) "__setattr__" = some (some (.builtin "object.__setattr__"))
  isE : PySem.W.subIn K (.ref C) (.type "BaseException") = some true
  meta_ : PySem.W.typeIn K (.ref C) = some (.type "type")
  keep : PySem.W.keepIn K (.ref C) = true

section
open Builtin Builtin.ObjectAttr
variable {prog : Program} {w : World} {A : Around} {R : Result → Shared → Prop} {hp : Heap} {g : Array GenState} {d : Drawn}
  {t : Nat} {os : OsState} {K : PySem.W.Frag} {C x : Addr} {B newId initId : String} {top : List Value}
/-- the first field of an exception lays its dict -/
theorem first_put {name : Str} {tk : Tok} {v : Value} {fv : Array Value} (T : Over K C B newId initId top) (X : K.In hp)
    (hx : hp.get? x = some { cls := .ref C, data := .fields fv })
    (ha : PySem.W.findIn K (.ref C) name = some none)
    (hq : ∀ h' tk' dx, (∀ b o, b ≠ x → hp.get? b = some o → h'.get? b = some o) → hp.objs.size ≤ dx → dx ≠ x →
      h'.get? x = some { cls := .ref C, dict := some dx, data := .fields fv } →
      h'.Ns1 dx (fun y => if y = name then some v else none) → R (.ok (.ret .none)) ⟨h', g, d, tk', os⟩) :
    codeAny (model prog w) A (.call (.builtin "object.__setattr__") ⟨[.ref x, .str name tk, v], []⟩) R ⟨hp, g, d, t, os⟩ := by
  obtain ⟨nm, q, N, bs, bm, sn, sub, ab, col, dd, k0, k1, k2, k3, k5, hC, hbm⟩ := T.row
  have hcd : PySem.W.clsIn K C = some { name := nm, bases := bs, mro := .ref C :: bm, ns := N, qualname := q, hasDict := true, slotNames := sn, subclasses := sub, abstract := ab, collection := col, hasDel := false } := by
    unfold PySem.W.clsIn
    rw [hC] <;> rfl
  have hall : PySem.W.excTail top (.ref C :: bm) = true := hbm
  have inst : PySem.W.InstAt hp x { cls := .ref C, data := .fields fv } C none := ⟨hx, rfl, rfl, trivial⟩
  have S := PySem.F.store_object
  have far : x ≠ hp.objs.size := Nat.ne_of_lt (Heap.lt_size hx)
  have obj : (Value.ref C :: bm).contains (.type "object") = true :=
    (PySem.W.excTail_contains "object" _ hall).trans T.put.hasOwner
  have mro : PySem.W.mroIn K C (.type "object") = some true := by
    unfold PySem.W.mroIn
    rw [hcd, Option.bind_some]
    simp only [List.isEmpty_cons, obj, Bool.false_eq_true, if_false]
  have isObj : PySem.W.Looks (model prog w) hp (isInstance (.ref x) (.type "object")) true :=
    inst.type.andThen (PySem.W.looks_mroIn X mro)
  have rd : PySem.W.Looks (model prog w) hp (classData C) _ := PySem.W.looks_clsIn X hcd
  have rm : PySem.W.Looks (model prog w) hp (mroOf (.ref C)) (.ref C :: bm) := rd.andThen .now
  have none_ : PySem.W.Looks (model prog w) hp (storeTaker? none) none := .now
  refine codeAny_call_builtin S.slot.plain S.entry (@PySem.W.check_slot (model prog w) _ _ ⟨hp, g, d, t, os⟩
    "object.__setattr__" "object" "__setattr__" (.ref x) [.str name tk, v] [] _ S.kind S.split isObj (S.args (.ref x) (.str name tk) v) ?_)
  rw [PySem.W.osa_eq, refuse_eq]
  refine wpAny_bind (wpAny_bind (inst.type.at (wpAny_bind (rm.at ?_))))
  rw [PySem.W.excTail_pass _ (T.put.passes _) _ hall]
  refine wpAny_pure (wpAny_bind (inst.type.at (wpAny_bind ((PySem.W.looks_findIn X ha).at (wpAny_bind (none_.at ?_))))))
  show wpAny _ _ (storeInOwnDict (.ref x) (.ref C) (.str name tk) name v false) _ _ _
  unfold storeInOwnDict ownDictForStores
  repeat (first
    | with_reducible refine PySem.HandSPX.store_in_new ?_ ?_
    | with_reducible refine wpAny_loadPart_at hx ?_
    | with_reducible refine rd.at ?_
    | wp_step)
  · refine ⟨_, #[], _, (Heap.get?_update_ne _ _ _ _ far.symm).trans (Heap.get?_push_at rfl rfl), rfl, ?_, fun _ => rfl⟩
    intro e he
    simp at he
  · intro h' tk' hn' hs
    have there : (hp.push { cls := .type "dict", data := .dict #[] }).get? x = some { cls := .ref C, data := .fields fv } :=
      Heap.get?_push_of_some _ hx
    refine hq h' tk' hp.objs.size ?_ (Nat.le_refl _) far.symm ((hs.2 x far).trans (Heap.get?_update_self _ there rfl)) hn'
    intro b o hb ho
    have nb : b ≠ hp.objs.size := Nat.ne_of_lt (Heap.lt_size ho)
    rw [hs.2 b nb, Heap.get?_update_ne _ _ _ _ hb]
    exact Heap.get?_push_of_some _ ho
end

section
variable {X : Cx} {pins : List (Addr × Obj)} {σ : L2.St} {H : Hp} {s : Shared} {a C : Addr} {f : Str} {y : V} {u : Value}
  {E : Value → Shared → Prop} {A : Around} {B newId initId : String} {top : List Value}
/-- self.f = y, the first field -/
theorem put_new {Q : Unit → Shared → Prop} (T : Over X.K C B newId initId top) (I : Inv X pins σ H s)
    (ea : H a = some (exo a C none)) (no : PySem.W.findIn X.K (.ref C) f = some none) (ry : RelV y u)
    (h : ∀ dx s', H dx = none → dx ≠ a →
      Inv X pins σ (upd (upd H dx (exd dx [(f, y)])) a (exo a C (some dx))) s' → Q () s') :
    wpAny (model X.prog X.w) A (setAttr (.ref a) f u) Q E s := by
  obtain ⟨t1, ho⟩ := exo_at I.hok ea
  obtain ⟨hp, g, d, t, os⟩ := s
  refine PySem.W.set_plain I.kIn (od := none) ⟨ho, rfl, rfl, trivial⟩ T.hook ?_
  refine first_put T I.kIn ho no (fun h' tk' dx kp ge ne hx hn => ?_)
  have free : H dx = none := I.hok.fresh ge
  have old : ∀ {b : Addr} {o : Obj}, hp.get? b = some o → b ≠ dx := by
    intro b o hb
    exact Nat.ne_of_lt (Nat.lt_of_lt_of_le (Heap.lt_size hb) ge)
  have nota : ∀ {b : Addr}, H b = none → b ≠ a := by
    rintro b hb rfl
    rw [ea] at hb
    cases hb
  have same : ∀ {b : Addr} {v : HO}, H b = some v → b ≠ a →
      upd (upd H dx (exd dx [(f, y)])) a (exo a C (some dx)) b = some v := by
    intro b v hb ba
    rw [upd_ne ba, upd_ne (ne_of_none hb free)]
    exact hb
  have un : Un X.fs [] H (upd (upd H dx (exd dx [(f, y)])) a (exo a C (some dx))) hp h' := by
    constructor
    case keep => exact fun b o hb hn _ _ => kp b o (nota hn) hb
    case slot => exact fun b o hb hn _ _ => ⟨o.slots, kp b o (nota hn) hb⟩
    case free =>
      intro b o hb hn _
      rw [upd_ne (nota hn), upd_ne (old hb)]
      exact hn
    case there =>
      intro b o hb _
      by_cases ba : b = a
      · exact ⟨_, ba ▸ hx⟩
      · exact ⟨o, kp b o ba hb⟩
    case tups => exact fun b xs hb => same hb (at_ne ea hb exo_tup)
    case frzs => exact fun b o v hb => same hb (at_ne ea hb exo_frz)
    case tbls =>
      intro b ps hb
      refine ⟨#[], ?_⟩
      rw [same hb (at_ne ea hb exo_tbl)]
      simp
  refine h dx _ free ne (I.un (t' := tk') un fun b o hb => ?_)
  by_cases ba : b = a
  · subst ba
    rw [upd_same] at hb
    cases hb
    exact exo_ok hx
  rw [upd_ne ba] at hb
  by_cases bd : b = dx
  · subst bd
    rw [upd_same] at hb
    cases hb
    exact exd_ok hn (relO_put (fs := []) ry fun _ => True.intro)
  rw [upd_ne bd] at hb
  refine (I.hok b o hb).stay ?_ (fun c hc => same hc (at_ne ea hc exo_own)) (fun c xs hc => same hc (at_ne ea hc exo_tup))
  rintro c v hc z
  refine kp c v ?_ z
  rcases hc with rfl | hc
  · exact ba
  · exact at_ne ea hc exo_own

/-- B.__init__(self, ..) -/
theorem ask_ok {us : List Value} {Q : Value → Shared → Prop} (T : Over X.K C B newId initId top) (I : Inv X pins σ H s)
    (ea : H a = some (exo a C none)) (hl : us.length ≤ sizeLine) (h : ∀ s', Inv X pins σ H s' → Q .none s') :
    wpAny (model X.prog X.w) A (call (.builtin initId) (.ref a :: us)) Q E s := by
  obtain ⟨nm, q, N, bs, bm, sn, sub, ab, col, dd, k0, k1, k2, k3, k5, hC, hbm⟩ := T.row
  obtain ⟨t1, ho⟩ := exo_at I.hok ea
  obtain ⟨hp, g, d, t, os⟩ := s
  refine wpAny_call (PySem.HandSPX.init_base T.base (fun Y => PySem.W.excTail_contains Y bm hbm) (I.kIn _ _ hC) ho hl ?_)
  intro h' t2 kp hx
  have J := I.write (t' := t) (x := a) (e := a) (o := exo a C none) (by rw [ea]; exact True.intro) (.inl rfl) kp ⟨_, hx⟩ (exo_ok hx)
  have same : upd H a (exo a C none) = H := by
    funext b
    by_cases hb : b = a
    · subst hb
      rw [upd_same, ea]
    · rw [upd_ne hb]
  rw [same] at J
  exact h _ J
end

/-- B.__init__(self, ..): nothing of it is told -/
def tAsk (K : PySem.W.Frag) (B newId initId : String) (top : List Value) (ta : TA) : TE := fun σ H Q =>
  ta σ H fun vs H1 => ∃ (a C : Addr) (ws : List V), vs = .ref a :: ws ∧ ws.length ≤ 1000 ∧ Over K C B newId initId top ∧
    H1 a = some (exo a C none) ∧ Q .non H1
/-- self.f = e, the first field -/
def tPut (K : PySem.W.Frag) (B newId initId : String) (top : List Value) (f : Str) (to te : TE) : TS := fun D σ H =>
  te σ H fun y H1 => to σ H1 fun x H2 => ∃ a C : Addr, x = .ref a ∧ Over K C B newId initId top ∧
    PySem.W.findIn K (.ref C) f = some none ∧ H2 a = some (exo a C none) ∧
    ∀ dx, H2 dx = none → dx ≠ a → D.nx σ (upd (upd H2 dx (exd dx [(f, y)])) a (exo a C (some dx)))
section
variable {X : Cx} {o e : Expr} {es : List Expr} {to te : TE} {ta : TA} {f : Str} {p p' p1 p2 pos : Pos}
  {B newId initId : String} {top : List Value}
theorem ps_put (ho : PE X o to) (he : PE X e te)
    (hs : swapsWith e (some (.Attribute o f p')) pos.line X.env = pure false := by rfl) :
    PS X (.Assign [.Attribute o f p'] e pos) (tPut X.K B newId initId top f to te) := by
  constructor
  intro pins s σ H D I h
  refine plainObj_wpAny_Assign_Attribute (thn (he.run pins s σ H _ I h) ?_) hs
  rintro v s1 ⟨y, H1, I1, r1, q1⟩
  refine thn (ho.run pins s1 σ H1 _ I1 q1) ?_
  rintro u s2 ⟨x, H2, I2, r2, a, C, rfl, T, no, ea, q⟩
  obtain rfl : u = Value.ref a := r2
  exact put_new T I2 ea no r1 fun dx s' n ne J => ⟨σ, _, J, q dx n ne⟩
theorem pe_ask {pl : Sem Bool} (hg : Gl X B) (hm : X.mg B = none) (hv : bootBuiltins B = some (.type B))
    (ty : typeOf (.type B) = pure (.type "type")) (st : Manifest.isStub B = false)
    (vV : PySem.W.findCls X.K (.type B) (.type "type") "__init__" = some (.val (.builtin initId)))
    (hi : PySem.W.handedIn (.builtin initId) = true)
    (ha : PA X (e :: es) ta) (hn : (B : Str) ≠ "__name__" := by decide) (hdb : ((B : Str) == ("__debug__" : Str)) = false := by decide)
    (hc : eval (.Call (.Attribute (.Name B p1) "__init__" p2) (e :: es) [] pos) X.env = (do
      let ov ← eval (.Name B p1) X.env
      standAt p2.atName
      let (f, first) ← holding [ov] (getMethod ov "__init__" pl)
      callWith pos f first (backTo pos (starEach (e :: es) X.env)) (backToKw pos (keywordEach [] X.env))) := by rfl)
    (he : starEach (e :: es) X.env = (false, eval e X.env) :: starEach es X.env := by rfl)
    (hpl : (backTo pos (starEach es X.env)).any (·.1) = false := by rfl) :
    PE X (.Call (.Attribute (.Name B p1) "__init__" p2) (e :: es) [] pos) (tAsk X.K B newId initId top ta) := by
  constructor
  intro pins s σ H Q I h
  refine PySem.W.methodCall_KW (ld_blt I hg hm hv ?_ hn hdb) hc
  obtain ⟨m, fr⟩ := I.fr
  refine PySem.W.method_type fr I.ok.mod.kin ty st vV hi ?_
  show wpAny _ _ (callWith pos (Value.builtin initId) [] (backTo pos (starEach (e :: es) X.env)) []) _ _ _
  refine PyProof.Rows.callWith_method1 (thn (ha.run pos pins _ σ H _ (I.tok _) h) ?_) he hpl
  rintro us s1 ⟨vs, H1, I1, r1, a, C, ws, rfl, hl, T, ea, q⟩
  cases r1 with
  | @cons _ u0 _ ur ra rw' =>
    obtain rfl : u0 = Value.ref a := ra
    refine ask_ok T I1 ea ?_ fun s' J => ⟨.non, H1, J, rfl, q⟩
    rw [← Paired.length rw', sizeLine_eq]
    omega
end

/-- what __init__ of such a class keeps: one field, called f -/
def spKeep (C : Addr) (f : Str) : Sp := fun vs H Q _ => ∃ (a : Addr) (y : V), vs = [.ref a, y] ∧ H a = some (exo a C none) ∧
  ∀ dx, H dx = none → dx ≠ a → Q .non (upd (upd H dx (exd dx [(f, y)])) a (exo a C (some dx)))
/-- C(e) is made: its class, its dict, which keeps e under f -/
def tMade (C : Addr) (f : Str) (ta : TA) : L2.St → Hp → XK → Prop := fun σ H Q => ta σ H fun vs H1 => ∃ y, vs = [y] ∧
  ∀ d, H1 d = none → Q (.ref C) (some d) (upd H1 d (.xd [(f, y)]))
section
variable {X : Cx} {e : Expr} {es : List Expr} {ta : TA} {p pos : Pos} {CX : CXT} {x f : Str} {C fI : Addr} {k : Nat} {fd : FuncData}
  {ps : List Str} {B newId initId : String} {top : List Value}
theorem room_make {A : Around} (r : MM.Rm (k + 1) A) (C : Addr) (us : List Value) (kw : List (Str × Value)) :
    MM.Rm k (A.under (.builtin "type.__call__" ⟨.ref C :: us, kw⟩)) := ⟨r.room.make C us kw, r.still⟩
theorem pmk_made (T : Over X.K C B newId initId top) (iC : PySem.W.findIn X.K (.ref C) "__init__" = some (some (.ref fI)))
    (tI : PySem.W.typeIn X.K (.ref fI) = some (.type "function"))
    (F : MM.FnG X.prog X.w X.K X.mg X.base CX k fI fd ps (spKeep C f)) (hr : MM.Rm (k + 1) X.A) (hb : Binds X.K fd ps [])
    (hx : Passes CX X (fun _ _ _ => False)) (hm : X.mg x = some (.ref C)) (ha : PA X (e :: es) ta) (hg : Gl X x := by rfl)
    (hdb : (x == ("__debug__" : Str)) = false := by decide)
    (he : starEach (e :: es) X.env = (false, eval e X.env) :: starEach es X.env := by rfl)
    (hpl : (backTo pos (starEach es X.env)).any (·.1) = false := by rfl) :
    PMk X (.Call (.Name x p) (e :: es) [] pos) (tMade C f ta) := by
  intro pins s σ H Q I h
  obtain ⟨nm, q, N, bs, bm, sn, sub, ab, col, dd, k0, k1, k2, k3, k5, hC, hbm⟩ := T.row
  refine wpAny_Call_Name_kw (ld_glob I hg hm ?_ hdb)
  refine PySem.W.callWith_K (h₀ := X.base) I.ok.mod.kin T.keep (thn (ha.run pos pins s σ H _ I h) ?_) he hpl
  rintro us s1 ⟨vs, H1, I1, r1, y, rfl, q1⟩
  refine ⟨I1.kIn, ?_⟩
  obtain ⟨u, rfl, ry⟩ := vals1 r1
  show wpAny _ _ (call (.ref C) [u]) _ _ _
  obtain ⟨hp, g, dr, tk, os⟩ := s1
  have size : hp.objs.size ≤ hp.objs.size + 1 := Nat.le_succ _
  have new : H1 (hp.objs.size + 1) = none := I1.hok.fresh size
  have kept : ∀ b o, hp.get? b = some o →
      ((hp.push (PySem.W.kdv_tup [u])).push (PySem.HandSPX.excO C hp.objs.size)).get? b = some o := by
    intro b o z
    exact Heap.get?_push_of_some _ (Heap.get?_push_of_some _ z)
  have lies : ((hp.push (PySem.W.kdv_tup [u])).push (PySem.HandSPX.excO C hp.objs.size)).get? (hp.objs.size + 1) =
      some (PySem.HandSPX.excO C hp.objs.size) := by heap_get
  have I2 := I1.laid (t' := tk) (a := hp.objs.size + 1) (o := exo (hp.objs.size + 1) C none) kept size (exo_ok lies)
  have r2 : Vals [V.ref (hp.objs.size + 1), y] [Value.ref (hp.objs.size + 1), u] := .cons rfl (.cons ry .nil)
  have sp : spKeep C f [V.ref (hp.objs.size + 1), y] (upd H1 (hp.objs.size + 1) (exo (hp.objs.size + 1) C none))
      (fun v H2 => v = .non ∧ ∃ d, H1 d = none ∧ d ≠ hp.objs.size + 1 ∧
        H2 = upd (upd (upd H1 (hp.objs.size + 1) (exo (hp.objs.size + 1) C none)) d (exd d [(f, y)])) (hp.objs.size + 1) (exo (hp.objs.size + 1) C (some d)))
      (fun _ _ _ => False) := by
    refine ⟨_, y, rfl, upd_same, fun dx n ne => ⟨rfl, dx, ?_, ne, rfl⟩⟩
    rw [upd_ne ne] at n
    exact n
  have len := F.arity sp
  have bd := hb ⟨_, g, dr, tk, os⟩ [Value.ref (hp.objs.size + 1), u] I2.kIn (by rw [List.append_nil]; exact len)
  rw [List.append_nil] at bd
  refine wpAny_call (PySem.HandSPX.call_own T.base (fun Y => PySem.W.excTail_contains Y bm hbm) (I1.kIn _ _ hC)
    (PySem.W.looks_findIn I1.kIn iC) (fun self => PySem.W.bind_fn I1.kIn self tI) (by show 1 ≤ sizeLine; rw [sizeLine_eq]; omega)
    (codeAny_mono (F.runs (out := X.stack) (room_make hr C [u] []) (I2.env0.make C [u] []) bd r2 sp) ?_))
  intro r s' hq
  cases r with
  | error er => exact hx pins σ _ _ er s' I2 hq
  | ok fl =>
    cases fl with
    | next => exact hq.elim
    | brk => exact hq.elim
    | cont => exact hq.elim
    | ret u' =>
      obtain ⟨v, H2, os2, bare2, un2, hok2, rv, rfl, d, nd, ne, rfl⟩ := hq
      obtain ⟨h2, g2, d2, t2, os'⟩ := s'
      have ed : (upd (upd (upd H1 (hp.objs.size + 1) (exo (hp.objs.size + 1) C none)) d (exd d [(f, y)])) (hp.objs.size + 1)
          (exo (hp.objs.size + 1) C (some d))) d = some (exd d [(f, y)]) := by
        rw [upd_ne ne, upd_same]
      refine ⟨rv, mk_end (raises_own T.isE T.meta_) I1 size kept un2 hok2 os2 bare2 upd_same ed nd ?_⟩
      have same : upd (del (upd (upd (upd H1 (hp.objs.size + 1) (exo (hp.objs.size + 1) C none)) d (exd d [(f, y)])) (hp.objs.size + 1)
          (exo (hp.objs.size + 1) C (some d))) (hp.objs.size + 1)) d (.xd [(f, y)]) = upd H1 d (.xd [(f, y)]) := by
        funext b
        by_cases b1 : b = d
        · subst b1
          rw [upd_same, upd_same]
        rw [upd_ne b1, upd_ne b1]
        by_cases b2 : b = hp.objs.size + 1
        · subst b2
          rw [del_same, new]
        rw [del_ne b2, upd_ne b2, upd_ne b1, upd_ne b2]
      rw [same]
      exact q1 d nd
end
end ME

set_option Elab.async false
set_option maxRecDepth 100000
set_option maxHeartbeats 2000000
set_option linter.all false
/-! try with several clauses, with and without a name -/
namespace ME
open PySem PySem.Spec PyProof.Rows L2
/-- where slot i is emptied behind the suite -/
def Ends.drop (D : Ends) (i : Nat) : Ends where
  nx := fun σ H => D.nx (σ.set i none) H
  rt := D.rt
  bk := fun σ H => D.bk (σ.set i none) H
  ct := fun σ H => D.ct (σ.set i none) H
/-- clauses, one after the other; W: what is wished of the exception that the body lets out -/
inductive Cl (X : Cx) (Wout : WX) : List ExceptHandler → (Ends → WX) → Prop where
  | nil : Cl X Wout [] (fun _ => Wout)
  | no {x : Str} {c : Value} {ts : Addr → Value → Option Addr → TS} {b₀ : Stmt} {suite : List Stmt} {np pos : Pos}
      {hds : List ExceptHandler} {W : Ends → WX} (hc : Names X x c)
      (su : ∀ (a : Addr) (oe : Obj) (cls : Value) (d : Option Addr) (pn : List (Addr × Obj)), Zc cls d oe →
        (∃ vs, oe.data = .fields vs) → PSs (X.suite a ((a, oe) :: pn)) (b₀ :: suite) (ts a cls d))
      (r : Cl X Wout hds W) :
      Cl X Wout (.ExceptHandler (some (.Name x np)) none (b₀ :: suite) pos :: hds) (fun D cls d σ H =>
        ∃ b, PySem.W.exmOne X.K cls c = some b ∧ (b = true → ∀ a, H a = none → ts a cls d D σ H) ∧ (b = false → W D cls d σ H))
  | as_ {x n : Str} {i : Nat} {c : Value} {ts : Addr → Value → Option Addr → TS} {b₀ : Stmt} {suite : List Stmt} {np pos : Pos}
      {hds : List ExceptHandler} {W : Ends → WX} (hc : Names X x c) (hN : X.N.Nodup) (hi : X.N[i]? = some n)
      (hl : X.env.kindOf n = some .local)
      (su : ∀ (a : Addr) (oe : Obj) (cls : Value) (d : Option Addr) (pn : List (Addr × Obj)), Zc cls d oe →
        (∃ vs, oe.data = .fields vs) → PSs (X.suite a ((a, oe) :: pn)) (b₀ :: suite) (ts a cls d))
      (r : Cl X Wout hds W) :
      Cl X Wout (.ExceptHandler (some (.Name x np)) (some n) (b₀ :: suite) pos :: hds) (fun D cls d σ H =>
        ∃ b, PySem.W.exmOne X.K cls c = some b ∧ (b = true → ∀ a, H a = none → σ.length = X.N.length → ts a cls d (Ends.drop D i) (σ.set i (some (.ref a))) H) ∧
          (b = false → W D cls d σ H))

/-- the exception at a has landed in X: h is the heap now, sI the state without it -/
structure Lands (X : Cx) (pins : List (Addr × Obj)) (σ : L2.St) (H : Hp) (cls : Value) (d : Option Addr) (a : Addr) (B : Heap)
    (sI s : Shared) (h : Heap) : Prop where
  inv : Inv X pins σ H sI
  ground : ∀ b o, sI.heap.get? b = some o → b ∉ frs X.stack → B.get? b = some o
  up : sI.heap.UpToSlots h
  fly : HandSPX.FlyingZ B (X.env :: X.outer) a (Zc cls d) h
  none_ : H a = none
  os : s.os = sI.os
  bare : AllBare s.gens
section
variable {X : Cx} {pins : List (Addr × Obj)} {σ : L2.St} {H : Hp} {cls : Value} {d : Option Addr} {a : Addr} {B : Heap}
  {sI s : Shared} {h : Heap} {D : Ends} {Wout : WX} {hds : List ExceptHandler} {W : Ends → WX}
theorem Lands.here (L : Lands X pins σ H cls d a B sI s h) : Inv X pins σ H { s with heap := h } :=
  L.inv.landed (s' := { s with heap := h }) L.ground L.fly.1 L.up L.os L.bare
theorem Lands.later (L : Lands X pins σ H cls d a B sI s h) {h' : Heap} (f : HandSPX.FlyingZ B (X.env :: X.outer) a (Zc cls d) h')
    (u : h.UpToSlots h') : Lands X pins σ H cls d a B sI s h' :=
  { L with up := L.up.trans u, fly := f }
/-- the exception as it lies, in the suite's context -/
theorem Lands.suite (L : Lands X pins σ H cls d a B sI s h) (hf : X.env.frame = some X.env.locals) :
    ∃ (oe : Obj) (vs : Array Value), h.get? a = some oe ∧ Zc cls d oe ∧ oe.data = .fields vs ∧
      Inv (X.suite a ((a, oe) :: (X.pn ++ pins))) [] σ H { s with heap := h } := by
  obtain ⟨oe, vs, he, hz, hd⟩ := L.fly.there
  have away : a ∉ frs (X.env :: X.outer) := by
    intro hm
    obtain ⟨_, o', e', no⟩ := L.fly.2.2.1.mem hm
    rw [he] at e'
    cases e'
    exact no _ hd
  have nL : a ≠ X.env.locals := fun z => away (List.mem_filterMap.mpr ⟨X.env, List.mem_cons_self, by rw [hf, z]⟩)
  have nF : a ∉ X.fs := by
    intro hm
    obtain ⟨e, he', q⟩ := List.mem_filterMap.mp hm
    exact away (List.mem_filterMap.mpr ⟨e, List.mem_cons_of_mem _ he', q⟩)
  exact ⟨oe, vs, he, hz, hd, L.here.suite he hd L.none_ nL nF⟩
/-- a suite's end -/
theorem Lands.out {oe : Obj} {f : Flow} {s6 : Shared} (ok : X.Ok)
    (q : SP (X.suite a ((a, oe) :: (X.pn ++ pins))) [] D f s6) : SP X pins D f s6 := by
  cases f with
  | ret u =>
    obtain ⟨v, σ6, H6, S, r, z⟩ := q
    exact ⟨v, σ6, H6, S.unsuite ok, r, z⟩
  | next =>
    obtain ⟨σ6, H6, S, z⟩ := q
    exact ⟨σ6, H6, S.unsuite ok, z⟩
  | brk =>
    obtain ⟨σ6, H6, S, z⟩ := q
    exact ⟨σ6, H6, S.unsuite ok, z⟩
  | cont =>
    obtain ⟨σ6, H6, S, z⟩ := q
    exact ⟨σ6, H6, S.unsuite ok, z⟩
theorem handled (hs : X.stack = X.env :: X.outer) (hf : X.env.frame = some X.env.locals) (tk : Takes X Wout)
    (C : Cl X Wout hds W) : ∀ {h : Heap}, Lands X pins σ H cls d a B sI s h → W D cls d σ H →
      wpAny (model X.prog X.w) X.A (handleBy (.ref a) X.env hds) (SP X pins D) X.xe { s with heap := h } := by
  induction C with
  | nil =>
    intro h L w
    have L0 := L
    refine wpAny_handleBy_nil ?_
    obtain ⟨k1, k2, k3, oe, vs, T, oT, ts', he, hz, hd, h1, hr⟩ := L.fly
    unfold PySem.passOn
    refine wpAny_bind (wpAny_field he hd h1 ?_)
    rw [if_neg (show ¬ ((Value.ref T == Value.none) = true) from by simp)]
    have on : wpAny (model X.prog X.w) X.A (setFlight (.ref a) X.env.frame)
        (fun _ s4 => wpAny (model X.prog X.w) X.A (throw (.ref a) : Sem Flow) (SP X pins D) X.xe s4) X.xe { s with heap := h } := by
      rw [hf]
      refine HandSPX.setFlight_upZ L0.fly fun h4 hh4 up4 => wpAny_throw (tk _ _ ?_)
      exact ⟨a, B, sI, pins, σ, H, cls, d, rfl, L0.inv, L0.ground, L0.up.trans up4, .inr (.inr (by rw [hs]; exact hh4)), L0.none_, L0.os,
        L0.bare, w⟩
    first
      | exact wpAny_bind (wpAny_pure (wpAny_bind on))
      | exact wpAny_bind on
  | @no x c ts b₀ suite np pos hds' W' hc su r ih =>
    intro h L w
    obtain ⟨b, e, yes, no⟩ := w
    obtain ⟨oe, vs, he, hz, hd, S⟩ := L.suite hf
    refine wpAny_handleBy_cons (codeAny_handlers_test ?_) (by intro q; cases q)
    have ty : PySem.W.Looks (model X.prog X.w) h (typeOf (.ref a)) cls := fun A Q E s k q =>
      wpAny_typeOf_ref (k _ _ he) (by rw [hz.1]; exact q)
    have ask := PySem.W.exm_one (M := model X.prog X.w) L.here.kIn ty e
    have name : ∀ {Q : Value → Shared → Prop} {E : Value → Shared → Prop}, Q c { s with heap := h } →
        wpAny (model X.prog X.w) (X.A.mark (some (.ref a))) (eval (.Name x np) X.env) Q E { s with heap := h } := by
      intro Q E q
      obtain ⟨hg, hdb, hm | ⟨hm, hv, hn⟩⟩ := hc
      · exact ld_glob (X := X.suite a ((a, oe) :: (X.pn ++ pins))) S hg hm q hdb
      · exact ld_blt (X := X.suite a ((a, oe) :: (X.pn ++ pins))) S hg hm hv q hn hdb
    refine name (ask.here ?_)
    cases b with
    | false => exact ih L (no rfl)
    | true =>
      refine codeAny_handlers_suite (HandSPX.lands_againZ L.fly fun h4 f4 u4 => ?_)
      obtain ⟨oe4, vs4, _, hz4, hd4, S4⟩ := (L.later f4 u4).suite hf
      refine wpAny_mono ((su a oe4 cls d (X.pn ++ pins) hz4 ⟨_, hd4⟩).run [] _ _ H _ S4 (yes rfl a L.none_))
        (fun f s6 q => Lands.out L.inv.ok q) (fun _ _ z => False.elim z)
  | @as_ x n i c ts b₀ suite np pos hds' W' hc hN hi hl su r ih =>
    intro h L w
    obtain ⟨b, e, yes, no⟩ := w
    obtain ⟨oe, vs, he, hz, hd, S⟩ := L.suite hf
    refine wpAny_handleBy_cons (codeAny_handlers_test ?_) (by intro q; cases q)
    have ty : PySem.W.Looks (model X.prog X.w) h (typeOf (.ref a)) cls := fun A Q E s k q =>
      wpAny_typeOf_ref (k _ _ he) (by rw [hz.1]; exact q)
    have ask := PySem.W.exm_one (M := model X.prog X.w) L.here.kIn ty e
    have name : ∀ {Q : Value → Shared → Prop} {E : Value → Shared → Prop}, Q c { s with heap := h } →
        wpAny (model X.prog X.w) (X.A.mark (some (.ref a))) (eval (.Name x np) X.env) Q E { s with heap := h } := by
      intro Q E q
      obtain ⟨hg, hdb, hm | ⟨hm, hv, hn⟩⟩ := hc
      · exact ld_glob (X := X.suite a ((a, oe) :: (X.pn ++ pins))) S hg hm q hdb
      · exact ld_blt (X := X.suite a ((a, oe) :: (X.pn ++ pins))) S hg hm hv q hn hdb
    refine name (ask.here ?_)
    cases b with
    | false => exact ih L (no rfl)
    | true =>
      refine codeAny_handlers_suite_as (HandSPX.lands_againZ L.fly fun h4 f4 u4 => ?_)
      obtain ⟨oe4, vs4, _, hz4, hd4, S4⟩ := (L.later f4 u4).suite hf
      refine store_ok (X := X.suite a ((a, oe4) :: (X.pn ++ pins))) (v := .ref a) S4 hN hi (.inl hl) rfl (fun s5 S5 => ?_) (.inr hl)
      refine wpAny_mono ((su a oe4 cls d (X.pn ++ pins) hz4 ⟨_, hd4⟩).run [] s5 _ H _ S5 (yes rfl a L.none_ L.inv.len))
        (fun f s6 q => ?_) (fun _ _ z => False.elim z)
      have q' := Lands.out L.inv.ok q
      cases f with
      | ret u =>
        obtain ⟨v, σ6, H6, J, r6, z⟩ := q'
        exact gone_ok J hN hi hl fun s7 J7 => ⟨v, _, H6, J7, r6, z⟩
      | next =>
        obtain ⟨σ6, H6, J, z⟩ := q'
        exact gone_ok J hN hi hl fun s7 J7 => ⟨_, H6, J7, z⟩
      | brk =>
        obtain ⟨σ6, H6, J, z⟩ := q'
        exact gone_ok J hN hi hl fun s7 J7 => ⟨_, H6, J7, z⟩
      | cont =>
        obtain ⟨σ6, H6, J, z⟩ := q'
        exact gone_ok J hN hi hl fun s7 J7 => ⟨_, H6, J7, z⟩
/-- try: body / the clauses -/
theorem ps_try_cl {body : List Stmt} {h₀ : ExceptHandler} {pos : Pos} {tb : WX → TS} (hs : X.stack = X.env :: X.outer)
    (hf : X.env.frame = some X.env.locals) (tk : Takes X Wout) (C : Cl X Wout (h₀ :: hds) W)
    (hb : ∀ (W : WX) (pn : List (Addr × Obj)) (xe : Value → Shared → Prop), Takes (X.tr pn xe) W →
      PassesOwn (model X.prog X.w) X.A X.env xe → PSs (X.tr pn xe) body (tb W)) :
    PS X (.Try body (h₀ :: hds) [] [] pos) (fun D σ H => tb (W D) D σ H) := by
  constructor
  intro pins s σ H D I h
  have ok := I.ok
  have fr : X.A.frames = some (X.env :: X.outer) := by rw [ok.frames, hs]
  refine wpAny_Try_except ?_
  refine wpAny_mono ((hb (W D) (X.pn ++ pins) (fun e s₁ => wpAny (model X.prog X.w) X.A (noteFrame e X.env)
    (fun _ s₂ => wpAny (model X.prog X.w) X.A (setFlight e none) (fun _ s₃ =>
      wpAny (model X.prog X.w) X.A (handleBy e X.env (h₀ :: hds)) (SP X pins D) X.xe s₃) X.xe s₂) X.xe s₁) ?_
    PassesOwn.looking).run [] s σ H D (I.toTry _) h) ?_ (fun e s1 he => he)
  · rintro u s' ⟨a, B, sI, pins', σ', H', cls, d, rfl, J', nb, up, sky, na, os, ag, w⟩
    have J : Inv X pins σ' H' sI := J'.ofTry ok
    have sky' : Sky B (X.env :: X.outer) a (Zc cls d) X.env.locals s'.heap := by
      rw [← hs]
      exact sky
    show wpAny (model X.prog X.w) X.A (noteFrame (.ref a) X.env) _ _ _
    refine Sky.land Zc.steady fr hf sky' fun h3 f3 u3 => ?_
    exact handled hs hf tk C ⟨J, nb, up.trans u3, f3, na, os, ag⟩ w
  · intro f s1 q
    cases f with
    | ret u =>
      obtain ⟨v, σ', H', J, r, z⟩ := q
      exact ⟨v, σ', H', J.ofTry ok, r, z⟩
    | next =>
      obtain ⟨σ', H', J, z⟩ := q
      exact wpAny_execs_nil ⟨σ', H', J.ofTry ok, z⟩
    | brk =>
      obtain ⟨σ', H', J, z⟩ := q
      exact ⟨σ', H', J.ofTry ok, z⟩
    | cont =>
      obtain ⟨σ', H', J, z⟩ := q
      exact ⟨σ', H', J.ofTry ok, z⟩
end
end ME

set_option Elab.async false
set_option maxRecDepth 100000
set_option maxHeartbeats 2000000
set_option linter.all false
/-! calls that may raise; a lambda handed to a def, where nothing is being shown; a def in a variable -/
namespace ME
open PySem PySem.Spec PyProof.Rows L2 LamX MM

section
variable {X : Cx} {CX : CXT} {k : Nat} {ps : List Str} {sp : Sp} {E : L2.St → XK} {x a : Str} {p pos : Pos} {e : Expr} {es : List Expr} {t : TA}
/-- f(e, ..), f a def of the text that may raise -/
def tDS (sp : Sp) (E : L2.St → XK) (t : TA) : TE := fun σ H Q => t σ H fun vs H1 => sp vs H1 Q (E σ)
theorem call_gS {f : Addr} {fd : FuncData} {pins : List (Addr × Obj)} {σ : L2.St} {H : Hp} {s : Shared} {Q : VK} {us : List Value} {vs : List V}
    (F : FnG X.prog X.w X.K X.mg X.base CX k f fd ps sp) (hr : Rm k X.A) (hb : Binds X.K fd ps []) (hx : PassesAt CX X σ (E σ))
    (I : Inv X pins σ H s) (r : Vals vs us) (h : sp vs H Q (E σ)) :
    wpAny (model X.prog X.w) X.A (call (.ref f) us) (EP X pins σ Q) X.xe s := by
  have nl : (us ++ []).length = ps.length := by
    rw [List.append_nil, ← r.length]
    exact F.arity h
  have bd := hb s us I.kIn nl
  rw [List.append_nil] at bd
  refine wpAny_call (codeAny_mono (F.runs hr I.env0 bd r h) ?_)
  intro res s' hq
  cases res with
  | error e => exact hx pins H s e s' I hq
  | ok fl =>
    cases fl with
    | ret u => exact I.after hq
    | next => exact hq.elim
    | brk => exact hq.elim
    | cont => exact hq.elim
theorem pe_dS (D : Def X.prog X.w X.K X.mg X.base CX k x ps sp) (hr : Rm k X.A) (hx : ∀ σ, PassesAt CX X σ (E σ)) (ha : PA X (e :: es) t)
    (hg : Gl X x := by rfl) (hdb : (x == ("__debug__" : Str)) = false := by decide)
    (he : starEach (e :: es) X.env = (false, eval e X.env) :: starEach es X.env := by rfl)
    (hpl : (backTo pos (starEach es X.env)).any (·.1) = false := by rfl) : PE X (.Call (.Name x p) (e :: es) [] pos) (tDS sp E t) := by
  obtain ⟨f, fd, F, hm, hk, hb, _⟩ := D
  constructor
  intro pins s σ H Q I h
  refine wpAny_Call_Name_kw (ld_glob I hg hm ?_ hdb)
  refine PySem.W.callWith_K (h₀ := X.base) I.ok.mod.kin hk ?_ he hpl
  exact thn (ha.run pos pins s σ H _ I h) fun us s1 ⟨vs, H1, I1, r, q⟩ => ⟨I1.kIn, call_gS F hr hb (hx σ) I1 r q⟩
/-- a(e, ..), a a variable that holds a def of the text: G tells which, and what it promises -/
def tVia (K : PySem.W.Frag) (i : Nat) (G : Addr → Sp → Prop) (E : L2.St → XK) (t : TA) : TE := fun σ H Q =>
  ∃ f sp, σ[i]? = some (some (.ref f)) ∧ G f sp ∧ t σ H fun vs H1 => sp vs H1 Q (E σ)
theorem pe_via {i : Nat} {G : Addr → Sp → Prop}
    (hG : ∀ f sp, G f sp → PySem.W.keepIn X.K (.ref f) = true ∧ ∃ fd k ps, FnG X.prog X.w X.K X.mg X.base CX k f fd ps sp ∧ Rm k X.A ∧ Binds X.K fd ps [])
    (hx : ∀ σ, PassesAt CX X σ (E σ)) (ha : PA X (e :: es) t) (hN : X.N[i]? = some a) (hv : Vis X.env.scope a)
    (hdb : (a == ("__debug__" : Str)) = false := by decide) (hcd : (a == ("__classdict__" : Str)) = false := by decide)
    (he : starEach (e :: es) X.env = (false, eval e X.env) :: starEach es X.env := by rfl)
    (hpl : (backTo pos (starEach es X.env)).any (·.1) = false := by rfl) :
    PE X (.Call (.Name a p) (e :: es) [] pos) (tVia X.K i G E t) := by
  constructor
  intro pins s σ H Q I h
  obtain ⟨f, sp, hs, g, h⟩ := h
  obtain ⟨hk, fd, k, ps, F, hr, hb⟩ := hG f sp g
  refine wpAny_Call_Name_kw (thn ((pe_var (pos := p) (i := i) hN hv hdb hcd).run pins s σ H (fun v H1 => v = .ref f ∧ H1 = H) I ⟨.ref f, hs, rfl, rfl⟩) ?_)
  rintro u s1 ⟨v, H1, I1, r1, rfl, rfl⟩
  obtain rfl : u = Value.ref f := r1
  refine PySem.W.callWith_K (h₀ := X.base) I1.ok.mod.kin hk ?_ he hpl
  exact thn (ha.run pos pins s1 σ H1 _ I1 h) fun us s2 ⟨vs, H2, I2, r, q⟩ => ⟨I2.kIn, call_gS F hr hb (hx σ) I2 r q⟩
end

section
variable {X : Cx} {pins : List (Addr × Obj)} {σ : L2.St} {H : Hp} {s : Shared}
/-- the def that got the lambda calls it -/
theorem act {Eg : XK} {CXg : CXT} {Ng : List Str} {qg : Str} {sg : Scope} {g f c' : Addr} {cdg pm ctv : Value} {params : Arguments}
    {body : Expr} {scope : Scope} {k i : Nat} {a : Str} {pn : List (Addr × Obj)} {xe : Value → Shared → Prop} {W : WX} {E : XK} {tb : TE}
    {p1 p2 : Pos} (I : Inv X pins σ H s) (L : LamS X.env.scope scope)
    (hf : s.heap.get? f = some (PySem.W.kla_obj "<lambda>" (X.env.qual ++ "<lambda>") params body scope (cloFrom X.env.cells scope.names []) pm c' ctv))
    (hfn : H f = none) (hfr : f ∉ frs X.stack)
    (hbind : bindArgs (PySem.W.kla_fn "<lambda>" (X.env.qual ++ "<lambda>") params body scope (cloFrom X.env.cells scope.names []) pm (.ref c') ctv) ⟨[], []⟩ = pure [])
    (tk : Takes ((cxOf CXg X.prog X.w X.K X.mg X.base Ng qg sg g cdg X.A X.stack s H Eg).tr pn xe) W)
    (hW : ∀ cls d σ' H', E cls d H' → W cls d σ' H') (hr : Rm (k + 1) (X.A.deeper (envOfC qg sg s.heap.objs.size g cdg)))
    (hbody : ∀ (A : Around) (outer : List Env) (s : Shared) (H : Hp), Rm k (A.deeper (lamEnv X scope s.heap.objs.size f c')) →
      PE (lamCx X A outer s H E scope f c') body tb)
    (hN : Ng[i]? = some a) (hv : Vis sg a) (hd : (a == ("__debug__" : Str)) = false := by decide)
    (hcd : (a == ("__classdict__" : Str)) = false := by decide) :
    PE ((cxOf CXg X.prog X.w X.K X.mg X.base Ng qg sg g cdg X.A X.stack s H Eg).tr pn xe) (.Call (.Name a p1) [] [] p2)
      (fun σZ HZ Q => σZ[i]? = some (some (.ref f)) ∧ HZ c' = some (CodeO c' (X.env.qual ++ "<lambda>")) ∧ tb σ HZ Q) := by
  constructor
  intro pinsZ sZ σZ HZ Q IZ h
  obtain ⟨hs, hc, ht⟩ := h
  refine wpAny_Call_Name_kw (thn ((pe_var (pos := p1) (i := i) hN hv hd hcd).run pinsZ sZ σZ HZ (fun v H1 => v = .ref f ∧ H1 = HZ) IZ ⟨.ref f, hs, rfl, rfl⟩) ?_)
  rintro u s1 ⟨v, H1, I1, r1, rfl, eH⟩
  rw [eH] at I1
  obtain rfl : u = Value.ref f := r1
  have there := I1.base.keep f _ hf hfn hfr (fun z => nomatch (show f ∈ ([] : List Addr) from z))
  refine PySem.W.callWith_F0 ⟨_, _, _, _, there⟩ ?_
  obtain ⟨⟨oc, vs, t, hoc, hdc, hvc⟩, _, _⟩ := I1.hok c' _ hc
  have run : codeAny (model X.prog X.w) (X.A.deeper (envOfC qg sg s.heap.objs.size g cdg)) (.call (.ref f) ⟨[], []⟩)
      (CR (L2.CX X.prog X.w) (envOfC qg sg s.heap.objs.size g cdg :: X.stack) X.prog X.w HZ s1 Q E) s1 := by
    refine PySem.W.kla_callFunE hr.room.depth there rfl L.co L.gen rfl ⟨c', oc, vs, t, rfl, hoc, hdc, hvc⟩ ?_
    rw [hbind]
    refine wpAny_pure (wpAny_newFunctionEnv (fun y hy => (L.own y hy).2) (fun y hy => absurd hy (by simp)) (fun h₁ hns hsb => ⟨I1.nolimit.fresh _ hsb, ?_⟩) L.kind)
    show codeAny _ _ (.expr body (lamEnv X scope s1.heap.objs.size f c')) _ _
    have kp : ∀ b o, s1.heap.get? b = some o → h₁.get? b = some o := by
      intro b o z
      exact hsb.extBut b o (Nat.ne_of_lt (Heap.lt_size z)) (Heap.get?_push_of_some _ z)
    have J := lam_start2 (E := E) (f := f) (c' := c') (tk := s1.toks + ([] : List (Str × Value)).length) I L I1.env0 hr.room.hd I1.base hns kp
    refine PySem.W.kla_codeExpr (wpAny_mono ((hbody _ _ s1 HZ hr.down).run [] _ _ HZ Q J ht) ?_ fun e s' hq => hq)
    rintro v s' ⟨w', H', J', rv, q⟩
    exact ⟨w', H', J'.os, J'.bare, J'.base, J'.hok, rv, q⟩
  refine wpAny_call (codeAny_mono run fun r s' hq => ?_)
  cases r with
  | error e => exact passes_call tk hW pinsZ σZ HZ s1 e s' I1 hq
  | ok fl =>
    cases fl with
    | ret u => exact I1.after hq
    | next => exact hq.elim
    | brk => exact hq.elim
    | cont => exact hq.elim
/-- x(lambda: body), x a def of the text -/
theorem pe_lam {T : List (Addr × Str)} {TT : (XK → Hp → VK → Prop) → Hp → VK → Prop} {x a : Str} {c P : Addr} {k : Nat} {st : Stmt}
    {Ng : List Str} {params : Arguments} {body : Expr} {scope : Scope} {t : XK → TE} {p lpos pos : Pos} (D : At X.K X.mg x st)
    (hb : ∀ (kV doc pm : Value) (an : Option Addr) (cd ct : Value) (us : List Value), us.length = [a].length →
      bindArgs (PySem.W.fnOf x x (defArgs st) (defBody st) (defScope st) .none kV doc pm an cd ct) ⟨us, []⟩ = pure ([a].zip us))
    (Sg : FnScope Ng [a] (defScope st)) (hNg : Ng[0]? = some a) (hva : Vis (defScope st) a)
    (hG : ∀ g cd, GivesTo X Ng x (defScope st) g cd (defBody st) a (X.env.qual ++ "<lambda>") TT)
    (TB : TabB X.base X.mg c P) (hcode : X.env.code = .ref c) (hmT : (P, X.env.qual ++ "<lambda>") ∈ T)
    (hu : ∀ p ∈ T, p.1 = P → p.2 = X.env.qual ++ "<lambda>") (hr : Rm (k + 2) X.A) (L : LamS X.env.scope scope)
    (hdef : defaultsOf params X.env = ([], []))
    (hbind : ∀ (q : Str) (cl : List (Str × Addr)) (pm cv ctv : Value), bindArgs (PySem.W.kla_fn "<lambda>" q params body scope cl pm cv ctv) ⟨[], []⟩ = pure [])
    (hbody : ∀ (A : Around) (outer : List Env) (s : Shared) (H : Hp) (E : XK) (f c' : Addr), Rm k (A.deeper (lamEnv X scope s.heap.objs.size f c')) →
      PE (lamCx X A outer s H E scope f c') body (t E))
    (hg : Gl X x := by rfl) (hdb : (x == ("__debug__" : Str)) = false := by decide) (hd : (a == ("__debug__" : Str)) = false := by decide)
    (hcd : (a == ("__classdict__" : Str)) = false := by decide) :
    PE X (.Call (.Name x p) [.Lambda params body scope lpos] [] pos) (tLam T TT t) := by
  obtain ⟨fd, F⟩ := D.fn
  have bnd := F.bindsN hb
  obtain ⟨oc, od, dV, kV, doc, pm, an, cdv, ct, osl, rfl, lk, hcg, _⟩ := F.ex
  constructor
  intro pins s σ H Q I h
  obtain ⟨hT, h⟩ := h
  refine wpAny_Call_Name_kw (ld_glob I hg D.glo ?_ hdb)
  refine PySem.W.callWith_K (h₀ := X.base) I.ok.mod.kin F.kp ?_ (by rfl) (by rfl)
  show wpAny _ _ (spliced ((false, eval (.Lambda params body scope lpos) X.env) :: backTo pos (starEach [] X.env))) _ _ s
  refine Calls.spliced_cons (lam_make2 I TB hcode hmT hu hT hdef (L.has I.ok) ?_)
  intro f c' pm' ctv H1 s' I1 eN T1 hf hfn hfr hco
  refine Calls.spliced_nil ⟨I1.kIn, ?_⟩
  have run : codeAny (model X.prog X.w) X.A (.call (.ref (He.ga X.K x)) ⟨[.ref f], []⟩) (CR C8.CX0 X.stack X.prog X.w H1 s' Q C8.E0) s' := by
    refine run_ofS (N := Ng) (ps := [a]) (us := [.ref f]) (vs := [.ref f]) lk hcg Sg (hr.le (Nat.le_refl _)).room I1.env0 (bnd s' [.ref f] I1.kIn rfl) (.cons rfl .nil) rfl fun _ => ?_
    obtain ⟨t', ht', hq'⟩ := hG _ _ f c' s' H1 Q (fun E H' Q' => t E σ H' Q')
      (fun W pn xe E p1 p2 tk hW => act (i := 0) I1 L hf hfn hfr (hbind _ _ _ _ _) tk hW hr.down (fun A outer s H hr2 => hbody A outer s H E f c' hr2) hNg hva hd hcd)
      hco (h H1 eN T1)
    exact ⟨t', ht'.nox, hq'⟩
  refine wpAny_call (codeAny_mono run fun r s2 hq => ?_)
  cases r with
  | error e => exact (show False from hq).elim
  | ok fl =>
    cases fl with
    | ret u => exact I1.after hq
    | next => exact hq.elim
    | brk => exact hq.elim
    | cont => exact hq.elim
end
end ME

set_option Elab.async false
set_option maxRecDepth 100000
set_option maxHeartbeats 2000000
set_option linter.all false
/-! an exception that was caught and is handed on: tracked in the suite, asked by isinstance in another def, its field read -/
namespace ME
open PySem PySem.Spec PyProof.Rows L2
/-- a caught exception of the class cls, its dict at d, at a -/
def ExH (cls : Value) (d : Option Addr) (a : Addr) : HO := .ext fun h => ∃ (oe : Obj) (vs : Array Value), h.get? a = some oe ∧ Zc cls d oe ∧ oe.data = .fields vs
theorem exH_ok {P : Program} {w : World} {H : Hp} {h : Heap} {a : Addr} {cls : Value} {d : Option Addr} {oe : Obj} {vs : Array Value}
    (e : h.get? a = some oe) (z : Zc cls d oe) (hd : oe.data = .fields vs) : ObjOk P w H h a (ExH cls d a) :=
  ⟨⟨oe, vs, e, z, hd⟩, ⟨oe, e⟩, fun _ _ ⟨o, v, q, r⟩ k => ⟨o, v, k o q, r⟩⟩
theorem exH_at {P : Program} {w : World} {H : Hp} {h : Heap} {a : Addr} {cls : Value} {d : Option Addr} (x : HOk P w H h) (e : H a = some (ExH cls d a)) :
    ∃ (oe : Obj) (vs : Array Value), h.get? a = some oe ∧ Zc cls d oe ∧ oe.data = .fields vs := by
  have z : ObjOk P w H h a (ExH cls d a) := x a _ e
  exact z.1
section
variable {X : Cx} {pins : List (Addr × Obj)} {σ : L2.St} {H : Hp} {s : Shared}
/-- an object that is new since the entry is tracked from now on -/
theorem Inv.track {a : Addr} {o : HO} (I : Inv X pins σ H s) (n0 : X.s_0.heap.get? a = none) (hn : H a = none) (ne : a ≠ X.env.locals)
    (nc : ∀ x c, X.env.cells.lookup x = some c → c ≠ a) (np : ∀ p ∈ X.pn ++ pins, p.1 ≠ a) (new : ObjOk X.prog X.w (upd H a o) s.heap a o) :
    Inv X pins σ (upd H a o) s := by
  have b0 : ∀ b u, X.s_0.heap.get? b = some u → b ≠ a := fun b u q z => by
    rw [z, n0] at q
    cases q
  refine ⟨I.ok, I.os, I.bare, ⟨I.base.keep, I.base.slot, fun b u q n hx' => ?_, I.base.there, fun b xs q => ?_, fun b u xs q => ?_, fun b ps q => ?_⟩, I.loc, I.cell, ?_, fun x c e => ?_, fun p hp => ?_, ?_, I.len⟩
  · rw [upd_ne (b0 b u q)]
    exact I.base.free b u q n hx'
  · have z := I.base.tups b xs q
    rw [upd_ne (ne_of_none z hn)]
    exact z
  · have z := I.base.frzs b u xs q
    rw [upd_ne (ne_of_none z hn)]
    exact z
  · obtain ⟨m, z⟩ := I.base.tbls b ps q
    exact ⟨m, by rw [upd_ne (ne_of_none z hn)]; exact z⟩
  · rw [upd_ne ne.symm]
    exact I.free
  · rw [upd_ne (nc x c e)]
    exact I.freeC x c e
  · obtain ⟨e, n, r⟩ := I.pin p hp
    exact ⟨e, by rw [upd_ne (np p hp)]; exact n, r⟩
  · exact HOk.laidN I.hok (fun _ _ q => q) hn new
theorem Inv.inT (I : Inv X pins σ H s) (a : Addr) : Inv (X.suite a X.pn) pins σ H s :=
  ⟨I.ok.suite _ _, I.os, I.bare, I.base, I.loc, I.cell, I.free, I.freeC, I.pin, I.hok, I.len⟩
theorem Inv.outT {a : Addr} (I : Inv (X.suite a X.pn) pins σ H s) (ok : X.Ok) : Inv X pins σ H s :=
  ⟨ok, I.os, I.bare, I.base, I.loc, I.cell, I.free, I.freeC, I.pin, I.hok, I.len⟩
end
section
variable {X : Cx} {pins : List (Addr × Obj)} {σ : L2.St} {H : Hp} {cls : Value} {d : Option Addr} {a : Addr} {B : Heap}
  {sI s : Shared} {h : Heap} {D : Ends} {Wout : WX} {hds : List ExceptHandler} {W : Ends → WX}
/-- the exception as it lies, tracked -/
theorem Lands.tracked (L : Lands X pins σ H cls d a B sI s h) (hs : X.stack = X.env :: X.outer) (hf : X.env.frame = some X.env.locals) (hx : X.ex = []) :
    Inv (X.suite a X.pn) pins σ (upd H a (ExH cls d a)) { s with heap := h } := by
  obtain ⟨oe, vs, he, hz, hd⟩ := L.fly.there
  have away : a ∉ frs (X.env :: X.outer) := by
    intro hm
    obtain ⟨_, o', e', no⟩ := L.fly.2.2.1.mem hm
    rw [he] at e'
    cases e'
    exact no _ hd
  have nL : a ≠ X.env.locals := fun z => away (List.mem_filterMap.mpr ⟨X.env, List.mem_cons_self, by rw [hf, z]⟩)
  have nI : sI.heap.get? a = none := by
    cases e : sI.heap.get? a with
    | none => rfl
    | some o =>
      have z := L.ground a o e (by rw [hs]; exact away)
      rw [L.fly.2.1] at z
      cases z
  have n0 : X.s_0.heap.get? a = none := by
    cases e : X.s_0.heap.get? a with
    | none => rfl
    | some o =>
      obtain ⟨o', z⟩ := L.inv.base.there a o e (by rw [hx]; exact fun z => nomatch z)
      rw [nI] at z
      cases z
  have nc : ∀ x c, X.env.cells.lookup x = some c → c ≠ a := by
    intro x c e z
    obtain ⟨v, o, ho, _⟩ := L.inv.cell x c e
    rw [z, nI] at ho
    cases ho
  have np : ∀ p ∈ X.pn ++ pins, p.1 ≠ a := by
    intro p hp z
    obtain ⟨ho, _⟩ := L.inv.pin p hp
    rw [z, nI] at ho
    cases ho
  exact Inv.inT (Inv.track L.here n0 L.none_ nL nc np (exH_ok he hz hd)) a
end
/-- clauses with a name, the exception tracked in the suite -/
inductive ClT (X : Cx) (Wout : WX) : List ExceptHandler → (Ends → WX) → Prop where
  | nil : ClT X Wout [] (fun _ => Wout)
  | as_ {x n : Str} {i : Nat} {c : Value} {ts : Addr → TS} {b₀ : Stmt} {suite : List Stmt} {np pos : Pos}
      {hds : List ExceptHandler} {W : Ends → WX} (hc : Names X x c) (hN : X.N.Nodup) (hi : X.N[i]? = some n)
      (hl : X.env.kindOf n = some .local)
      (su : ∀ (a : Addr), PSs (X.suite a X.pn) (b₀ :: suite) (ts a))
      (r : ClT X Wout hds W) :
      ClT X Wout (.ExceptHandler (some (.Name x np)) (some n) (b₀ :: suite) pos :: hds) (fun D cls d σ H =>
        ∃ b, PySem.W.exmOne X.K cls c = some b ∧ (b = true → ∀ a, H a = none → σ.length = X.N.length →
          ts a (Ends.drop D i) (σ.set i (some (.ref a))) (upd H a (ExH cls d a))) ∧
          (b = false → W D cls d σ H))
section
variable {X : Cx} {pins : List (Addr × Obj)} {σ : L2.St} {H : Hp} {cls : Value} {d : Option Addr} {a : Addr} {B : Heap}
  {sI s : Shared} {h : Heap} {D : Ends} {Wout : WX} {hds : List ExceptHandler} {W : Ends → WX}
theorem handledT (hs : X.stack = X.env :: X.outer) (hf : X.env.frame = some X.env.locals) (hx : X.ex = []) (tk : Takes X Wout)
    (C : ClT X Wout hds W) : ∀ {h : Heap}, Lands X pins σ H cls d a B sI s h → W D cls d σ H →
      wpAny (model X.prog X.w) X.A (handleBy (.ref a) X.env hds) (SP X pins D) X.xe { s with heap := h } := by
  induction C with
  | nil =>
    intro h L w
    have L0 := L
    refine wpAny_handleBy_nil ?_
    obtain ⟨k1, k2, k3, oe, vs, T, oT, ts', he, hz, hd, h1, hr⟩ := L.fly
    unfold PySem.passOn
    refine wpAny_bind (wpAny_field he hd h1 ?_)
    rw [if_neg (show ¬ ((Value.ref T == Value.none) = true) from by simp)]
    have on : wpAny (model X.prog X.w) X.A (setFlight (.ref a) X.env.frame)
        (fun _ s4 => wpAny (model X.prog X.w) X.A (throw (.ref a) : Sem Flow) (SP X pins D) X.xe s4) X.xe { s with heap := h } := by
      rw [hf]
      refine HandSPX.setFlight_upZ L0.fly fun h4 hh4 up4 => wpAny_throw (tk _ _ ?_)
      exact ⟨a, B, sI, pins, σ, H, cls, d, rfl, L0.inv, L0.ground, L0.up.trans up4, .inr (.inr (by rw [hs]; exact hh4)), L0.none_, L0.os,
        L0.bare, w⟩
    first
      | exact wpAny_bind (wpAny_pure (wpAny_bind on))
      | exact wpAny_bind on
  | @as_ x n i c ts b₀ suite np pos hds' W' hc hN hi hl su r ih =>
    intro h L w
    obtain ⟨b, e, yes, no⟩ := w
    obtain ⟨oe, vs, he, hz, hd, S⟩ := L.suite hf
    refine wpAny_handleBy_cons (codeAny_handlers_test ?_) (by intro q; cases q)
    have ty : PySem.W.Looks (model X.prog X.w) h (typeOf (.ref a)) cls := fun A Q E s k q =>
      wpAny_typeOf_ref (k _ _ he) (by rw [hz.1]; exact q)
    have ask := PySem.W.exm_one (M := model X.prog X.w) L.here.kIn ty e
    have name : ∀ {Q : Value → Shared → Prop} {E : Value → Shared → Prop}, Q c { s with heap := h } →
        wpAny (model X.prog X.w) (X.A.mark (some (.ref a))) (eval (.Name x np) X.env) Q E { s with heap := h } := by
      intro Q E q
      obtain ⟨hg, hdb, hm | ⟨hm, hv, hn⟩⟩ := hc
      · exact ld_glob (X := X.suite a ((a, oe) :: (X.pn ++ pins))) S hg hm q hdb
      · exact ld_blt (X := X.suite a ((a, oe) :: (X.pn ++ pins))) S hg hm hv q hn hdb
    refine name (ask.here ?_)
    cases b with
    | false => exact ih L (no rfl)
    | true =>
      refine codeAny_handlers_suite_as (HandSPX.lands_againZ L.fly fun h4 f4 u4 => ?_)
      have S4 := (L.later f4 u4).tracked hs hf hx
      refine store_ok (X := X.suite a X.pn) (v := .ref a) S4 hN hi (.inl hl) rfl (fun s5 S5 => ?_) (.inr hl)
      refine wpAny_mono ((su a).run pins s5 _ _ _ S5 (yes rfl a L.none_ L.inv.len))
        (fun f s6 q => ?_) (fun _ _ z => False.elim z)
      cases f with
      | ret u =>
        obtain ⟨v, σ6, H6, J, r6, z⟩ := q
        exact gone_ok (Inv.outT J L.inv.ok) hN hi hl fun s7 J7 => ⟨v, _, H6, J7, r6, z⟩
      | next =>
        obtain ⟨σ6, H6, J, z⟩ := q
        exact gone_ok (Inv.outT J L.inv.ok) hN hi hl fun s7 J7 => ⟨_, H6, J7, z⟩
      | brk =>
        obtain ⟨σ6, H6, J, z⟩ := q
        exact gone_ok (Inv.outT J L.inv.ok) hN hi hl fun s7 J7 => ⟨_, H6, J7, z⟩
      | cont =>
        obtain ⟨σ6, H6, J, z⟩ := q
        exact gone_ok (Inv.outT J L.inv.ok) hN hi hl fun s7 J7 => ⟨_, H6, J7, z⟩
/-- try: body / the clauses -/
theorem ps_try_T {body : List Stmt} {h₀ : ExceptHandler} {pos : Pos} {tb : WX → TS} (hs : X.stack = X.env :: X.outer)
    (hf : X.env.frame = some X.env.locals) (hx : X.ex = []) (tk : Takes X Wout) (C : ClT X Wout (h₀ :: hds) W)
    (hb : ∀ (W : WX) (pn : List (Addr × Obj)) (xe : Value → Shared → Prop), Takes (X.tr pn xe) W →
      PassesOwn (model X.prog X.w) X.A X.env xe → PSs (X.tr pn xe) body (tb W)) :
    PS X (.Try body (h₀ :: hds) [] [] pos) (fun D σ H => tb (W D) D σ H) := by
  constructor
  intro pins s σ H D I h
  have ok := I.ok
  have fr : X.A.frames = some (X.env :: X.outer) := by rw [ok.frames, hs]
  refine wpAny_Try_except ?_
  refine wpAny_mono ((hb (W D) (X.pn ++ pins) (fun e s₁ => wpAny (model X.prog X.w) X.A (noteFrame e X.env)
    (fun _ s₂ => wpAny (model X.prog X.w) X.A (setFlight e none) (fun _ s₃ =>
      wpAny (model X.prog X.w) X.A (handleBy e X.env (h₀ :: hds)) (SP X pins D) X.xe s₃) X.xe s₂) X.xe s₁) ?_
    PassesOwn.looking).run [] s σ H D (I.toTry _) h) ?_ (fun e s1 he => he)
  · rintro u s' ⟨a, B, sI, pins', σ', H', cls, d, rfl, J', nb, up, sky, na, os, ag, w⟩
    have J : Inv X pins σ' H' sI := J'.ofTry ok
    have sky' : Sky B (X.env :: X.outer) a (Zc cls d) X.env.locals s'.heap := by
      rw [← hs]
      exact sky
    show wpAny (model X.prog X.w) X.A (noteFrame (.ref a) X.env) _ _ _
    refine Sky.land Zc.steady fr hf sky' fun h3 f3 u3 => ?_
    exact handledT hs hf hx tk C ⟨J, nb, up.trans u3, f3, na, os, ag⟩ w
  · intro f s1 q
    cases f with
    | ret u =>
      obtain ⟨v, σ', H', J, r, z⟩ := q
      exact ⟨v, σ', H', J.ofTry ok, r, z⟩
    | next =>
      obtain ⟨σ', H', J, z⟩ := q
      exact wpAny_execs_nil ⟨σ', H', J.ofTry ok, z⟩
    | brk =>
      obtain ⟨σ', H', J, z⟩ := q
      exact ⟨σ', H', J.ofTry ok, z⟩
    | cont =>
      obtain ⟨σ', H', J, z⟩ := q
      exact ⟨σ', H', J.ofTry ok, z⟩
end
/-! the field of a tracked exception -/
def tXfT (K : PySem.W.Frag) (f : Str) (te : TE) : TE := fun σ H Q => te σ H fun x H1 => ∃ (a C dd : Addr) (fs : List (Str × V)) (v : V),
  x = .ref a ∧ H1 a = some (ExH (.ref C) (some dd) a) ∧ XfC K C ∧ PySem.W.findIn K (.ref C) f = some none ∧ H1 dd = some (.xd fs) ∧ fs.lookup f = some v ∧ Q v H1
theorem pe_xfT {X : Cx} {e : Expr} {te : TE} {pos : Pos} {n : Str} (he : PE X e te) (hb : attributeBase e n X.env (eval e X.env) = eval e X.env := by rfl) :
    PE X (.Attribute e n pos) (tXfT X.K n te) := by
  constructor
  intro pins s σ H Q I h
  refine attr_of hb (thn (he.run pins s σ H _ I h) ?_)
  rintro w s1 ⟨x, H1, I1, rx, a, C, dd, fs, v, rfl, ea, F, own, ed, fnd, q⟩
  cases rx
  obtain ⟨oe, vs, at_, ⟨ec, edd⟩, dat⟩ := exH_at I1.hok ea
  have held : ObjOk X.prog X.w H1 s1.heap dd (.xd fs) := I1.hok dd _ ed
  obtain ⟨mA, ns, rel⟩ := held
  obtain ⟨od, ho, seen⟩ := lookIn_ns ns
  obtain ⟨u, eu, ru⟩ := RelO.some_of (v := v) (o := mA n) (fnd ▸ rel n)
  have plain : PySem.W.notCls oe = true := by
    unfold PySem.W.notCls
    rw [dat]
  have inst : PySem.W.InstAt s1.heap a oe C (some od) := ⟨at_, ec, plain, by rw [edd]; exact ho⟩
  refine HandSPX.exc_get I1.kIn inst F.ga F.gg F.exC (PySem.W.findObj_own F.hdC own rfl ?_) (handed_of ru) ⟨v, H1, I1.tok _, ru, q⟩
  rw [seen, eu]
/-! isinstance of a tracked exception -/
structure Kx (K : PySem.W.Frag) (C : Addr) : Prop where
  cl : (PySem.W.clsIn K C).isSome = true
  ga : PySem.W.findIn K (.ref C) "__getattribute__" = some (some (.builtin "BaseException.__getattribute__"))
  gt : PySem.W.findIn K (.ref C) "__getattr__" = some none
  sub : PySem.W.subIn K (.ref C) (.type "BaseException") = some true
  att : PySem.W.findIn K (.ref C) "__class__" = some (some (.builtin "object.__class__"))
  get : PySem.W.specialIn K (.builtin "object.__class__") "__get__" = some (some (.builtin "getset_descriptor.__get__"))
  tak : PySem.W.takesIn K (.builtin "object.__class__") = some true
  ob : PySem.W.mroIn K C (.type "object") = some true
def kxB (K : PySem.W.Frag) (C : Addr) : Bool :=
  (PySem.W.clsIn K C).isSome && (decide (PySem.W.findIn K (.ref C) "__getattribute__" = some (some (.builtin "BaseException.__getattribute__"))) &&
  (decide (PySem.W.findIn K (.ref C) "__getattr__" = some none) && (decide (PySem.W.subIn K (.ref C) (.type "BaseException") = some true) &&
  (decide (PySem.W.findIn K (.ref C) "__class__" = some (some (.builtin "object.__class__"))) &&
  (decide (PySem.W.specialIn K (.builtin "object.__class__") "__get__" = some (some (.builtin "getset_descriptor.__get__"))) &&
  (decide (PySem.W.takesIn K (.builtin "object.__class__") = some true) && decide (PySem.W.mroIn K C (.type "object") = some true)))))))
theorem kxB_ok {K : PySem.W.Frag} {C : Addr} (h : kxB K C = true) : Kx K C := by
  unfold kxB at h
  simp only [Bool.and_eq_true, decide_eq_true_eq] at h
  obtain ⟨a, b, c, d, e, f, g, i⟩ := h
  exact ⟨a, b, c, d, e, f, g, i⟩
/-- isinstance(e, C') of a tracked exception e -/
def rIsE (K : PySem.W.Frag) : List V → Hp → VK → Prop := fun xs H Q => ∃ (a C : Addr) (d : Option Addr) (c : V) (u : Value) (b : Bool),
  xs = [.ref a, c] ∧ H a = some (ExH (.ref C) d a) ∧ (∀ dd, d = some dd → ∃ fs, H dd = some (.xd fs)) ∧ Kx K C ∧ ClsV c u ∧ PySem.W.kitOne K (.ref C) u = some b ∧ Q (.bl b) H
theorem cr_isE {X : Cx} : CallR X (.builtin "isinstance") (rIsE X.K) := by
  intro pins s σ H xs us Q I r h
  obtain ⟨a, C, d, c, u, b, rfl, ea, ed, T, k, e, q⟩ := h
  obtain ⟨u1, u2, rfl, r1, r2⟩ := vals2 r
  have e2 := k.eq r2
  subst e2
  obtain rfl : u1 = Value.ref a := r1
  obtain ⟨oe, vs, ha, hz, hd⟩ := exH_at I.hok ea
  have nc : PySem.W.notCls oe = true := by
    unfold PySem.W.notCls
    rw [hd]
  cases d with
  | none =>
    have J : PySem.W.InstAt s.heap a oe C none := ⟨ha, hz.1, nc, by rw [hz.2]; trivial⟩
    exact PySem.W.kia_one (PySem.W.kitx_exc T.cl T.ga T.gt T.sub T.att T.get T.tak T.ob) I.kIn J e (fun z => nomatch z) fun tk => ⟨.bl b, H, I.tok tk, rfl, q⟩
  | some dd =>
    obtain ⟨fs, edd⟩ := ed dd rfl
    have hx : ObjOk X.prog X.w H s.heap dd (.xd fs) := I.hok dd _ edd
    obtain ⟨mA, ⟨od, _, _, ho, _⟩, _⟩ := hx
    have J : PySem.W.InstAt s.heap a oe C (some od) := ⟨ha, hz.1, nc, by rw [hz.2]; exact ho⟩
    exact PySem.W.kia_one (PySem.W.kitx_exc T.cl T.ga T.gt T.sub T.att T.get T.tak T.ob) I.kIn J e (fun z => nomatch z) fun tk => ⟨.bl b, H, I.tok tk, rfl, q⟩
end ME

set_option Elab.async false
set_option maxRecDepth 100000
set_option maxHeartbeats 2000000
set_option linter.all false
/-! own exceptions over any built-in base, whose own __init__ asks the base's and keeps one field -/
namespace PySem
namespace HandSPX
/-! an own class of exceptions, by what stands in its row: its __new__ is some base's, its __init__ asks perhaps another base's -/
/-- the row at C: made by mk, above it just the built-in classes of up -/
def Row (h : Heap) (C : Addr) (mk : String) (up : List Value) : Prop :=
  ∃ (nm q : Str) (N : Addr) (bs bm : List Value) (hdct : Bool) (sn : List Str) (sub : List Value) (ab : Bool) (col : Option Bool) (dd : Option Addr)
    (k0 k1 k2 k3 k5 : Option Value), h.get? C = some (excClassObj nm q C N bs bm hdct sn sub ab col dd k0 k1 k2 k3 k5 mk) ∧
      ∀ T : String, (Value.ref C :: bm).contains (.type T) = up.contains (.type T)
theorem Row.of {h : Heap} {C : Addr} {mk : String} {up : List Value} {nm q : Str} {N : Addr} {bs bm : List Value} {hdct : Bool} {sn : List Str} {sub : List Value}
    {ab : Bool} {col : Option Bool} {dd : Option Addr} {k0 k1 k2 k3 k5 : Option Value} (lies : h.get? C = some (excClassObj nm q C N bs bm hdct sn sub ab col dd k0 k1 k2 k3 k5 mk))
    (tl : PySem.W.excTail up bm = true) : Row h C mk up :=
  ⟨nm, q, N, bs, bm, hdct, sn, sub, ab, col, dd, k0, k1, k2, k3, k5, lies, fun T => by
    rw [List.contains_cons]
    exact PySem.W.excTail_contains T bm tl⟩
/-- whose __new__ makes it -/
structure Makes (mk : String) (up : List Value) : Prop where
  by_ : ∃ (Bn initN : String) (bmN : List Value), ExcBaseFacts Bn mk initN bmN ∧ up.contains (.type Bn) = true
  noA : up.contains (.type "AttributeError") = false
  noN : up.contains (.type "NameError") = false
/-- whose __init__ is asked -/
structure Inits (B ini : String) (up : List Value) : Prop where
  has : up.contains (.type B) = true
  star : (B != "*") = true
  quiet : plainId ini = true
  code : entryFor table ini = some Builtin.«BaseException.__init__»
  name : splitId ini = some (B, "__init__")
  kind : builtinKind ini = some .slot
  sig : Manifest.signature? ini = some ⟨.positional, "*", B, .self, [⟨"args", .varPos, false⟩]⟩
structure Bs (B newId initId : String) (top : List Value) : Prop where
  make : Makes newId top
  ini : Inits B initId top
theorem Bs.of {B newId initId : String} {top : List Value} (F : ExcBaseFacts B newId initId top) : Bs B newId initId top :=
  ⟨⟨⟨B, initId, top, F, F.hasB⟩, F.noAttr, F.noName⟩, F.hasB, F.noStar, F.init.plain, F.initEntry, F.initSplit, F.initKind, F.initRow⟩
section
variable {prog : Program} {w : World} {A : Around} {R : Result → Shared → Prop} {h : Heap} {g : Array GenState} {d : Drawn} {t : Nat} {os : OsState}
  {C : Addr} {mk B ini : String} {up : List Value} {us : List Value}
/-- mk(C, ..): the new exception behind its tuple -/
theorem made_by (M : Makes mk up) (r : Row h C mk up) (few : us.length ≤ sizeLine)
    (hR : R (.ok (.ret (.ref (h.objs.size + 1)))) ⟨(h.push (PySem.W.kdv_tup us)).push (excO C h.objs.size), g, d, t, os⟩) :
    codeAny (model prog w) A (.call (.builtin mk) ⟨.ref C :: us, []⟩) R ⟨h, g, d, t, os⟩ := by
  obtain ⟨nm, q, N, bs, bm, hdct, sn, sub, ab, col, dd, k0, k1, k2, k3, k5, lies, tells⟩ := r
  obtain ⟨Bn, initN, bmN, F, hb⟩ := M.by_
  have yes := (tells Bn).trans hb
  have noA := (tells "AttributeError").trans M.noA
  have noN := (tells "NameError").trans M.noN
  have star := F.noStar
  have ends := F.ends
  refine codeAny_call_builtin_code (Code.quiet_builtin _ F.quiet) ?_
  -- the receiver's look
  simp only [F.newRow, F.newSplit, F.newKind, checkBuiltinCall]
  repeat (first
    | (refine wpAny_isSubtype_exc lies ?_; rw [yes])
    | refine wpAny_madeBy_exc lies ?_
    | refine wpAny_staticBase_exc lies ?_
    | refine wpAny_loadPart_at lies ?_
    | simp only [if_false, Bool.false_eq_true, bne_self_eq_false]
    | wp_step)
  -- the making itself
  refine codeAny_builtinAt F.entry ?_
  delta Builtin.«BaseException.__new__»
  refine wpAt_bind ?_
  change wpAt _ _ _ (stack >>= _) _ _ _
  refine wpAt_bind (wpAt_stack fun _ _ => wpAt_of_wpAny ?_)
  wp_walk
  refine wpAt_of_wpAny ?_
  rw [F.owner]
  repeat (first
    | (with_reducible refine wpAny_isSubtype_exc lies ?_; first | rw [yes] | rw [noA] | rw [noN])
    | with_reducible refine wpAny_loadPart_at lies ?_
    | with_reducible refine wpAny_madeHere_exc F.canon lies ?_
    | wp_step)
  change R _ _
  rw [Heap.size_push]
  exact hR
/-- C(..) where C has an own __init__ at fI -/
theorem called_own {fI : Addr} (M : Makes mk up) (r : Row h C mk up) (few : us.length ≤ sizeLine)
    (ini_ : PySem.W.Looks (model prog w) h (typeLookup (.ref C) "__init__") (some (.ref fI)))
    (bnd : ∀ self, PySem.W.Looks (model prog w) h (bindSpecial (.ref fI) self) (.ref fI, [self]))
    (go : codeAny (model prog w) (A.under (.builtin "type.__call__" ⟨.ref C :: us, []⟩)) (.call (.ref fI) ⟨.ref (h.objs.size + 1) :: us, []⟩)
      (PySem.W.InitBack (h.objs.size + 1) R) ⟨(h.push (PySem.W.kdv_tup us)).push (excO C h.objs.size), g, d, t, os⟩) :
    codeAny (model prog w) A (.call (.ref C) ⟨us, []⟩) R ⟨h, g, d, t, os⟩ := by
  have r0 := r
  obtain ⟨nm, q, N, bs, bm, hdct, sn, sub, ab, col, dd, k0, k1, k2, k3, k5, lies, tells⟩ := r
  have look := tc_lookup
  have bind_ := tc_bind (.ref C)
  have meta_ : (⟨h, g, d, t, os⟩ : Shared).TypeIs (.ref C) "type" := ⟨_, lies, rfl⟩
  have stay : ∀ b o, h.get? b = some o → ((h.push (PySem.W.kdv_tup us)).push (excO C h.objs.size)).get? b = some o := by
    intro b o e
    exact Heap.get?_push_of_some _ (Heap.get?_push_of_some _ e)
  have still := stay _ _ lies
  have new : ((h.push (PySem.W.kdv_tup us)).push (excO C h.objs.size)).get? (h.objs.size + 1) = some (excO C h.objs.size) := by heap_get
  have self_ : (Value.ref C :: bm).contains (.ref C) = true := by simp
  refine codeAny_of_tree ?_
  change wpAny _ _ (callAny (.ref C) _) _ _ _
  repeat (any_goals (first | assumption | with_reducible refine wpAny_loadPart_at lies ?_ | wp_step))
  refine ⟨rfl, codeAny_call_builtin_at (Code.quiet_builtin _ (by decide +kernel)) entry_typeCall (wpAny_check_type_call_sub lies ?_)⟩
  change wpAny _ _ (Builtin.«type.__call__» ⟨.ref C :: us, []⟩) _ _ _
  repeat (first | with_reducible refine wpAny_madeBy_exc lies ?_ | with_reducible refine wpAny_loadPart_at lies ?_ | wp_step)
  refine made_by M r0 few ?_
  change wpAny _ _ _ _ _ _
  unfold isInstance
  repeat (first | (with_reducible refine wpAny_isSubtype_exc still ?_; rw [self_]) | with_reducible refine wpAny_loadPart_at new ?_ | wp_step)
  change wpAny _ _ (typeLookup (.ref C) _) _ _ _
  refine (ini_.keeps stay).at (wpAny_holding (wpAny_bind (((bnd (.ref (h.objs.size + 1))).keeps stay).at (wpAny_bind (wpAny_call (codeAny_mono go fun r s' z => ?_))))))
  cases r with
  | error e => exact z
  | ok fl =>
    cases fl with
    | ret v =>
      obtain ⟨rfl, z⟩ := z
      first
        | exact wpAny_pure (wpAny_pure z)
        | (wp_walk; exact z)
    | next => exact z.elim
    | brk => exact z.elim
    | cont => exact z.elim
/-- B.__init__(e, ..) of a new exception e -/
theorem asked_base {e t0 : Addr} (I : Inits B ini up) (r : Row h C mk up) (lie : h.get? e = some (excO C t0)) (few : us.length ≤ sizeLine)
    (hR : ∀ h' t1, (∀ b o, b ≠ e → h.get? b = some o → h'.get? b = some o) → h'.get? e = some (excO C t1) → R (.ok (.ret .none)) ⟨h', g, d, t, os⟩) :
    codeAny (model prog w) A (.call (.builtin ini) ⟨.ref e :: us, []⟩) R ⟨h, g, d, t, os⟩ := by
  obtain ⟨nm, q, N, bs, bm, hdct, sn, sub, ab, col, dd, k0, k1, k2, k3, k5, lies, tells⟩ := r
  have yes := (tells B).trans I.has
  have star := I.star
  refine codeAny_call_builtin I.quiet I.code ?_
  simp only [I.sig, I.name, I.kind, checkBuiltinCall]
  repeat (first
    | (with_reducible refine wpAny_isSubtype_exc lies ?_; rw [yes])
    | (with_reducible refine wpAny_loadPart_at lie ?_; rw [show (excO C t0).cls = .ref C from rfl])
    | with_reducible refine wpAny_loadPart_at lies ?_
    | wp_step)
  refine wpAny_onRaise ?_
  have passes : ∀ (x y : String) (n : Nat), Bind.check ⟨.positional, "*", B, .self, [⟨"args", .varPos, false⟩]⟩ x y n
      (List.map (fun z => z.fst) ({ pos := Value.ref e :: us } : Args).kw) = pure () := fun x y n => check_star_args _ _ _ _ _ _
  rw [passes]
  refine wpAny_pure ?_
  wp_walk
  refine hR _ h.objs.size (fun b o ne ho => ?_) ?_
  · exact (Heap.get?_update_other _ _ (Ne.symm ne)).trans (Heap.get?_push_of_some _ ho)
  · rw [Heap.get?_update_self _ (Heap.get?_push_of_some _ lie) rfl]
    rfl
end
end HandSPX
end PySem
namespace MD
open PySem PySem.Spec PyProof.Rows L2 MM PySem.HandSPX

/-- the class at C stands over B, by own classes between, or none -/
structure Ov (K : PySem.W.Frag) (C : Addr) (B newId initId : String) (top : List Value) : Prop where
  base : Bs B newId initId top
  put : StoreFacts B top "object.__setattr__" "object"
  row : ∃ nm q N bs bm sn sub ab col dd k0 k1 k2 k3 k5,
    K.lookup C = some (excClassObj nm q C N bs bm true sn sub ab col dd k0 k1 k2 k3 k5 newId) ∧ PySem.W.excTail top bm = true
  hook : PySem.W.findIn K (.ref C) "__setattr__" = some (some (.builtin "object.__setattr__"))
  isE : PySem.W.subIn K (.ref C) (.type "BaseException") = some true
  meta_ : PySem.W.typeIn K (.ref C) = some (.type "type")
  keep : PySem.W.keepIn K (.ref C) = true

section
open Builtin Builtin.ObjectAttr
variable {prog : Program} {w : World} {A : Around} {R : Result → Shared → Prop} {hp : Heap} {g : Array GenState} {d : Drawn}
  {t : Nat} {os : OsState} {K : PySem.W.Frag} {C x : Addr} {B newId initId : String} {top : List Value}
/-- the first field of an exception lays its dict -/
theorem first_put {name : Str} {tk : Tok} {v : Value} {fv : Array Value} (T : Ov K C B newId initId top) (X : K.In hp)
    (hx : hp.get? x = some { cls := .ref C, data := .fields fv })
    (ha : PySem.W.findIn K (.ref C) name = some none)
    (hq : ∀ h' tk' dx, (∀ b o, b ≠ x → hp.get? b = some o → h'.get? b = some o) → hp.objs.size ≤ dx → dx ≠ x →
      h'.get? x = some { cls := .ref C, dict := some dx, data := .fields fv } →
      h'.Ns1 dx (fun y => if y = name then some v else none) → R (.ok (.ret .none)) ⟨h', g, d, tk', os⟩) :
    codeAny (model prog w) A (.call (.builtin "object.__setattr__") ⟨[.ref x, .str name tk, v], []⟩) R ⟨hp, g, d, t, os⟩ := by
  obtain ⟨nm, q, N, bs, bm, sn, sub, ab, col, dd, k0, k1, k2, k3, k5, hC, hbm⟩ := T.row
  have hcd : PySem.W.clsIn K C = some { name := nm, bases := bs, mro := .ref C :: bm, ns := N, qualname := q, hasDict := true, slotNames := sn, subclasses := sub, abstract := ab, collection := col, hasDel := false } := by
    unfold PySem.W.clsIn
    rw [hC] <;> rfl
  have hall : PySem.W.excTail top (.ref C :: bm) = true := hbm
  have inst : PySem.W.InstAt hp x { cls := .ref C, data := .fields fv } C none := ⟨hx, rfl, rfl, trivial⟩
  have S := PySem.F.store_object
  have far : x ≠ hp.objs.size := Nat.ne_of_lt (Heap.lt_size hx)
  have obj : (Value.ref C :: bm).contains (.type "object") = true :=
    (PySem.W.excTail_contains "object" _ hall).trans T.put.hasOwner
  have mro : PySem.W.mroIn K C (.type "object") = some true := by
    unfold PySem.W.mroIn
    rw [hcd, Option.bind_some]
    simp only [List.isEmpty_cons, obj, Bool.false_eq_true, if_false]
  have isObj : PySem.W.Looks (model prog w) hp (isInstance (.ref x) (.type "object")) true :=
    inst.type.andThen (PySem.W.looks_mroIn X mro)
  have rd : PySem.W.Looks (model prog w) hp (classData C) _ := PySem.W.looks_clsIn X hcd
  have rm : PySem.W.Looks (model prog w) hp (mroOf (.ref C)) (.ref C :: bm) := rd.andThen .now
  have none_ : PySem.W.Looks (model prog w) hp (storeTaker? none) none := .now
  refine codeAny_call_builtin S.slot.plain S.entry (@PySem.W.check_slot (model prog w) _ _ ⟨hp, g, d, t, os⟩
    "object.__setattr__" "object" "__setattr__" (.ref x) [.str name tk, v] [] _ S.kind S.split isObj (S.args (.ref x) (.str name tk) v) ?_)
  rw [PySem.W.osa_eq, refuse_eq]
  refine wpAny_bind (wpAny_bind (inst.type.at (wpAny_bind (rm.at ?_))))
  rw [PySem.W.excTail_pass _ (T.put.passes _) _ hall]
  refine wpAny_pure (wpAny_bind (inst.type.at (wpAny_bind ((PySem.W.looks_findIn X ha).at (wpAny_bind (none_.at ?_))))))
  show wpAny _ _ (storeInOwnDict (.ref x) (.ref C) (.str name tk) name v false) _ _ _
  unfold storeInOwnDict ownDictForStores
  repeat (first
    | with_reducible refine PySem.HandSPX.store_in_new ?_ ?_
    | with_reducible refine wpAny_loadPart_at hx ?_
    | with_reducible refine rd.at ?_
    | wp_step)
  · refine ⟨_, #[], _, (Heap.get?_update_ne _ _ _ _ far.symm).trans (Heap.get?_push_at rfl rfl), rfl, ?_, fun _ => rfl⟩
    intro e he
    simp at he
  · intro h' tk' hn' hs
    have there : (hp.push { cls := .type "dict", data := .dict #[] }).get? x = some { cls := .ref C, data := .fields fv } :=
      Heap.get?_push_of_some _ hx
    refine hq h' tk' hp.objs.size ?_ (Nat.le_refl _) far.symm ((hs.2 x far).trans (Heap.get?_update_self _ there rfl)) hn'
    intro b o hb ho
    have nb : b ≠ hp.objs.size := Nat.ne_of_lt (Heap.lt_size ho)
    rw [hs.2 b nb, Heap.get?_update_ne _ _ _ _ hb]
    exact Heap.get?_push_of_some _ ho
end

section
variable {X : Cx} {pins : List (Addr × Obj)} {σ : L2.St} {H : Hp} {s : Shared} {a C : Addr} {f : Str} {y : V} {u : Value}
  {E : Value → Shared → Prop} {A : Around} {B newId initId : String} {top : List Value}
/-- self.f = y, the first field -/
theorem put_new {Q : Unit → Shared → Prop} (T : Ov X.K C B newId initId top) (I : Inv X pins σ H s)
    (ea : H a = some (exo a C none)) (no : PySem.W.findIn X.K (.ref C) f = some none) (ry : RelV y u)
    (h : ∀ dx s', H dx = none → dx ≠ a →
      Inv X pins σ (upd (upd H dx (exd dx [(f, y)])) a (exo a C (some dx))) s' → Q () s') :
    wpAny (model X.prog X.w) A (setAttr (.ref a) f u) Q E s := by
  obtain ⟨t1, ho⟩ := exo_at I.hok ea
  obtain ⟨hp, g, d, t, os⟩ := s
  refine PySem.W.set_plain I.kIn (od := none) ⟨ho, rfl, rfl, trivial⟩ T.hook ?_
  refine first_put T I.kIn ho no (fun h' tk' dx kp ge ne hx hn => ?_)
  have free : H dx = none := I.hok.fresh ge
  have old : ∀ {b : Addr} {o : Obj}, hp.get? b = some o → b ≠ dx := by
    intro b o hb
    exact Nat.ne_of_lt (Nat.lt_of_lt_of_le (Heap.lt_size hb) ge)
  have nota : ∀ {b : Addr}, H b = none → b ≠ a := by
    rintro b hb rfl
    rw [ea] at hb
    cases hb
  have same : ∀ {b : Addr} {v : HO}, H b = some v → b ≠ a →
      upd (upd H dx (exd dx [(f, y)])) a (exo a C (some dx)) b = some v := by
    intro b v hb ba
    rw [upd_ne ba, upd_ne (ne_of_none hb free)]
    exact hb
  have un : Un X.fs [] H (upd (upd H dx (exd dx [(f, y)])) a (exo a C (some dx))) hp h' := by
    constructor
    case keep => exact fun b o hb hn _ _ => kp b o (nota hn) hb
    case slot => exact fun b o hb hn _ _ => ⟨o.slots, kp b o (nota hn) hb⟩
    case free =>
      intro b o hb hn _
      rw [upd_ne (nota hn), upd_ne (old hb)]
      exact hn
    case there =>
      intro b o hb _
      by_cases ba : b = a
      · exact ⟨_, ba ▸ hx⟩
      · exact ⟨o, kp b o ba hb⟩
    case tups => exact fun b xs hb => same hb (at_ne ea hb exo_tup)
    case frzs => exact fun b o v hb => same hb (at_ne ea hb exo_frz)
    case tbls =>
      intro b ps hb
      refine ⟨#[], ?_⟩
      rw [same hb (at_ne ea hb exo_tbl)]
      simp
  refine h dx _ free ne (I.un (t' := tk') un fun b o hb => ?_)
  by_cases ba : b = a
  · subst ba
    rw [upd_same] at hb
    cases hb
    exact exo_ok hx
  rw [upd_ne ba] at hb
  by_cases bd : b = dx
  · subst bd
    rw [upd_same] at hb
    cases hb
    exact exd_ok hn (relO_put (fs := []) ry fun _ => True.intro)
  rw [upd_ne bd] at hb
  refine (I.hok b o hb).stay ?_ (fun c hc => same hc (at_ne ea hc exo_own)) (fun c xs hc => same hc (at_ne ea hc exo_tup))
  rintro c v hc z
  refine kp c v ?_ z
  rcases hc with rfl | hc
  · exact ba
  · exact at_ne ea hc exo_own

/-- B.__init__(self, ..) -/
theorem ask_ok {us : List Value} {Q : Value → Shared → Prop} (T : Ov X.K C B newId initId top) (I : Inv X pins σ H s)
    (ea : H a = some (exo a C none)) (hl : us.length ≤ sizeLine) (h : ∀ s', Inv X pins σ H s' → Q .none s') :
    wpAny (model X.prog X.w) A (call (.builtin initId) (.ref a :: us)) Q E s := by
  obtain ⟨nm, q, N, bs, bm, sn, sub, ab, col, dd, k0, k1, k2, k3, k5, hC, hbm⟩ := T.row
  obtain ⟨t1, ho⟩ := exo_at I.hok ea
  obtain ⟨hp, g, d, t, os⟩ := s
  refine wpAny_call (asked_base T.base.ini (Row.of (I.kIn _ _ hC) hbm) ho hl ?_)
  intro h' t2 kp hx
  have J := I.write (t' := t) (x := a) (e := a) (o := exo a C none) (by rw [ea]; exact True.intro) (.inl rfl) kp ⟨_, hx⟩ (exo_ok hx)
  have same : upd H a (exo a C none) = H := by
    funext b
    by_cases hb : b = a
    · subst hb
      rw [upd_same, ea]
    · rw [upd_ne hb]
  rw [same] at J
  exact h _ J
end

/-- B.__init__(self, ..): nothing of it is told -/
def tAsk (K : PySem.W.Frag) (B newId initId : String) (top : List Value) (ta : TA) : TE := fun σ H Q =>
  ta σ H fun vs H1 => ∃ (a C : Addr) (ws : List V), vs = .ref a :: ws ∧ ws.length ≤ 1000 ∧ Ov K C B newId initId top ∧
    H1 a = some (exo a C none) ∧ Q .non H1
/-- self.f = e, the first field -/
def tPut (K : PySem.W.Frag) (B newId initId : String) (top : List Value) (f : Str) (to te : TE) : TS := fun D σ H =>
  te σ H fun y H1 => to σ H1 fun x H2 => ∃ a C : Addr, x = .ref a ∧ Ov K C B newId initId top ∧
    PySem.W.findIn K (.ref C) f = some none ∧ H2 a = some (exo a C none) ∧
    ∀ dx, H2 dx = none → dx ≠ a → D.nx σ (upd (upd H2 dx (exd dx [(f, y)])) a (exo a C (some dx)))
section
variable {X : Cx} {o e : Expr} {es : List Expr} {to te : TE} {ta : TA} {f : Str} {p p' p1 p2 pos : Pos}
  {B newId initId : String} {top : List Value}
theorem ps_put (ho : PE X o to) (he : PE X e te)
    (hs : swapsWith e (some (.Attribute o f p')) pos.line X.env = pure false := by rfl) :
    PS X (.Assign [.Attribute o f p'] e pos) (tPut X.K B newId initId top f to te) := by
  constructor
  intro pins s σ H D I h
  refine plainObj_wpAny_Assign_Attribute (thn (he.run pins s σ H _ I h) ?_) hs
  rintro v s1 ⟨y, H1, I1, r1, q1⟩
  refine thn (ho.run pins s1 σ H1 _ I1 q1) ?_
  rintro u s2 ⟨x, H2, I2, r2, a, C, rfl, T, no, ea, q⟩
  obtain rfl : u = Value.ref a := r2
  exact put_new T I2 ea no r1 fun dx s' n ne J => ⟨σ, _, J, q dx n ne⟩
theorem pe_ask {pl : Sem Bool} (hg : Gl X B) (hm : X.mg B = none) (hv : bootBuiltins B = some (.type B))
    (ty : typeOf (.type B) = pure (.type "type")) (st : Manifest.isStub B = false)
    (vV : PySem.W.findCls X.K (.type B) (.type "type") "__init__" = some (.val (.builtin initId)))
    (hi : PySem.W.handedIn (.builtin initId) = true)
    (ha : PA X (e :: es) ta) (hn : (B : Str) ≠ "__name__" := by decide) (hdb : ((B : Str) == ("__debug__" : Str)) = false := by decide)
    (hc : eval (.Call (.Attribute (.Name B p1) "__init__" p2) (e :: es) [] pos) X.env = (do
      let ov ← eval (.Name B p1) X.env
      standAt p2.atName
      let (f, first) ← holding [ov] (getMethod ov "__init__" pl)
      callWith pos f first (backTo pos (starEach (e :: es) X.env)) (backToKw pos (keywordEach [] X.env))) := by rfl)
    (he : starEach (e :: es) X.env = (false, eval e X.env) :: starEach es X.env := by rfl)
    (hpl : (backTo pos (starEach es X.env)).any (·.1) = false := by rfl) :
    PE X (.Call (.Attribute (.Name B p1) "__init__" p2) (e :: es) [] pos) (tAsk X.K B newId initId top ta) := by
  constructor
  intro pins s σ H Q I h
  refine PySem.W.methodCall_KW (ld_blt I hg hm hv ?_ hn hdb) hc
  obtain ⟨m, fr⟩ := I.fr
  refine PySem.W.method_type fr I.ok.mod.kin ty st vV hi ?_
  show wpAny _ _ (callWith pos (Value.builtin initId) [] (backTo pos (starEach (e :: es) X.env)) []) _ _ _
  refine PyProof.Rows.callWith_method1 (thn (ha.run pos pins _ σ H _ (I.tok _) h) ?_) he hpl
  rintro us s1 ⟨vs, H1, I1, r1, a, C, ws, rfl, hl, T, ea, q⟩
  cases r1 with
  | @cons _ u0 _ ur ra rw' =>
    obtain rfl : u0 = Value.ref a := ra
    refine ask_ok T I1 ea ?_ fun s' J => ⟨.non, H1, J, rfl, q⟩
    rw [← Paired.length rw', sizeLine_eq]
    omega
end

/-- what __init__ of such a class keeps: one field, called f -/
def spKeep (C : Addr) (f : Str) : Sp := fun vs H Q _ => ∃ (a : Addr) (y : V), vs = [.ref a, y] ∧ H a = some (exo a C none) ∧
  ∀ dx, H dx = none → dx ≠ a → Q .non (upd (upd H dx (exd dx [(f, y)])) a (exo a C (some dx)))
/-- C(e) is made: its class, its dict, which keeps e under f -/
def tMade (C : Addr) (f : Str) (ta : TA) : L2.St → Hp → XK → Prop := fun σ H Q => ta σ H fun vs H1 => ∃ y, vs = [y] ∧
  ∀ d, H1 d = none → Q (.ref C) (some d) (upd H1 d (.xd [(f, y)]))
section
variable {X : Cx} {e : Expr} {es : List Expr} {ta : TA} {p pos : Pos} {CX : CXT} {x f : Str} {C fI : Addr} {k : Nat} {fd : FuncData}
  {ps : List Str} {B newId initId : String} {top : List Value}
theorem room_make {A : Around} (r : MM.Rm (k + 1) A) (C : Addr) (us : List Value) (kw : List (Str × Value)) :
    MM.Rm k (A.under (.builtin "type.__call__" ⟨.ref C :: us, kw⟩)) := ⟨r.room.make C us kw, r.still⟩
theorem pmk_made (T : Ov X.K C B newId initId top) (iC : PySem.W.findIn X.K (.ref C) "__init__" = some (some (.ref fI)))
    (tI : PySem.W.typeIn X.K (.ref fI) = some (.type "function"))
    (F : MM.FnG X.prog X.w X.K X.mg X.base CX k fI fd ps (spKeep C f)) (hr : MM.Rm (k + 1) X.A) (hb : Binds X.K fd ps [])
    (hx : Passes CX X (fun _ _ _ => False)) (hm : X.mg x = some (.ref C)) (ha : PA X (e :: es) ta) (hg : Gl X x := by rfl)
    (hdb : (x == ("__debug__" : Str)) = false := by decide)
    (he : starEach (e :: es) X.env = (false, eval e X.env) :: starEach es X.env := by rfl)
    (hpl : (backTo pos (starEach es X.env)).any (·.1) = false := by rfl) :
    PMk X (.Call (.Name x p) (e :: es) [] pos) (tMade C f ta) := by
  intro pins s σ H Q I h
  obtain ⟨nm, q, N, bs, bm, sn, sub, ab, col, dd, k0, k1, k2, k3, k5, hC, hbm⟩ := T.row
  refine wpAny_Call_Name_kw (ld_glob I hg hm ?_ hdb)
  refine PySem.W.callWith_K (h₀ := X.base) I.ok.mod.kin T.keep (thn (ha.run pos pins s σ H _ I h) ?_) he hpl
  rintro us s1 ⟨vs, H1, I1, r1, y, rfl, q1⟩
  refine ⟨I1.kIn, ?_⟩
  obtain ⟨u, rfl, ry⟩ := vals1 r1
  show wpAny _ _ (call (.ref C) [u]) _ _ _
  obtain ⟨hp, g, dr, tk, os⟩ := s1
  have size : hp.objs.size ≤ hp.objs.size + 1 := Nat.le_succ _
  have new : H1 (hp.objs.size + 1) = none := I1.hok.fresh size
  have kept : ∀ b o, hp.get? b = some o →
      ((hp.push (PySem.W.kdv_tup [u])).push (PySem.HandSPX.excO C hp.objs.size)).get? b = some o := by
    intro b o z
    exact Heap.get?_push_of_some _ (Heap.get?_push_of_some _ z)
  have lies : ((hp.push (PySem.W.kdv_tup [u])).push (PySem.HandSPX.excO C hp.objs.size)).get? (hp.objs.size + 1) =
      some (PySem.HandSPX.excO C hp.objs.size) := by heap_get
  have I2 := I1.laid (t' := tk) (a := hp.objs.size + 1) (o := exo (hp.objs.size + 1) C none) kept size (exo_ok lies)
  have r2 : Vals [V.ref (hp.objs.size + 1), y] [Value.ref (hp.objs.size + 1), u] := .cons rfl (.cons ry .nil)
  have sp : spKeep C f [V.ref (hp.objs.size + 1), y] (upd H1 (hp.objs.size + 1) (exo (hp.objs.size + 1) C none))
      (fun v H2 => v = .non ∧ ∃ d, H1 d = none ∧ d ≠ hp.objs.size + 1 ∧
        H2 = upd (upd (upd H1 (hp.objs.size + 1) (exo (hp.objs.size + 1) C none)) d (exd d [(f, y)])) (hp.objs.size + 1) (exo (hp.objs.size + 1) C (some d)))
      (fun _ _ _ => False) := by
    refine ⟨_, y, rfl, upd_same, fun dx n ne => ⟨rfl, dx, ?_, ne, rfl⟩⟩
    rw [upd_ne ne] at n
    exact n
  have len := F.arity sp
  have bd := hb ⟨_, g, dr, tk, os⟩ [Value.ref (hp.objs.size + 1), u] I2.kIn (by rw [List.append_nil]; exact len)
  rw [List.append_nil] at bd
  refine wpAny_call (called_own T.base.make (Row.of (I1.kIn _ _ hC) hbm) (by show 1 ≤ sizeLine; rw [sizeLine_eq]; omega)
    (PySem.W.looks_findIn I1.kIn iC) (fun self => PySem.W.bind_fn I1.kIn self tI)
    (codeAny_mono (F.runs (out := X.stack) (room_make hr C [u] []) (I2.env0.make C [u] []) bd r2 sp) ?_))
  intro r s' hq
  cases r with
  | error er => exact hx pins σ _ _ er s' I2 hq
  | ok fl =>
    cases fl with
    | next => exact hq.elim
    | brk => exact hq.elim
    | cont => exact hq.elim
    | ret u' =>
      obtain ⟨v, H2, os2, bare2, un2, hok2, rv, rfl, d, nd, ne, rfl⟩ := hq
      obtain ⟨h2, g2, d2, t2, os'⟩ := s'
      have ed : (upd (upd (upd H1 (hp.objs.size + 1) (exo (hp.objs.size + 1) C none)) d (exd d [(f, y)])) (hp.objs.size + 1)
          (exo (hp.objs.size + 1) C (some d))) d = some (exd d [(f, y)]) := by
        rw [upd_ne ne, upd_same]
      refine ⟨rv, mk_end (raises_own T.isE T.meta_) I1 size kept un2 hok2 os2 bare2 upd_same ed nd ?_⟩
      have same : upd (del (upd (upd (upd H1 (hp.objs.size + 1) (exo (hp.objs.size + 1) C none)) d (exd d [(f, y)])) (hp.objs.size + 1)
          (exo (hp.objs.size + 1) C (some d))) (hp.objs.size + 1)) d (.xd [(f, y)]) = upd H1 d (.xd [(f, y)]) := by
        funext b
        by_cases b1 : b = d
        · subst b1
          rw [upd_same, upd_same]
        rw [upd_ne b1, upd_ne b1]
        by_cases b2 : b = hp.objs.size + 1
        · subst b2
          rw [del_same, new]
        rw [del_ne b2, upd_ne b2, upd_ne b1, upd_ne b2]
      rw [same]
      exact q1 d nd
end
/-! Base.__init__(self, ..), Base an own class -/
structure Asks (K : PySem.W.Frag) (C : Addr) (initId : String) : Prop where
  sp : PySem.W.specialIn K (.ref C) "__getattribute__" = some (some (.builtin "type.__getattribute__"))
  rd : PySem.W.readsIn K C (.type "type") = true
  fi : PySem.W.findCls K (.ref C) (.type "type") "__init__" = some (.val (.builtin initId))
section
variable {X : Cx} {x : Str} {C : Addr} {e : Expr} {es : List Expr} {ta : TA} {p1 p2 pos : Pos} {B newId initId : String} {top : List Value}
theorem pe_askC {pl : Sem Bool} (T0 : Asks X.K C initId) (hg : Gl X x) (hm : X.mg x = some (.ref C))
    (hi : PySem.W.handedIn (.builtin initId) = true)
    (ha : PA X (e :: es) ta) (hdb : (x == ("__debug__" : Str)) = false := by decide)
    (hc : eval (.Call (.Attribute (.Name x p1) "__init__" p2) (e :: es) [] pos) X.env = (do
      let ov ← eval (.Name x p1) X.env
      standAt p2.atName
      let (f, first) ← holding [ov] (getMethod ov "__init__" pl)
      callWith pos f first (backTo pos (starEach (e :: es) X.env)) (backToKw pos (keywordEach [] X.env))) := by rfl)
    (he : starEach (e :: es) X.env = (false, eval e X.env) :: starEach es X.env := by rfl)
    (hpl : (backTo pos (starEach es X.env)).any (·.1) = false := by rfl) :
    PE X (.Call (.Attribute (.Name x p1) "__init__" p2) (e :: es) [] pos) (tAsk X.K B newId initId top ta) := by
  constructor
  intro pins s σ H Q I h
  refine PySem.W.methodCall_KW (ld_glob I hg hm ?_ hdb) hc
  refine PySem.W.method_cls I.kIn T0.sp (PySem.W.cls_value I.kIn T0.rd T0.fi hi ?_)
  show wpAny _ _ (callWith pos (Value.builtin initId) [] (backTo pos (starEach (e :: es) X.env)) []) _ _ _
  refine PyProof.Rows.callWith_method1 (thn (ha.run pos pins _ σ H _ (I.tok _) h) ?_) he hpl
  rintro us s1 ⟨vs, H1, I1, r1, a, C', ws, rfl, hl, T, ea, q⟩
  cases r1 with
  | @cons _ u0 _ ur ra rw' =>
    obtain rfl : u0 = Value.ref a := ra
    refine ask_ok T I1 ea ?_ fun s' J => ⟨.non, H1, J, rfl, q⟩
    rw [← Paired.length rw', sizeLine_eq]
    omega
end
end MD

set_option Elab.async false
set_option maxRecDepth 100000
set_option maxHeartbeats 2000000
set_option linter.all false
/-! a def that raises nothing, called where an exception is being handled -/
namespace MM
open PySem PySem.Spec PyProof.Rows L2
structure RmT (k : Nat) (A : Around) : Prop where
  room : L2H.RoomH k A
  still : A.guards = some []
theorem RmT.le {j k : Nat} {A : Around} (h : RmT k A) (le : j ≤ k) : RmT j A := ⟨h.room.mono le, h.still⟩
theorem Rm.hot {k : Nat} {A : Around} (h : Rm k A) (x : Option Value) : RmT k (A.mark x) := ⟨⟨h.room.dp, h.room.un⟩, h.still⟩
structure FnT (P : Program) (w : World) (K : PySem.W.Frag) (mg : Str → Option Value) (base : Heap)
    (k : Nat) (f : Addr) (fd : FuncData) (ps : List Str) (sp : Sp) : Prop where
  arity : ∀ {vs H Q E}, sp vs H Q E → vs.length = ps.length
  runs : ∀ {A : Around} {out : List Env} {s : Shared} {H : Hp} {ar : Args} {us : List Value} {vs : List V} {Q : VK} {E : XK},
    RmT k A → Env0 P w K mg base A out s H → BindsTo s fd ar (ps.zip us) → Vals vs us → sp vs H Q E →
      codeAny (model P w) A (.call (.ref f) ar) (CR CX0 out P w H s Q E) s
/-- its body's context: nothing may be raised in it -/
def cxT (P : Program) (w : World) (K : PySem.W.Frag) (mg : Str → Option Value) (base : Heap) (N : List Str) (qual : Str) (scope : Scope) (f : Addr) (cd : Value) (A : Around) (outer : List Env) (s : Shared) (H : Hp) (E : XK) : Cx :=
  { cxOf CX0 P w K mg base N qual scope f cd A outer s H E with calm := false }
theorem inv_startT {P : Program} {w : World} {K : PySem.W.Frag} {mg : Str → Option Value} {base : Heap} {N ps : List Str} {qual : Str} {scope : Scope} {f : Addr} {cd : Value} {A : Around} {outer : List Env} {s s1 : Shared} {H : Hp} {E : XK} {us : List Value} {vs : List V}
    (S : FnScope N ps scope) (e0 : Env0 P w K mg base A outer s H) (hl : vs.length = ps.length) (r : Vals vs us)
    (x : InCallC s s.heap.objs.size (bindL (envOfC qual scope s.heap.objs.size f cd).kindOf (ps.zip us) fun _ => none) (cellsFrom (s.heap.objs.size + 1) scope.names []) (bindC (envOfC qual scope s.heap.objs.size f cd).kindOf (ps.zip us) fun _ => none) s1) :
    Inv (cxT P w K mg base N qual scope f cd A outer s H E) [] (L2.start N vs) H s1 := by
  have e1 : Env0 P w K mg base { A with handled := none } outer s H := ⟨e0.frames, e0.mod, e0.bs, e0.bsz, e0.funs, e0.frf, e0.hok, e0.bare⟩
  have J := inv_start (CX := CX0) (E := E) (qual := qual) (f := f) (cd := cd) S (A := { A with handled := none }) rfl e1 hl r x
  exact ⟨⟨J.ok.mod, J.ok.kind, J.ok.glob, J.ok.blt, J.ok.above, J.ok.inj, J.ok.has, J.ok.cab, (fun z => Bool.noConfusion (show false = true from z)), J.ok.frames, J.ok.stk, J.ok.exf, J.ok.bs, J.ok.bsz, J.ok.noex, J.ok.exfs, J.ok.funs, J.ok.frf⟩,
    J.os, J.bare, J.base, J.loc, J.cell, J.free, J.freeC, J.pin, J.hok, J.len⟩
def DefT (P : Program) (w : World) (K : PySem.W.Frag) (mg : Str → Option Value) (base : Heap) (k : Nat) (x : Str) (ps : List Str) (sp : Sp) : Prop :=
  ∃ f fd, FnT P w K mg base k f fd ps sp ∧ mg x = some (.ref f) ∧ PySem.W.keepIn K (.ref f) = true ∧ L2.Binds K fd ps []
section
variable {P : Program} {w : World} {K : PySem.W.Frag} {mg : Str → Option Value} {base : Heap} {k : Nat} {x : Str} {ps : List Str} {sp : Sp} {st : Stmt}
theorem At.defT {N : List Str} (T : At K mg x st) (S : FnScope N ps (defScope st))
    (hb : ∀ (kV doc pm : Value) (an : Option Addr) (cd ct : Value) (us : List Value), us.length = ps.length →
      bindArgs (PySem.W.fnOf x x (defArgs st) (defBody st) (defScope st) .none kV doc pm an cd ct) ⟨us, []⟩ = pure (ps.zip us))
    (arity : ∀ vs H Q E, sp vs H Q E → vs.length = ps.length)
    (body : ∀ (f : Addr) (cd : Value) (A : Around) (out : List Env) (s : Shared) (H : Hp) (vs : List V) (Q : VK) (E : XK),
      RmT k (A.deeper (envOfC x (defScope st) s.heap.objs.size f cd)) → sp vs H Q E →
      ∃ t, PSs (cxT P w K mg base N x (defScope st) f cd A out s H E).nox (defBody st) t ∧
        t { nx := fun _ H' => Q .non H', rt := Q } (start N vs) H) : DefT P w K mg base (k + 1) x ps sp := by
  obtain ⟨fd, F⟩ := T.fn
  have bnd := F.bindsN hb
  have kp := F.kp
  obtain ⟨oc, od, dV, kV, doc, pm, an, cd, ct, osl, rfl, lk, hcd, _, _⟩ := F.ex
  refine ⟨_, _, ⟨fun h => arity _ _ _ _ h, ?_⟩, T.glo, kp, bnd⟩
  intro A out s H ar us vs Q E hr e0 hbd hv h
  have nv := arity _ _ _ _ h
  have inK : K.In s.heap := e0.mod.kin.keeps (fun b o e => (e0.bs b o e).1)
  have nl : s.heap.NoLimit := e0.mod.nolimit.keeps (fun b o e => (e0.bs b o e).1)
  have kd : ∀ y ∈ ps.zip us, (defScope st).names.lookup y.1 = some .local ∨
      ((defScope st).names.lookup y.1 = some .cell ∧ ((cellsFrom (s.heap.objs.size + 1) (defScope st).names []).lookup y.1).isSome = true) := by
    rintro ⟨n, v⟩ hy
    cases S.par n (List.of_mem_zip hy).1 with
    | inl q => exact .inl q
    | inr q => exact .inr ⟨q, PySem.W.cellsFrom_some _ _ _ (.inl q)⟩
  refine codeAny_call_function hr.room.depth (inK _ _ lk) rfl S.co S.gen rfl (PySem.W.codeRec_of inK hcd) (hbd _ _ _ _ ?_)
  refine wpAny_newFunctionEnv_cells S.kind kd (fun env he s1 xc => ?_)
  subst he
  refine ⟨nl.keeps xc.toInCall.keep, codeAny_func ?_⟩
  obtain ⟨t, ht, hq⟩ := body _ cd A out s H vs Q E ⟨hr.room.deeper _, hr.still⟩ h
  have I := inv_startT (P := P) (w := w) (qual := x) (cd := cd) (f := He.ga K x) (E := E) S e0 nv hv xc
  refine wpAny_mono (ht.nox.run [] s1 (start N vs) H _ I hq) (fun fl s' hs => ?_) (fun e s' hs => hs)
  cases fl with
  | ret u =>
    obtain ⟨v, σ', H', J, rv, q⟩ := hs
    exact ⟨v, H', J.os, J.bare, J.base, J.hok, rv, q⟩
  | next =>
    obtain ⟨σ', H', J, q⟩ := hs
    exact ⟨.non, H', J.os, J.bare, J.base, J.hok, rfl, q⟩
  | brk =>
    obtain ⟨_, _, _, q⟩ := hs
    exact q.elim
  | cont =>
    obtain ⟨_, _, _, q⟩ := hs
    exact q.elim
end
section
variable {X : Cx} {k : Nat} {ps : List Str} {sp : Sp} {x : Str} {p pos : Pos} {e : Expr} {es : List Expr} {t : TA}
theorem pe_dT (D : DefT X.prog X.w X.K X.mg X.base k x ps sp) (hr : RmT k X.A) (hx : Passes CX0 X (fun _ _ _ => False)) (ha : PA X (e :: es) t) (hg : Gl X x := by rfl)
    (hdb : (x == ("__debug__" : Str)) = false := by decide)
    (he : starEach (e :: es) X.env = (false, eval e X.env) :: starEach es X.env := by rfl)
    (hpl : (backTo pos (starEach es X.env)).any (·.1) = false := by rfl) : PE X (.Call (.Name x p) (e :: es) [] pos) (tD sp (fun _ _ _ => False) t) := by
  obtain ⟨f, fd, F, hm, hk, hb⟩ := D
  constructor
  intro pins s σ H Q I h
  refine wpAny_Call_Name_kw (ld_glob I hg hm ?_ hdb)
  refine PySem.W.callWith_K (h₀ := X.base) I.ok.mod.kin hk ?_ he hpl
  refine thn (ha.run pos pins s σ H _ I h) fun us s1 ⟨vs, H1, I1, r, q⟩ => ⟨I1.kIn, ?_⟩
  have nl : (us ++ []).length = ps.length := by
    rw [List.append_nil, ← r.length]
    exact F.arity q
  have bd := hb s1 us I1.kIn nl
  rw [List.append_nil] at bd
  refine wpAny_call (codeAny_mono (F.runs hr I1.env0 bd r q) ?_)
  intro res s' hq
  cases res with
  | error e => exact hx pins σ H1 s1 e s' I1 hq
  | ok fl =>
    cases fl with
    | ret u => exact I1.after hq
    | next => exact hq.elim
    | brk => exact hq.elim
    | cont => exact hq.elim
end
end MM

set_option Elab.async false
set_option maxRecDepth 100000
set_option maxHeartbeats 2000000
set_option linter.all false
namespace PySem
namespace HandSPX
/-! KeyError as a base: its __new__ is LookupError's -/
theorem bs_KeyError : Bs "KeyError" "LookupError.__new__" "KeyError.__init__" [.type "KeyError", .type "LookupError", .type "Exception", .type "BaseException", .type "object"] :=
  ⟨⟨⟨_, _, _, PySem.F.excBase_LookupError, by decide +kernel⟩, by decide +kernel, by decide +kernel⟩, by decide +kernel, PyProof.Rows.excClass_KeyError.notStar,
    PyProof.Rows.excClass_KeyError.init.plain, PyProof.Rows.excClass_KeyError.initEntry, PyProof.Rows.excClass_KeyError.initSplit, PyProof.Rows.excClass_KeyError.initKind,
    PyProof.Rows.excClass_KeyError.initSig⟩
theorem store_KeyError : StoreFacts "KeyError" [.type "KeyError", .type "LookupError", .type "Exception", .type "BaseException", .type "object"] "object.__setattr__" "object" where
  mro := by kernel_rfl
  slot := .of (owner := "object") (n := "__setattr__") (by rw [typeLookup_type, builtinLookup_eq_fast]; kernel_rfl) (by decide +kernel) (by decide +kernel) (by decide +kernel)
    (by first | exact .inl (by decide +kernel) | exact .inr (by decide +kernel)) (by rw [isSubtype_type]; kernel_rfl)
  entry := PySem.F.store_IndexError.entry
  kind := by decide +kernel
  split := by decide +kernel
  hasOwner := by decide +kernel
  args := fun a b c => by unfold argsOk; kernel_rfl
  passes := fun self => by kernel_rfl
end HandSPX
end PySem
namespace MM
open PySem PySem.Spec PyProof.Rows L2
/-! z * n of a text -/
def rRepS : V → V → Hp → VK → Prop := fun x y H Q => ∃ (z : Str) (n : Int), x = .str z ∧ y = .int n ∧ 1 ≤ n ∧ n ≤ 1000 ∧ 1 ≤ z.length ∧ z.length ≤ 1000 ∧ ∀ t : Str, t.length ≤ 1000000 → Q (.str t) H
theorem foldl_size (l : List (Array Nat)) (acc : Array Nat) : (l.foldl (· ++ ·) acc).size = acc.size + (l.map (·.size)).sum := by
  induction l generalizing acc with
  | nil => simp
  | cons a r ih =>
    rw [List.foldl_cons, ih, Array.size_append, List.map_cons, List.sum_cons]
    omega
theorem op_repS {X : Cx} : OpR X (binaryOp .Mult) rRepS := by
  intro pins s σ H x y v u Q I rx ry h
  obtain ⟨z, n, rfl, rfl, n1, n2, z1, z2, q⟩ := h
  obtain ⟨t, rfl⟩ := rx
  obtain ⟨t', rfl⟩ := ry
  have small : z.length * n.toNat ≤ 1000 * 1000 := Nat.mul_le_mul z2 (by omega)
  refine PySem.P.mul_str ?_ (fun _ _ => ?_) (fun _ _ => ?_) ?_
  · rw [decide_eq_false (by omega), decide_eq_false (by omega)]
    rfl
  · have e : ((n.toNat : Nat) : Int) = n := Int.toNat_of_nonneg (by omega)
    have sm : (z.length : Int) * n ≤ 2 ^ 63 - 1 := by
      rw [← e, ← Int.natCast_mul]
      omega
    have := Int.le_ediv_of_mul_le (by omega) sm
    omega
  · show decide (_ > sizeLine) = false
    refine decide_eq_false ?_
    rw [sizeLine_eq]
    omega
  · rw [if_neg (by omega)]
    split
    · exact ⟨.str z, H, I, ⟨t, rfl⟩, q z (by omega)⟩
    · have len : (List.foldl (· ++ ·) #[] (List.replicate n.toNat z.cps)).size = z.length * n.toNat := by
        rw [foldl_size, List.map_replicate, List.sum_replicate_nat]
        show 0 + n.toNat * z.cps.size = z.cps.size * n.toNat
        rw [Nat.mul_comm, Nat.zero_add]
      refine ⟨?_, .str _, H, I.tok _, ⟨_, rfl⟩, q _ ?_⟩
      · show (List.foldl (· ++ ·) #[] (List.replicate n.toNat z.cps)).size ≤ sizeLine
        rw [len, sizeLine_eq]
        omega
      · show (List.foldl (· ++ ·) #[] (List.replicate n.toNat z.cps)).size ≤ 1000000
        rw [len]
        omega
/-! repr of a dict of texts and tuples of ints -/
/-- a tuple of ints -/
def TupI (K : PySem.W.Frag) (H : Hp) (v : V) (ns : List Int) : Prop := ∃ a, v = .ref a ∧ SqT K H a (ns.map V.int)
section
variable {X : Cx} {pins : List (Addr × Obj)} {σ : L2.St} {H : Hp} {s : Shared}
theorem reads_ints {h : Heap} : ∀ (ns : List Int) (us : List Value), Vals (ns.map V.int) us → ReadsAll h us (ns.map PyData.int) []
  | [], _, r => by
    cases r
    exact .nil
  | n :: r, _, q => by
    cases q with
    | cons r1 r2 =>
      obtain ⟨t, rfl⟩ := r1
      exact ReadsAll.cons (Reads.int n t) (reads_ints r _ r2)
theorem reads_tupI (I : Inv X pins σ H s) {v : V} {u : Value} {ns : List Int} (h : TupI X.K H v ns) (r : RelV v u) : Reads s.heap u (.tuple (ns.map PyData.int)) [] := by
  obtain ⟨a, rfl, S⟩ := h
  cases r
  obtain ⟨its, rv, ⟨o, ho, hc, n, hd⟩, _⟩ := I.tuple S
  exact Reads.tuple ho hc hd (reads_ints ns its (by simpa using rv))
/-- the pairs of the dict: texts, tuples of ints -/
inductive DkI (K : PySem.W.Frag) (H : Hp) : List (Key × V) → List (Str × List Int) → Prop
  | nil : DkI K H [] []
  | cons {k : Str} {v : V} {ns : List Int} {r : List (Key × V)} {q : List (Str × List Int)} (h : TupI K H v ns) (t : DkI K H r q) : DkI K H ((.inr k, v) :: r) ((k, ns) :: q)
def dkD (q : List (Str × List Int)) : PyData := .dict (q.map fun p => (.str p.1, .tuple (p.2.map PyData.int)))
theorem reads_dk (I : Inv X pins σ H s) : ∀ {kvs : List (Key × V)} {q : List (Str × List Int)} {vs : List (Key × Value)} {es : List DictEntry}, DkI X.K H kvs q → KV kvs vs → Pairs (mixKind X.prog X.w) es vs →
    ReadsAll s.heap (es.map (·.key)) (q.map fun p => .str p.1) [] ∧ ReadsAll s.heap (es.map (·.val)) (q.map fun p => .tuple (p.2.map PyData.int)) [] := by
  intro kvs q vs es h
  induction h generalizing vs es with
  | nil =>
    intro r p
    cases r
    cases p
    exact ⟨.nil, .nil⟩
  | @cons k v ns rr qq hv _ ih =>
    intro r p
    cases r with
    | @cons _ kv _ vs' r1 r2 =>
      cases p with
      | @cons e _ es' _ p1 p2 p3 =>
        obtain ⟨e1, e2⟩ := r1
        obtain ⟨i1, i2⟩ := ih r2 p3
        have p1' : keyIs kv.1 e.key = true := p1
        rw [← e1] at p1'
        have ek : ∃ t, e.key = Value.str k t := by
          rcases keyIs_shape p1' with ⟨i, t, z, _⟩ | ⟨x, t, z, ek⟩
          · cases z
          · cases z
            exact ⟨t, ek⟩
        obtain ⟨t, ek⟩ := ek
        refine ⟨?_, ?_⟩
        · show ReadsAll s.heap (e.key :: _) (.str _ :: _) _
          rw [ek]
          exact ReadsAll.cons (Reads.str _ t) i1
        · show ReadsAll s.heap (e.val :: _) (.tuple _ :: _) _
          rw [p2]
          exact ReadsAll.cons (reads_tupI I hv e2) i2
end
def rReprK (K : PySem.W.Frag) : List V → Hp → VK → Prop := fun xs H Q => ∃ (a : Addr) (kvs : List (Key × V)) (q : List (Str × List Int)), xs = [.ref a] ∧ H a = some (.dK kvs) ∧ DkI K H kvs q ∧
  (dkD q).showable = true ∧ (dkD q).depth ≤ 60 ∧ (dkD q).shown.length ≤ sizeLine ∧ Q (.str (dkD q).shown) H
theorem cr_reprK {X : Cx} (hg : X.A.guards = some []) (hu : X.A.units + 66 < cLine) : CallR X (.builtin "repr") (rReprK X.K) := by
  intro pins s σ H xs us Q I r h
  obtain ⟨a, kvs, q, rfl, ha, hk, hw, hdp, hz, hq⟩ := h
  obtain ⟨u, rfl, ru⟩ := vals1 r
  cases ru
  obtain ⟨_, ns, vs, kv, o, es, ep, ho, hx, hd, _, hp, _⟩ := (show ObjOk X.prog X.w H s.heap a (.dK kvs) from I.hok a _ ha)
  obtain ⟨r1, r2⟩ := reads_dk I hk kv hp
  have rd : Reads s.heap (.ref a) (dkD q) (a :: [] ++ []) := Reads.dict ho hx.1 hd (by rw [List.map_map]; exact r1) (by rw [List.map_map]; exact r2)
  refine repr_of_reads' rd hw (fun _ => ?_) hg (by omega) (fun _ _ e => e) (fun h' z tk hk => ⟨.str _, H, I.kept hk, ⟨_, rfl⟩, hq⟩) hz
  intro z
  have e : sysModules = a := by simpa using z
  rw [← e] at ns
  simp at ns
/-- repr of data, or of such a dict -/
def rReprX (K : PySem.W.Frag) : List V → Hp → VK → Prop := fun xs H Q => rRepr K xs H Q ∨ rReprK K xs H Q
theorem cr_reprX {X : Cx} (hg : X.A.guards = some []) (hu : X.A.units + 66 < cLine) : CallR X (.builtin "repr") (rReprX X.K) := by
  intro pins s σ H xs us Q I r h
  rcases h with h | h
  · exact cr_repr hg hu pins s σ H xs us Q I r h
  · exact cr_reprK hg hu pins s σ H xs us Q I r h
end MM

set_option Elab.async false
set_option linter.all false
set_option maxRecDepth 100000
set_option maxHeartbeats 2000000
namespace K00
open PySem PySem.Spec PyProof.Rows L2 MM
def topS (i : Nat) : Stmt := PySem.Challenge.pw_movemarks_k00_whole_errors.main.body.getD i (.Pass ⟨0, 0, 0, 0⟩)
/-! own words for the readings: a step, its side -/
local macro_rules | `(tactic| walk_at "side") => `(tactic| first
  | omega
  | exact ⟨by omega, by omega⟩
  | exact Or.inl ⟨by omega, by omega⟩
  | exact Or.inr ⟨by omega, by omega⟩
  | (show CPw _ _; decide +kernel)
  | (show (0 : Int) < _; decide +kernel)
  | (show CDivW _ _; first | assumption | exact ⟨by decide, by decide +kernel⟩))
local macro_rules | `(tactic| walk_at "here") => `(tactic| first
  | assumption
  | exact upd_same
  | exact Or.inl (Or.inl upd_same)
  | exact Or.inl upd_same)
local macro_rules | `(tactic| walk_at "one") => `(tactic| first
  | refine ⟨_, rfl, ?_⟩
  | refine Or.inl ⟨_, rfl, ?_⟩
  | refine Or.inr ⟨_, rfl, ?_⟩
  | refine ⟨_, _, rfl, rfl, (by walk_at "side"), ?_⟩
  | refine ⟨_, _, rfl, rfl, ?_⟩
  | refine ⟨_, _, rfl, Or.inl (by walk_at "here"), ?_⟩
  | refine ⟨_, _, rfl, Or.inr (by walk_at "here"), ?_⟩
  | refine ⟨_, _, rfl, (by walk_at "here"), ?_⟩
  | refine ⟨_, _, _, _, rfl, rfl, (by walk_at "here"), rfl, ?_⟩
  | refine ⟨_, _, rfl, ?_⟩
  | refine ifT (by rfl) ?_
  | refine ifF (by rfl) ?_
  | refine ifT (decide_eq_true (by omega)) ?_
  | refine ifF (decide_eq_false (by omega)) ?_)
local macro_rules | `(tactic| walk_at "st") => `(tactic| repeat (walk_at "one"))

abbrev sBagL : Stmt := topS 19
abbrev sGrabL : Stmt := topS 20
abbrev sOneOfL : Stmt := topS 21
abbrev sRaisedL : Stmt := topS 22
abbrev sKeptRaisedL : Stmt := topS 23
abbrev sFlagsL : Stmt := topS 24
abbrev sToldErrorL : Stmt := topS 25
abbrev sDueL : Stmt := topS 26
abbrev sLaw : Stmt := topS 27
structure Tx (K : PySem.W.Frag) (mg : Str → Option Value) : Prop where
  t_law_bag : At K mg "_law_bag" sBagL
  t_law_grab : At K mg "_law_grab" sGrabL
  t_law_one_of : At K mg "_law_one_of" sOneOfL
  t_law_raised : At K mg "_law_raised" sRaisedL
  t_law_kept_raised : At K mg "_law_kept_raised" sKeptRaisedL
  t_law_flags : At K mg "_law_flags" sFlagsL
  t_law_told_error : At K mg "_law_told_error" sToldErrorL
  t_law_due : At K mg "_law_due" sDueL
  t_law : At K mg "law" sLaw
  f_ArithmeticError : mg "ArithmeticError" = none
  f_IndexError : mg "IndexError" = none
  f_KeyError : mg "KeyError" = none
  f_LookupError : mg "LookupError" = none
  f_OverflowError : mg "OverflowError" = none
  f_ValueError : mg "ValueError" = none
  f_abs : mg "abs" = none
  f_int : mg "int" = none
  f_isinstance : mg "isinstance" = none
  f_len : mg "len" = none
  f_max : mg "max" = none
  f_min : mg "min" = none
  f_range : mg "range" = none
  f_repr : mg "repr" = none
  f_sum : mg "sum" = none

section
variable {P : Program} {w : World} {K : PySem.W.Frag} {mg : Str → Option Value} {base : Heap}
/-- a bag of draws -/
def BagAt (H : Hp) (p : Addr) : Prop := ∃ g m c : Int, H p = some (.lst [.int g, .int m, .int c])
def spBag (K : PySem.W.Frag) : Sp := fun vs H Q _ => ∃ (a : Addr) (n : Nat) (ns : List Int), vs = [.ref a, .int n] ∧ SqL K H a (ns.map V.int) ∧ n ≤ 100 ∧
  ∀ (H' : Hp) (p : Addr), Same H H' → H p = none → BagAt H' p → Q (.ref p) H'
theorem scBagL : FnScope ["_law_script", "_law_spot", "_law_cell", "_law_great", "_law_mixed"] ["_law_script", "_law_spot"] (defScope sBagL) :=
  ⟨rfl, rfl, rfl, by decide +kernel, rfl, by decide +kernel, by decide +kernel⟩
theorem dBagL (T : Tx K mg) : Def P w K mg base CX0 1 "_law_bag" ["_law_script", "_law_spot"] (spBag K) := by
  refine T.t_law_bag.def_ (N := ["_law_script", "_law_spot", "_law_cell", "_law_great", "_law_mixed"]) scBagL (fun _ _ _ _ _ _ us hl => match us, hl with | [_, _], _ => rfl) ?_ ?_
  · intro vs H Q E h
    obtain ⟨a, n, ns, rfl, _⟩ := h
    rfl
  · intro f cd A out s H vs Q E hr h
    obtain ⟨a, n, ns, rfl, hS, hn, q⟩ := h
    refine ⟨_, (pss_cons (ps_set (i := 2) scBagL.nd rfl (Or.inl rfl) (pe_ifExp (pt_cmpR op_lt (pv 1) (pe_callB call_len_seq rfl T.f_len (by decide +kernel) (pa_cons (pv 0) pa_nil)) (nomark _)) (pe_ix ix_list (pv 0) (pv 1) (fun _ _ => rfl)) (pe_op op_add (pe_op op_add (pe_callB (cr_sum rfl) rfl T.f_sum (by decide +kernel) (pa_cons (pe_slice sl_list (pv 0) po_none (po_some pe_int)) pa_nil)) (pe_op op_mul pe_int (pv 1))) pe_int)))
      (pss_cons (ps_set (i := 3) scBagL.nd rfl (Or.inl rfl) (pe_op op_mod (pe_callTy call_int1 rfl T.f_int (by decide +kernel) (pa_cons (pe_callB call_abs rfl T.f_abs (by decide +kernel) (pa_cons (pv 2) pa_nil)) pa_nil)) (pe_op op_pw (pe_op op_pw pe_int pe_int) pe_int)))
      (pss_cons (ps_set (i := 4) scBagL.nd rfl (Or.inl rfl) (pe_op op_add (pe_op op_add (pe_op op_add (pe_op op_mul (pe_op op_mod (pe_callTy call_int1 rfl T.f_int (by decide +kernel) (pa_cons (pv 3) pa_nil)) pe_int) pe_int) (pe_op op_mul pe_int (pv 1))) (pe_op op_mul pe_int (pe_callTy call_int1 rfl T.f_int (by decide +kernel) (pa_cons (pe_cmpR op_lt (pv 2) pe_int (nomark _)) pa_nil)))) pe_int))
      (pss_one (ps_ret (pe_lst (pa_cons (pe_callB (call_max2 rfl) rfl T.f_max (by decide +kernel) (pa_cons pe_int (pa_cons (pe_op op_sub (pv 3) (pe_op op_pw pe_int pe_int)) pa_nil))) (pa_cons (pe_op op_mod (pe_callTy call_int1 rfl T.f_int (by decide +kernel) (pa_cons (pv 4) pa_nil)) pe_int) (pa_cons pe_int pa_nil))))))))), ?_⟩
    -- behind the cell: whatever it is
    have fin : ∀ (H1 : Hp) (u v : Int), Same H H1 → ∀ p, H1 p = none → Q (.ref p) (upd H1 p (.lst [.int u, .int v, .int 0])) := by
      intro H1 u v sm p hp
      refine q _ p ?_ (sm.free hp) ⟨u, v, 0, upd_same⟩
      intro b o e
      rw [upd_ne (ne_of_none (sm b o e) hp)]
      exact sm b o e
    walk_at "st"
    refine ite2 (fun c => ?_) (fun c => ?_)
    · have lt : n < ns.length := by
        have := of_decide_eq_true c
        rw [List.length_map] at this
        omega
      refine ⟨_, rfl, _, rfl, a, _, _, _, rfl, rfl, hS, atI_cell lt, ?_⟩
      walk_at "st"
      exact ⟨by show 3 ≤ sizeLine; decide, fin H _ _ (Same.refl H)⟩
    · walk_at "st"
      intro p hp
      have sm : Same H (upd H p (.lst (cutV (ns.map V.int) none (some 1)))) := by
        intro b o e
        rw [upd_ne (ne_of_none e hp)]
        exact e
      have ec : cutV (ns.map V.int) none (some 1) = (ns.take 1).map V.int := by
        unfold cutV
        rw [HT.sIx_none, show HT.sIx (ns.map V.int).length (ns.map V.int).length (some 1) = min 1 (ns.map V.int).length from HT.sIx_nat _ _ 1, List.map_take, List.drop_zero, Nat.sub_zero]
        cases ns with
        | nil => rfl
        | cons x r => simp
      refine ⟨_, ns.take 1, rfl, ?_, ?_⟩
      · rw [← ec]
        exact .inl (.inl upd_same)
      walk_at "st"
      exact ⟨by show 3 ≤ sizeLine; decide, fin _ _ _ sm⟩
def spGrab : Sp := fun vs H Q _ => ∃ (p : Addr) (t g m c : Int), vs = [.ref p, .int t] ∧ H p = some (.lst [.int g, .int m, .int c]) ∧ CDivW 0 t ∧
  ∀ r g' m' c' : Int, 0 ≤ r → r < t → Q (.int r) (upd H p (.lst [.int g', .int m', .int c']))
theorem grab_out {H : Hp} {p : Addr} {t r : Int} {xs : List V} {Q : VK} (q : ∀ r g' m' c' : Int, 0 ≤ r → r < t → Q (.int r) (upd H p (.lst [.int g', .int m', .int c'])))
    (ht : 0 < t) (z : Int) (e : r = z % t) (ex : ∃ g' m' c', xs = [V.int g', V.int m', V.int c']) : Q (.int r) (upd H p (.lst xs)) := by
  obtain ⟨g', m', c', rfl⟩ := ex
  rw [e]
  exact q _ _ _ _ (Int.emod_nonneg _ (by omega)) (Int.emod_lt_of_pos _ ht)
theorem scGrabL : FnScope ["_law_bag_here", "_law_total", "_law_found", "_law_one", "_law_two"] ["_law_bag_here", "_law_total"] (defScope sGrabL) :=
  ⟨rfl, rfl, rfl, by decide +kernel, rfl, by decide +kernel, by decide +kernel⟩
theorem dGrabL (T : Tx K mg) : Def P w K mg base CX0 1 "_law_grab" ["_law_bag_here", "_law_total"] spGrab := by
  refine T.t_law_grab.def_ (N := ["_law_bag_here", "_law_total", "_law_found", "_law_one", "_law_two"]) scGrabL (fun _ _ _ _ _ _ us hl => match us, hl with | [_, _], _ => rfl) ?_ ?_
  · intro vs H Q E h
    obtain ⟨p, t, g, m, c, rfl, _⟩ := h
    rfl
  · intro f cd A out s H vs Q E hr h
    obtain ⟨p, t, g, m, c, rfl, hp, ht, q⟩ := h
    have ht0 : 0 < t := ht.1
    have hS : SqL K H p _ := .inl (.inl hp)
    have hd : ∀ i, CDivW i t := fun _ => ht
    refine ⟨_, (pss_cons (ps_if (pt_cmpR op_gt (pe_ix ix_list (pv 0) pe_int (fun _ _ => rfl)) pe_int (nomark _)) (pss_cons (ps_set (i := 2) scGrabL.nd rfl (Or.inl rfl) (pe_op op_mod (pe_callTy call_int1 rfl T.f_int (by decide +kernel) (pa_cons (pe_ix ix_list (pv 0) pe_int (fun _ _ => rfl)) pa_nil)) (pv 1)))
        (pss_cons (ps_asg (pe_op op_fdivW (pe_ix ix_list (pv 0) pe_int (fun _ _ => rfl)) (pv 1)) (pg_sub (pv 0) pe_int set_list))
        (pss_one (ps_ret (pv 2))))) pss_nil)
      (pss_cons (ps_asg (pe_op op_add (pe_ix ix_list (pv 0) pe_int (fun _ _ => rfl)) pe_int) (pg_sub (pv 0) pe_int set_list))
      (pss_cons (ps_set (i := 3) scGrabL.nd rfl (Or.inl rfl) (pe_op op_mod (pe_callTy call_int1 rfl T.f_int (by decide +kernel) (pa_cons (pe_op op_add (pe_ix ix_list (pv 0) pe_int (fun _ _ => rfl)) (pe_op op_mul pe_int (pe_ix ix_list (pv 0) pe_int (fun _ _ => rfl)))) pa_nil)) pe_int))
      (pss_cons (ps_set (i := 4) scGrabL.nd rfl (Or.inl rfl) (pe_op op_add (pe_op op_mul (pe_op op_mod (pe_callTy call_int1 rfl T.f_int (by decide +kernel) (pa_cons (pe_op op_mul (pv 3) (pv 3)) pa_nil)) pe_int) (pv 3)) (pe_op op_mul pe_int (pe_ix ix_list (pv 0) pe_int (fun _ _ => rfl)))))
      (pss_one (ps_ret (pe_op op_mod (pe_callTy call_int1 rfl T.f_int (by decide +kernel) (pa_cons (pe_op op_fdivW (pe_op op_mod (pe_callTy call_int1 rfl T.f_int (by decide +kernel) (pa_cons (pv 4) pa_nil)) pe_int) pe_int) pa_nil)) (pv 1)))))))), ?_⟩
    walk_at "st"
    refine ite2 (fun c => ?_) (fun c => ?_)
    · walk_at "st"
      refine grab_out q ht0 g rfl ⟨_, _, _, rfl⟩
    · walk_at "st"
      refine grab_out q ht0 _ rfl ⟨_, _, _, rfl⟩
theorem sql_upd {K : PySem.W.Frag} {H : Hp} {p l : Addr} {xs : List V} {o : HO} (h : SqL K H l xs) (ne : l ≠ p) : SqL K (upd H p o) l xs := by
  rcases h with (h | ⟨u, h⟩) | h
  · exact .inl (.inl (by rw [upd_ne ne]; exact h))
  · exact .inl (.inr ⟨u, by rw [upd_ne ne]; exact h⟩)
  · exact .inr h
theorem at_in {xs : List V} {r : Int} (h0 : 0 ≤ r) (h1 : r < xs.length) : ∃ v, v ∈ xs ∧ atI xs r = some v := by
  have lt : r.toNat < xs.length := by omega
  refine ⟨xs[r.toNat], List.getElem_mem lt, ?_⟩
  have e : ((r.toNat : Nat) : Int) = r := by omega
  have q := atI_nat (xs := xs) (j := r.toNat) (List.getElem?_eq_getElem lt)
  rw [e] at q
  exact q
theorem div_small {n : Nat} (h0 : 0 < n) (h : n ≤ 100000) : CDivW 0 (n : Int) := by
  refine wide_div (b := 20) (by omega) ?_ (by decide) (by decide)
  have e : ((n : Int)).natAbs = n := Int.natAbs_natCast n
  rw [e]
  exact Nat.lt_of_le_of_lt h (by decide)
def spOneOf (K : PySem.W.Frag) : Sp := fun vs H Q _ => ∃ (p l : Addr) (g m c : Int) (xs : List V), vs = [.ref p, .ref l] ∧ H p = some (.lst [.int g, .int m, .int c]) ∧ SqL K H l xs ∧
  l ≠ p ∧ 0 < xs.length ∧ xs.length ≤ 1000 ∧ ∀ v g' m' c', v ∈ xs → Q v (upd H p (.lst [.int g', .int m', .int c']))
theorem scOneOfL : FnScope ["_law_bag_here", "_law_items"] ["_law_bag_here", "_law_items"] (defScope sOneOfL) :=
  ⟨rfl, rfl, rfl, by decide +kernel, rfl, by decide +kernel, by decide +kernel⟩
theorem dOneOfL (T : Tx K mg) (DGrabL : Def P w K mg base CX0 1 "_law_grab" ["_law_bag_here", "_law_total"] spGrab) : Def P w K mg base CX0 2 "_law_one_of" ["_law_bag_here", "_law_items"] (spOneOf K) := by
  refine T.t_law_one_of.def_ (N := ["_law_bag_here", "_law_items"]) scOneOfL (fun _ _ _ _ _ _ us hl => match us, hl with | [_, _], _ => rfl) ?_ ?_
  · intro vs H Q E h
    obtain ⟨p, l, g, m, c, xs, rfl, _⟩ := h
    rfl
  · intro f cd A out s H vs Q E hr h
    have hr1 : Rm 1 _ := hr.le (by decide)
    obtain ⟨p, l, g, m, c, xs, rfl, hp, hS, ne, h0, h1, q⟩ := h
    refine ⟨_, (pss_one (ps_ret (pe_ix ix_list (pv 1) (pe_d DGrabL (hr1.le (by decide)) pass0 (pa_cons (pv 0) (pa_cons (pe_callB call_len_seq rfl T.f_len (by decide +kernel) (pa_cons (pv 1) pa_nil)) pa_nil))) (fun _ _ => rfl)))), ?_⟩
    walk_at "st"
    refine ⟨p, _, g, m, c, rfl, hp, div_small h0 (by omega), fun r g' m' c' r0 r1 => ?_⟩
    obtain ⟨v, hv, e⟩ := at_in r0 r1
    exact ⟨_, _, _, v, rfl, rfl, sql_upd hS ne, e, q v g' m' c' hv⟩
end
end K00


set_option Elab.async false
set_option linter.all false
set_option maxRecDepth 100000
set_option maxHeartbeats 2000000
namespace K00
open PySem PySem.Spec PyProof.Rows L2 MM
/-! the classes of errors -/
abbrev ga (K : PySem.W.Frag) (x : Str) : Addr := He.ga K x
abbrev veTop : List Value := [.type "ValueError", .type "Exception", .type "BaseException", .type "object"]
def cns : List Str := (["MarkError", "InvalidMove", "InvalidGroup", "InvalidSubgroup", "InvalidSet", "InvalidRow", "InvalidKinds", "InvalidRatio", "InvalidTable", "InvalidPromise", "InvalidOperation", "ParseError", "InvalidNumber", "UnknownName", "TooMany", "Refused", "NothingToUndo"] : List String).map PySem.Str.ofString
/-- the name of the i-th class -/
def cn (i : Nat) : Str := cns.getD i ""
/-- its field -/
def fns : List Str := (["index", "given", "wanted", "most", "reason", "steps"] : List String).map PySem.Str.ofString
def fnm (i : Nat) : Str := fns.getD (i - 11) ""
def bts : List String := ["ValueError", "IndexError", "KeyError", "OverflowError", "ArithmeticError", "LookupError"]
def tg (K : PySem.W.Frag) (j : Nat) : Value := if j < 17 then .ref (ga K (cn j)) else .type (bts.getD (j - 17) "")
def tgV (K : PySem.W.Frag) (j : Nat) : V := if j < 17 then .ref (ga K (cn j)) else .ty (bts.getD (j - 17) "")
theorem tg_cls (K : PySem.W.Frag) (j : Nat) : ClsV (tgV K j) (tg K j) := by
  unfold tgV tg
  split
  · exact .own _
  · exact .ty _
def spots (i : Nat) : List Nat := if 11 < i then i :: [[18, 22], [19, 22], [20, 21], [21], [22]].getD (i - 12) [] else [0, i, 17]
def due (i j : Nat) : Bool := decide (j ∈ spots i)
def inClass (s : Stmt) : Stmt := match s with
  | .ClassDef _ _ _ b _ _ _ _ _ _ _ => b.getD 0 (.Pass ⟨0, 0, 0, 0⟩)
  | _ => .Pass ⟨0, 0, 0, 0⟩
abbrev sIni (i : Nat) : Stmt := inClass (topS (i + 1))
/-- an own class under ValueError, without __init__ -/
structure Plain (K : PySem.W.Frag) (x : Str) : Prop where
  keep : PySem.W.keepIn K (.ref (ga K x)) = true
  row : PySem.W.excIn K (ga K x) veTop "ValueError.__new__" = true
  isE : PySem.W.subIn K (.ref (ga K x)) (.type "BaseException") = some true
  meta_ : PySem.W.typeIn K (.ref (ga K x)) = some (.type "type")
def plainB (K : PySem.W.Frag) (x : Str) : Bool :=
  PySem.W.keepIn K (.ref (ga K x)) && PySem.W.excIn K (ga K x) veTop "ValueError.__new__" &&
    decide (PySem.W.subIn K (.ref (ga K x)) (.type "BaseException") = some true) &&
    decide (PySem.W.typeIn K (.ref (ga K x)) = some (.type "type"))
theorem plain_ok {K : PySem.W.Frag} {x : Str} (h : plainB K x = true) : Plain K x := by
  unfold plainB at h
  simp only [Bool.and_eq_true, decide_eq_true_eq] at h
  obtain ⟨⟨⟨a, b⟩, c⟩, d⟩ := h
  exact ⟨a, b, c, d⟩
/-- an own class with an __init__ that keeps one field -/
structure Kep (K : PySem.W.Frag) (x f : Str) (B newId initId : String) (top : List Value) (st : Stmt) : Prop where
  over : MD.Ov K (ga K x) B newId initId top
  none_ : PySem.W.findIn K (.ref (ga K x)) f = some none
  field : XfC K (ga K x)
  ini : ∃ fI fd, PySem.W.findIn K (.ref (ga K x)) "__init__" = some (some (.ref fI)) ∧ PySem.W.typeIn K (.ref fI) = some (.type "function") ∧
    FunD K "__init__" (x ++ ".__init__") (defArgs st) (defBody st) (defScope st) [] [] fI fd
/-- which clause catches which -/
def cls : List Nat := [11, 0, 12, 13, 14, 15, 16]
def exq (i j : Nat) : Bool := i == j || (j == 0 && decide (i ≤ 11))
abbrev top11 : List Value := [.type "ValueError", .type "Exception", .type "BaseException", .type "object"]
abbrev top12 : List Value := [.type "IndexError", .type "LookupError", .type "Exception", .type "BaseException", .type "object"]
abbrev top13 : List Value := [.type "KeyError", .type "LookupError", .type "Exception", .type "BaseException", .type "object"]
abbrev top14 : List Value := [.type "OverflowError", .type "ArithmeticError", .type "Exception", .type "BaseException", .type "object"]
abbrev top15 : List Value := [.type "ArithmeticError", .type "Exception", .type "BaseException", .type "object"]
abbrev top16 : List Value := [.type "LookupError", .type "Exception", .type "BaseException", .type "object"]
structure Ex (K : PySem.W.Frag) (mg : Str → Option Value) : Prop where
  glo : ∀ i, i < 17 → mg (cn i) = some (.ref (ga K (cn i)))
  plain : ∀ i, i < 11 → Plain K (cn i)
  kx : ∀ i, i < 17 → ME.Kx K (ga K (cn i))
  kit : ∀ i, i < 17 → ∀ j, j < 23 → PySem.W.kitOne K (.ref (ga K (cn i))) (tg K j) = some (due i j)
  exm : ∀ i, i < 17 → ∀ j ∈ cls, PySem.W.exmOne K (.ref (ga K (cn i))) (.ref (ga K (cn j))) = some (exq i j)
  ask : MD.Asks K (ga K "MarkError") "ValueError.__init__"
  k11 : Kep K "ParseError" "index" "ValueError" "ValueError.__new__" "ValueError.__init__" top11 (sIni 11)
  k12 : Kep K "InvalidNumber" "given" "IndexError" "IndexError.__new__" "IndexError.__init__" top12 (sIni 12)
  k13 : Kep K "UnknownName" "wanted" "KeyError" "LookupError.__new__" "KeyError.__init__" top13 (sIni 13)
  k14 : Kep K "TooMany" "most" "OverflowError" "OverflowError.__new__" "OverflowError.__init__" top14 (sIni 14)
  k15 : Kep K "Refused" "reason" "ArithmeticError" "ArithmeticError.__new__" "ArithmeticError.__init__" top15 (sIni 15)
  k16 : Kep K "NothingToUndo" "steps" "LookupError" "LookupError.__new__" "LookupError.__init__" top16 (sIni 16)
theorem scI11 : FnScope ["self", "index"] ["self", "index"] (defScope (sIni 11)) :=
  ⟨rfl, rfl, rfl, by decide +kernel, rfl, by decide +kernel, by decide +kernel⟩
theorem scI12 : FnScope ["self", "given"] ["self", "given"] (defScope (sIni 12)) :=
  ⟨rfl, rfl, rfl, by decide +kernel, rfl, by decide +kernel, by decide +kernel⟩
theorem vB12 (K : PySem.W.Frag) : PySem.W.findCls K (.type "IndexError") (.type "type") "__init__" = some (.val (.builtin "IndexError.__init__")) := by kernel_rfl
theorem bB12 : bootBuiltins "IndexError" = some (.type "IndexError") := by decide +kernel
theorem tB12 : typeOf (.type "IndexError") = pure (.type "type") := by kernel_rfl
theorem scI13 : FnScope ["self", "wanted"] ["self", "wanted"] (defScope (sIni 13)) :=
  ⟨rfl, rfl, rfl, by decide +kernel, rfl, by decide +kernel, by decide +kernel⟩
theorem vB13 (K : PySem.W.Frag) : PySem.W.findCls K (.type "KeyError") (.type "type") "__init__" = some (.val (.builtin "KeyError.__init__")) := by kernel_rfl
theorem bB13 : bootBuiltins "KeyError" = some (.type "KeyError") := by decide +kernel
theorem tB13 : typeOf (.type "KeyError") = pure (.type "type") := by kernel_rfl
theorem scI14 : FnScope ["self", "most"] ["self", "most"] (defScope (sIni 14)) :=
  ⟨rfl, rfl, rfl, by decide +kernel, rfl, by decide +kernel, by decide +kernel⟩
theorem vB14 (K : PySem.W.Frag) : PySem.W.findCls K (.type "OverflowError") (.type "type") "__init__" = some (.val (.builtin "OverflowError.__init__")) := by kernel_rfl
theorem bB14 : bootBuiltins "OverflowError" = some (.type "OverflowError") := by decide +kernel
theorem tB14 : typeOf (.type "OverflowError") = pure (.type "type") := by kernel_rfl
theorem scI15 : FnScope ["self", "reason"] ["self", "reason"] (defScope (sIni 15)) :=
  ⟨rfl, rfl, rfl, by decide +kernel, rfl, by decide +kernel, by decide +kernel⟩
theorem vB15 (K : PySem.W.Frag) : PySem.W.findCls K (.type "ArithmeticError") (.type "type") "__init__" = some (.val (.builtin "ArithmeticError.__init__")) := by kernel_rfl
theorem bB15 : bootBuiltins "ArithmeticError" = some (.type "ArithmeticError") := by decide +kernel
theorem tB15 : typeOf (.type "ArithmeticError") = pure (.type "type") := by kernel_rfl
theorem scI16 : FnScope ["self", "steps"] ["self", "steps"] (defScope (sIni 16)) :=
  ⟨rfl, rfl, rfl, by decide +kernel, rfl, by decide +kernel, by decide +kernel⟩
theorem vB16 (K : PySem.W.Frag) : PySem.W.findCls K (.type "LookupError") (.type "type") "__init__" = some (.val (.builtin "LookupError.__init__")) := by kernel_rfl
theorem bB16 : bootBuiltins "LookupError" = some (.type "LookupError") := by decide +kernel
theorem tB16 : typeOf (.type "LookupError") = pure (.type "type") := by kernel_rfl
section
variable {P : Program} {w : World} {K : PySem.W.Frag} {mg : Str → Option Value} {base : Heap}
theorem ini11 (T : Tx K mg) (Y : Ex K mg) {fI : Addr} {fd : FuncData}
    (F : FunD K "__init__" ("ParseError" ++ ".__init__") (defArgs (sIni 11)) (defBody (sIni 11)) (defScope (sIni 11)) [] [] fI fd) :
    FnG P w K mg base CX0 1 fI fd ["self", "index"] (MD.spKeep (ga K "ParseError") "index") := by
  refine FnG.body (N := ["self", "index"]) F scI11 ?_ ?_
  · intro vs H Q E h
    obtain ⟨a, y, rfl, _⟩ := h
    rfl
  · intro cd A out s H vs Q E hr h
    obtain ⟨a, y, rfl, ea, q⟩ := h
    refine ⟨_, pss_cons (ps_expr (MD.pe_askC (B := "ValueError") (top := top11) (initId := "ValueError.__init__") (newId := "ValueError.__new__") Y.ask rfl (Y.glo 0 (by decide)) (by decide +kernel) (pa_cons (pv 0) (pa_cons pe_str pa_nil)))) (pss_one (MD.ps_put (B := "ValueError") (newId := "ValueError.__new__") (initId := "ValueError.__init__") (top := top11) (pv 0) (pv 1))), ?_⟩
    refine ⟨_, rfl, a, _, _, rfl, by decide, Y.k11.over, ea, ?_⟩
    refine ⟨_, rfl, _, rfl, a, _, rfl, Y.k11.over, Y.k11.none_, ea, fun dx n ne => ?_⟩
    exact q dx n ne
theorem ini12 (T : Tx K mg) (Y : Ex K mg) {fI : Addr} {fd : FuncData}
    (F : FunD K "__init__" ("InvalidNumber" ++ ".__init__") (defArgs (sIni 12)) (defBody (sIni 12)) (defScope (sIni 12)) [] [] fI fd) :
    FnG P w K mg base CX0 1 fI fd ["self", "given"] (MD.spKeep (ga K "InvalidNumber") "given") := by
  refine FnG.body (N := ["self", "given"]) F scI12 ?_ ?_
  · intro vs H Q E h
    obtain ⟨a, y, rfl, _⟩ := h
    rfl
  · intro cd A out s H vs Q E hr h
    obtain ⟨a, y, rfl, ea, q⟩ := h
    refine ⟨_, pss_cons (ps_expr (MD.pe_ask (top := top12) (initId := "IndexError.__init__") (newId := "IndexError.__new__") rfl T.f_IndexError bB12 tB12 (by decide +kernel) (vB12 K) (by decide +kernel) (pa_cons (pv 0) (pa_cons pe_str pa_nil)))) (pss_one (MD.ps_put (B := "IndexError") (newId := "IndexError.__new__") (initId := "IndexError.__init__") (top := top12) (pv 0) (pv 1))), ?_⟩
    refine ⟨_, rfl, a, _, _, rfl, by decide, Y.k12.over, ea, ?_⟩
    refine ⟨_, rfl, _, rfl, a, _, rfl, Y.k12.over, Y.k12.none_, ea, fun dx n ne => ?_⟩
    exact q dx n ne
theorem ini13 (T : Tx K mg) (Y : Ex K mg) {fI : Addr} {fd : FuncData}
    (F : FunD K "__init__" ("UnknownName" ++ ".__init__") (defArgs (sIni 13)) (defBody (sIni 13)) (defScope (sIni 13)) [] [] fI fd) :
    FnG P w K mg base CX0 1 fI fd ["self", "wanted"] (MD.spKeep (ga K "UnknownName") "wanted") := by
  refine FnG.body (N := ["self", "wanted"]) F scI13 ?_ ?_
  · intro vs H Q E h
    obtain ⟨a, y, rfl, _⟩ := h
    rfl
  · intro cd A out s H vs Q E hr h
    obtain ⟨a, y, rfl, ea, q⟩ := h
    refine ⟨_, pss_cons (ps_expr (MD.pe_ask (top := top13) (initId := "KeyError.__init__") (newId := "LookupError.__new__") rfl T.f_KeyError bB13 tB13 (by decide +kernel) (vB13 K) (by decide +kernel) (pa_cons (pv 0) (pa_cons pe_str pa_nil)))) (pss_one (MD.ps_put (B := "KeyError") (newId := "LookupError.__new__") (initId := "KeyError.__init__") (top := top13) (pv 0) (pv 1))), ?_⟩
    refine ⟨_, rfl, a, _, _, rfl, by decide, Y.k13.over, ea, ?_⟩
    refine ⟨_, rfl, _, rfl, a, _, rfl, Y.k13.over, Y.k13.none_, ea, fun dx n ne => ?_⟩
    exact q dx n ne
theorem ini14 (T : Tx K mg) (Y : Ex K mg) {fI : Addr} {fd : FuncData}
    (F : FunD K "__init__" ("TooMany" ++ ".__init__") (defArgs (sIni 14)) (defBody (sIni 14)) (defScope (sIni 14)) [] [] fI fd) :
    FnG P w K mg base CX0 1 fI fd ["self", "most"] (MD.spKeep (ga K "TooMany") "most") := by
  refine FnG.body (N := ["self", "most"]) F scI14 ?_ ?_
  · intro vs H Q E h
    obtain ⟨a, y, rfl, _⟩ := h
    rfl
  · intro cd A out s H vs Q E hr h
    obtain ⟨a, y, rfl, ea, q⟩ := h
    refine ⟨_, pss_cons (ps_expr (MD.pe_ask (top := top14) (initId := "OverflowError.__init__") (newId := "OverflowError.__new__") rfl T.f_OverflowError bB14 tB14 (by decide +kernel) (vB14 K) (by decide +kernel) (pa_cons (pv 0) (pa_cons pe_str pa_nil)))) (pss_one (MD.ps_put (B := "OverflowError") (newId := "OverflowError.__new__") (initId := "OverflowError.__init__") (top := top14) (pv 0) (pv 1))), ?_⟩
    refine ⟨_, rfl, a, _, _, rfl, by decide, Y.k14.over, ea, ?_⟩
    refine ⟨_, rfl, _, rfl, a, _, rfl, Y.k14.over, Y.k14.none_, ea, fun dx n ne => ?_⟩
    exact q dx n ne
theorem ini15 (T : Tx K mg) (Y : Ex K mg) {fI : Addr} {fd : FuncData}
    (F : FunD K "__init__" ("Refused" ++ ".__init__") (defArgs (sIni 15)) (defBody (sIni 15)) (defScope (sIni 15)) [] [] fI fd) :
    FnG P w K mg base CX0 1 fI fd ["self", "reason"] (MD.spKeep (ga K "Refused") "reason") := by
  refine FnG.body (N := ["self", "reason"]) F scI15 ?_ ?_
  · intro vs H Q E h
    obtain ⟨a, y, rfl, _⟩ := h
    rfl
  · intro cd A out s H vs Q E hr h
    obtain ⟨a, y, rfl, ea, q⟩ := h
    refine ⟨_, pss_cons (ps_expr (MD.pe_ask (top := top15) (initId := "ArithmeticError.__init__") (newId := "ArithmeticError.__new__") rfl T.f_ArithmeticError bB15 tB15 (by decide +kernel) (vB15 K) (by decide +kernel) (pa_cons (pv 0) (pa_cons pe_str pa_nil)))) (pss_one (MD.ps_put (B := "ArithmeticError") (newId := "ArithmeticError.__new__") (initId := "ArithmeticError.__init__") (top := top15) (pv 0) (pv 1))), ?_⟩
    refine ⟨_, rfl, a, _, _, rfl, by decide, Y.k15.over, ea, ?_⟩
    refine ⟨_, rfl, _, rfl, a, _, rfl, Y.k15.over, Y.k15.none_, ea, fun dx n ne => ?_⟩
    exact q dx n ne
theorem ini16 (T : Tx K mg) (Y : Ex K mg) {fI : Addr} {fd : FuncData}
    (F : FunD K "__init__" ("NothingToUndo" ++ ".__init__") (defArgs (sIni 16)) (defBody (sIni 16)) (defScope (sIni 16)) [] [] fI fd) :
    FnG P w K mg base CX0 1 fI fd ["self", "steps"] (MD.spKeep (ga K "NothingToUndo") "steps") := by
  refine FnG.body (N := ["self", "steps"]) F scI16 ?_ ?_
  · intro vs H Q E h
    obtain ⟨a, y, rfl, _⟩ := h
    rfl
  · intro cd A out s H vs Q E hr h
    obtain ⟨a, y, rfl, ea, q⟩ := h
    refine ⟨_, pss_cons (ps_expr (MD.pe_ask (top := top16) (initId := "LookupError.__init__") (newId := "LookupError.__new__") rfl T.f_LookupError bB16 tB16 (by decide +kernel) (vB16 K) (by decide +kernel) (pa_cons (pv 0) (pa_cons pe_str pa_nil)))) (pss_one (MD.ps_put (B := "LookupError") (newId := "LookupError.__new__") (initId := "LookupError.__init__") (top := top16) (pv 0) (pv 1))), ?_⟩
    refine ⟨_, rfl, a, _, _, rfl, by decide, Y.k16.over, ea, ?_⟩
    refine ⟨_, rfl, _, rfl, a, _, rfl, Y.k16.over, Y.k16.none_, ea, fun dx n ne => ?_⟩
    exact q dx n ne
end
section
variable {X : Cx} {W : WX} {x : Str} {p p1 p2 pos : Pos} {e : Expr} {es : List Expr} {te : TE} {ta : TA}
/-- raise X(e), X without __init__ -/
theorem ps_plain (Y : Plain X.K x) (gl : X.mg x = some (.ref (ga X.K x))) (hc : X.calm = true) (tk : Takes X W) (he : PE X e te) (hg : Gl X x := by rfl)
    (hs : starEach [e] X.env = (false, eval e X.env) :: starEach [] X.env := by rfl) (hdb : (x == ("__debug__" : Str)) = false := by decide) :
    PS X (.Raise (some (.Call (.Name x p) [e] [] p1)) none pos) (fun _ σ H => te σ H fun _ H1 => W (.ref (ga X.K x)) none σ H1) :=
  ps_raise hc tk (SkE.pmk_own1 PySem.F.excBase_ValueError Y.row gl Y.keep (raises_own Y.isE Y.meta_) hg he hs hdb)
theorem ps_k11 (T : Tx X.K X.mg) (Y : Ex X.K X.mg) (hc : X.calm = true) (tk : Takes X W) (hr : Rm 2 X.A)
    (ha : PA X (e :: es) ta) (hg : Gl X "ParseError" := by rfl)
    (he : starEach (e :: es) X.env = (false, eval e X.env) :: starEach es X.env := by rfl)
    (hpl : (backTo p1 (starEach es X.env)).any (·.1) = false := by rfl) :
    PS X (.Raise (some (.Call (.Name "ParseError" p) (e :: es) [] p1)) none pos) (fun _ σ H => ta σ H fun vs H1 => ∃ y, vs = [y] ∧
      ∀ d, H1 d = none → W (.ref (ga X.K "ParseError")) (some d) σ (upd H1 d (.xd [("index", y)]))) := by
  obtain ⟨fI, fd, iC, tI, F⟩ := Y.k11.ini
  exact ps_raise hc tk (MD.pmk_made Y.k11.over iC tI (ini11 (P := X.prog) (w := X.w) (base := X.base) T Y F) hr
    (F.bindsN (fun _ _ _ _ _ _ us hl => match us, hl with | [_, _], _ => rfl)) pass0 (Y.glo 11 (by decide)) ha hg (by decide) he hpl)
theorem ps_k12 (T : Tx X.K X.mg) (Y : Ex X.K X.mg) (hc : X.calm = true) (tk : Takes X W) (hr : Rm 2 X.A)
    (ha : PA X (e :: es) ta) (hg : Gl X "InvalidNumber" := by rfl)
    (he : starEach (e :: es) X.env = (false, eval e X.env) :: starEach es X.env := by rfl)
    (hpl : (backTo p1 (starEach es X.env)).any (·.1) = false := by rfl) :
    PS X (.Raise (some (.Call (.Name "InvalidNumber" p) (e :: es) [] p1)) none pos) (fun _ σ H => ta σ H fun vs H1 => ∃ y, vs = [y] ∧
      ∀ d, H1 d = none → W (.ref (ga X.K "InvalidNumber")) (some d) σ (upd H1 d (.xd [("given", y)]))) := by
  obtain ⟨fI, fd, iC, tI, F⟩ := Y.k12.ini
  exact ps_raise hc tk (MD.pmk_made Y.k12.over iC tI (ini12 (P := X.prog) (w := X.w) (base := X.base) T Y F) hr
    (F.bindsN (fun _ _ _ _ _ _ us hl => match us, hl with | [_, _], _ => rfl)) pass0 (Y.glo 12 (by decide)) ha hg (by decide) he hpl)
theorem ps_k13 (T : Tx X.K X.mg) (Y : Ex X.K X.mg) (hc : X.calm = true) (tk : Takes X W) (hr : Rm 2 X.A)
    (ha : PA X (e :: es) ta) (hg : Gl X "UnknownName" := by rfl)
    (he : starEach (e :: es) X.env = (false, eval e X.env) :: starEach es X.env := by rfl)
    (hpl : (backTo p1 (starEach es X.env)).any (·.1) = false := by rfl) :
    PS X (.Raise (some (.Call (.Name "UnknownName" p) (e :: es) [] p1)) none pos) (fun _ σ H => ta σ H fun vs H1 => ∃ y, vs = [y] ∧
      ∀ d, H1 d = none → W (.ref (ga X.K "UnknownName")) (some d) σ (upd H1 d (.xd [("wanted", y)]))) := by
  obtain ⟨fI, fd, iC, tI, F⟩ := Y.k13.ini
  exact ps_raise hc tk (MD.pmk_made Y.k13.over iC tI (ini13 (P := X.prog) (w := X.w) (base := X.base) T Y F) hr
    (F.bindsN (fun _ _ _ _ _ _ us hl => match us, hl with | [_, _], _ => rfl)) pass0 (Y.glo 13 (by decide)) ha hg (by decide) he hpl)
theorem ps_k14 (T : Tx X.K X.mg) (Y : Ex X.K X.mg) (hc : X.calm = true) (tk : Takes X W) (hr : Rm 2 X.A)
    (ha : PA X (e :: es) ta) (hg : Gl X "TooMany" := by rfl)
    (he : starEach (e :: es) X.env = (false, eval e X.env) :: starEach es X.env := by rfl)
    (hpl : (backTo p1 (starEach es X.env)).any (·.1) = false := by rfl) :
    PS X (.Raise (some (.Call (.Name "TooMany" p) (e :: es) [] p1)) none pos) (fun _ σ H => ta σ H fun vs H1 => ∃ y, vs = [y] ∧
      ∀ d, H1 d = none → W (.ref (ga X.K "TooMany")) (some d) σ (upd H1 d (.xd [("most", y)]))) := by
  obtain ⟨fI, fd, iC, tI, F⟩ := Y.k14.ini
  exact ps_raise hc tk (MD.pmk_made Y.k14.over iC tI (ini14 (P := X.prog) (w := X.w) (base := X.base) T Y F) hr
    (F.bindsN (fun _ _ _ _ _ _ us hl => match us, hl with | [_, _], _ => rfl)) pass0 (Y.glo 14 (by decide)) ha hg (by decide) he hpl)
theorem ps_k15 (T : Tx X.K X.mg) (Y : Ex X.K X.mg) (hc : X.calm = true) (tk : Takes X W) (hr : Rm 2 X.A)
    (ha : PA X (e :: es) ta) (hg : Gl X "Refused" := by rfl)
    (he : starEach (e :: es) X.env = (false, eval e X.env) :: starEach es X.env := by rfl)
    (hpl : (backTo p1 (starEach es X.env)).any (·.1) = false := by rfl) :
    PS X (.Raise (some (.Call (.Name "Refused" p) (e :: es) [] p1)) none pos) (fun _ σ H => ta σ H fun vs H1 => ∃ y, vs = [y] ∧
      ∀ d, H1 d = none → W (.ref (ga X.K "Refused")) (some d) σ (upd H1 d (.xd [("reason", y)]))) := by
  obtain ⟨fI, fd, iC, tI, F⟩ := Y.k15.ini
  exact ps_raise hc tk (MD.pmk_made Y.k15.over iC tI (ini15 (P := X.prog) (w := X.w) (base := X.base) T Y F) hr
    (F.bindsN (fun _ _ _ _ _ _ us hl => match us, hl with | [_, _], _ => rfl)) pass0 (Y.glo 15 (by decide)) ha hg (by decide) he hpl)
theorem ps_k16 (T : Tx X.K X.mg) (Y : Ex X.K X.mg) (hc : X.calm = true) (tk : Takes X W) (hr : Rm 2 X.A)
    (ha : PA X (e :: es) ta) (hg : Gl X "NothingToUndo" := by rfl)
    (he : starEach (e :: es) X.env = (false, eval e X.env) :: starEach es X.env := by rfl)
    (hpl : (backTo p1 (starEach es X.env)).any (·.1) = false := by rfl) :
    PS X (.Raise (some (.Call (.Name "NothingToUndo" p) (e :: es) [] p1)) none pos) (fun _ σ H => ta σ H fun vs H1 => ∃ y, vs = [y] ∧
      ∀ d, H1 d = none → W (.ref (ga X.K "NothingToUndo")) (some d) σ (upd H1 d (.xd [("steps", y)]))) := by
  obtain ⟨fI, fd, iC, tI, F⟩ := Y.k16.ini
  exact ps_raise hc tk (MD.pmk_made Y.k16.over iC tI (ini16 (P := X.prog) (w := X.w) (base := X.base) T Y F) hr
    (F.bindsN (fun _ _ _ _ _ _ us hl => match us, hl with | [_, _], _ => rfl)) pass0 (Y.glo 16 (by decide)) ha hg (by decide) he hpl)
end
end K00

set_option Elab.async false
set_option linter.all false
set_option maxRecDepth 100000
set_option maxHeartbeats 2000000
namespace K00
open PySem PySem.Spec PyProof.Rows L2 MM
section
variable {P : Program} {w : World} {K : PySem.W.Frag} {mg : Str → Option Value} {base : Heap}
theorem scKeptRaisedL : FnScope ["_law_which", "_law_value"] ["_law_which", "_law_value"] (defScope sKeptRaisedL) :=
  ⟨rfl, rfl, rfl, by decide +kernel, rfl, by decide +kernel, by decide +kernel⟩
theorem scRaisedL : FnScope ["_law_which", "_law_text", "_law_value"] ["_law_which", "_law_text", "_law_value"] (defScope sRaisedL) :=
  ⟨rfl, rfl, rfl, by decide +kernel, rfl, by decide +kernel, by decide +kernel⟩
theorem eqT {i j : Nat} (h : i = j) : decide (V.int (i : Int) = V.int (j : Int)) = true := decide_eq_true (by rw [h])
theorem eqF {i j : Nat} (h : ¬ i = j) : decide (V.int (i : Int) = V.int (j : Int)) = false := by
  rw [dInt]
  exact decide_eq_false (by omega)
def spKept (K : PySem.W.Frag) : Sp := fun vs H _ E => ∃ (i : Nat) (y : V), vs = [.int (i : Int), y] ∧ 11 ≤ i ∧ i < 17 ∧
  ∀ d, H d = none → E (.ref (ga K (cn i))) (some d) (upd H d (.xd [(fnm i, y)]))
theorem bKeptRaisedL (T : Tx K mg) (Y : Ex K mg) : Def P w K mg base (L2.CX P w) 4 "_law_kept_raised" ["_law_which", "_law_value"] (spKept K) := by
  refine T.t_law_kept_raised.defX (N := ["_law_which", "_law_value"]) scKeptRaisedL (fun _ _ _ _ _ _ us hl => match us, hl with | [_, _], _ => rfl) ?_ ?_
  · intro vs H Q E h
    obtain ⟨i, y, rfl, _⟩ := h
    rfl
  · intro f cd A out s H vs Q E hr h
    have tk : Takes (cxOf (L2.CX P w) P w K mg base ["_law_which", "_law_value"] "_law_kept_raised" (defScope sKeptRaisedL) f cd A out s H E) (fun cls d _ H1 => E cls d H1) := takes_of rfl rfl rfl rfl
    have hr2 : Rm 2 _ := hr.le (by decide)
    obtain ⟨i, y, rfl, i1, i2, q⟩ := h
    refine ⟨_, (pss_cons (ps_if (pt_cmpR op_eq (pv 0) pe_int (nomark _)) (pss_one (ps_k11 T Y rfl tk hr2 (pa_cons (pv 1) pa_nil))) pss_nil)
      (pss_cons (ps_if (pt_cmpR op_eq (pv 0) pe_int (nomark _)) (pss_one (ps_k12 T Y rfl tk hr2 (pa_cons (pv 1) pa_nil))) pss_nil)
      (pss_cons (ps_if (pt_cmpR op_eq (pv 0) pe_int (nomark _)) (pss_one (ps_k13 T Y rfl tk hr2 (pa_cons (pv 1) pa_nil))) pss_nil)
      (pss_cons (ps_if (pt_cmpR op_eq (pv 0) pe_int (nomark _)) (pss_one (ps_k14 T Y rfl tk hr2 (pa_cons (pv 1) pa_nil))) pss_nil)
      (pss_cons (ps_if (pt_cmpR op_eq (pv 0) pe_int (nomark _)) (pss_one (ps_k15 T Y rfl tk hr2 (pa_cons (pv 1) pa_nil))) pss_nil)
      (pss_one (ps_k16 T Y rfl tk hr2 (pa_cons (pv 1) pa_nil)))))))), ?_⟩
    refine ⟨_, rfl, rfl, _, rfl, ?_⟩
    by_cases e11 : i = 11
    · refine ifT (eqT (j := 11) e11) ?_
      subst e11
      exact ⟨_, rfl, y, rfl, fun d n => q d n⟩
    refine ifF (eqF (j := 11) e11) ?_
    refine ⟨_, rfl, rfl, _, rfl, ?_⟩
    by_cases e12 : i = 12
    · refine ifT (eqT (j := 12) e12) ?_
      subst e12
      exact ⟨_, rfl, y, rfl, fun d n => q d n⟩
    refine ifF (eqF (j := 12) e12) ?_
    refine ⟨_, rfl, rfl, _, rfl, ?_⟩
    by_cases e13 : i = 13
    · refine ifT (eqT (j := 13) e13) ?_
      subst e13
      exact ⟨_, rfl, y, rfl, fun d n => q d n⟩
    refine ifF (eqF (j := 13) e13) ?_
    refine ⟨_, rfl, rfl, _, rfl, ?_⟩
    by_cases e14 : i = 14
    · refine ifT (eqT (j := 14) e14) ?_
      subst e14
      exact ⟨_, rfl, y, rfl, fun d n => q d n⟩
    refine ifF (eqF (j := 14) e14) ?_
    refine ⟨_, rfl, rfl, _, rfl, ?_⟩
    by_cases e15 : i = 15
    · refine ifT (eqT (j := 15) e15) ?_
      subst e15
      exact ⟨_, rfl, y, rfl, fun d n => q d n⟩
    refine ifF (eqF (j := 15) e15) ?_
    obtain rfl : i = 16 := by omega
    exact ⟨_, rfl, y, rfl, fun d n => q d n⟩
/-- which of the errors is raised -/
def spRaised (K : PySem.W.Frag) : Sp := fun vs H _ E => ∃ (i : Nat) (z y : V), vs = [.int (i : Int), z, y] ∧ i < 17 ∧
  (i < 11 → E (.ref (ga K (cn i))) none H) ∧ (11 ≤ i → ∀ d, H d = none → E (.ref (ga K (cn i))) (some d) (upd H d (.xd [(fnm i, y)])))
theorem bRaisedL (T : Tx K mg) (Y : Ex K mg) (BKept : Def P w K mg base (L2.CX P w) 4 "_law_kept_raised" ["_law_which", "_law_value"] (spKept K)) :
    Def P w K mg base (L2.CX P w) 5 "_law_raised" ["_law_which", "_law_text", "_law_value"] (spRaised K) := by
  refine T.t_law_raised.defX (N := ["_law_which", "_law_text", "_law_value"]) scRaisedL (fun _ _ _ _ _ _ us hl => match us, hl with | [_, _, _], _ => rfl) ?_ ?_
  · intro vs H Q E h
    obtain ⟨i, z, y, rfl, _⟩ := h
    rfl
  · intro f cd A out s H vs Q E hr h
    have tk : Takes (cxOf (L2.CX P w) P w K mg base ["_law_which", "_law_text", "_law_value"] "_law_raised" (defScope sRaisedL) f cd A out s H E) (fun cls d _ H1 => E cls d H1) := takes_of rfl rfl rfl rfl
    have hr4 : Rm 4 _ := hr.le (by decide)
    obtain ⟨i, z, y, rfl, i2, q1, q2⟩ := h
    refine ⟨_, (pss_cons (ps_if (pt_cmpR op_eq (pv 0) pe_int (nomark _)) (pss_one (ps_plain (x := "MarkError") (Y.plain 0 (by decide)) (Y.glo 0 (by decide)) rfl tk (pv 1))) pss_nil)
      (pss_cons (ps_if (pt_cmpR op_eq (pv 0) pe_int (nomark _)) (pss_one (ps_plain (x := "InvalidMove") (Y.plain 1 (by decide)) (Y.glo 1 (by decide)) rfl tk (pv 1))) pss_nil)
      (pss_cons (ps_if (pt_cmpR op_eq (pv 0) pe_int (nomark _)) (pss_one (ps_plain (x := "InvalidGroup") (Y.plain 2 (by decide)) (Y.glo 2 (by decide)) rfl tk (pv 1))) pss_nil)
      (pss_cons (ps_if (pt_cmpR op_eq (pv 0) pe_int (nomark _)) (pss_one (ps_plain (x := "InvalidSubgroup") (Y.plain 3 (by decide)) (Y.glo 3 (by decide)) rfl tk (pv 1))) pss_nil)
      (pss_cons (ps_if (pt_cmpR op_eq (pv 0) pe_int (nomark _)) (pss_one (ps_plain (x := "InvalidSet") (Y.plain 4 (by decide)) (Y.glo 4 (by decide)) rfl tk (pv 1))) pss_nil)
      (pss_cons (ps_if (pt_cmpR op_eq (pv 0) pe_int (nomark _)) (pss_one (ps_plain (x := "InvalidRow") (Y.plain 5 (by decide)) (Y.glo 5 (by decide)) rfl tk (pv 1))) pss_nil)
      (pss_cons (ps_if (pt_cmpR op_eq (pv 0) pe_int (nomark _)) (pss_one (ps_plain (x := "InvalidKinds") (Y.plain 6 (by decide)) (Y.glo 6 (by decide)) rfl tk (pv 1))) pss_nil)
      (pss_cons (ps_if (pt_cmpR op_eq (pv 0) pe_int (nomark _)) (pss_one (ps_plain (x := "InvalidRatio") (Y.plain 7 (by decide)) (Y.glo 7 (by decide)) rfl tk (pv 1))) pss_nil)
      (pss_cons (ps_if (pt_cmpR op_eq (pv 0) pe_int (nomark _)) (pss_one (ps_plain (x := "InvalidTable") (Y.plain 8 (by decide)) (Y.glo 8 (by decide)) rfl tk (pv 1))) pss_nil)
      (pss_cons (ps_if (pt_cmpR op_eq (pv 0) pe_int (nomark _)) (pss_one (ps_plain (x := "InvalidPromise") (Y.plain 9 (by decide)) (Y.glo 9 (by decide)) rfl tk (pv 1))) pss_nil)
      (pss_cons (ps_if (pt_cmpR op_eq (pv 0) pe_int (nomark _)) (pss_one (ps_plain (x := "InvalidOperation") (Y.plain 10 (by decide)) (Y.glo 10 (by decide)) rfl tk (pv 1))) pss_nil)
      (pss_one (ps_expr (ME.pe_dS BKept hr4 (passAt tk) (pa_cons (pv 0) (pa_cons (pv 2) pa_nil)))))))))))))))), ?_⟩
    refine ⟨_, rfl, rfl, _, rfl, ?_⟩
    by_cases e0 : i = 0
    · refine ifT (eqT (j := 0) e0) ?_
      subst e0
      exact ⟨_, rfl, q1 (by decide)⟩
    refine ifF (eqF (j := 0) e0) ?_
    refine ⟨_, rfl, rfl, _, rfl, ?_⟩
    by_cases e1 : i = 1
    · refine ifT (eqT (j := 1) e1) ?_
      subst e1
      exact ⟨_, rfl, q1 (by decide)⟩
    refine ifF (eqF (j := 1) e1) ?_
    refine ⟨_, rfl, rfl, _, rfl, ?_⟩
    by_cases e2 : i = 2
    · refine ifT (eqT (j := 2) e2) ?_
      subst e2
      exact ⟨_, rfl, q1 (by decide)⟩
    refine ifF (eqF (j := 2) e2) ?_
    refine ⟨_, rfl, rfl, _, rfl, ?_⟩
    by_cases e3 : i = 3
    · refine ifT (eqT (j := 3) e3) ?_
      subst e3
      exact ⟨_, rfl, q1 (by decide)⟩
    refine ifF (eqF (j := 3) e3) ?_
    refine ⟨_, rfl, rfl, _, rfl, ?_⟩
    by_cases e4 : i = 4
    · refine ifT (eqT (j := 4) e4) ?_
      subst e4
      exact ⟨_, rfl, q1 (by decide)⟩
    refine ifF (eqF (j := 4) e4) ?_
    refine ⟨_, rfl, rfl, _, rfl, ?_⟩
    by_cases e5 : i = 5
    · refine ifT (eqT (j := 5) e5) ?_
      subst e5
      exact ⟨_, rfl, q1 (by decide)⟩
    refine ifF (eqF (j := 5) e5) ?_
    refine ⟨_, rfl, rfl, _, rfl, ?_⟩
    by_cases e6 : i = 6
    · refine ifT (eqT (j := 6) e6) ?_
      subst e6
      exact ⟨_, rfl, q1 (by decide)⟩
    refine ifF (eqF (j := 6) e6) ?_
    refine ⟨_, rfl, rfl, _, rfl, ?_⟩
    by_cases e7 : i = 7
    · refine ifT (eqT (j := 7) e7) ?_
      subst e7
      exact ⟨_, rfl, q1 (by decide)⟩
    refine ifF (eqF (j := 7) e7) ?_
    refine ⟨_, rfl, rfl, _, rfl, ?_⟩
    by_cases e8 : i = 8
    · refine ifT (eqT (j := 8) e8) ?_
      subst e8
      exact ⟨_, rfl, q1 (by decide)⟩
    refine ifF (eqF (j := 8) e8) ?_
    refine ⟨_, rfl, rfl, _, rfl, ?_⟩
    by_cases e9 : i = 9
    · refine ifT (eqT (j := 9) e9) ?_
      subst e9
      exact ⟨_, rfl, q1 (by decide)⟩
    refine ifF (eqF (j := 9) e9) ?_
    refine ⟨_, rfl, rfl, _, rfl, ?_⟩
    by_cases e10 : i = 10
    · refine ifT (eqT (j := 10) e10) ?_
      subst e10
      exact ⟨_, rfl, q1 (by decide)⟩
    refine ifF (eqF (j := 10) e10) ?_
    exact ⟨_, rfl, _, rfl, i, y, rfl, by omega, i2, fun d n => q2 (by omega) d n⟩
end
end K00

set_option Elab.async false
set_option linter.all false
set_option maxRecDepth 100000
set_option maxHeartbeats 4000000
namespace K00
open PySem PySem.Spec PyProof.Rows L2 MM
section
variable {P : Program} {w : World} {K : PySem.W.Frag} {mg : Str → Option Value} {base : Heap}
theorem scFlagsL : FnScope ["_law_error", "_law_found"] ["_law_error"] (defScope sFlagsL) :=
  ⟨rfl, rfl, rfl, by decide +kernel, rfl, by decide +kernel, by decide +kernel⟩
/-- at a: a caught error of the i-th class, its dict at d -/
def ErrAt (K : PySem.W.Frag) (H : Hp) (a : Addr) (i : Nat) (d : Option Addr) : Prop :=
  H a = some (ME.ExH (.ref (ga K (cn i))) d a) ∧ ∀ dd, d = some dd → ∃ fs, H dd = some (.xd fs)
theorem ErrAt.same {H H' : Hp} {a : Addr} {i : Nat} {d : Option Addr} (h : ErrAt K H a i d) (s : Same H H') : ErrAt K H' a i d :=
  ⟨s _ _ h.1, fun dd e => let ⟨fs, q⟩ := h.2 dd e; ⟨fs, s _ _ q⟩⟩
theorem is_at {H : Hp} {a : Addr} {i : Nat} {d : Option Addr} (h : ErrAt K H a i d) (Y : Ex K mg) (hi : i < 17) (j : Nat) (hj : j < 23) {Q : VK}
    (q : Q (.bl (due i j)) H) : ME.rIsE K [.ref a, tgV K j] H Q := ⟨a, _, d, _, _, _, rfl, h.1, h.2, Y.kx i hi, tg_cls K j, Y.kit i hi j hj, q⟩
def fl (i n : Nat) : List V := (List.range n).map fun j => .bl (due i j)
def spFlags (K : PySem.W.Frag) : Sp := fun vs H Q _ => ∃ (a : Addr) (i : Nat) (d : Option Addr), vs = [.ref a] ∧ ErrAt K H a i d ∧ i < 17 ∧
  ∀ (H' : Hp) (p : Addr), Same H H' → H p = none → H' p = some (.lst (fl i 23)) → Q (.ref p) H'
theorem dFlagsL (T : Tx K mg) (Y : Ex K mg) : DefT P w K mg base 2 "_law_flags" ["_law_error"] (spFlags K) := by
  refine T.t_law_flags.defT (N := ["_law_error", "_law_found"]) scFlagsL (fun _ _ _ _ _ _ us hl => match us, hl with | [_], _ => rfl) ?_ ?_
  · intro vs H Q E h
    obtain ⟨a, i, d, rfl, _⟩ := h
    rfl
  · intro f cd A out s H vs Q E hr h
    obtain ⟨a, i, d, rfl, er, hi, q⟩ := h
    refine ⟨_, (pss_cons (ps_set (i := 1) scFlagsL.nd rfl (Or.inl rfl) (pe_lst (pa_cons (pe_callB ME.cr_isE rfl T.f_isinstance (by decide +kernel) (pa_cons (pv 0) (pa_cons (C8.pe_gc (v := .ref (ga K "MarkError")) rfl ⟨_, Y.glo 0 (by decide), rfl⟩) pa_nil))) (pa_cons (pe_callB ME.cr_isE rfl T.f_isinstance (by decide +kernel) (pa_cons (pv 0) (pa_cons (C8.pe_gc (v := .ref (ga K "InvalidMove")) rfl ⟨_, Y.glo 1 (by decide), rfl⟩) pa_nil))) (pa_cons (pe_callB ME.cr_isE rfl T.f_isinstance (by decide +kernel) (pa_cons (pv 0) (pa_cons (C8.pe_gc (v := .ref (ga K "InvalidGroup")) rfl ⟨_, Y.glo 2 (by decide), rfl⟩) pa_nil))) pa_nil)))))
      (pss_cons (ps_set (i := 1) scFlagsL.nd rfl (Or.inl rfl) (pe_op op_cat (pv 1) (pe_lst (pa_cons (pe_callB ME.cr_isE rfl T.f_isinstance (by decide +kernel) (pa_cons (pv 0) (pa_cons (C8.pe_gc (v := .ref (ga K "InvalidSubgroup")) rfl ⟨_, Y.glo 3 (by decide), rfl⟩) pa_nil))) (pa_cons (pe_callB ME.cr_isE rfl T.f_isinstance (by decide +kernel) (pa_cons (pv 0) (pa_cons (C8.pe_gc (v := .ref (ga K "InvalidSet")) rfl ⟨_, Y.glo 4 (by decide), rfl⟩) pa_nil))) (pa_cons (pe_callB ME.cr_isE rfl T.f_isinstance (by decide +kernel) (pa_cons (pv 0) (pa_cons (C8.pe_gc (v := .ref (ga K "InvalidRow")) rfl ⟨_, Y.glo 5 (by decide), rfl⟩) pa_nil))) pa_nil))))))
      (pss_cons (ps_set (i := 1) scFlagsL.nd rfl (Or.inl rfl) (pe_op op_cat (pv 1) (pe_lst (pa_cons (pe_callB ME.cr_isE rfl T.f_isinstance (by decide +kernel) (pa_cons (pv 0) (pa_cons (C8.pe_gc (v := .ref (ga K "InvalidKinds")) rfl ⟨_, Y.glo 6 (by decide), rfl⟩) pa_nil))) (pa_cons (pe_callB ME.cr_isE rfl T.f_isinstance (by decide +kernel) (pa_cons (pv 0) (pa_cons (C8.pe_gc (v := .ref (ga K "InvalidRatio")) rfl ⟨_, Y.glo 7 (by decide), rfl⟩) pa_nil))) (pa_cons (pe_callB ME.cr_isE rfl T.f_isinstance (by decide +kernel) (pa_cons (pv 0) (pa_cons (C8.pe_gc (v := .ref (ga K "InvalidTable")) rfl ⟨_, Y.glo 8 (by decide), rfl⟩) pa_nil))) pa_nil))))))
      (pss_cons (ps_set (i := 1) scFlagsL.nd rfl (Or.inl rfl) (pe_op op_cat (pv 1) (pe_lst (pa_cons (pe_callB ME.cr_isE rfl T.f_isinstance (by decide +kernel) (pa_cons (pv 0) (pa_cons (C8.pe_gc (v := .ref (ga K "InvalidPromise")) rfl ⟨_, Y.glo 9 (by decide), rfl⟩) pa_nil))) (pa_cons (pe_callB ME.cr_isE rfl T.f_isinstance (by decide +kernel) (pa_cons (pv 0) (pa_cons (C8.pe_gc (v := .ref (ga K "InvalidOperation")) rfl ⟨_, Y.glo 10 (by decide), rfl⟩) pa_nil))) (pa_cons (pe_callB ME.cr_isE rfl T.f_isinstance (by decide +kernel) (pa_cons (pv 0) (pa_cons (C8.pe_gc (v := .ref (ga K "ParseError")) rfl ⟨_, Y.glo 11 (by decide), rfl⟩) pa_nil))) pa_nil))))))
      (pss_cons (ps_set (i := 1) scFlagsL.nd rfl (Or.inl rfl) (pe_op op_cat (pv 1) (pe_lst (pa_cons (pe_callB ME.cr_isE rfl T.f_isinstance (by decide +kernel) (pa_cons (pv 0) (pa_cons (C8.pe_gc (v := .ref (ga K "InvalidNumber")) rfl ⟨_, Y.glo 12 (by decide), rfl⟩) pa_nil))) (pa_cons (pe_callB ME.cr_isE rfl T.f_isinstance (by decide +kernel) (pa_cons (pv 0) (pa_cons (C8.pe_gc (v := .ref (ga K "UnknownName")) rfl ⟨_, Y.glo 13 (by decide), rfl⟩) pa_nil))) (pa_cons (pe_callB ME.cr_isE rfl T.f_isinstance (by decide +kernel) (pa_cons (pv 0) (pa_cons (C8.pe_gc (v := .ref (ga K "TooMany")) rfl ⟨_, Y.glo 14 (by decide), rfl⟩) pa_nil))) pa_nil))))))
      (pss_cons (ps_set (i := 1) scFlagsL.nd rfl (Or.inl rfl) (pe_op op_cat (pv 1) (pe_lst (pa_cons (pe_callB ME.cr_isE rfl T.f_isinstance (by decide +kernel) (pa_cons (pv 0) (pa_cons (C8.pe_gc (v := .ref (ga K "Refused")) rfl ⟨_, Y.glo 15 (by decide), rfl⟩) pa_nil))) (pa_cons (pe_callB ME.cr_isE rfl T.f_isinstance (by decide +kernel) (pa_cons (pv 0) (pa_cons (C8.pe_gc (v := .ref (ga K "NothingToUndo")) rfl ⟨_, Y.glo 16 (by decide), rfl⟩) pa_nil))) (pa_cons (pe_callB ME.cr_isE rfl T.f_isinstance (by decide +kernel) (pa_cons (pv 0) (pa_cons (pe_bltn (v := .ty "ValueError") rfl T.f_ValueError (by decide +kernel) rfl) pa_nil))) pa_nil))))))
      (pss_cons (ps_set (i := 1) scFlagsL.nd rfl (Or.inl rfl) (pe_op op_cat (pv 1) (pe_lst (pa_cons (pe_callB ME.cr_isE rfl T.f_isinstance (by decide +kernel) (pa_cons (pv 0) (pa_cons (pe_bltn (v := .ty "IndexError") rfl T.f_IndexError (by decide +kernel) rfl) pa_nil))) (pa_cons (pe_callB ME.cr_isE rfl T.f_isinstance (by decide +kernel) (pa_cons (pv 0) (pa_cons (pe_bltn (v := .ty "KeyError") rfl T.f_KeyError (by decide +kernel) rfl) pa_nil))) (pa_cons (pe_callB ME.cr_isE rfl T.f_isinstance (by decide +kernel) (pa_cons (pv 0) (pa_cons (pe_bltn (v := .ty "OverflowError") rfl T.f_OverflowError (by decide +kernel) rfl) pa_nil))) pa_nil))))))
      (pss_one (ps_ret (pe_op op_cat (pv 1) (pe_lst (pa_cons (pe_callB ME.cr_isE rfl T.f_isinstance (by decide +kernel) (pa_cons (pv 0) (pa_cons (pe_bltn (v := .ty "ArithmeticError") rfl T.f_ArithmeticError (by decide +kernel) rfl) pa_nil))) (pa_cons (pe_callB ME.cr_isE rfl T.f_isinstance (by decide +kernel) (pa_cons (pv 0) (pa_cons (pe_bltn (v := .ty "LookupError") rfl T.f_LookupError (by decide +kernel) rfl) pa_nil))) pa_nil))))))))))))), ?_⟩
    have S : Same H H := Same.refl H
    refine ⟨_, rfl, a, _, d, _, _, _, rfl, er.1, er.2, Y.kx i hi, tg_cls K 0, Y.kit i hi 0 (by decide), ?_⟩
    refine ⟨_, rfl, a, _, d, _, _, _, rfl, er.1, er.2, Y.kx i hi, tg_cls K 1, Y.kit i hi 1 (by decide), ?_⟩
    refine ⟨_, rfl, a, _, d, _, _, _, rfl, er.1, er.2, Y.kx i hi, tg_cls K 2, Y.kit i hi 2 (by decide), ?_⟩
    refine ⟨by show 3 ≤ sizeLine; decide, fun m0 fm => ?_⟩
    generalize eH : upd H m0 _ = J0
    have S1 : Same H J0 := by rw [← eH]; exact same_new fm
    replace er := er.same S1
    have hl : J0 m0 = some (.lst (fl i 3)) := by rw [← eH]; exact upd_same
    replace S := S.trans S1
    clear eH S1 fm
    refine ⟨_, rfl, ?_⟩
    refine ⟨_, rfl, a, _, d, _, _, _, rfl, er.1, er.2, Y.kx i hi, tg_cls K 3, Y.kit i hi 3 (by decide), ?_⟩
    refine ⟨_, rfl, a, _, d, _, _, _, rfl, er.1, er.2, Y.kx i hi, tg_cls K 4, Y.kit i hi 4 (by decide), ?_⟩
    refine ⟨_, rfl, a, _, d, _, _, _, rfl, er.1, er.2, Y.kx i hi, tg_cls K 5, Y.kit i hi 5 (by decide), ?_⟩
    refine ⟨by show 3 ≤ sizeLine; decide, fun m1 fm => ?_⟩
    generalize eH : upd J0 m1 _ = J1
    have S1 : Same J0 J1 := by rw [← eH]; exact same_new fm
    replace er := er.same S1
    have hm : J1 m1 = some (.lst [.bl (due i 3), .bl (due i 4), .bl (due i 5)]) := by rw [← eH]; exact upd_same
    replace hl := S1 _ _ hl
    replace S := S.trans S1
    clear eH S1 fm
    refine ⟨m0, m1, _, _, rfl, rfl, hl, hm, by show 3 + 3 ≤ sizeLine; decide, fun l1 fp => ?_⟩
    generalize eH : upd J1 l1 _ = J2
    have S1 : Same J1 J2 := by rw [← eH]; exact same_new fp
    replace er := er.same S1
    replace hl : J2 l1 = some (.lst (fl i 6)) := by rw [← eH]; exact upd_same
    replace S := S.trans S1
    clear eH S1 fp hm
    refine ⟨_, rfl, ?_⟩
    refine ⟨_, rfl, a, _, d, _, _, _, rfl, er.1, er.2, Y.kx i hi, tg_cls K 6, Y.kit i hi 6 (by decide), ?_⟩
    refine ⟨_, rfl, a, _, d, _, _, _, rfl, er.1, er.2, Y.kx i hi, tg_cls K 7, Y.kit i hi 7 (by decide), ?_⟩
    refine ⟨_, rfl, a, _, d, _, _, _, rfl, er.1, er.2, Y.kx i hi, tg_cls K 8, Y.kit i hi 8 (by decide), ?_⟩
    refine ⟨by show 3 ≤ sizeLine; decide, fun m2 fm => ?_⟩
    generalize eH : upd J2 m2 _ = J3
    have S1 : Same J2 J3 := by rw [← eH]; exact same_new fm
    replace er := er.same S1
    have hm : J3 m2 = some (.lst [.bl (due i 6), .bl (due i 7), .bl (due i 8)]) := by rw [← eH]; exact upd_same
    replace hl := S1 _ _ hl
    replace S := S.trans S1
    clear eH S1 fm
    refine ⟨l1, m2, _, _, rfl, rfl, hl, hm, by show 6 + 3 ≤ sizeLine; decide, fun l2 fp => ?_⟩
    generalize eH : upd J3 l2 _ = J4
    have S1 : Same J3 J4 := by rw [← eH]; exact same_new fp
    replace er := er.same S1
    replace hl : J4 l2 = some (.lst (fl i 9)) := by rw [← eH]; exact upd_same
    replace S := S.trans S1
    clear eH S1 fp hm
    refine ⟨_, rfl, ?_⟩
    refine ⟨_, rfl, a, _, d, _, _, _, rfl, er.1, er.2, Y.kx i hi, tg_cls K 9, Y.kit i hi 9 (by decide), ?_⟩
    refine ⟨_, rfl, a, _, d, _, _, _, rfl, er.1, er.2, Y.kx i hi, tg_cls K 10, Y.kit i hi 10 (by decide), ?_⟩
    refine ⟨_, rfl, a, _, d, _, _, _, rfl, er.1, er.2, Y.kx i hi, tg_cls K 11, Y.kit i hi 11 (by decide), ?_⟩
    refine ⟨by show 3 ≤ sizeLine; decide, fun m3 fm => ?_⟩
    generalize eH : upd J4 m3 _ = J5
    have S1 : Same J4 J5 := by rw [← eH]; exact same_new fm
    replace er := er.same S1
    have hm : J5 m3 = some (.lst [.bl (due i 9), .bl (due i 10), .bl (due i 11)]) := by rw [← eH]; exact upd_same
    replace hl := S1 _ _ hl
    replace S := S.trans S1
    clear eH S1 fm
    refine ⟨l2, m3, _, _, rfl, rfl, hl, hm, by show 9 + 3 ≤ sizeLine; decide, fun l3 fp => ?_⟩
    generalize eH : upd J5 l3 _ = J6
    have S1 : Same J5 J6 := by rw [← eH]; exact same_new fp
    replace er := er.same S1
    replace hl : J6 l3 = some (.lst (fl i 12)) := by rw [← eH]; exact upd_same
    replace S := S.trans S1
    clear eH S1 fp hm
    refine ⟨_, rfl, ?_⟩
    refine ⟨_, rfl, a, _, d, _, _, _, rfl, er.1, er.2, Y.kx i hi, tg_cls K 12, Y.kit i hi 12 (by decide), ?_⟩
    refine ⟨_, rfl, a, _, d, _, _, _, rfl, er.1, er.2, Y.kx i hi, tg_cls K 13, Y.kit i hi 13 (by decide), ?_⟩
    refine ⟨_, rfl, a, _, d, _, _, _, rfl, er.1, er.2, Y.kx i hi, tg_cls K 14, Y.kit i hi 14 (by decide), ?_⟩
    refine ⟨by show 3 ≤ sizeLine; decide, fun m4 fm => ?_⟩
    generalize eH : upd J6 m4 _ = J7
    have S1 : Same J6 J7 := by rw [← eH]; exact same_new fm
    replace er := er.same S1
    have hm : J7 m4 = some (.lst [.bl (due i 12), .bl (due i 13), .bl (due i 14)]) := by rw [← eH]; exact upd_same
    replace hl := S1 _ _ hl
    replace S := S.trans S1
    clear eH S1 fm
    refine ⟨l3, m4, _, _, rfl, rfl, hl, hm, by show 12 + 3 ≤ sizeLine; decide, fun l4 fp => ?_⟩
    generalize eH : upd J7 l4 _ = J8
    have S1 : Same J7 J8 := by rw [← eH]; exact same_new fp
    replace er := er.same S1
    replace hl : J8 l4 = some (.lst (fl i 15)) := by rw [← eH]; exact upd_same
    replace S := S.trans S1
    clear eH S1 fp hm
    refine ⟨_, rfl, ?_⟩
    refine ⟨_, rfl, a, _, d, _, _, _, rfl, er.1, er.2, Y.kx i hi, tg_cls K 15, Y.kit i hi 15 (by decide), ?_⟩
    refine ⟨_, rfl, a, _, d, _, _, _, rfl, er.1, er.2, Y.kx i hi, tg_cls K 16, Y.kit i hi 16 (by decide), ?_⟩
    refine ⟨_, rfl, a, _, d, _, _, _, rfl, er.1, er.2, Y.kx i hi, tg_cls K 17, Y.kit i hi 17 (by decide), ?_⟩
    refine ⟨by show 3 ≤ sizeLine; decide, fun m5 fm => ?_⟩
    generalize eH : upd J8 m5 _ = J9
    have S1 : Same J8 J9 := by rw [← eH]; exact same_new fm
    replace er := er.same S1
    have hm : J9 m5 = some (.lst [.bl (due i 15), .bl (due i 16), .bl (due i 17)]) := by rw [← eH]; exact upd_same
    replace hl := S1 _ _ hl
    replace S := S.trans S1
    clear eH S1 fm
    refine ⟨l4, m5, _, _, rfl, rfl, hl, hm, by show 15 + 3 ≤ sizeLine; decide, fun l5 fp => ?_⟩
    generalize eH : upd J9 l5 _ = J10
    have S1 : Same J9 J10 := by rw [← eH]; exact same_new fp
    replace er := er.same S1
    replace hl : J10 l5 = some (.lst (fl i 18)) := by rw [← eH]; exact upd_same
    replace S := S.trans S1
    clear eH S1 fp hm
    refine ⟨_, rfl, ?_⟩
    refine ⟨_, rfl, a, _, d, _, _, _, rfl, er.1, er.2, Y.kx i hi, tg_cls K 18, Y.kit i hi 18 (by decide), ?_⟩
    refine ⟨_, rfl, a, _, d, _, _, _, rfl, er.1, er.2, Y.kx i hi, tg_cls K 19, Y.kit i hi 19 (by decide), ?_⟩
    refine ⟨_, rfl, a, _, d, _, _, _, rfl, er.1, er.2, Y.kx i hi, tg_cls K 20, Y.kit i hi 20 (by decide), ?_⟩
    refine ⟨by show 3 ≤ sizeLine; decide, fun m6 fm => ?_⟩
    generalize eH : upd J10 m6 _ = J11
    have S1 : Same J10 J11 := by rw [← eH]; exact same_new fm
    replace er := er.same S1
    have hm : J11 m6 = some (.lst [.bl (due i 18), .bl (due i 19), .bl (due i 20)]) := by rw [← eH]; exact upd_same
    replace hl := S1 _ _ hl
    replace S := S.trans S1
    clear eH S1 fm
    refine ⟨l5, m6, _, _, rfl, rfl, hl, hm, by show 18 + 3 ≤ sizeLine; decide, fun l6 fp => ?_⟩
    generalize eH : upd J11 l6 _ = J12
    have S1 : Same J11 J12 := by rw [← eH]; exact same_new fp
    replace er := er.same S1
    replace hl : J12 l6 = some (.lst (fl i 21)) := by rw [← eH]; exact upd_same
    replace S := S.trans S1
    clear eH S1 fp hm
    refine ⟨_, rfl, ?_⟩
    refine ⟨_, rfl, a, _, d, _, _, _, rfl, er.1, er.2, Y.kx i hi, tg_cls K 21, Y.kit i hi 21 (by decide), ?_⟩
    refine ⟨_, rfl, a, _, d, _, _, _, rfl, er.1, er.2, Y.kx i hi, tg_cls K 22, Y.kit i hi 22 (by decide), ?_⟩
    refine ⟨by show 2 ≤ sizeLine; decide, fun m7 fm => ?_⟩
    generalize eH : upd J12 m7 _ = J13
    have S1 : Same J12 J13 := by rw [← eH]; exact same_new fm
    replace er := er.same S1
    have hm : J13 m7 = some (.lst [.bl (due i 21), .bl (due i 22)]) := by rw [← eH]; exact upd_same
    replace hl := S1 _ _ hl
    replace S := S.trans S1
    clear eH S1 fm
    refine ⟨l6, m7, _, _, rfl, rfl, hl, hm, by show 21 + 2 ≤ sizeLine; decide, fun l7 fp => ?_⟩
    exact q _ l7 (S.trans (same_new fp)) (S.free fp) upd_same
end
end K00

set_option Elab.async false
set_option linter.all false
set_option maxRecDepth 100000
set_option maxHeartbeats 4000000
namespace K00
open PySem PySem.Spec PyProof.Rows L2 MM
section
variable {P : Program} {w : World} {K : PySem.W.Frag} {mg : Str → Option Value} {base : Heap}
theorem scToldErrorL : FnScope ["_law_which", "_law_text", "_law_value", "e"] ["_law_which", "_law_text", "_law_value"] (defScope sToldErrorL) :=
  ⟨rfl, rfl, rfl, by decide +kernel, rfl, by decide +kernel, by decide +kernel⟩
theorem takesF {X : Cx} : Takes X (fun _ _ _ _ => False) := fun _ _ x => by
  obtain ⟨_, _, _, _, _, _, _, _, _, _, _, _, _, _, _, _, z⟩ := x
  exact z.elim
def keptV (i : Nat) (y : V) : V := if 11 ≤ i then y else .non
def spTold (K : PySem.W.Frag) : Sp := fun vs H Q _ => ∃ (i : Nat) (z y : V), vs = [.int (i : Int), z, y] ∧ i < 17 ∧
  ∀ (H' : Hp) (t l : Addr), Same H H' → H t = none → H' t = some (.tup [.ref l, keptV i y]) → H' l = some (.lst (fl i 23)) → Q (.ref t) H'
theorem exq_low {i : Nat} (h : i < 11) : exq i 11 = false := by
  unfold exq
  simp
  omega
theorem exq_zero {i : Nat} (h : i < 11) : exq i 0 = true := by
  unfold exq
  simp
  omega
theorem dToldErrorL (T : Tx K mg) (Y : Ex K mg) (BRaised : Def P w K mg base (L2.CX P w) 5 "_law_raised" ["_law_which", "_law_text", "_law_value"] (spRaised K))
    (DFlags : DefT P w K mg base 2 "_law_flags" ["_law_error"] (spFlags K)) : Def P w K mg base CX0 7 "_law_told_error" ["_law_which", "_law_text", "_law_value"] (spTold K) := by
  refine T.t_law_told_error.def_ (N := ["_law_which", "_law_text", "_law_value", "e"]) scToldErrorL (fun _ _ _ _ _ _ us hl => match us, hl with | [_, _, _], _ => rfl) ?_ ?_
  · intro vs H Q E h
    obtain ⟨i, z, y, rfl, _⟩ := h
    rfl
  · intro f cd A out s H vs Q E hr h
    obtain ⟨i, z, y, rfl, hi, q⟩ := h
    have hr5 : Rm 5 _ := hr.le (by decide)
    refine ⟨_, pss_cons (ME.ps_try_T (X := (cxOf CX0 P w K mg base ["_law_which", "_law_text", "_law_value", "e"] "_law_told_error" (defScope sToldErrorL) f cd A out s H E).nox) (Wout := fun _ _ _ _ => False) rfl rfl rfl takesF
      (.as_ (i := 3) (c := .ref (ga K "ParseError")) ⟨rfl, by decide, .inl (Y.glo 11 (by decide))⟩ scToldErrorL.nd rfl rfl
        (fun a => pss_one (ps_ret (pe_tup (pa_cons (pe_dT DFlags ((hr.hot (some (.ref a))).le (by decide)) pass0 (pa_cons (pv 3) pa_nil)) (pa_cons (ME.pe_xfT (pv 3)) pa_nil)))))
      (.as_ (i := 3) (c := .ref (ga K "MarkError")) ⟨rfl, by decide, .inl (Y.glo 0 (by decide))⟩ scToldErrorL.nd rfl rfl
        (fun a => pss_one (ps_ret (pe_tup (pa_cons (pe_dT DFlags ((hr.hot (some (.ref a))).le (by decide)) pass0 (pa_cons (pv 3) pa_nil)) (pa_cons pe_non pa_nil)))))
      (.as_ (i := 3) (c := .ref (ga K "InvalidNumber")) ⟨rfl, by decide, .inl (Y.glo 12 (by decide))⟩ scToldErrorL.nd rfl rfl
        (fun a => pss_one (ps_ret (pe_tup (pa_cons (pe_dT DFlags ((hr.hot (some (.ref a))).le (by decide)) pass0 (pa_cons (pv 3) pa_nil)) (pa_cons (ME.pe_xfT (pv 3)) pa_nil)))))
      (.as_ (i := 3) (c := .ref (ga K "UnknownName")) ⟨rfl, by decide, .inl (Y.glo 13 (by decide))⟩ scToldErrorL.nd rfl rfl
        (fun a => pss_one (ps_ret (pe_tup (pa_cons (pe_dT DFlags ((hr.hot (some (.ref a))).le (by decide)) pass0 (pa_cons (pv 3) pa_nil)) (pa_cons (ME.pe_xfT (pv 3)) pa_nil)))))
      (.as_ (i := 3) (c := .ref (ga K "TooMany")) ⟨rfl, by decide, .inl (Y.glo 14 (by decide))⟩ scToldErrorL.nd rfl rfl
        (fun a => pss_one (ps_ret (pe_tup (pa_cons (pe_dT DFlags ((hr.hot (some (.ref a))).le (by decide)) pass0 (pa_cons (pv 3) pa_nil)) (pa_cons (ME.pe_xfT (pv 3)) pa_nil)))))
      (.as_ (i := 3) (c := .ref (ga K "Refused")) ⟨rfl, by decide, .inl (Y.glo 15 (by decide))⟩ scToldErrorL.nd rfl rfl
        (fun a => pss_one (ps_ret (pe_tup (pa_cons (pe_dT DFlags ((hr.hot (some (.ref a))).le (by decide)) pass0 (pa_cons (pv 3) pa_nil)) (pa_cons (ME.pe_xfT (pv 3)) pa_nil)))))
      (.as_ (i := 3) (c := .ref (ga K "NothingToUndo")) ⟨rfl, by decide, .inl (Y.glo 16 (by decide))⟩ scToldErrorL.nd rfl rfl
        (fun a => pss_one (ps_ret (pe_tup (pa_cons (pe_dT DFlags ((hr.hot (some (.ref a))).le (by decide)) pass0 (pa_cons (pv 3) pa_nil)) (pa_cons (ME.pe_xfT (pv 3)) pa_nil)))))
      .nil)))))))
      (fun W pn xe tk _ => pss_one (ps_expr (ME.pe_dS BRaised hr5 (passAt tk) (pa_cons (pv 0) (pa_cons (pv 1) (pa_cons (pv 2) pa_nil)))))))
      (pss_one (ps_ret (pe_tup (pa_cons (pe_lst pa_nil) (pa_cons pe_non pa_nil))))), ?_⟩
    refine ⟨_, rfl, _, rfl, _, rfl, i, z, y, rfl, hi, fun lo => ?_, fun up d nd => ?_⟩
    · -- a class without a field
      refine ⟨false, (Y.exm i hi 11 (by decide)).trans (congrArg some (exq_low lo)), (fun n => nomatch n), fun _ => ?_⟩
      refine ⟨true, (Y.exm i hi 0 (by decide)).trans (congrArg some (exq_zero lo)), fun _ a na len => ?_, fun n => nomatch n⟩
      have S0 : Same H (upd H a (ME.ExH (.ref (ga K (cn i))) none a)) := same_new na
      refine ⟨_, rfl, a, i, none, rfl, ⟨upd_same, fun dd e => nomatch e⟩, hi, fun H3 p S3 np hp => ?_⟩
      refine ⟨by show 2 ≤ sizeLine; decide, fun t ft => ?_⟩
      refine q _ t p ((S0.trans S3).trans (same_new ft)) ((S0.trans S3).free ft) ?_ (same_new ft _ _ hp)
      rw [show keptV i y = .non from if_neg (by omega)]
      exact upd_same
    · -- a class with a field
      have S00 : Same H (upd H d (.xd [(fnm i, y)])) := same_new nd
      have kv : keptV i y = y := if_pos up
      obtain rfl | rfl | rfl | rfl | rfl | rfl : i = 11 ∨ i = 12 ∨ i = 13 ∨ i = 14 ∨ i = 15 ∨ i = 16 := by omega
      · refine ⟨true, Y.exm 11 hi 11 (by decide), fun _ a na len => ?_, fun n => nomatch n⟩
        have S0 : Same H (upd (upd H d (.xd [(fnm 11, y)])) a (ME.ExH (.ref (ga K (cn 11))) (some d) a)) := S00.trans (same_new na)
        have ed : (upd (upd H d (.xd [(fnm 11, y)])) a (ME.ExH (.ref (ga K (cn 11))) (some d) a)) d = some (.xd [(fnm 11, y)]) := same_new na _ _ upd_same
        refine ⟨_, rfl, a, 11, some d, rfl, ⟨upd_same, fun dd e => by cases e; exact ⟨_, ed⟩⟩, hi, fun H3 p S3 np hp => ?_⟩
        refine ⟨_, rfl, a, ga K (cn 11), d, _, y, rfl, S3 _ _ upd_same, Y.k11.field, Y.k11.none_, S3 _ _ ed, rfl, ?_⟩
        refine ⟨by show 2 ≤ sizeLine; decide, fun t ft => ?_⟩
        refine q _ t p ((S0.trans S3).trans (same_new ft)) ((S0.trans S3).free ft) ?_ (same_new ft _ _ hp)
        rw [kv]
        exact upd_same
      · refine ⟨false, Y.exm 12 hi 11 (by decide), (fun n => nomatch n), fun _ => ?_⟩
        refine ⟨false, Y.exm 12 hi 0 (by decide), (fun n => nomatch n), fun _ => ?_⟩
        refine ⟨true, Y.exm 12 hi 12 (by decide), fun _ a na len => ?_, fun n => nomatch n⟩
        have S0 : Same H (upd (upd H d (.xd [(fnm 12, y)])) a (ME.ExH (.ref (ga K (cn 12))) (some d) a)) := S00.trans (same_new na)
        have ed : (upd (upd H d (.xd [(fnm 12, y)])) a (ME.ExH (.ref (ga K (cn 12))) (some d) a)) d = some (.xd [(fnm 12, y)]) := same_new na _ _ upd_same
        refine ⟨_, rfl, a, 12, some d, rfl, ⟨upd_same, fun dd e => by cases e; exact ⟨_, ed⟩⟩, hi, fun H3 p S3 np hp => ?_⟩
        refine ⟨_, rfl, a, ga K (cn 12), d, _, y, rfl, S3 _ _ upd_same, Y.k12.field, Y.k12.none_, S3 _ _ ed, rfl, ?_⟩
        refine ⟨by show 2 ≤ sizeLine; decide, fun t ft => ?_⟩
        refine q _ t p ((S0.trans S3).trans (same_new ft)) ((S0.trans S3).free ft) ?_ (same_new ft _ _ hp)
        rw [kv]
        exact upd_same
      · refine ⟨false, Y.exm 13 hi 11 (by decide), (fun n => nomatch n), fun _ => ?_⟩
        refine ⟨false, Y.exm 13 hi 0 (by decide), (fun n => nomatch n), fun _ => ?_⟩
        refine ⟨false, Y.exm 13 hi 12 (by decide), (fun n => nomatch n), fun _ => ?_⟩
        refine ⟨true, Y.exm 13 hi 13 (by decide), fun _ a na len => ?_, fun n => nomatch n⟩
        have S0 : Same H (upd (upd H d (.xd [(fnm 13, y)])) a (ME.ExH (.ref (ga K (cn 13))) (some d) a)) := S00.trans (same_new na)
        have ed : (upd (upd H d (.xd [(fnm 13, y)])) a (ME.ExH (.ref (ga K (cn 13))) (some d) a)) d = some (.xd [(fnm 13, y)]) := same_new na _ _ upd_same
        refine ⟨_, rfl, a, 13, some d, rfl, ⟨upd_same, fun dd e => by cases e; exact ⟨_, ed⟩⟩, hi, fun H3 p S3 np hp => ?_⟩
        refine ⟨_, rfl, a, ga K (cn 13), d, _, y, rfl, S3 _ _ upd_same, Y.k13.field, Y.k13.none_, S3 _ _ ed, rfl, ?_⟩
        refine ⟨by show 2 ≤ sizeLine; decide, fun t ft => ?_⟩
        refine q _ t p ((S0.trans S3).trans (same_new ft)) ((S0.trans S3).free ft) ?_ (same_new ft _ _ hp)
        rw [kv]
        exact upd_same
      · refine ⟨false, Y.exm 14 hi 11 (by decide), (fun n => nomatch n), fun _ => ?_⟩
        refine ⟨false, Y.exm 14 hi 0 (by decide), (fun n => nomatch n), fun _ => ?_⟩
        refine ⟨false, Y.exm 14 hi 12 (by decide), (fun n => nomatch n), fun _ => ?_⟩
        refine ⟨false, Y.exm 14 hi 13 (by decide), (fun n => nomatch n), fun _ => ?_⟩
        refine ⟨true, Y.exm 14 hi 14 (by decide), fun _ a na len => ?_, fun n => nomatch n⟩
        have S0 : Same H (upd (upd H d (.xd [(fnm 14, y)])) a (ME.ExH (.ref (ga K (cn 14))) (some d) a)) := S00.trans (same_new na)
        have ed : (upd (upd H d (.xd [(fnm 14, y)])) a (ME.ExH (.ref (ga K (cn 14))) (some d) a)) d = some (.xd [(fnm 14, y)]) := same_new na _ _ upd_same
        refine ⟨_, rfl, a, 14, some d, rfl, ⟨upd_same, fun dd e => by cases e; exact ⟨_, ed⟩⟩, hi, fun H3 p S3 np hp => ?_⟩
        refine ⟨_, rfl, a, ga K (cn 14), d, _, y, rfl, S3 _ _ upd_same, Y.k14.field, Y.k14.none_, S3 _ _ ed, rfl, ?_⟩
        refine ⟨by show 2 ≤ sizeLine; decide, fun t ft => ?_⟩
        refine q _ t p ((S0.trans S3).trans (same_new ft)) ((S0.trans S3).free ft) ?_ (same_new ft _ _ hp)
        rw [kv]
        exact upd_same
      · refine ⟨false, Y.exm 15 hi 11 (by decide), (fun n => nomatch n), fun _ => ?_⟩
        refine ⟨false, Y.exm 15 hi 0 (by decide), (fun n => nomatch n), fun _ => ?_⟩
        refine ⟨false, Y.exm 15 hi 12 (by decide), (fun n => nomatch n), fun _ => ?_⟩
        refine ⟨false, Y.exm 15 hi 13 (by decide), (fun n => nomatch n), fun _ => ?_⟩
        refine ⟨false, Y.exm 15 hi 14 (by decide), (fun n => nomatch n), fun _ => ?_⟩
        refine ⟨true, Y.exm 15 hi 15 (by decide), fun _ a na len => ?_, fun n => nomatch n⟩
        have S0 : Same H (upd (upd H d (.xd [(fnm 15, y)])) a (ME.ExH (.ref (ga K (cn 15))) (some d) a)) := S00.trans (same_new na)
        have ed : (upd (upd H d (.xd [(fnm 15, y)])) a (ME.ExH (.ref (ga K (cn 15))) (some d) a)) d = some (.xd [(fnm 15, y)]) := same_new na _ _ upd_same
        refine ⟨_, rfl, a, 15, some d, rfl, ⟨upd_same, fun dd e => by cases e; exact ⟨_, ed⟩⟩, hi, fun H3 p S3 np hp => ?_⟩
        refine ⟨_, rfl, a, ga K (cn 15), d, _, y, rfl, S3 _ _ upd_same, Y.k15.field, Y.k15.none_, S3 _ _ ed, rfl, ?_⟩
        refine ⟨by show 2 ≤ sizeLine; decide, fun t ft => ?_⟩
        refine q _ t p ((S0.trans S3).trans (same_new ft)) ((S0.trans S3).free ft) ?_ (same_new ft _ _ hp)
        rw [kv]
        exact upd_same
      · refine ⟨false, Y.exm 16 hi 11 (by decide), (fun n => nomatch n), fun _ => ?_⟩
        refine ⟨false, Y.exm 16 hi 0 (by decide), (fun n => nomatch n), fun _ => ?_⟩
        refine ⟨false, Y.exm 16 hi 12 (by decide), (fun n => nomatch n), fun _ => ?_⟩
        refine ⟨false, Y.exm 16 hi 13 (by decide), (fun n => nomatch n), fun _ => ?_⟩
        refine ⟨false, Y.exm 16 hi 14 (by decide), (fun n => nomatch n), fun _ => ?_⟩
        refine ⟨false, Y.exm 16 hi 15 (by decide), (fun n => nomatch n), fun _ => ?_⟩
        refine ⟨true, Y.exm 16 hi 16 (by decide), fun _ a na len => ?_, fun n => nomatch n⟩
        have S0 : Same H (upd (upd H d (.xd [(fnm 16, y)])) a (ME.ExH (.ref (ga K (cn 16))) (some d) a)) := S00.trans (same_new na)
        have ed : (upd (upd H d (.xd [(fnm 16, y)])) a (ME.ExH (.ref (ga K (cn 16))) (some d) a)) d = some (.xd [(fnm 16, y)]) := same_new na _ _ upd_same
        refine ⟨_, rfl, a, 16, some d, rfl, ⟨upd_same, fun dd e => by cases e; exact ⟨_, ed⟩⟩, hi, fun H3 p S3 np hp => ?_⟩
        refine ⟨_, rfl, a, ga K (cn 16), d, _, y, rfl, S3 _ _ upd_same, Y.k16.field, Y.k16.none_, S3 _ _ ed, rfl, ?_⟩
        refine ⟨by show 2 ≤ sizeLine; decide, fun t ft => ?_⟩
        refine q _ t p ((S0.trans S3).trans (same_new ft)) ((S0.trans S3).free ft) ?_ (same_new ft _ _ hp)
        rw [kv]
        exact upd_same
end
end K00

set_option Elab.async false
set_option linter.all false
set_option maxRecDepth 100000
set_option maxHeartbeats 4000000
namespace K00
open PySem PySem.Spec PyProof.Rows L2 MM
/-! own words for the readings: a step, its side -/
local macro_rules | `(tactic| walk_at "side") => `(tactic| first
  | omega
  | exact ⟨by omega, by omega⟩
  | exact Or.inl ⟨by omega, by omega⟩
  | exact Or.inr ⟨by omega, by omega⟩
  | (show CPw _ _; decide +kernel)
  | (show (0 : Int) < _; decide +kernel)
  | (show CDivW _ _; first | assumption | exact ⟨by decide, by decide +kernel⟩))
local macro_rules | `(tactic| walk_at "here") => `(tactic| first
  | assumption
  | exact upd_same
  | exact Or.inl (Or.inl upd_same)
  | exact Or.inl upd_same)
local macro_rules | `(tactic| walk_at "one") => `(tactic| first
  | refine ⟨_, rfl, ?_⟩
  | refine Or.inl ⟨_, rfl, ?_⟩
  | refine Or.inr ⟨_, rfl, ?_⟩
  | refine ⟨_, _, rfl, rfl, (by walk_at "side"), ?_⟩
  | refine ⟨_, _, rfl, rfl, ?_⟩
  | refine ⟨_, _, rfl, Or.inl (by walk_at "here"), ?_⟩
  | refine ⟨_, _, rfl, Or.inr (by walk_at "here"), ?_⟩
  | refine ⟨_, _, rfl, (by walk_at "here"), ?_⟩
  | refine ⟨_, _, _, _, rfl, rfl, (by walk_at "here"), rfl, ?_⟩
  | refine ⟨_, _, rfl, ?_⟩
  | refine ifT (by rfl) ?_
  | refine ifF (by rfl) ?_
  | refine ifT (decide_eq_true (by omega)) ?_
  | refine ifF (decide_eq_false (by omega)) ?_)
local macro_rules | `(tactic| walk_at "st") => `(tactic| repeat (walk_at "one"))

section
variable {P : Program} {w : World} {K : PySem.W.Frag} {mg : Str → Option Value} {base : Heap}
def nv (l : List Nat) : List V := l.map fun (k : Nat) => V.int (k : Int)
theorem in_nv (l : List Nat) (k : Nat) : inV (.int (k : Int)) (nv l) = decide (k ∈ l) := by
  unfold inV nv
  rw [List.any_map]
  induction l with
  | nil => rfl
  | cons j r ih =>
    rw [List.any_cons, ih]
    have e : ((fun y => eqV y (V.int (k : Int))) ∘ fun (k : Nat) => V.int (k : Int)) j = decide (k = j) := by
      show eqV (V.int (j : Int)) (V.int (k : Int)) = _
      by_cases c : k = j
      · subst c
        simp [eqV]
      · have : ¬ (j : Int) = (k : Int) := by omega
        simp [eqV, c, this]
    rw [e]
    simp
theorem flat_nv (l : List Nat) : (nv l).all flatV = true := by
  unfold nv
  rw [List.all_map, List.all_eq_true]
  intro x _
  rfl
def spDue (K : PySem.W.Frag) : Sp := fun vs H Q _ => ∃ i : Nat, vs = [.int (i : Int)] ∧ i < 17 ∧
  ∀ (H' : Hp) (p : Addr), Same H H' → H p = none → H' p = some (.lst (fl i 23)) → Q (.ref p) H'
theorem scDueL : FnScope ["_law_which", "_law_spots", "_law_at"] ["_law_which"] (defScope sDueL) :=
  ⟨rfl, rfl, rfl, by decide +kernel, rfl, by decide +kernel, by decide +kernel⟩
theorem dDueL (T : Tx K mg) : Def P w K mg base CX0 1 "_law_due" ["_law_which"] (spDue K) := by
  refine T.t_law_due.def_ (N := ["_law_which", "_law_spots", "_law_at"]) scDueL (fun _ _ _ _ _ _ us hl => match us, hl with | [_], _ => rfl) ?_ ?_
  · intro vs H Q E h
    obtain ⟨i, rfl, _⟩ := h
    rfl
  · intro f cd A out s H vs Q E hr h
    obtain ⟨i, rfl, hi, q⟩ := h
    refine ⟨_, (pss_cons (ps_set (i := 1) scDueL.nd rfl (Or.inr rfl) (pe_lst (pa_cons pe_int (pa_cons (pv 0) (pa_cons pe_int pa_nil)))))
      (pss_cons (ps_if (pt_cmpR op_gt (pv 0) pe_int (nomark _)) (pss_one (ps_set (i := 1) scDueL.nd rfl (Or.inr rfl) (pe_op op_cat (pe_lst (pa_cons (pv 0) pa_nil)) (pe_ix ix_list (pe_lst (pa_cons (pe_lst (pa_cons pe_int (pa_cons pe_int pa_nil))) (pa_cons (pe_lst (pa_cons pe_int (pa_cons pe_int pa_nil))) (pa_cons (pe_lst (pa_cons pe_int (pa_cons pe_int pa_nil))) (pa_cons (pe_lst (pa_cons pe_int pa_nil)) (pa_cons (pe_lst (pa_cons pe_int pa_nil)) pa_nil)))))) (pe_op op_sub (pv 0) pe_int) (fun _ _ => rfl))))) pss_nil)
      (pss_one (ps_ret (pe_lc (own := [("_law_at", 2)]) (g := gName 2) (tt := tYes) rfl scDueL.nd (pi_range1 rfl T.f_range (pa_cons pe_int pa_nil)) (blkOk_by (N := ["_law_which", "_law_spots", "_law_at"]) (sc := defScope sDueL) (by decide +kernel)) (fun _ _ _ _ _ => pg_name (i := 2) scDueL.nd rfl (Or.inl rfl)) (fun _ _ _ _ _ => pts_nil) (fun _ _ _ _ _ => (pe_cmpR (show OpR _ _ (rIn K false) from op_in_seq) (pv 2) (pv 1) rfl))))))), ?_⟩
    -- the end: whatever list of places it is
    have fin : ∀ (H1 : Hp) (l D : Addr), Same H H1 → H1 l = some (.lst (nv (spots i))) → H1 D = none →
        LcW (Itr 0 23) (gName 2) tYes (tOp (rIn K false) (tVar 2) (tVar 1)) [2] [some (.int (i : Int)), some (.ref l), none] H1 D (Q (.ref D)) := by
      intro H1 l D S hl nD
      refine lc_rng (fun k => .bl (due i k)) (by decide) ?_ ?_
      · intro k acc hk Q' q'
        refine ⟨_, rfl, _, rfl, l, _, rfl, .inl (.inl (.inl (same_new nD _ _ hl))), rfl, flat_nv _, ?_⟩
        show Q' (.bl (inV (.int (0 + (k : Int))) (nv (spots i)))) _
        rw [Int.zero_add, in_nv]
        exact q'
      · exact q _ D (S.trans (same_new nD)) (S.free nD) upd_same
    refine ⟨_, rfl, by show 3 ≤ sizeLine; decide, fun l0 f0 => ?_⟩
    have S0 : Same H (upd H l0 (.lst [.int 0, .int (i : Int), .int 17])) := same_new f0
    refine ⟨_, rfl, _, _, rfl, rfl, _, rfl, ite2 (fun c => ?_) (fun c => ?_)⟩
    · have lt : 11 < i := by
        have := of_decide_eq_true c
        omega
      refine ⟨_, rfl, by show 1 ≤ sizeLine; decide, fun l1 f1 => ?_⟩
      generalize eH : upd (upd H l0 _) l1 _ = J0
      have S : Same H J0 := by rw [← eH]; exact S0.trans (same_new f1)
      have e1 : J0 l1 = some (.lst [.int (i : Int)]) := by rw [← eH]; exact upd_same
      clear eH
      refine ⟨by show 2 ≤ sizeLine; decide, fun m0 fm => ?_⟩
      generalize eH : upd J0 m0 _ = J1
      have S1 : Same J0 J1 := by rw [← eH]; exact same_new fm
      have g0 : J1 m0 = some (.lst [.int 18, .int 22]) := by rw [← eH]; exact upd_same
      replace S := S.trans S1
      replace e1 := S1 _ _ e1
      clear eH S1 fm
      refine ⟨by show 2 ≤ sizeLine; decide, fun m1 fm => ?_⟩
      generalize eH : upd J1 m1 _ = J2
      have S1 : Same J1 J2 := by rw [← eH]; exact same_new fm
      have g1 : J2 m1 = some (.lst [.int 19, .int 22]) := by rw [← eH]; exact upd_same
      replace S := S.trans S1
      replace e1 := S1 _ _ e1
      replace g0 := S1 _ _ g0
      clear eH S1 fm
      refine ⟨by show 2 ≤ sizeLine; decide, fun m2 fm => ?_⟩
      generalize eH : upd J2 m2 _ = J3
      have S1 : Same J2 J3 := by rw [← eH]; exact same_new fm
      have g2 : J3 m2 = some (.lst [.int 20, .int 21]) := by rw [← eH]; exact upd_same
      replace S := S.trans S1
      replace e1 := S1 _ _ e1
      replace g0 := S1 _ _ g0
      replace g1 := S1 _ _ g1
      clear eH S1 fm
      refine ⟨by show 1 ≤ sizeLine; decide, fun m3 fm => ?_⟩
      generalize eH : upd J3 m3 _ = J4
      have S1 : Same J3 J4 := by rw [← eH]; exact same_new fm
      have g3 : J4 m3 = some (.lst [.int 21]) := by rw [← eH]; exact upd_same
      replace S := S.trans S1
      replace e1 := S1 _ _ e1
      replace g0 := S1 _ _ g0
      replace g1 := S1 _ _ g1
      replace g2 := S1 _ _ g2
      clear eH S1 fm
      refine ⟨by show 1 ≤ sizeLine; decide, fun m4 fm => ?_⟩
      generalize eH : upd J4 m4 _ = J5
      have S1 : Same J4 J5 := by rw [← eH]; exact same_new fm
      have g4 : J5 m4 = some (.lst [.int 22]) := by rw [← eH]; exact upd_same
      replace S := S.trans S1
      replace e1 := S1 _ _ e1
      replace g0 := S1 _ _ g0
      replace g1 := S1 _ _ g1
      replace g2 := S1 _ _ g2
      replace g3 := S1 _ _ g3
      clear eH S1 fm
      refine ⟨by show 5 ≤ sizeLine; decide, fun o fo => ?_⟩
      generalize eH : upd J5 o _ = J6
      have S1 : Same J5 J6 := by rw [← eH]; exact same_new fo
      have go : J6 o = some (.lst [.ref m0, .ref m1, .ref m2, .ref m3, .ref m4]) := by rw [← eH]; exact upd_same
      replace S := S.trans S1
      replace e1 := S1 _ _ e1
      replace g0 := S1 _ _ g0
      replace g1 := S1 _ _ g1
      replace g2 := S1 _ _ g2
      replace g3 := S1 _ _ g3
      replace g4 := S1 _ _ g4
      clear eH S1 fo
      have key : ∃ m tl, atI [V.ref m0, V.ref m1, V.ref m2, V.ref m3, V.ref m4] ((i : Int) - 12) = some (.ref m) ∧ J6 m = some (.lst (nv tl)) ∧ tl.length ≤ 2 ∧ spots i = i :: tl := by
        obtain rfl | rfl | rfl | rfl | rfl : i = 12 ∨ i = 13 ∨ i = 14 ∨ i = 15 ∨ i = 16 := by omega
        · exact ⟨m0, [18, 22], rfl, g0, by decide, rfl⟩
        · exact ⟨m1, [19, 22], rfl, g1, by decide, rfl⟩
        · exact ⟨m2, [20, 21], rfl, g2, by decide, rfl⟩
        · exact ⟨m3, [21], rfl, g3, by decide, rfl⟩
        · exact ⟨m4, [22], rfl, g4, by decide, rfl⟩
      obtain ⟨m, tl, ai, gm, lt2, es⟩ := key
      refine ⟨_, rfl, _, _, rfl, rfl, o, _, _, .ref m, rfl, rfl, .inl (.inl go), ai, ?_⟩
      have ln : (nv tl).length ≤ 2 := by
        unfold nv
        rw [List.length_map]
        exact lt2
      refine ⟨l1, m, _, _, rfl, rfl, e1, gm, ?_, fun l fl => ?_⟩
      · show 1 + (nv tl).length ≤ sizeLine
        rw [sizeLine_eq]
        omega
      refine ⟨23, rfl, by decide, by decide, fun D nD => fin _ l D (S.trans (same_new fl)) ?_ nD⟩
      rw [upd_same, es]
      rfl
    · have ge : ¬ 11 < i := fun z => c (decide_eq_true (by omega))
      refine ⟨23, rfl, by decide, by decide, fun D nD => fin _ l0 D S0 ?_ nD⟩
      rw [upd_same]
      unfold spots
      rw [if_neg ge]
      rfl
end
end K00


set_option Elab.async false
set_option linter.all false
set_option maxRecDepth 100000
set_option maxHeartbeats 4000000
namespace K00
open PySem PySem.Spec PyProof.Rows L2 MM
/-! own words for the readings: a step, its side -/
local macro_rules | `(tactic| walk_at "side") => `(tactic| first
  | omega
  | exact ⟨by omega, by omega⟩
  | exact Or.inl ⟨by omega, by omega⟩
  | exact Or.inr ⟨by omega, by omega⟩
  | (show CPw _ _; decide +kernel)
  | (show (0 : Int) < _; decide +kernel)
  | (show CDivW _ _; first | assumption | exact ⟨by decide, by decide +kernel⟩))
local macro_rules | `(tactic| walk_at "here") => `(tactic| first
  | assumption
  | exact upd_same
  | exact Or.inl (Or.inl upd_same)
  | exact Or.inl upd_same)
local macro_rules | `(tactic| walk_at "one") => `(tactic| first
  | refine ⟨_, rfl, ?_⟩
  | refine Or.inl ⟨_, rfl, ?_⟩
  | refine Or.inr ⟨_, rfl, ?_⟩
  | refine ⟨_, _, rfl, rfl, (by walk_at "side"), ?_⟩
  | refine ⟨_, _, rfl, rfl, ?_⟩
  | refine ⟨_, _, rfl, Or.inl (by walk_at "here"), ?_⟩
  | refine ⟨_, _, rfl, Or.inr (by walk_at "here"), ?_⟩
  | refine ⟨_, _, rfl, (by walk_at "here"), ?_⟩
  | refine ⟨_, _, _, _, rfl, rfl, (by walk_at "here"), rfl, ?_⟩
  | refine ⟨_, _, rfl, ?_⟩
  | refine ifT (by rfl) ?_
  | refine ifF (by rfl) ?_
  | refine ifT (decide_eq_true (by omega)) ?_
  | refine ifF (decide_eq_false (by omega)) ?_)
local macro_rules | `(tactic| walk_at "st") => `(tactic| repeat (walk_at "one"))

section
variable {P : Program} {w : World} {K : PySem.W.Frag} {mg : Str → Option Value} {base : Heap}
/-- all but p stays -/
def Exc (p : Addr) (H H' : Hp) : Prop := ∀ b o, b ≠ p → H b = some o → H' b = some o
theorem Exc.of {p : Addr} {H H' : Hp} (s : Same H H') : Exc p H H' := fun b o _ e => s b o e
theorem Exc.trans {p : Addr} {H H' H2 : Hp} (a : Exc p H H') (b : Exc p H' H2) : Exc p H H2 := fun c o n e => b c o n (a c o n e)
theorem Exc.upd {p : Addr} {H : Hp} {o : HO} : Exc p H (upd H p o) := fun b u n e => by
  rw [upd_ne n]
  exact e
theorem sql_ex {H0 H : Hp} {p a : Addr} {xs : List V} (h : SqL K H0 a xs) (np : H0 p = none) (e : Exc p H0 H) : SqL K H a xs := by
  rcases h with (h | ⟨o, h⟩) | h
  · exact .inl (.inl (e _ _ (ne_of_none h np) h))
  · exact .inl (.inr ⟨o, e _ _ (ne_of_none h np) h⟩)
  · exact .inr h
def vals (t1 t3 t4 t6 : Addr) : List V := [.int 0, .int (-7), .non, .bl true, .str "ab", .ref t1, .ref t3, .ref t4, .ref t6, .int (10 ^ 60), .str ""]
/-- the values that are drawn from -/
structure Vs0 (H : Hp) (p L t1 t2 t3 t4 t5 t6 : Addr) : Prop where
  l : H L = some (.lst (vals t1 t3 t4 t6))
  e1 : H t1 = some (.tup [.str "end"])
  e2 : H t2 = some (.tup [.int 1, .int 2])
  e3 : H t3 = some (.tup [.str "stair", .int 3, .ref t2])
  e4 : H t4 = some (.lst [.int 1, .str "x"])
  e5 : H t5 = some (.tup [.int 1, .int 2])
  e6 : H t6 = some (.dK [(.inr "a", .ref t5)])
  nl : L ≠ p
  n1 : t1 ≠ p
  n2 : t2 ≠ p
  n3 : t3 ≠ p
  n4 : t4 ≠ p
  n5 : t5 ≠ p
  n6 : t6 ≠ p
theorem Vs0.ex {H H' : Hp} {p L t1 t2 t3 t4 t5 t6 : Addr} (h : Vs0 H p L t1 t2 t3 t4 t5 t6) (e : Exc p H H') : Vs0 H' p L t1 t2 t3 t4 t5 t6 :=
  ⟨e _ _ h.nl h.l, e _ _ h.n1 h.e1, e _ _ h.n2 h.e2, e _ _ h.n3 h.e3, e _ _ h.n4 h.e4, e _ _ h.n5 h.e5, e _ _ h.n6 h.e6, h.nl, h.n1, h.n2, h.n3, h.n4, h.n5, h.n6⟩
/-- a value whose text can be told -/
def Vl (K : PySem.W.Frag) (H : Hp) (v : V) : Prop := ∃ t : Str, ∀ Q : VK, Q (.str t) H → rReprX K [v] H Q
theorem vl_dp {H : Hp} {v : V} {d : PyData} (h : Dp K H v d) (s : SeqAt.shaped d = true) (w : d.showable = true) (l : d.shown.length ≤ sizeLine) : Vl K H v :=
  ⟨d.shown, fun Q q => .inl ⟨v, d, rfl, h, s, w, l, q⟩⟩
theorem vl_in {H : Hp} {p L t1 t2 t3 t4 t5 t6 : Addr} {v : V} (h : Vs0 H p L t1 t2 t3 t4 t5 t6) (hv : v ∈ vals t1 t3 t4 t6) : Vl K H v := by
  unfold vals at hv
  simp only [List.mem_cons, List.not_mem_nil, or_false] at hv
  rcases hv with rfl | rfl | rfl | rfl | rfl | rfl | rfl | rfl | rfl | rfl | rfl
  · exact vl_dp (.int 0) (by decide +kernel) (by decide +kernel) (by decide +kernel)
  · exact vl_dp (.int (-7)) (by decide +kernel) (by decide +kernel) (by decide +kernel)
  · exact vl_dp .non (by decide +kernel) (by decide +kernel) (by decide +kernel)
  · exact vl_dp (.bl true) (by decide +kernel) (by decide +kernel) (by decide +kernel)
  · exact vl_dp (.str "ab") (by decide +kernel) (by decide +kernel) (by decide +kernel)
  · exact vl_dp (d := .tuple [.str "end"]) (.tup (.inl (.inl h.e1)) (.cons (.str _) .nil)) (by decide +kernel) (by decide +kernel) (by decide +kernel)
  · exact vl_dp (d := .tuple [.str "stair", .int 3, .tuple [.int 1, .int 2]]) (.tup (.inl (.inl h.e3)) (.cons (.str _) (.cons (.int _) (.cons (.tup (.inl (.inl h.e2)) (.cons (.int _) (.cons (.int _) .nil))) .nil)))) (by decide +kernel) (by decide +kernel) (by decide +kernel)
  · exact vl_dp (d := .list [.int 1, .str "x"]) (.lst (.inl (.inl h.e4)) (.cons (.int _) (.cons (.str _) .nil))) (by decide +kernel) (by decide +kernel) (by decide +kernel)
  · exact ⟨(dkD [("a", [1, 2])]).shown, fun Q q => .inr ⟨t6, _, [("a", [1, 2])], rfl, h.e6, .cons ⟨t5, rfl, .inl (.inl h.e5)⟩ .nil, by decide +kernel, by decide +kernel, by decide +kernel, q⟩⟩
  · exact vl_dp (.int (10 ^ 60)) (by decide +kernel) (by decide +kernel) (by decide +kernel)
  · exact vl_dp (.str "") (by decide +kernel) (by decide +kernel) (by decide +kernel)
theorem eqvAll_bools : ∀ bs : List Bool, PyData.eqvAll (bs.map PyData.bool) (bs.map PyData.bool) = true
  | [] => rfl
  | b :: r => by
    show (PyData.eqv (.bool b) (.bool b) && PyData.eqvAll (r.map PyData.bool) (r.map PyData.bool)) = true
    rw [eqvAll_bools r]
    cases b <;> rfl
def bls (i : Nat) : List Bool := (List.range 23).map (due i)
theorem fl_bls (i : Nat) : fl i 23 = (bls i).map V.bl := by
  unfold fl bls
  rw [List.map_map]
  rfl
def spLaw (K : PySem.W.Frag) : Sp := fun vs H Q _ => ∃ (a : Addr) (ns : List Int), vs = [.ref a] ∧ SqL K H a (ns.map V.int) ∧ ns.length ≤ 1000 ∧ ∀ H', Q (.bl true) H'
theorem scLaw : FnScope ["_law_script", "_law_spot", "_law_bag_here", "_law_values", "_law_text", "_law_which", "_law_value", "_law_flags_here", "_law_kept"] ["_law_script"] (defScope sLaw) :=
  ⟨rfl, rfl, rfl, by decide +kernel, rfl, by decide +kernel, by decide +kernel⟩
theorem dLaw (T : Tx K mg) (DBagL : Def P w K mg base CX0 1 "_law_bag" ["_law_script", "_law_spot"] (spBag K)) (DOneOfL : Def P w K mg base CX0 2 "_law_one_of" ["_law_bag_here", "_law_items"] (spOneOf K)) (DGrabL : Def P w K mg base CX0 1 "_law_grab" ["_law_bag_here", "_law_total"] spGrab) (DToldErrorL : Def P w K mg base CX0 7 "_law_told_error" ["_law_which", "_law_text", "_law_value"] (spTold K)) (DDueL : Def P w K mg base CX0 1 "_law_due" ["_law_which"] (spDue K)) : Def P w K mg base CX0 9 "law" ["_law_script"] (spLaw K) := by
  refine T.t_law.def_ (N := ["_law_script", "_law_spot", "_law_bag_here", "_law_values", "_law_text", "_law_which", "_law_value", "_law_flags_here", "_law_kept"]) scLaw (fun _ _ _ _ _ _ us hl => match us, hl with | [_], _ => rfl) ?_ ?_
  · intro vs H Q E h
    obtain ⟨a, ns, rfl, _⟩ := h
    rfl
  · intro f cd A out s H vs Q E hr h
    have hr1 : Rm 7 _ := hr.le (by decide)
    obtain ⟨a, ns, rfl, hS, hl, q⟩ := h
    refine ⟨_, (pss_cons (ps_for PassesOwn.never rfl (pi_range1 rfl T.f_range (pa_cons (pe_callB (call_max2 rfl) rfl T.f_max (by decide +kernel) (pa_cons pe_int (pa_cons (pe_callB (call_min2 rfl) rfl T.f_min (by decide +kernel) (pa_cons pe_int (pa_cons (pe_callB call_len_seq rfl T.f_len (by decide +kernel) (pa_cons (pv 0) pa_nil)) pa_nil))) pa_nil))) pa_nil)) (pg_name (i := 1) scLaw.nd rfl (Or.inl rfl))
        (pss_cons (ps_set (i := 2) scLaw.nd rfl (Or.inl rfl) (pe_d DBagL (hr1.le (by decide)) pass0 (pa_cons (pv 0) (pa_cons (pv 1) pa_nil))))
        (pss_cons (ps_set (i := 3) scLaw.nd rfl (Or.inl rfl) (pe_lst (pa_cons pe_int (pa_cons (pe_un un_neg pe_int) (pa_cons pe_non (pa_cons pe_bl (pa_cons pe_str (pa_cons (pe_tup (pa_cons pe_str pa_nil)) (pa_cons (pe_tup (pa_cons pe_str (pa_cons pe_int (pa_cons (pe_tup (pa_cons pe_int (pa_cons pe_int pa_nil))) pa_nil)))) (pa_cons (pe_lst (pa_cons pe_int (pa_cons pe_str pa_nil))) (pa_cons (pe_disp (pps_cons pe_str (pe_tup (pa_cons pe_int (pa_cons pe_int pa_nil))) pps_nil) rfl rfl (by decide) (by decide)) (pa_cons (pe_op op_pw pe_int pe_int) (pa_cons pe_str pa_nil)))))))))))))
        (pss_cons (ps_set (i := 4) scLaw.nd rfl (Or.inl rfl) (pe_d DOneOfL (hr1.le (by decide)) pass0 (pa_cons (pv 2) (pa_cons (pe_lst (pa_cons pe_str (pa_cons pe_str (pa_cons pe_str (pa_cons (pe_op op_repS pe_str (pe_op op_add pe_int (pe_d DGrabL (hr1.le (by decide)) pass0 (pa_cons (pv 2) (pa_cons pe_int pa_nil))))) pa_nil))))) pa_nil))))
        (pss_one (ps_for PassesOwn.never rfl (pi_range1 rfl T.f_range (pa_cons pe_int pa_nil)) (pg_name (i := 5) scLaw.nd rfl (Or.inl rfl))
          (pss_cons (ps_set (i := 6) scLaw.nd rfl (Or.inl rfl) (pe_d DOneOfL (hr1.le (by decide)) pass0 (pa_cons (pv 2) (pa_cons (pv 3) pa_nil))))
          (pss_cons (ps_asg (pe_d DToldErrorL (hr1.le (by decide)) pass0 (pa_cons (pv 5) (pa_cons (pv 4) (pa_cons (pv 6) pa_nil)))) (pg_tup rfl (pgs_cons (pg_name (i := 7) scLaw.nd rfl (Or.inl rfl)) (pgs_cons (pg_name (i := 8) scLaw.nd rfl (Or.inl rfl)) pgs_nil))))
          (pss_one (ps_if (PW.pt (pw_or (pt_cmpR (op_neD hr.hu) (pv 7) (pe_d DDueL (hr1.le (by decide)) pass0 (pa_cons (pv 5) pa_nil)) (nomark _)) (pw_or1 (PW.pt (pw_and (pt_cmpR op_gt (pv 5) pe_int (nomark _)) (pw_and1 (pt_cmpR op_ne (pe_callB (show CallR _ _ (rReprX K) from cr_reprX hr.still hr.hu66) rfl T.f_repr (by decide +kernel) (pa_cons (pv 8) pa_nil)) (pe_callB (show CallR _ _ (rReprX K) from cr_reprX hr.still hr.hu66) rfl T.f_repr (by decide +kernel) (pa_cons (pv 6) pa_nil)) (nomark _)))))))) (pss_one (ps_ret pe_bl)) pss_nil))))))))))
      (pss_one (ps_ret pe_bl))), ?_⟩
    refine ⟨_, rfl, a, _, rfl, .inl hS, _, _, rfl, _, _, rfl, ?_⟩
    obtain ⟨j, ej, j1, j2⟩ : ∃ j : Int, j = (if (if ((ns.map V.int).length : Int) < 3 then ((ns.map V.int).length : Int) else 3) > 1 then (if ((ns.map V.int).length : Int) < 3 then ((ns.map V.int).length : Int) else 3) else 1) ∧ 1 ≤ j ∧ j ≤ 3 := by
      refine ⟨_, rfl, ?_, ?_⟩
      all_goals
        split
        · split <;> omega
        · omega
    refine ⟨j, by rw [ej], by omega, by omega, for_range (fun i σ H' => SqL K H' a (ns.map V.int) ∧ ∃ x1 x2 x3 x4 x5 x6 x7 x8, σ = [some (.ref a), x1, x2, x3, x4, x5, x6, x7, x8]) ⟨hS, none, none, none, none, none, none, none, none, rfl⟩ ?_ ?_⟩
    · rintro i σ H0 hi ⟨hS, x1, x2, x3, x4, x5, x6, x7, x8, rfl⟩
      refine ⟨_, rfl, _, rfl, a, i, ns, ?_, hS, by omega, fun H1 p sm np hb => ?_⟩
      · show [V.ref a, V.int (0 + (i : Int))] = _
        rw [Int.zero_add]
      obtain ⟨b0, b1, b2, eg⟩ := id hb
      have SS : Exc p H0 H1 := Exc.of sm
      refine ⟨7, rfl, ?_⟩
      refine ⟨by show 1 ≤ sizeLine; decide, fun t1 ft1 => ?_⟩
      have nt1 : t1 ≠ p := by
        rintro rfl
        rw [eg] at ft1
        cases ft1
      generalize eH : upd H1 t1 _ = J1
      have S : Same H1 J1 := by rw [← eH]; exact same_new ft1
      have et1 : J1 t1 = some (.tup [.str "end"]) := by rw [← eH]; exact upd_same
      replace eg := S _ _ eg
      replace SS := SS.trans (Exc.of S)
      clear eH S ft1
      refine ⟨by show 2 ≤ sizeLine; decide, fun t2 ft2 => ?_⟩
      have nt2 : t2 ≠ p := by
        rintro rfl
        rw [eg] at ft2
        cases ft2
      generalize eH : upd J1 t2 _ = J2
      have S : Same J1 J2 := by rw [← eH]; exact same_new ft2
      have et2 : J2 t2 = some (.tup [.int 1, .int 2]) := by rw [← eH]; exact upd_same
      replace eg := S _ _ eg
      replace SS := SS.trans (Exc.of S)
      replace et1 := S _ _ et1
      clear eH S ft2
      refine ⟨by show 3 ≤ sizeLine; decide, fun t3 ft3 => ?_⟩
      have nt3 : t3 ≠ p := by
        rintro rfl
        rw [eg] at ft3
        cases ft3
      generalize eH : upd J2 t3 _ = J3
      have S : Same J2 J3 := by rw [← eH]; exact same_new ft3
      have et3 : J3 t3 = some (.tup [.str "stair", .int 3, .ref t2]) := by rw [← eH]; exact upd_same
      replace eg := S _ _ eg
      replace SS := SS.trans (Exc.of S)
      replace et1 := S _ _ et1
      replace et2 := S _ _ et2
      clear eH S ft3
      refine ⟨by show 2 ≤ sizeLine; decide, fun t4 ft4 => ?_⟩
      have nt4 : t4 ≠ p := by
        rintro rfl
        rw [eg] at ft4
        cases ft4
      generalize eH : upd J3 t4 _ = J4
      have S : Same J3 J4 := by rw [← eH]; exact same_new ft4
      have et4 : J4 t4 = some (.lst [.int 1, .str "x"]) := by rw [← eH]; exact upd_same
      replace eg := S _ _ eg
      replace SS := SS.trans (Exc.of S)
      replace et1 := S _ _ et1
      replace et2 := S _ _ et2
      replace et3 := S _ _ et3
      clear eH S ft4
      intro t6 ft6
      have nt6 : t6 ≠ p := by
        rintro rfl
        rw [eg] at ft6
        cases ft6
      have ft6x := ft6
      have SSx := SS
      have d1 : t1 ≠ t6 := ne_of_none et1 ft6
      have d2 : t2 ≠ t6 := ne_of_none et2 ft6
      have d3 : t3 ≠ t6 := ne_of_none et3 ft6
      have d4 : t4 ≠ t6 := ne_of_none et4 ft6
      generalize eH : upd J4 t6 _ = J5
      have S : Same J4 J5 := by rw [← eH]; exact same_new ft6
      have et6 : J5 t6 = some (.dK []) := by rw [← eH]; exact upd_same
      replace eg := S _ _ eg
      replace SS := SS.trans (Exc.of S)
      replace et1 := S _ _ et1
      replace et2 := S _ _ et2
      replace et3 := S _ _ et3
      replace et4 := S _ _ et4
      have apart : ∀ b o, b ≠ p → H0 b = some o → b ≠ t6 := fun b o n e => ne_of_none (SSx b o n e) ft6x
      clear eH S ft6 ft6x SSx
      refine ⟨by show 2 ≤ sizeLine; decide, fun t5 ft5 => ?_⟩
      have nt5 : t5 ≠ p := by
        rintro rfl
        rw [eg] at ft5
        cases ft5
      have d5 : t5 ≠ t6 := (ne_of_none et6 ft5).symm
      generalize eH : upd J5 t5 _ = J6
      have S : Same J5 J6 := by rw [← eH]; exact same_new ft5
      have et5 : J6 t5 = some (.tup [.int 1, .int 2]) := by rw [← eH]; exact upd_same
      replace eg := S _ _ eg
      replace SS := SS.trans (Exc.of S)
      replace et1 := S _ _ et1
      replace et2 := S _ _ et2
      replace et3 := S _ _ et3
      replace et4 := S _ _ et4
      replace et6 := S _ _ et6
      clear eH S ft5
      refine ⟨et6, [(.inr "a", .ref t5)], rfl, by show 1 ≤ 15; decide, ?_⟩
      generalize eH : upd J6 t6 _ = J7
      have S : ∀ b o, b ≠ t6 → J6 b = some o → J7 b = some o := by
        intro b o n e
        rw [← eH, upd_ne n]
        exact e
      replace et6 : J7 t6 = some (.dK [(.inr "a", .ref t5)]) := by rw [← eH]; exact upd_same
      replace SS : Exc p H0 J7 := fun b o n e => S b o (apart b o n e) (SS b o n e)
      replace eg := S _ _ nt6.symm eg
      replace et1 := S _ _ d1 et1
      replace et2 := S _ _ d2 et2
      replace et3 := S _ _ d3 et3
      replace et4 := S _ _ d4 et4
      replace et5 := S _ _ d5 et5
      clear eH S
      refine ⟨10, 60, rfl, rfl, (by show CPw _ _; decide +kernel), ?_⟩
      refine ⟨by show 11 ≤ sizeLine; decide, fun L fL => ?_⟩
      have nL : L ≠ p := by
        rintro rfl
        rw [eg] at fL
        cases fL
      generalize eH : upd J7 L _ = J8
      have S : Same J7 J8 := by rw [← eH]; exact same_new fL
      have eL : J8 L = some (.lst (vals t1 t3 t4 t6)) := by rw [← eH]; exact upd_same
      replace eg := S _ _ eg
      replace SS := SS.trans (Exc.of S)
      replace et1 := S _ _ et1
      replace et2 := S _ _ et2
      replace et3 := S _ _ et3
      replace et4 := S _ _ et4
      replace et6 := S _ _ et6
      replace et5 := S _ _ et5
      clear eH S fL
      have WV : Vs0 J8 p L t1 t2 t3 t4 t5 t6 := ⟨eL, et1, et2, et3, et4, et5, et6, nL, nt1, nt2, nt3, nt4, nt5, nt6⟩
      clear eL et1 et2 et3 et4 et5 et6 nL nt1 nt2 nt3 nt4 nt5 nt6 d1 d2 d3 d4 d5 apart
      refine ⟨_, rfl, _, rfl, p, 40, b0, b1, b2, rfl, eg, ⟨by decide, by decide⟩, fun r g' m' c' r0 r1 => ?_⟩
      refine ⟨_, _, rfl, rfl, ?_⟩
      refine ⟨"x", 1 + r, rfl, rfl, by omega, by omega, by decide, by decide, fun tx ltx => ?_⟩
      replace WV := WV.ex (Exc.upd (p := p) (o := .lst [.int g', .int m', .int c']))
      replace SS := SS.trans (Exc.upd (p := p) (o := .lst [.int g', .int m', .int c']))
      replace eg : (upd J8 p (.lst [.int g', .int m', .int c'])) p = _ := upd_same
      generalize upd J8 p _ = J9 at WV SS eg ⊢
      refine ⟨by show 4 ≤ sizeLine; decide, fun l4 f4 => ?_⟩
      have n4 : l4 ≠ p := by
        rintro rfl
        rw [eg] at f4
        cases f4
      replace WV := WV.ex (Exc.of (same_new (o := .lst [.str "odd", .str "", .str "a row is expected", .str tx]) f4))
      replace SS := SS.trans (Exc.of (same_new (o := .lst [.str "odd", .str "", .str "a row is expected", .str tx]) f4))
      replace eg := same_new (o := .lst [.str "odd", .str "", .str "a row is expected", .str tx]) f4 _ _ eg
      have e4 : (upd J9 l4 (.lst [.str "odd", .str "", .str "a row is expected", .str tx])) l4 = _ := upd_same
      generalize upd J9 l4 _ = J10 at WV SS eg e4 ⊢
      refine ⟨p, l4, g', m', c', _, rfl, eg, .inl (.inl e4), n4, Nat.succ_pos _, by show 4 ≤ 1000; decide, fun v h0 h1 h2 hv => ?_⟩
      obtain ⟨z, rfl⟩ : ∃ z : Str, v = .str z := by
        simp only [List.mem_cons, List.not_mem_nil, or_false] at hv
        rcases hv with rfl | rfl | rfl | rfl <;> exact ⟨_, rfl⟩
      replace WV := WV.ex (Exc.upd (p := p) (o := .lst [.int h0, .int h1, .int h2]))
      replace SS := SS.trans (Exc.upd (p := p) (o := .lst [.int h0, .int h1, .int h2]))
      replace eg : (upd J10 p (.lst [.int h0, .int h1, .int h2])) p = _ := upd_same
      generalize upd J10 p _ = J11 at WV SS eg ⊢
      clear e4 n4 hv
      refine ⟨17, rfl, by decide, by decide, for_range (fun i' σ H' => Vs0 H' p L t1 t2 t3 t4 t5 t6 ∧ Exc p H0 H' ∧ BagAt H' p ∧
        ∃ y1 w5 w6 w7 w8, σ = [some (.ref a), y1, some (.ref p), some (.ref L), some (.str z), w5, w6, w7, w8]) ⟨WV, SS, ⟨_, _, _, eg⟩, _, _, _, _, _, rfl⟩ ?_ ?_⟩
      · rintro k σ H2 hk ⟨WV, SS, ⟨b0, b1, b2, eg⟩, y1, w5, w6, w7, w8, rfl⟩
        refine ⟨_, rfl, _, rfl, p, L, b0, b1, b2, _, rfl, eg, .inl (.inl WV.l), WV.nl, Nat.succ_pos _, by show 11 ≤ 1000; decide, fun v h0 h1 h2 hv => ?_⟩
        replace WV := WV.ex (Exc.upd (p := p) (o := .lst [.int h0, .int h1, .int h2]))
        replace SS := SS.trans (Exc.upd (p := p) (o := .lst [.int h0, .int h1, .int h2]))
        replace eg : (upd H2 p (.lst [.int h0, .int h1, .int h2])) p = _ := upd_same
        generalize upd H2 p _ = H3 at WV SS eg ⊢
        have hk17 : k < 17 := hk
        refine ⟨_, rfl, _, rfl, _, rfl, k, .str z, v, ?_, hk17, fun H4 t l S4 ft ht hl => ?_⟩
        · show [V.int (0 + (k : Int)), _, _] = _
          rw [Int.zero_add]
        replace WV := WV.ex (Exc.of S4)
        replace SS := SS.trans (Exc.of S4)
        replace eg := S4 _ _ eg
        refine ⟨t, _, rfl, .inl (.inl ht), rfl, _, _, rfl, _, _, rfl, rfl, ?_⟩
        refine ⟨_, rfl, _, rfl, k, ?_, hk17, fun H5 u S5 nu hu => ?_⟩
        · show [V.int (0 + (k : Int))] = _
          rw [Int.zero_add]
        refine ⟨.list ((bls k).map .bool), .list ((bls k).map .bool), .lst (.inl (.inl (S5 _ _ hl))) ?_, .lst (.inl (.inl hu)) ?_, shaped_bools _, shaped_bools _, ?_⟩
        · rw [fl_bls]
          exact dp_bools _
        · rw [fl_bls]
          exact dp_bools _
        replace WV := WV.ex (Exc.of S5)
        replace SS := SS.trans (Exc.of S5)
        replace eg := S5 _ _ eg
        obtain ⟨tv, shw⟩ := vl_in WV hv
        have fin : Vs0 H5 p L t1 t2 t3 t4 t5 t6 ∧ Exc p H0 H5 ∧ BagAt H5 p := ⟨WV, SS, ⟨_, _, _, eg⟩⟩
        refine ⟨_, rfl, ?_⟩
        refine ifF (by show (!PyData.eqvAll _ _) = false; rw [eqvAll_bools]; rfl) ?_
        refine ⟨_, rfl, _, _, rfl, rfl, _, rfl, ?_⟩
        by_cases big : 10 < k
        · refine ifT (decide_eq_true (by omega)) ?_
          have kv : keptV k v = v := if_pos big
          refine ⟨_, rfl, ?_⟩
          show rReprX K [keptV k v] H5 _
          rw [kv]
          refine shw _ ?_
          refine ⟨_, rfl, ?_⟩
          show rReprX K [v] H5 _
          refine shw _ ?_
          refine ⟨rfl, _, rfl, ?_⟩
          refine ifF (by show (!decide (_ = _)) = false; rw [decide_eq_true rfl]; rfl) ?_
          exact ⟨WV, SS, ⟨_, _, _, eg⟩, _, _, _, _, _, rfl⟩
        · refine ifF (decide_eq_false (by omega)) ?_
          refine ifF rfl ?_
          exact ⟨WV, SS, ⟨_, _, _, eg⟩, _, _, _, _, _, rfl⟩
      · rintro σ H2 ⟨WV, SS, hb, y1, w5, w6, w7, w8, rfl⟩
        exact ⟨sql_ex hS np SS, _, _, _, _, _, _, _, _, rfl⟩
    · rintro σ H' ⟨hS, x1, x2, x3, x4, x5, x6, x7, x8, rfl⟩
      exact q _
end
end K00


set_option Elab.async false
set_option linter.all false
set_option maxRecDepth 100000
set_option maxHeartbeats 2000000
namespace K00
open PySem PySem.Spec PyProof.Rows L2 MM
/-- the row of a class with a field, asked -/
def kepRow (K : PySem.W.Frag) (C : Addr) (top : List Value) (newId : String) : Bool :=
  match K.lookup C with
  | some ⟨.type "type", _, .cls cd, sl⟩ =>
    (match cd.mro with
     | .ref C' :: bm => decide (C' = C) && PySem.W.excTail top bm
     | _ => false) && (match sl.toList with
     | [_, _, _, _, some (.builtin n), _] => decide (n = newId)
     | _ => false) && !cd.hasDel && cd.hasDict
  | _ => false
theorem kepRow_ok {K : PySem.W.Frag} {C : Addr} {top : List Value} {newId : String} (h : kepRow K C top newId = true) : ∃ nm q N bs bm sn sub ab col dd k0 k1 k2 k3 k5,
    K.lookup C = some (excClassObj nm q C N bs bm true sn sub ab col dd k0 k1 k2 k3 k5 newId) ∧ PySem.W.excTail top bm = true := by
  unfold kepRow at h
  split at h
  · rename_i dd cd sl lk
    obtain ⟨nm, bs, mro, ns, qn, hd, sn, sub, ab, col, del⟩ := cd
    simp only [Bool.and_eq_true, Bool.not_eq_true'] at h
    obtain ⟨⟨⟨h1, h2⟩, h3⟩, h4⟩ := h
    subst h3 h4
    split at h1
    · rename_i C' bm
      rw [Bool.and_eq_true, decide_eq_true_eq] at h1
      obtain ⟨rfl, ht⟩ := h1
      split at h2
      · rename_i k0 k1 k2 k3 n k5 e2
        have e3 : n = newId := of_decide_eq_true h2
        subst e3
        have e4 : sl = #[k0, k1, k2, k3, some (.builtin n), k5] := by
          obtain ⟨l⟩ := sl
          simp only at e2
          rw [e2]
        subst e4
        exact ⟨nm, qn, ns, bs, bm, sn, sub, ab, col, dd, k0, k1, k2, k3, k5, lk, ht⟩
      · cases h2
    · cases h1
  · cases h
def kepB (K : PySem.W.Frag) (x f : Str) (top : List Value) (newId : String) : Bool :=
  kepRow K (ga K x) top newId && decide (PySem.W.findIn K (.ref (ga K x)) "__setattr__" = some (some (.builtin "object.__setattr__"))) &&
    decide (PySem.W.subIn K (.ref (ga K x)) (.type "BaseException") = some true) &&
    decide (PySem.W.typeIn K (.ref (ga K x)) = some (.type "type")) && PySem.W.keepIn K (.ref (ga K x)) &&
    decide (PySem.W.findIn K (.ref (ga K x)) f = some none) && xfB K (ga K x) &&
    decide (PySem.W.findIn K (.ref (ga K x)) "__init__" = some (some (.ref (He.ma K (ga K x) "__init__")))) &&
    decide (PySem.W.typeIn K (.ref (He.ma K (ga K x) "__init__")) = some (.type "function"))
theorem kep_ok {K : PySem.W.Frag} {x f : Str} {B newId initId : String} {top : List Value} {st : Stmt} (h : kepB K x f top newId = true) (hb : PySem.HandSPX.Bs B newId initId top)
    (hp : StoreFacts B top "object.__setattr__" "object")
    (F : ∃ fd, FunD K "__init__" (x ++ ".__init__") (defArgs st) (defBody st) (defScope st) [] [] (He.ma K (ga K x) "__init__") fd) : Kep K x f B newId initId top st := by
  unfold kepB at h
  simp only [Bool.and_eq_true, decide_eq_true_eq] at h
  obtain ⟨⟨⟨⟨⟨⟨⟨⟨r1, r2⟩, r3⟩, r4⟩, r5⟩, r6⟩, r7⟩, r8⟩, r9⟩ := h
  obtain ⟨fd, F⟩ := F
  exact ⟨⟨hb, hp, kepRow_ok r1, r2, r3, r4, r5⟩, r6, xfB_ok r7, ⟨_, fd, r8, r9, F⟩⟩
def askB (K : PySem.W.Frag) : Bool :=
  decide (PySem.W.specialIn K (.ref (ga K "MarkError")) "__getattribute__" = some (some (.builtin "type.__getattribute__"))) &&
    PySem.W.readsIn K (ga K "MarkError") (.type "type") &&
    (match PySem.W.findCls K (.ref (ga K "MarkError")) (.type "type") "__init__" with
     | some (.val (.builtin n)) => decide (n = "ValueError.__init__")
     | _ => false)
theorem ask_ok {K : PySem.W.Frag} (h : askB K = true) : MD.Asks K (ga K "MarkError") "ValueError.__init__" := by
  unfold askB at h
  simp only [Bool.and_eq_true, decide_eq_true_eq] at h
  obtain ⟨⟨a, b⟩, c⟩ := h
  refine ⟨a, b, ?_⟩
  split at c
  · rename_i n e
    have e3 : n = "ValueError.__init__" := of_decide_eq_true c
    subst e3
    exact e
  · cases c
def allB (K : PySem.W.Frag) : Bool :=
  ((List.range 11).all fun i => plainB K (cn i)) && (((List.range 17).all fun i => ME.kxB K (ga K (cn i))) &&
  (((List.range 17).all fun i => (List.range 23).all fun j => decide (PySem.W.kitOne K (.ref (ga K (cn i))) (tg K j) = some (due i j))) &&
  (((List.range 17).all fun i => cls.all fun j => decide (PySem.W.exmOne K (.ref (ga K (cn i))) (.ref (ga K (cn j))) = some (exq i j))) &&
  (askB K && (kepB K "ParseError" "index" top11 "ValueError.__new__" && kepB K "InvalidNumber" "given" top12 "IndexError.__new__" && kepB K "UnknownName" "wanted" top13 "LookupError.__new__" && kepB K "TooMany" "most" top14 "OverflowError.__new__" && kepB K "Refused" "reason" top15 "ArithmeticError.__new__" && kepB K "NothingToUndo" "steps" top16 "LookupError.__new__")))))
def dd (x : Str) (st : Stmt) : He.DefD := ⟨(x, none), x, x, defArgs st, defBody st, defScope st, [], []⟩
def di (x : Str) (st : Stmt) : He.DefD := ⟨(x, some "__init__"), "__init__", x ++ ".__init__", defArgs st, defBody st, defScope st, [], []⟩
def fn : List He.DefD := [dd "_law_bag" sBagL, dd "_law_grab" sGrabL, dd "_law_one_of" sOneOfL, dd "_law_raised" sRaisedL, dd "_law_kept_raised" sKeptRaisedL, dd "_law_flags" sFlagsL, dd "_law_told_error" sToldErrorL, dd "_law_due" sDueL, dd "law" sLaw, di "ParseError" (sIni 11), di "InvalidNumber" (sIni 12), di "UnknownName" (sIni 13), di "TooMany" (sIni 14), di "Refused" (sIni 15), di "NothingToUndo" (sIni 16)]
def fa : List He.Fa := [.glo "_law_bag", .glo "_law_grab", .glo "_law_one_of", .glo "_law_raised", .glo "_law_kept_raised", .glo "_law_flags", .glo "_law_told_error", .glo "_law_due", .glo "law", .free "ArithmeticError", .free "IndexError", .free "KeyError", .free "LookupError", .free "OverflowError", .free "ValueError", .free "abs", .free "int", .free "isinstance", .free "len", .free "max", .free "min", .free "range", .free "repr", .free "sum", .glo "MarkError", .glo "InvalidMove", .glo "InvalidGroup", .glo "InvalidSubgroup", .glo "InvalidSet", .glo "InvalidRow", .glo "InvalidKinds", .glo "InvalidRatio", .glo "InvalidTable", .glo "InvalidPromise", .glo "InvalidOperation", .glo "ParseError", .glo "InvalidNumber", .glo "UnknownName", .glo "TooMany", .glo "Refused", .glo "NothingToUndo"]
def ex (K : PySem.W.Frag) : Bool := allB K
theorem tx {K : PySem.W.Frag} {h : Heap} {mg : Str → Option Value} (X : K.In h) (G : h.Ns mainGlobals mg) (c : He.SaysD fa fn K) : Tx K mg := by
  exact {
    t_law_bag := ⟨c.def_ 0 rfl, He.glo_ok X G (c.fact 0 rfl)⟩
    t_law_grab := ⟨c.def_ 1 rfl, He.glo_ok X G (c.fact 1 rfl)⟩
    t_law_one_of := ⟨c.def_ 2 rfl, He.glo_ok X G (c.fact 2 rfl)⟩
    t_law_raised := ⟨c.def_ 3 rfl, He.glo_ok X G (c.fact 3 rfl)⟩
    t_law_kept_raised := ⟨c.def_ 4 rfl, He.glo_ok X G (c.fact 4 rfl)⟩
    t_law_flags := ⟨c.def_ 5 rfl, He.glo_ok X G (c.fact 5 rfl)⟩
    t_law_told_error := ⟨c.def_ 6 rfl, He.glo_ok X G (c.fact 6 rfl)⟩
    t_law_due := ⟨c.def_ 7 rfl, He.glo_ok X G (c.fact 7 rfl)⟩
    t_law := ⟨c.def_ 8 rfl, He.glo_ok X G (c.fact 8 rfl)⟩
    f_ArithmeticError := He.free_ok X G (c.fact 9 rfl)
    f_IndexError := He.free_ok X G (c.fact 10 rfl)
    f_KeyError := He.free_ok X G (c.fact 11 rfl)
    f_LookupError := He.free_ok X G (c.fact 12 rfl)
    f_OverflowError := He.free_ok X G (c.fact 13 rfl)
    f_ValueError := He.free_ok X G (c.fact 14 rfl)
    f_abs := He.free_ok X G (c.fact 15 rfl)
    f_int := He.free_ok X G (c.fact 16 rfl)
    f_isinstance := He.free_ok X G (c.fact 17 rfl)
    f_len := He.free_ok X G (c.fact 18 rfl)
    f_max := He.free_ok X G (c.fact 19 rfl)
    f_min := He.free_ok X G (c.fact 20 rfl)
    f_range := He.free_ok X G (c.fact 21 rfl)
    f_repr := He.free_ok X G (c.fact 22 rfl)
    f_sum := He.free_ok X G (c.fact 23 rfl)
    }
theorem exs {K : PySem.W.Frag} {h : Heap} {mg : Str → Option Value} (X : K.In h) (G : h.Ns mainGlobals mg) (c : He.SaysD fa fn K) (e : ex K = true) : Ex K mg := by
  have e' : allB K = true := e
  unfold allB at e'
  simp only [Bool.and_eq_true] at e'
  obtain ⟨e1, e2, e3, e4, e5, ⟨⟨⟨⟨k1, k2⟩, k3⟩, k4⟩, k5⟩, k6⟩ := e'
  rw [List.all_eq_true] at e1 e2 e3 e4
  exact {
    glo := by
      intro i hi
      obtain rfl | rfl | rfl | rfl | rfl | rfl | rfl | rfl | rfl | rfl | rfl | rfl | rfl | rfl | rfl | rfl | rfl : i = 0 ∨ i = 1 ∨ i = 2 ∨ i = 3 ∨ i = 4 ∨ i = 5 ∨ i = 6 ∨ i = 7 ∨ i = 8 ∨ i = 9 ∨ i = 10 ∨ i = 11 ∨ i = 12 ∨ i = 13 ∨ i = 14 ∨ i = 15 ∨ i = 16 := by omega
      · exact He.glo_ok X G (c.fact 24 rfl)
      · exact He.glo_ok X G (c.fact 25 rfl)
      · exact He.glo_ok X G (c.fact 26 rfl)
      · exact He.glo_ok X G (c.fact 27 rfl)
      · exact He.glo_ok X G (c.fact 28 rfl)
      · exact He.glo_ok X G (c.fact 29 rfl)
      · exact He.glo_ok X G (c.fact 30 rfl)
      · exact He.glo_ok X G (c.fact 31 rfl)
      · exact He.glo_ok X G (c.fact 32 rfl)
      · exact He.glo_ok X G (c.fact 33 rfl)
      · exact He.glo_ok X G (c.fact 34 rfl)
      · exact He.glo_ok X G (c.fact 35 rfl)
      · exact He.glo_ok X G (c.fact 36 rfl)
      · exact He.glo_ok X G (c.fact 37 rfl)
      · exact He.glo_ok X G (c.fact 38 rfl)
      · exact He.glo_ok X G (c.fact 39 rfl)
      · exact He.glo_ok X G (c.fact 40 rfl)
    plain := fun i hi => plain_ok (e1 i (List.mem_range.mpr hi))
    kx := fun i hi => ME.kxB_ok (e2 i (List.mem_range.mpr hi))
    kit := fun i hi j hj => of_decide_eq_true ((List.all_eq_true.mp (e3 i (List.mem_range.mpr hi))) j (List.mem_range.mpr hj))
    exm := fun i hi j hj => of_decide_eq_true ((List.all_eq_true.mp (e4 i (List.mem_range.mpr hi))) j hj)
    ask := ask_ok e5
    k11 := kep_ok k1 (PySem.HandSPX.Bs.of PySem.F.excBase_ValueError) PySem.F.store_ValueError (c.def_ 9 rfl)
    k12 := kep_ok k2 (PySem.HandSPX.Bs.of PySem.F.excBase_IndexError) PySem.F.store_IndexError (c.def_ 10 rfl)
    k13 := kep_ok k3 (PySem.HandSPX.bs_KeyError) PySem.HandSPX.store_KeyError (c.def_ 11 rfl)
    k14 := kep_ok k4 (PySem.HandSPX.Bs.of PySem.F.excBase_OverflowError) PySem.F.store_OverflowError (c.def_ 12 rfl)
    k15 := kep_ok k5 (PySem.HandSPX.Bs.of PySem.F.excBase_ArithmeticError) PySem.F.store_ArithmeticError (c.def_ 13 rfl)
    k16 := kep_ok k6 (PySem.HandSPX.Bs.of PySem.F.excBase_LookupError) PySem.F.store_LookupError (c.def_ 14 rfl)
    }
theorem law_def {P : Program} {w : World} {K : PySem.W.Frag} {mg : Str → Option Value} {base : Heap} (T : Tx K mg) (Y : Ex K mg) : Def P w K mg base CX0 9 "law" ["_law_script"] (spLaw K) := by
  have DBagL := dBagL (P := P) (w := w) (base := base) T
  have DGrabL := dGrabL (P := P) (w := w) (base := base) T
  have DOneOfL := dOneOfL (P := P) (w := w) (base := base) T DGrabL
  have BKept := bKeptRaisedL (P := P) (w := w) (base := base) T Y
  have BRaised := bRaisedL (P := P) (w := w) (base := base) T Y BKept
  have DFlags := dFlagsL (P := P) (w := w) (base := base) T Y
  have DToldErrorL := dToldErrorL (P := P) (w := w) (base := base) T Y BRaised DFlags
  have DDueL := dDueL (P := P) (w := w) (base := base) T
  exact dLaw T DBagL DOneOfL DGrabL DToldErrorL DDueL
abbrev R : PySem.W.OpenRow := PySem.W.OpenLaw.row PySem.Challenge.rw_movemarks_k00_whole_errors
theorem law_ends {P : Program} {w : World} {K : PySem.W.Frag} {h : Heap} {mg : Str → Option Value} {f : Addr} (X : K.In h) (G : h.Ns mainGlobals mg) (hfa : mg ("law" : Str) = some (.ref f)) (c : He.SaysD fa fn K) (e : ex K = true) :
    ∃ fd : FuncData, (∀ (s : Shared) (v : Value), BindsTo s fd ⟨[v], []⟩ [("_law_script", v)]) ∧ ∀ base : Heap, K.In base → base.Ns mainGlobals mg → FnG P w K mg base CX0 9 f fd ["_law_script"] (spLaw K) := by
  have T : Tx K mg := tx X G c
  have Y : Ex K mg := exs X G c e
  obtain ⟨fd, F⟩ := T.t_law.fn
  have b := FunD.bindsA (ps := ["_law_script"]) F fun _ _ _ _ _ _ us hl => match us, hl with | [_], _ => rfl
  refine ⟨fd, fun s v => b s [v] rfl, fun base _ _ => ?_⟩
  obtain ⟨oc, od, _, _, _, _, _, _, _, osl, _, lk, _⟩ := F.ex
  obtain ⟨f2, fd2, F2, hm, _, _, oc2, od2, sl2, lk2⟩ := law_def (P := P) (w := w) (base := base) T Y
  have e1 : f2 = f := by
    rw [hfa] at hm
    injection hm with hm
    injection hm with hm
    exact hm.symm
  have e2 : He.ga K "law" = f := by
    have g := T.t_law.glo
    rw [hfa] at g
    injection g with g
    injection g with g
    exact g.symm
  subst e1
  rw [e2] at lk
  rw [lk] at lk2
  injection lk2 with lk2
  injection lk2 with z1 z2 z3 z4
  injection z3 with z3
  subst z3
  exact F2
/-- the head's facts, with what stands at the statics -/
def asS (g : Addr → Option Obj) (n : Nat) : List Addr := cStatics :: He.asD g n
def obsS (n : Nat) (g : Addr → Option Obj) : He.AlX := (He.obsT fa fn [] (He.frT g (asS g n)), ex (He.frT g (asS g n)))
def hk : PySem.W.Hook where
  α := He.AlX
  obs := fun s => obsS 4 s.heap.get?
  val := fun w => He.valX fn [] w
  says := fun w h => ∃ K : PySem.W.Frag, K.In h ∧ He.SaysX fa fn [] [] ex w h K
  of := fun w s e => by
    refine ⟨He.frT s.heap.get? (asS s.heap.get? 4), He.frT_in, ?_⟩
    have e1 : He.obsT fa fn [] (He.frT s.heap.get? (asS s.heap.get? 4)) = He.valT fn [] w := congrArg (fun z : He.AlX => z.1) e
    have e2 : ex (He.frT s.heap.get? (asS s.heap.get? 4)) = true := congrArg (fun z : He.AlX => z.2) e
    exact ⟨e1, e2, (fun _ z => by cases z), (fun _ z => by cases z), (fun _ z => by cases z)⟩
  keeps := fun _ _ _ ⟨K, hK, c⟩ k => ⟨K, PySem.W.Frag.In.keeps hK k, ⟨c.t, c.more, c.hd, c.out, fun p hp => k _ _ (c.empty p hp)⟩⟩
def ob (s : PySem.W.SharedT) : He.AlX := obsS 4 (HandSHeadRun.getT s)
theorem ob_eq (s : PySem.W.SharedT) : ob s = hk.obs s.abs := by
  have e : HandSHeadRun.getT s = s.abs.heap.get? := funext (HandSHeadRun.getT_eq s)
  unfold ob
  rw [e]
  rfl
def names : List PySem.Str := (["MarkError", "InvalidMove", "InvalidGroup", "InvalidSubgroup", "InvalidSet", "InvalidRow", "InvalidKinds", "InvalidRatio", "InvalidTable", "InvalidPromise", "InvalidOperation", "ParseError", "InvalidNumber", "UnknownName", "TooMany", "Refused", "NothingToUndo", "_law_bag", "_law_grab", "_law_one_of", "_law_raised", "_law_kept_raised", "_law_flags", "_law_told_error", "_law_due"] : List String).map PySem.Str.ofString
end K00

set_option Elab.async false
set_option linter.all false
set_option maxRecDepth 100000
set_option maxHeartbeats 0
namespace K00
open PySem PySem.Spec PyProof.Rows L2 MM
theorem run (w : World) : HandSHeadRun.RunEqI R (PySem.W.view R.prog [27]) hk ob 20000 names w := by
  unfold HandSHeadRun.RunEqI
  kernel_rfl
end K00
open PySem PySem.W PySem.Calls PyProof.Rows
theorem PySem.Challenge.cw_movemarks_k00_whole_errors_holds : PySem.Challenge.rw_movemarks_k00_whole_errors.Holds := by
  w_on; o_law
  refine HandSHeadRun.head_imp (r := OpenLaw.row PySem.Challenge.rw_movemarks_k00_whole_errors) (q := view (OpenLaw.row PySem.Challenge.rw_movemarks_k00_whole_errors).prog [27]) (H := K00.hk) (ob := K00.ob) (M := 20000) (loose := K00.names)
    (d := HandSHeadRun.topDef (OpenLaw.row PySem.Challenge.rw_movemarks_k00_whole_errors).prog 27) (kwd := []) K00.ob_eq K00.run (by kernel_rfl) (by kernel_rfl) (by kernel_rfl) (by rfl) (by first | assumption | decide +kernel) (by decide +kernel) ⟨rfl, rfl, rfl, rfl, rfl, by decide +kernel⟩ ?hw ?hc
  case hw => w_witness2
  case hc =>
    refine MM.walk_g (l := PySem.Challenge.rw_movemarks_k00_whole_errors) (n := 63) (k := 9) (x := "_law_script") (CX := L2.CX0) rfl (by decide) (by kernel_rfl) ⟨⟨rfl, by decide, by decide⟩, rfl⟩ ?F (fun _ _ _ _ z => z)
    intro w mg fa h Y G hmg0
    obtain ⟨K, KX, c⟩ := Y
    have hmg : mg ("law" : PySem.Str) = some (.ref fa) := by
      have e : (HandSHeadRun.topDef (OpenLaw.row PySem.Challenge.rw_movemarks_k00_whole_errors).prog 27).name = ("law" : PySem.Str) := by kernel_rfl
      rw [← e]
      exact hmg0
    obtain ⟨fd, hb, hF⟩ := K00.law_ends (P := (PySem.Challenge.rw_movemarks_k00_whole_errors).prog) (w := w) KX G hmg c.t.d c.more
    exact ⟨K, fd, K00.spLaw K, KX, hb, fun H a ns hl hS => ⟨a, ns, rfl, hS, by omega, fun _ => rfl⟩, hF⟩
