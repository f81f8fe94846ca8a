import PyProof.Rows.All
import Wide.All
import OpenK.AllK
import Wide.FinOn
import HandS.ForMost
import HandS.Exc
import HandS.Defaults
import HandS.More
import HandS.Flow
import HandS.Wide
import HandS.IsInst
import HandS.Codes
import HandS.Conv
import HandS.SortInts
import HandS.TupAny
import HandS.TupMul
import HandS.DictComp
import HandS.Style
import HandS.Small
import PyProof.ReprRoads
import HandS.HeadHook1
import HandS.HeadHook2
import HandS.HeadHook3
import HandS.HeadHook4
import HandS.Gcd
import PyProof.Rows.RuleB_pow
import KE.GoesEnum
import HandS.Iter
import HandS.Set
import HandS.SetFor
import HandS.Strs
import KE.SortKeyHeap
import HandS.SortKw
import HandS.Zip
import KE.KExcInit
import HandS.ExcInit
import HandS.TryMany
import HandS.ExcField
import HandS.Lambda
import HandS.EndTab
import KE.GoesMore
import HandS.Walk
import HandS.ExcBuiltin
import HandS.Head0
import HandS.Head1
import HandS.Head2
import HandS.Head3
import HandS.Head4
import HandS.HeadEnd
import KE.KStateDown
import KE.KNestM
import PySem.Challenge.RW_movemarks_k03_errors_of_integers_and_tab
set_option Elab.async false
set_option maxRecDepth 100000
set_option maxHeartbeats 2000000
set_option linter.all false
namespace MM
open PySem PySem.Spec PyProof.Rows L2

/-! room, with nothing under way that is being shown -/
structure Rm (k : Nat) (A : Around) : Prop where
  room : Room k A
  still : A.guards = some []
theorem Rm.le {j k : Nat} {A : Around} (h : Rm k A) (le : j ≤ k) : Rm j A := ⟨h.room.mono le, h.still⟩
theorem Rm.down {k : Nat} {A : Around} {v : Env} (h : Rm (k + 1) A) : Rm k (A.deeper v) := ⟨h.room.deeper v, h.still⟩
theorem Rm.hu {k : Nat} {A : Around} (h : Rm k A) : A.units + 64 < cLine := h.room.units
theorem Rm.hu66 {k : Nat} {A : Around} (h : Rm k A) : A.units + 66 < cLine := by have := h.room.un; omega
theorem Rm.hu1 {k : Nat} {A : Around} (h : Rm k A) : A.units + 1 < cLine := by have := h.room.un; omega

/-- a def keeps its promise wherever nothing is being shown -/
structure FnG (P : Program) (w : World) (K : PySem.W.Frag) (mg : Str → Option Value) (base : Heap)
    (CX : CXT) (k : Nat) (f : Addr) (fd : FuncData) (ps : List Str) (sp : Sp) : Prop where
  arity : ∀ {vs H Q E}, sp vs H Q E → vs.length = ps.length
  runs : ∀ {A : Around} {out : List Env} {s : Shared} {H : Hp} {ar : Args} {us : List Value} {vs : List V} {Q : VK} {E : XK},
    Rm k A → Env0 P w K mg base A out s H → BindsTo s fd ar (ps.zip us) → Vals vs us → sp vs H Q E →
      codeAny (model P w) A (.call (.ref f) ar) (CR CX out P w H s Q E) s

section
variable {P : Program} {w : World} {K : PySem.W.Frag} {mg : Str → Option Value} {base : Heap} {CX : CXT}
  {j k : Nat} {f : Addr} {fd : FuncData} {ps : List Str} {sp : Sp}
theorem FnG.le (F : FnG P w K mg base CX j f fd ps sp) (h : j ≤ k) : FnG P w K mg base CX k f fd ps sp :=
  ⟨F.arity, fun r => F.runs (r.le h)⟩
theorem FnG.of (F : FnOk P w K mg base CX k f fd ps sp) : FnG P w K mg base CX k f fd ps sp :=
  ⟨fun h => F.len _ _ _ _ h, fun r e b v h => F.run _ _ _ _ _ _ _ _ _ r.room e b v h⟩

/-- by its body -/
theorem FnG.body {x qual : Str} {pa : Arguments} {bd : List Stmt} {sc : Scope} {N : List Str}
    (F : FunD K x qual pa bd sc [] [] f fd) (S : FnScope N ps sc)
    (arity : ∀ vs H Q E, sp vs H Q E → vs.length = ps.length)
    (hb : ∀ (cd : Value) (A : Around) (out : List Env) (s : Shared) (H : Hp) (vs : List V) (Q : VK) (E : XK),
      Rm k (A.deeper (envOfC qual sc s.heap.objs.size f cd)) → sp vs H Q E →
      ∃ t, PSs (cxOf CX P w K mg base N qual sc f cd A out s H E) bd t ∧
        t { nx := fun _ H' => Q .non H', rt := Q } (start N vs) H) :
    FnG P w K mg base CX (k + 1) f fd ps sp := by
  obtain ⟨oc, od, dV, kV, doc, pm, an, cd, ct, osl, rfl, lk, hcd, _, _⟩ := F.ex
  refine ⟨fun h => arity _ _ _ _ h, ?_⟩
  intro A out s H ar us vs Q E hr e0 hbd hv h
  have nv := arity _ _ _ _ h
  have inK : K.In s.heap := e0.mod.kin.keeps (fun b o e => (e0.bs b o e).1)
  have nl : s.heap.NoLimit := e0.mod.nolimit.keeps (fun b o e => (e0.bs b o e).1)
  have kd : ∀ y ∈ ps.zip us, sc.names.lookup y.1 = some .local ∨
      (sc.names.lookup y.1 = some .cell ∧ ((cellsFrom (s.heap.objs.size + 1) sc.names []).lookup y.1).isSome = true) := by
    rintro ⟨n, v⟩ hy
    cases S.par n (List.of_mem_zip hy).1 with
    | inl q => exact .inl q
    | inr q => exact .inr ⟨q, PySem.W.cellsFrom_some _ _ _ (.inl q)⟩
  refine codeAny_call_function hr.room.depth (inK _ _ lk) rfl S.co S.gen rfl (PySem.W.codeRec_of inK hcd) (hbd _ _ _ _ ?_)
  refine wpAny_newFunctionEnv_cells S.kind kd (fun env he s1 xc => ?_)
  subst he
  refine ⟨nl.keeps xc.toInCall.keep, codeAny_func ?_⟩
  obtain ⟨t, ht, hq⟩ := hb cd A out s H vs Q E hr.down h
  have I := inv_start (CX := CX) (P := P) (w := w) (qual := qual) (cd := cd) (f := f) (E := E) S hr.room.hd e0 nv hv xc
  refine wpAny_mono (ht.run [] s1 (start N vs) H _ I hq) (fun fl s' hs => ?_) (fun e s' hs => hs)
  cases fl with
  | ret u =>
    obtain ⟨v, σ', H', J, rv, q⟩ := hs
    exact ⟨v, H', J.os, J.bare, J.base, J.hok, rv, q⟩
  | next =>
    obtain ⟨σ', H', J, q⟩ := hs
    exact ⟨.non, H', J.os, J.bare, J.base, J.hok, rfl, q⟩
  | brk =>
    obtain ⟨_, _, _, q⟩ := hs
    exact q.elim
  | cont =>
    obtain ⟨_, _, _, q⟩ := hs
    exact q.elim
end

section
variable {X : Cx} {CX : CXT} {k : Nat} {f : Addr} {fd : FuncData} {ps : List Str} {sp : Sp} {E : XK}
  {x : Str} {p pos : Pos} {e : Expr} {es : List Expr} {t : TA}
theorem call_g {pins : List (Addr × Obj)} {σ : L2.St} {H : Hp} {s : Shared} {Q : VK} {us : List Value} {vs : List V}
    (F : FnG X.prog X.w X.K X.mg X.base CX k f fd ps sp) (hr : Rm k X.A) (hb : Binds X.K fd ps [])
    (hx : Passes CX X E) (I : Inv X pins σ H s) (r : Vals vs us) (h : sp vs H Q E) :
    wpAny (model X.prog X.w) X.A (call (.ref f) us) (EP X pins σ Q) X.xe s := by
  have nl : (us ++ []).length = ps.length := by
    rw [List.append_nil, ← r.length]
    exact F.arity h
  have bd := hb s us I.kIn nl
  rw [List.append_nil] at bd
  refine wpAny_call (codeAny_mono (F.runs hr I.env0 bd r h) ?_)
  intro res s' hq
  cases res with
  | error e => exact hx pins σ H s e s' I hq
  | ok fl =>
    cases fl with
    | ret u => exact I.after hq
    | next => exact hq.elim
    | brk => exact hq.elim
    | cont => exact hq.elim
/-- f(e, ..), f a def of the text -/
theorem pe_g (F : FnG X.prog X.w X.K X.mg X.base CX k f fd ps sp) (hr : Rm k X.A) (hm : X.mg x = some (.ref f))
    (hk : PySem.W.keepIn X.K (.ref f) = true) (hb : Binds X.K fd ps []) (hx : Passes CX X E) (ha : PA X (e :: es) t) (hg : Gl X x := by rfl)
    (hdb : (x == ("__debug__" : Str)) = false := by decide)
    (he : starEach (e :: es) X.env = (false, eval e X.env) :: starEach es X.env := by rfl)
    (hpl : (backTo pos (starEach es X.env)).any (·.1) = false := by rfl) :
    PE X (.Call (.Name x p) (e :: es) [] pos) (fun σ H Q => t σ H fun vs H1 => sp vs H1 Q E) := by
  constructor
  intro pins s σ H Q I h
  refine wpAny_Call_Name_kw (ld_glob I hg hm ?_ hdb)
  refine PySem.W.callWith_K (h₀ := X.base) I.ok.mod.kin hk ?_ he hpl
  exact thn (ha.run pos pins s σ H _ I h) fun us s1 ⟨vs, H1, I1, r, q⟩ => ⟨I1.kIn, call_g F hr hb hx I1 r q⟩
end

/-! the law's own end: its def is called where nothing is under way -/
section
variable {P : Program} {w : World} {K : PySem.W.Frag} {mg mb : Str → Option Value} {CX : CXT} {k : Nat} {fa a : Addr}
  {fd : FuncData} {x : Str} {sp : Sp} {s : Shared} {vs : List Value} {ns : List Int}
/-- the goal behind the call -/
def LawEnd (s : Shared) (r : Result) (t : Shared) : Prop :=
  r = .ok (.ret (.bool true)) ∧ OldK s.heap t.heap ∧ t.os = s.os ∧ AllBare t.gens
theorem law_core {H : Hp}
    (KX : K.In s.heap) (hns : s.heap.Ns mainGlobals mg) (hb : s.heap.Ns builtinsNs mb)
    (hbb : ∀ y : Str, y ≠ "__name__" → mb y = bootBuiltins y) (nl : s.heap.NoLimit) (hg : s.gens = #[])
    (ha : s.heap.get? a = some { cls := .type "list", data := .seq vs.toArray }) (hr : Rm k callerA)
    (F : ∀ base : Heap, K.In base → base.Ns mainGlobals mg → FnG P w K mg base CX k fa fd [x] sp)
    (hbind : ∀ (s : Shared) (u : Value), BindsTo s fd ⟨[u], []⟩ [(x, u)])
    (hsp : sp [.ref a] H (fun v _ => v = .bl true) fun _ _ _ => False)
    (hCX : ∀ e s', CX [] H s (fun _ _ _ => False) e s' → False)
    (only : Only H) (ok : HOk P w H s.heap) (at_a : ∀ b, H b ≠ none → b = a) (out : H a ≠ none → K.lookup a = none) :
    codeAny (model P w) callerA (.call (.ref fa) ⟨[.ref a], []⟩) (LawEnd s) s := by
  have ne_a : ∀ {b : Addr} {o : Obj}, s.heap.get? b = some o → (∀ y n, o.data ≠ .seq y n) → H b = none := by
    intro b o e no
    by_cases hb : H b = none
    · exact hb
    · rw [at_a b hb, ha] at e
      exact absurd (congrArg Obj.data (Option.some.inj e)).symm (no _ _)
  have sees : ∀ {b : Addr} {m : Str → Option Value}, s.heap.Ns b m → (hidT s.heap H).Ns b m := by
    rintro b m ⟨o, es, ep, e, d, r⟩
    refine ⟨o, es, ep, hidT_get e (ne_a e ?_), d, r⟩
    intro y n z
    rw [d] at z
    cases z
  have inB : K.In (hidT s.heap H) := by
    intro b o e
    refine hidT_get (KX b o e) ?_
    by_cases hb : H b = none
    · exact hb
    · have eb := at_a b hb
      subst eb
      rw [out hb] at e
      cases e
  obtain ⟨mc, l1, l2⟩ := nl
  have md : Mod K mg (hidT s.heap H) := ⟨inB, sees hns, ⟨mb, sees hb, hbb⟩, ⟨mc, sees l1, l2⟩⟩
  have e0 : Env0 P w K mg (hidT s.heap H) callerA [] s H := by
    refine ⟨rfl, md, fun b o e => of_hidT e, Nat.le_of_eq (hidT_size _ _), trivial, ?_, ok, .of_eq hg⟩
    intro b z
    cases z
  have vv : Vals [V.ref a] [Value.ref a] := .cons rfl .nil
  refine codeAny_mono ((F _ inB (sees hns)).runs (us := [.ref a]) hr e0 (hbind s (.ref a)) vv hsp) ?_
  intro r t h
  cases r with
  | error e => exact (hCX e t h).elim
  | ok fl =>
    cases fl with
    | next => exact h.elim
    | brk => exact h.elim
    | cont => exact h.elim
    | ret u =>
      obtain ⟨v, H', os, bare, un, ok', rv, q⟩ := h
      have q2 : v = .bl true := q
      subst q2
      have eu : u = Value.bool true := rv
      subst eu
      refine ⟨rfl, OldK.of_keep ?_, os, bare⟩
      intro b o e
      cases hb : H b with
      | none => exact un.keep b o e hb (by intro z; cases z) (by intro z; cases z)
      | some y =>
        cases only b with
        | inl z => exact absurd (hb.symm.trans z) (by intro z; cases z)
        | inr z =>
          obtain ⟨ob, xs, z⟩ := z
          have e1 := (ok b _ z).1
          have e2 := (ok' b _ (un.frzs b ob _ z)).1
          rw [e] at e1
          cases e1
          exact e2
theorem law_g
    (KX : K.In s.heap) (hns : s.heap.Ns mainGlobals mg) (hb : s.heap.Ns builtinsNs mb)
    (hbb : ∀ y : Str, y ≠ "__name__" → mb y = bootBuiltins y) (nl : s.heap.NoLimit) (hg : s.gens = #[])
    (ha : s.heap.get? a = some { cls := .type "list", data := .seq vs.toArray }) (hi : IntsAre vs ns) (hl : ns.length ≤ sizeLine)
    (hr : Rm k callerA)
    (F : ∀ base : Heap, K.In base → base.Ns mainGlobals mg → FnG P w K mg base CX k fa fd [x] sp)
    (hbind : ∀ (s : Shared) (u : Value), BindsTo s fd ⟨[u], []⟩ [(x, u)])
    (hsp : ∀ H : Hp, Only H → SqL K H a (ns.map V.int) → sp [.ref a] H (fun v _ => v = .bl true) fun _ _ _ => False)
    (hCX : ∀ H e s', CX [] H s (fun _ _ _ => False) e s' → False) :
    codeAny (model P w) callerA (.call (.ref fa) ⟨[.ref a], []⟩) (LawEnd s) s := by
  have rv := vals_ints hi
  have nv := hi.length
  cases free : K.lookup a with
  | some o =>
    have e := KX a o free
    rw [ha] at e
    cases e
    have only : Only (fun _ => none) := fun _ => .inl rfl
    refine law_core KX hns hb hbb nl hg ha hr F hbind (hsp _ only (.inr ⟨_, vs.toArray, _, free, rfl, rfl, rfl, ?_, by simpa using rv⟩))
      (hCX _) only (fun b u z => nomatch (show (none : Option HO) = some u from z)) (fun b z => absurd rfl z) (fun z => absurd rfl z)
    rw [List.size_toArray, nv]
    exact hl
  | none =>
    have only : Only (fun b => if b = a then some (.frz { cls := .type "list", data := .seq vs.toArray } (.lst (ns.map V.int))) else none) := by
      intro b
      by_cases e : b = a
      · exact .inr ⟨_, _, if_pos e⟩
      · exact .inl (if_neg e)
    refine law_core KX hns hb hbb nl hg ha hr F hbind (hsp _ only (.inl (.inr ⟨_, if_pos rfl⟩))) (hCX _) only ?_ ?_ (fun _ => free)
    · intro b u z
      by_cases e : b = a
      · have z1 := (if_pos e).symm.trans z
        cases z1
        subst e
        refine ⟨ha, ?_, vs, _, rv, ha⟩
        rw [List.length_map]
        exact hl
      · have z1 := (if_neg e).symm.trans z
        cases z1
    · intro b z
      by_cases e : b = a
      · exact e
      · exact absurd (if_neg e) z
end
/-- the head's end: what is known behind the top gives the law's promise -/
theorem walk_g {l : PySem.W.OpenLaw} {n k : Nat} {q : Program} {loose : List Str} {XP : (Str → Option Value) → Heap → Prop}
    {YP : World → Heap → Prop} {d : DefRec} {CX : CXT} {x : Str}
    (hn : l.most = some n) (hn2 : n ≤ sizeLine) (hdf : d.params.defaults = []) (hr : Rm k callerA)
    (F : ∀ (w : World) (mg : Str → Option Value) (fa : Addr) (h : Heap), YP w h → h.Ns mainGlobals mg → mg d.name = some (.ref fa) →
      ∃ (K : PySem.W.Frag) (fd : FuncData) (sp : Sp), K.In h ∧ (∀ (s : Shared) (u : Value), BindsTo s fd ⟨[u], []⟩ [(x, u)]) ∧
        (∀ (H : Hp) (a : Addr) (ns : List Int), ns.length ≤ n → SqL K H a (ns.map V.int) →
          sp [.ref a] H (fun v _ => v = .bl true) fun _ _ _ => False) ∧
        ∀ base : Heap, K.In base → base.Ns mainGlobals mg → FnG l.prog w K mg base CX k fa fd [x] sp)
    (hCX : ∀ (H : Hp) (s : Shared) (e : Value) (s' : Shared), CX [] H s (fun _ _ _ => False) e s' → False) :
    PySem.W.WalkO q loose XP YP l.row.toRowW d [] (fun f vs => PySem.call f vs) := by
  refine Att.attach_call hn hdf ?_
  intro w s0 s1 mg mb fa o pm cd doc a vs ns G Y ho hd hcd hmg hobj hints hlen hg
  obtain ⟨K, fd, sp, KX, hb, hsp, hF⟩ := F w mg fa _ Y G.T.g hmg
  exact law_g KX G.T.g G.T.b G.T.builtins G.T.nolimit hg hobj hints (Nat.le_trans hlen hn2) hr hF hb
    (fun H _ hS => hsp H a ns hlen hS) (fun H e s' => hCX H s1 e s')
end MM

set_option Elab.async false
set_option maxRecDepth 100000
set_option maxHeartbeats 2000000
set_option linter.all false
namespace MM
open PySem PySem.Spec PyProof.Rows L2

/-! a def of the text under its name -/
def Def (P : Program) (w : World) (K : PySem.W.Frag) (mg : Str → Option Value) (base : Heap) (CX : CXT) (k : Nat) (x : Str) (ps : List Str) (sp : Sp) : Prop :=
  ∃ f fd, FnG P w K mg base CX k f fd ps sp ∧ mg x = some (.ref f) ∧ PySem.W.keepIn K (.ref f) = true ∧ L2.Binds K fd ps [] ∧ ∃ oc od sl, K.lookup f = some ⟨oc, od, .func fd, sl⟩
/-- a def of the text as it stands behind the top -/
structure At (K : PySem.W.Frag) (mg : Str → Option Value) (x : Str) (st : Stmt) : Prop where
  fn : ∃ fd, FunD K x x (defArgs st) (defBody st) (defScope st) [] [] (He.ga K x) fd
  glo : mg x = some (.ref (He.ga K x))
section
variable {P : Program} {w : World} {K : PySem.W.Frag} {mg : Str → Option Value} {base : Heap} {CX : CXT} {j k : Nat} {x : Str} {ps : List Str} {sp : Sp} {st : Stmt}
theorem Def.le (D : Def P w K mg base CX j x ps sp) (h : j ≤ k) : Def P w K mg base CX k x ps sp :=
  let ⟨f, fd, F, r⟩ := D
  ⟨f, fd, F.le h, r⟩
theorem At.defX {N : List Str} (T : At K mg x st) (S : FnScope N ps (defScope st))
    (hb : ∀ (kV doc pm : Value) (an : Option Addr) (cd ct : Value) (us : List Value), us.length = ps.length →
      bindArgs (PySem.W.fnOf x x (defArgs st) (defBody st) (defScope st) .none kV doc pm an cd ct) ⟨us, []⟩ = pure (ps.zip us))
    (arity : ∀ vs H Q E, sp vs H Q E → vs.length = ps.length)
    (body : ∀ (f : Addr) (cd : Value) (A : Around) (out : List Env) (s : Shared) (H : Hp) (vs : List V) (Q : VK) (E : XK),
      Rm k (A.deeper (envOfC x (defScope st) s.heap.objs.size f cd)) → sp vs H Q E →
      ∃ t, PSs (cxOf CX P w K mg base N x (defScope st) f cd A out s H E) (defBody st) t ∧
        t { nx := fun _ H' => Q .non H', rt := Q } (start N vs) H) : Def P w K mg base CX (k + 1) x ps sp := by
  obtain ⟨fd, F⟩ := T.fn
  obtain ⟨oc, od, _, _, _, _, _, _, _, osl, _, lk, _⟩ := F.ex
  exact ⟨_, fd, FnG.body F S arity (body _), T.glo, F.kp, F.bindsN hb, oc, od, osl, lk⟩
/-- the same for a def that nothing leaves -/
theorem At.def_ {N : List Str} (T : At K mg x st) (S : FnScope N ps (defScope st))
    (hb : ∀ (kV doc pm : Value) (an : Option Addr) (cd ct : Value) (us : List Value), us.length = ps.length →
      bindArgs (PySem.W.fnOf x x (defArgs st) (defBody st) (defScope st) .none kV doc pm an cd ct) ⟨us, []⟩ = pure (ps.zip us))
    (arity : ∀ vs H Q E, sp vs H Q E → vs.length = ps.length)
    (body : ∀ (f : Addr) (cd : Value) (A : Around) (out : List Env) (s : Shared) (H : Hp) (vs : List V) (Q : VK) (E : XK),
      Rm k (A.deeper (envOfC x (defScope st) s.heap.objs.size f cd)) → sp vs H Q E →
      ∃ t, PSs (cxOf CX P w K mg base N x (defScope st) f cd A out s H E).nox (defBody st) t ∧
        t { nx := fun _ H' => Q .non H', rt := Q } (start N vs) H) : Def P w K mg base CX (k + 1) x ps sp := by
  refine T.defX S hb arity (fun f cd A out s H vs Q E hr h => ?_)
  obtain ⟨t, d, q⟩ := body f cd A out s H vs Q E hr h
  exact ⟨t, d.nox, q⟩
end
section
variable {X : Cx} {CX : CXT} {k : Nat} {ps : List Str} {sp : Sp} {E : XK} {x : Str} {p pos : Pos} {e : Expr} {es : List Expr} {t : TA}
/-- f(e, ..) -/
def tD (sp : Sp) (E : XK) (t : TA) : TE := fun σ H Q => t σ H fun vs H1 => sp vs H1 Q E
theorem pe_d (D : Def X.prog X.w X.K X.mg X.base CX k x ps sp) (hr : Rm k X.A) (hx : Passes CX X E) (ha : PA X (e :: es) t) (hg : Gl X x := by rfl)
    (hdb : (x == ("__debug__" : Str)) = false := by decide)
    (he : starEach (e :: es) X.env = (false, eval e X.env) :: starEach es X.env := by rfl)
    (hpl : (backTo pos (starEach es X.env)).any (·.1) = false := by rfl) : PE X (.Call (.Name x p) (e :: es) [] pos) (tD sp E t) := by
  obtain ⟨f, fd, F, hm, hk, hb, _⟩ := D
  exact pe_g F hr hm hk hb hx ha hg hdb he hpl
end

/-! tests whose answer is known -/
theorem ifT {c : Bool} {A B : Prop} (h : c = true) (a : A) : if c = true then A else B := by
  rw [if_pos h]
  exact a
theorem ifF {c : Bool} {A B : Prop} (h : c = false) (b : B) : if c = true then A else B := by
  rw [h, if_neg Bool.false_ne_true]
  exact b
theorem dInt (a b : Int) : decide (V.int a = V.int b) = decide (a = b) := by
  by_cases e : a = b
  · rw [e, decide_eq_true rfl, decide_eq_true rfl]
  · rw [decide_eq_false e, decide_eq_false (fun z => e (V.int.inj z))]
/-! more rules by values -/
section
variable {X : Cx}
/-- ** of great numbers -/
def CPw (i j : Int) : Prop := 0 ≤ j ∧ (Builtin.Int.intBits i : Int) * j ≤ 2 ^ 27
instance (i j : Int) : Decidable (CPw i j) := inferInstanceAs (Decidable (_ ∧ _))
instance (i j : Int) : Decidable (CDivW i j) := inferInstanceAs (Decidable (_ ∧ _))
theorem op_pw : OpR X (binaryOp .Pow) (rI CPw fun i j => .int (i ^ j.toNat)) := opI fun _ _ _ _ _ _ _ hc q => pow_int hc.1 hc.2 q
/-- repr of data -/
def rRepr (K : PySem.W.Frag) : List V → Hp → VK → Prop := fun xs H Q =>
  ∃ x d, xs = [x] ∧ Dp K H x d ∧ SeqAt.shaped d = true ∧ d.showable = true ∧ d.shown.length ≤ sizeLine ∧ Q (.str d.shown) H
theorem cr_repr (hg : X.A.guards = some []) (hu : X.A.units + 66 < cLine) : CallR X (.builtin "repr") (rRepr X.K) := by
  intro pins s σ H xs us Q I r h
  obtain ⟨x, d, rfl, hd, hs, hw, hz, q⟩ := h
  obtain ⟨u, rfl, ru⟩ := vals1 r
  have hdep := SeqAt.depth_of_shaped hs
  have hno := PyData.hasDict_of_canLay d (SeqAt.canLay_of_shaped hs)
  obtain ⟨as, rd⟩ := Dp.reads I d x u hd ru
  have fin : ∀ (h' : Heap) (z : Tok) (tk : Nat), (∀ b o, s.heap.get? b = some o → h'.get? b = some o) →
      EP X pins σ Q (.str d.shown z) { s with heap := h', toks := tk } := fun h' z tk hk => ⟨.str _, H, I.kept hk, ⟨_, rfl⟩, q⟩
  cases hd with
  | non =>
    cases ru
    exact PySem.P.repr_of_none (fin s.heap _ _ fun _ _ e => e)
  | bl b =>
    cases ru
    exact PySem.P.repr_of_bool (fin s.heap _ _ fun _ _ e => e)
  | int i =>
    obtain ⟨t, rfl⟩ := ru
    exact PySem.P.repr_of_int (of_decide_eq_true hw) (fin s.heap _ _ fun _ _ e => e)
  | str z =>
    obtain ⟨t, rfl⟩ := ru
    exact PySem.P.repr_of_str (fin s.heap _ _ fun _ _ e => e) hz
  | lst h1 h2 =>
    cases ru
    exact repr_of_reads' rd hw (PyData.noDict_hsm hno) hg (by omega) (fun _ _ e => e) (fun h' z tk hk => fin h' z tk hk) hz
  | tup h1 h2 =>
    cases ru
    exact repr_of_reads' rd hw (PyData.noDict_hsm hno) hg (by omega) (fun _ _ e => e) (fun h' z tk hk => fin h' z tk hk) hz
end
end MM

set_option Elab.async false
set_option maxRecDepth 100000
set_option maxHeartbeats 2000000
set_option linter.all false
namespace MM
open PySem PySem.Spec PyProof.Rows L2
/-! what kind a value is of -/
inductive Kn where
  | non | bl | int | str | lst | tup | dct
def Kn.name : Kn → String
  | .non => "NoneType"
  | .bl => "bool"
  | .int => "int"
  | .str => "str"
  | .lst => "list"
  | .tup => "tuple"
  | .dct => "dict"
def Kn.isa : Kn → Kn → Bool
  | .bl, .int => true
  | .non, .non => true
  | .bl, .bl => true
  | .int, .int => true
  | .str, .str => true
  | .lst, .lst => true
  | .tup, .tup => true
  | .dct, .dct => true
  | _, _ => false
theorem Kn.isa_ok (n m : Kn) : kitB n.name m.name = some (n.isa m) := by cases n <;> cases m <;> decide +kernel
inductive Kd (K : PySem.W.Frag) (H : Hp) : V → Kn → Prop where
  | non : Kd K H .non .non
  | bl (b : Bool) : Kd K H (.bl b) .bl
  | int (i : Int) : Kd K H (.int i) .int
  | str (z : Str) : Kd K H (.str z) .str
  | lst {a : Addr} {xs : List V} (h : SqL K H a xs) : Kd K H (.ref a) .lst
  | tup {a : Addr} {xs : List V} (h : SqT K H a xs) : Kd K H (.ref a) .tup
  | dct {a : Addr} {kvs : List (Key × V)} (h : H a = some (.dK kvs)) : Kd K H (.ref a) .dct
theorem Kd.ty {K : PySem.W.Frag} {H : Hp} {x : V} {n : Kn} (h : Kd K H x n) : TyX K H x (.type n.name) := by
  cases h with
  | non => exact .base .non
  | bl b => exact .base (.bl b)
  | int i => exact .base (.int i)
  | str z => exact .base (.str z)
  | lst h =>
    rcases h with (h | ⟨o, h⟩) | ⟨o, its, k, h, c, _⟩
    · exact .base (.lst h)
    · exact .base (.frz h)
    · exact .kList h c
  | tup h =>
    rcases h with h | h
    · rcases h with h | ⟨o, h⟩
      · exact .base (.tup h)
      · exact .fTuple h
    · obtain ⟨o, its, k, h, c, _⟩ := h
      exact .kTuple h c
  | dct h => exact .base (.dK h)
/-- an int, and no bool -/
def isW : V → Bool
  | .int _ => true
  | _ => false
section
variable {X : Cx}
def rIs (K : PySem.W.Frag) (m : Kn) : List V → Hp → VK → Prop := fun xs H Q => ∃ x n, xs = [x, .ty m.name] ∧ Kd K H x n ∧ Q (.bl (n.isa m)) H
theorem cr_is (m : Kn) : CallR X (.builtin "isinstance") (rIs X.K m) := by
  intro pins s σ H xs us Q I r h
  obtain ⟨x, n, rfl, hk, q⟩ := h
  exact call_isi pins s σ H _ us Q I r ⟨x, .ty m.name, .type n.name, .type m.name, n.isa m, rfl, .ty _, hk.ty, kit_ty (n.isa_ok m), q⟩
/-- a built-in class by its name -/
theorem pe_ty (m : Kn) {x : Str} {pos : Pos} (hm : X.mg x = none) (hv : bootBuiltins x = some (.type m.name)) (hg : Gl X x := by rfl) (hn : x ≠ "__name__" := by decide)
    (hdb : (x == ("__debug__" : Str)) = false := by decide) : PE X (.Name x pos) (tC (.ty m.name)) := pe_bltn hg hm hv rfl hn hdb
end
/-! heaps -/
theorem same_new {H : Hp} {p : Addr} {o : HO} (h : H p = none) : Same H (upd H p o) := fun b x e => by
  rw [upd_ne (ne_of_none e h)]
  exact e
theorem sql_new {K : PySem.W.Frag} {H : Hp} {p l : Addr} {xs : List V} {o : HO} (h : SqL K H l xs) (n : H p = none) : SqL K (upd H p o) l xs := (same_new n).seq h
theorem same_sqt {K : PySem.W.Frag} {H H' : Hp} {a : Addr} {xs : List V} (e : Same H H') (h : SqT K H a xs) : SqT K H' a xs := by
  rcases h with (h | ⟨o, h⟩) | h
  · exact .inl (.inl (e _ _ h))
  · exact .inl (.inr ⟨o, e _ _ h⟩)
  · exact .inr h
theorem sqt_new {K : PySem.W.Frag} {H : Hp} {p l : Addr} {xs : List V} {o : HO} (h : SqT K H l xs) (n : H p = none) : SqT K (upd H p o) l xs := same_sqt (same_new n) h
theorem sql_upd {K : PySem.W.Frag} {H : Hp} {p l : Addr} {xs : List V} {o : HO} (h : SqL K H l xs) (ne : l ≠ p) : SqL K (upd H p o) l xs := by
  rcases h with (h | ⟨u, h⟩) | h
  · exact .inl (.inl (by rw [upd_ne ne]; exact h))
  · exact .inl (.inr ⟨u, by rw [upd_ne ne]; exact h⟩)
  · exact .inr h
theorem sqt_upd {K : PySem.W.Frag} {H : Hp} {p l : Addr} {xs : List V} {o : HO} (h : SqT K H l xs) (ne : l ≠ p) : SqT K (upd H p o) l xs := by
  rcases h with (h | ⟨u, h⟩) | h
  · exact .inl (.inl (by rw [upd_ne ne]; exact h))
  · exact .inl (.inr ⟨u, by rw [upd_ne ne]; exact h⟩)
  · exact .inr h
theorem Kd.same {K : PySem.W.Frag} {H H' : Hp} {x : V} {n : Kn} (e : Same H H') (h : Kd K H x n) : Kd K H' x n := by
  cases h with
  | non => exact .non
  | bl b => exact .bl b
  | int i => exact .int i
  | str z => exact .str z
  | lst h => exact .lst (e.seq h)
  | tup h => exact .tup (same_sqt e h)
  | dct h => exact .dct (e _ _ h)
/-! a list comprehension whose elements are reckoned without a new object -/
section
variable {K : PySem.W.Frag} {v : Nat} {te : TE} {σ : L2.St} {H1 : Hp} {D : Addr} {Qd : Hp → Prop} {n : Nat}
/-- what tLc asks of its walk -/
def LcW (J : It) (g : TG) (tt : TT) (te : TE) (vs : List Nat) (σ : L2.St) (H1 : Hp) (D : Addr) (Qd : Hp → Prop) : Prop :=
  ∃ W : Nat → Nat → Hp → Prop, (∃ m, W 0 m (upd H1 D (.lst []))) ∧ ∀ i m H, W i m H →
    (J.stop i H ∧ Qd H) ∨ (J.go i H ∧ ∃ Nx : Hp → Prop, (∀ H', Nx H' → ∃ m', m' < m ∧ W (i + 1) m' H') ∧
      ∀ x H', J.yld i H x H' → g x (wipe σ vs) H' fun σ2 H2 => wipe σ2 vs = wipe σ vs ∧ tt σ2 H2 fun b H3 =>
        if b = true then te σ2 H3 fun y H4 => ∃ acc, H4 D = some (.lst acc) ∧ acc.length < sizeLine ∧ Nx (upd H4 D (.lst (acc ++ [y]))) else Nx H3)
theorem yes_ {H : Hp} {A B : Hp → Prop} (h : A H) : tYes σ H fun b H3 => if b = true then A H3 else B H3 := by
  show (if true = true then A H else B H)
  rw [if_pos rfl]
  exact h
theorem wipe_one {x : Option V} : wipe ((wipe σ [v]).set v x) [v] = wipe σ [v] := by
  show ((σ.set v none).set v x).set v none = σ.set v none
  rw [List.set_set, List.set_set]
theorem lc_rng {lo : Int} (f : Nat → V) (hn : n ≤ sizeLine)
    (hs : ∀ i acc, i < n → ∀ Q : VK, Q (f i) (upd H1 D (.lst acc)) → te ((wipe σ [v]).set v (some (.int (lo + i)))) (upd H1 D (.lst acc)) Q)
    (hd : Qd (upd H1 D (.lst ((List.range n).map f)))) : LcW (Itr lo n) (gName v) tYes te [v] σ H1 D Qd := by
  refine lc_range (Pv := fun i H => H = upd H1 D (.lst ((List.range i).map f))) rfl ?_ (fun H e => by rw [e]; exact hd)
  intro i H hi e
  subst e
  refine ⟨wipe_one, yes_ ?_⟩
  refine hs i _ hi _ ⟨_, upd_same, ?_, ?_⟩
  · rw [List.length_map, List.length_range]
    exact Nat.lt_of_lt_of_le hi hn
  · rw [upd_upd, List.range_succ, List.map_append]
    rfl
theorem lc_seq {a : Addr} {xs : List V} (f : V → V) (hx : SqL K H1 a xs) (nD : H1 D = none) (hn : xs.length ≤ sizeLine)
    (hs : ∀ x acc, x ∈ xs → ∀ Q : VK, Q (f x) (upd H1 D (.lst acc)) → te ((wipe σ [v]).set v (some x)) (upd H1 D (.lst acc)) Q)
    (hd : Qd (upd H1 D (.lst (xs.map f)))) : LcW (Itl K a) (gName v) tYes te [v] σ H1 D Qd := by
  refine lc_list (xs := xs) (Pv := fun i H => H = upd H1 D (.lst ((xs.take i).map f))) rfl (fun i H _ e => by rw [e]; exact sql_new hx nD) ?_ (fun H e => by rw [e, List.take_length]; exact hd)
  intro i x H hi e
  subst e
  have lt : i < xs.length := (List.getElem?_eq_some_iff.mp hi).1
  refine ⟨wipe_one, yes_ ?_⟩
  refine hs x _ (List.mem_of_getElem? hi) _ ⟨_, upd_same, ?_, ?_⟩
  · rw [List.length_map, List.length_take]
    omega
  · rw [upd_upd, List.take_add_one, hi, List.map_append]
    rfl
theorem lc_tpl {a : Addr} {xs : List V} (f : V → V) (hx : SqT K H1 a xs) (nD : H1 D = none) (hn : xs.length ≤ sizeLine)
    (hs : ∀ x acc, x ∈ xs → ∀ Q : VK, Q (f x) (upd H1 D (.lst acc)) → te ((wipe σ [v]).set v (some x)) (upd H1 D (.lst acc)) Q)
    (hd : Qd (upd H1 D (.lst (xs.map f)))) : LcW (Itt K a) (gName v) tYes te [v] σ H1 D Qd := by
  refine lc_tup (xs := xs) (Pv := fun i H => H = upd H1 D (.lst ((xs.take i).map f))) rfl (fun i H _ e => by rw [e]; exact sqt_new hx nD) ?_ (fun H e => by rw [e, List.take_length]; exact hd)
  intro i x H hi e
  subst e
  have lt : i < xs.length := (List.getElem?_eq_some_iff.mp hi).1
  refine ⟨wipe_one, yes_ ?_⟩
  refine hs x _ (List.mem_of_getElem? hi) _ ⟨_, upd_same, ?_, ?_⟩
  · rw [List.length_map, List.length_take]
    omega
  · rw [upd_upd, List.take_add_one, hi, List.map_append]
    rfl
/-- with a test -/
theorem lc_rngF {tt : TT} {lo : Int} (p : Nat → Bool) (f : Nat → V) (hn : n ≤ sizeLine)
    (ht : ∀ i acc, i < n → ∀ Q : Bool → Hp → Prop, Q (p i) (upd H1 D (.lst acc)) → tt ((wipe σ [v]).set v (some (.int (lo + i)))) (upd H1 D (.lst acc)) Q)
    (hs : ∀ i acc, i < n → p i = true → ∀ Q : VK, Q (f i) (upd H1 D (.lst acc)) → te ((wipe σ [v]).set v (some (.int (lo + i)))) (upd H1 D (.lst acc)) Q)
    (hd : Qd (upd H1 D (.lst (((List.range n).filter p).map f)))) : LcW (Itr lo n) (gName v) tt te [v] σ H1 D Qd := by
  refine lc_range (Pv := fun i H => H = upd H1 D (.lst (((List.range i).filter p).map f))) rfl ?_ (fun H e => by rw [e]; exact hd)
  intro i H hi e
  subst e
  have le : (((List.range i).filter p).map f).length ≤ i := by
    rw [List.length_map]
    exact Nat.le_trans (List.length_filter_le _ _) (Nat.le_of_eq List.length_range)
  refine ⟨wipe_one, ht i _ hi _ ?_⟩
  cases e : p i with
  | true =>
    rw [if_pos rfl]
    refine hs i _ hi e _ ⟨_, upd_same, Nat.lt_of_le_of_lt le (Nat.lt_of_lt_of_le hi hn), ?_⟩
    rw [upd_upd, List.range_succ, List.filter_append, List.map_append]
    simp [e]
  | false =>
    rw [if_neg Bool.false_ne_true, List.range_succ, List.filter_append, List.map_append]
    simp [e]
end
/-! data: ints and bools in lists and tuples -/
section
variable {K : PySem.W.Frag} {H : Hp}
theorem dp_ints : ∀ ns : List Int, DpAll K H (ns.map V.int) (ns.map PyData.int)
  | [] => .nil
  | n :: r => .cons (.int n) (dp_ints r)
theorem dp_bools : ∀ bs : List Bool, DpAll K H (bs.map V.bl) (bs.map PyData.bool)
  | [] => .nil
  | b :: r => .cons (.bl b) (dp_bools r)
end
theorem lay_ints : ∀ ns : List Int, PyData.canLayAll0 (ns.map PyData.int) = true
  | [] => rfl
  | n :: r => by
    show (PyData.canLay0 (.int n) && PyData.canLayAll0 (r.map PyData.int)) = true
    rw [lay_ints r]
    rfl
theorem dep_ints : ∀ ns : List Int, PyData.depthAll (ns.map PyData.int) ≤ 1
  | [] => by decide
  | n :: r => by
    have := dep_ints r
    simp only [List.map_cons, PyData.depthAll, PyData.depth]
    omega
theorem shaped_ints (ns : List Int) : SeqAt.shaped (.list (ns.map PyData.int)) = true := by
  unfold SeqAt.shaped
  have h := dep_ints ns
  rw [show PyData.canLay0 (.list (ns.map PyData.int)) = true from lay_ints ns, Bool.true_and]
  refine decide_eq_true ?_
  simp only [PyData.depth]
  omega
theorem lay_bools : ∀ bs : List Bool, PyData.canLayAll0 (bs.map PyData.bool) = true
  | [] => rfl
  | b :: r => by
    show (PyData.canLay0 (.bool b) && PyData.canLayAll0 (r.map PyData.bool)) = true
    rw [lay_bools r]
    rfl
theorem dep_bools : ∀ bs : List Bool, PyData.depthAll (bs.map PyData.bool) ≤ 1
  | [] => by decide
  | n :: r => by
    have := dep_bools r
    simp only [List.map_cons, PyData.depthAll, PyData.depth]
    omega
theorem shaped_bools (bs : List Bool) : SeqAt.shaped (.list (bs.map PyData.bool)) = true := by
  unfold SeqAt.shaped
  have h := dep_bools bs
  rw [show PyData.canLay0 (.list (bs.map PyData.bool)) = true from lay_bools bs, Bool.true_and]
  refine decide_eq_true ?_
  simp only [PyData.depth]
  omega
theorem shapedT_ints (ns : List Int) : SeqAt.shaped (.tuple (ns.map PyData.int)) = true := by
  unfold SeqAt.shaped
  have h := dep_ints ns
  rw [show PyData.canLay0 (.tuple (ns.map PyData.int)) = true from lay_ints ns, Bool.true_and]
  refine decide_eq_true ?_
  simp only [PyData.depth]
  omega
theorem eqvAll_ints : ∀ ns ms : List Int, PyData.eqvAll (ns.map PyData.int) (ms.map PyData.int) = decide (ns = ms)
  | [], [] => rfl
  | [], _ :: _ => rfl
  | _ :: _, [] => rfl
  | n :: r, m :: q => by
    show (PyData.eqv (.int n) (.int m) && PyData.eqvAll (r.map PyData.int) (q.map PyData.int)) = _
    rw [eqvAll_ints r q]
    show ((n == m) && decide (r = q)) = _
    by_cases e : n = m
    · subst e
      by_cases f : r = q
      · subst f
        simp
      · simp [f]
    · simp [e]
end MM

set_option Elab.async false
set_option linter.all false
set_option maxRecDepth 100000
set_option maxHeartbeats 2000000
/-! enumerate over a tuple -/
namespace MM
open PySem PySem.Spec PyProof.Rows L2
theorem made_enum {v : Value} {o : Obj} {G : Heap → Prop} (B : Begins v o G) :
    Meets (Builtin.«enumerate.__new__» ⟨[.type "enumerate", v], []⟩) (fun _ R t => G t.heap ∧
      R (.ok (.ret (.ref (t.heap.push o).objs.size))) { t with heap := (t.heap.push o).push { cls := .type "enumerate", data := .fields #[.none, .bool false, .ref t.heap.objs.size, rawInt 0, .none, .none] } }) :=
  .of_wp fun prog w A R t both => by
    obtain ⟨h0, g0, d0, k0, o0⟩ := t
    obtain ⟨at_v, out⟩ := both
    have sub := sub_enumerate
    have road : ∀ {A' : Around} {E : Value → Shared → Prop} {Q : Value → Shared → Prop}, Q (.ref h0.objs.size) ⟨h0.push o, g0, d0, k0, o0⟩ → wpAny (model prog w) A' (pyIter v) Q E ⟨h0, g0, d0, k0, o0⟩ :=
      fun q => B.iter prog w _ _ ⟨h0, g0, d0, k0, o0⟩ _ at_v q
    wp_walk using road
    refine wpAny_stack_any fun st => wpAny_pure ?_
    split
    · rename_i c _ _ _ _ _
      cases (c == Value.type "enumerate")
      all_goals
        wp_walk using road
        exact ⟨_, rfl, out⟩
    · wp_walk using road
      exact ⟨_, rfl, out⟩
theorem call_enumT {prog : Program} {w : World} {A : Around} {E : Value → Shared → Prop} {s : Shared} {a : Addr} {its : Array Value} {Q : Value → Shared → Prop} (ht : s.heap.IsTuple a its)
    (q : ∀ h', IsEnum h' (s.heap.objs.size + 1) s.heap.objs.size 0 .none → h'.IsTupleIter s.heap.objs.size a 0 → (∀ b o, s.heap.get? b = some o → h'.get? b = some o) →
      Q (.ref (s.heap.objs.size + 1)) { s with heap := h' }) : wpAny (model prog w) A (call (.type "enumerate") [.ref a]) Q E s := by
  have B := begins_tuple a its
  refine callType_new F.called_enumerate (by decide) (F.typeCall_enumerate_1 _) (F.newCall_enumerate_1 _) (fun obj => F.args_object_init_2 obj _) F.entry_enumerate_new (made_enum B) ⟨ht, ?_⟩
  have z : (s.heap.push { cls := .type "tuple_iterator", data := .fields #[.ref a, .int 0 0] }).objs.size = s.heap.objs.size + 1 := Heap.size_push ..
  show _ ∧ _
  rw [z]
  have at_e : IsEnum ((s.heap.push { cls := .type "tuple_iterator", data := .fields #[.ref a, .int 0 0] }).push { cls := .type "enumerate", data := .fields #[.none, .bool false, .ref s.heap.objs.size, rawInt 0, .none, .none] }) (s.heap.objs.size + 1) s.heap.objs.size 0 .none := by
    rw [← z]
    exact Heap.get?_push_size _ rfl
  exact ⟨⟨_, at_e, rfl⟩, q _ at_e ⟨_, Heap.get?_push_of_some _ (Heap.get?_push_size _ rfl), rfl, rfl⟩ fun b o k => Heap.get?_push_of_some _ (Heap.get?_push_of_some _ k)⟩
/-- the tuple at a, each item in a new pair -/
def Itu (K : PySem.W.Frag) (a : Addr) : It :=
  ⟨fun i H => ∃ xs x, SqT K H a xs ∧ xs[i]? = some x, fun i H v H' => ∃ T x, v = .ref T ∧ H T = none ∧ H' = upd H T (.tup [.int (i : Nat), x]) ∧ ∀ xs, SqT K H a xs → xs[i]? = some x, fun i H => ∃ xs, SqT K H a xs ∧ xs.length ≤ i⟩
theorem turn_enumT {P : Program} {w : World} {K : PySem.W.Frag} {elts : List Expr} {kk : Nat} {tpos : Pos} (a e it : Addr) :
    Turn P w K (.Tuple elts kk tpos) (Itu K a) [e, it] e (fun i h => (∃ old, IsEnum h e it ((i : Nat) : Int) old) ∧ h.IsTupleIter it a i ∧ e ≠ it) where
  mem := by simp
  obj := fun i h st b hb => by
    obtain ⟨⟨old, he⟩, ⟨o, ho, hc, hd⟩, _⟩ := st
    have two : b = e ∨ b = it := by simpa using hb
    rcases two with z | z
    · subst z
      exact ⟨_, he, fun v q => nomatch q⟩
    · subst z
      exact ⟨o, ho, fun v q => by rw [hd] at q; cases q⟩
  keep := fun i h h' st k => let ⟨⟨old, he⟩, hi, hne⟩ := st; ⟨⟨old, k e (by simp) _ he⟩, hi.at fun o q => k it (by simp) o q, hne⟩
  item := by
    intro X hP hw hK hc i pins s σ H E I hf st hg
    subst hP hw hK
    obtain ⟨⟨old, he⟩, hit, hne⟩ := st
    obtain ⟨xs, x, hq, hx⟩ := hg
    obtain ⟨its, rv, p, hz⟩ := I.tuple hq
    obtain ⟨u, hu, ru⟩ := rv.get hx
    have el : e < s.heap.objs.size := Heap.lt_size he
    have il : it < s.heap.objs.size := by obtain ⟨_, q, _⟩ := hit; exact Heap.lt_size q
    have pt : s.heap.IsTuple a its.toArray := p
    have ait : a ≠ it := fun z => by
      obtain ⟨o1, g1, c1, _⟩ := id pt
      obtain ⟨o2, g2, c2, _⟩ := id hit
      rw [z, g2] at g1
      cases g1
      rw [c2] at c1
      exact absurd (Value.type.inj c1) (by decide)
    have ae : a ≠ e := fun z => by
      obtain ⟨o1, g1, c1, _⟩ := id pt
      rw [z, show s.heap.get? e = some _ from he] at g1
      cases g1
      exact absurd (Value.type.inj c1) (by decide)
    have D := Draws.tuple (prog := X.prog) (w := X.w) (A := X.A.in1) (I.ok.hd hc) it a ait its.toArray
    have lt : i < its.toArray.size := by
      have := (List.getElem?_eq_some_iff.mp hu).1
      rw [List.size_toArray]
      exact this
    refine wpAny_pyNext_enum_itemC D he ⟨hit, pt⟩ lt hne (by simp [hne, ae.symm]) fun y h' tk hy ho st' hT hsz hk => ?_
    have ey : y = u := by
      have hy' : its.toArray[i]? = some y := hy
      rw [List.getElem?_toArray, hu] at hy'
      exact (Option.some.inj hy').symm
    subst ey
    refine ⟨_, rfl, wpAny_letOwnedTupleGo_enum (s := { s with heap := h', toks := tk + 1 }) ho fun h'' he' sb => ?_⟩
    have hT2 : h''.get? s.heap.objs.size = some { cls := .type "tuple", data := .seq #[.int i tk, y] } := (sb.2 _ (Nat.ne_of_gt el)).trans hT
    have new : ObjOk X.prog X.w (upd H s.heap.objs.size (.tup [.int (i : Nat), x])) h'' s.heap.objs.size (.tup [.int (i : Nat), x]) :=
      ⟨(by decide : 2 ≤ sizeLine), [.int i tk, y], .cons ⟨_, rfl⟩ (.cons ru .nil), ⟨_, hT2, rfl, _, rfl⟩⟩
    have I1 : Inv X pins σ (upd H s.heap.objs.size (.tup [.int (i : Nat), x])) { s with heap := h'', toks := tk + 1 } :=
      I.turnedNew (ch := [e, it]) (fun b ob hb q => (sb.2 b fun z => hb (by simp [z])).trans (hk b ob (fun z => hb (by simp [z])) (fun z => hb (by simp [z])) q)) hf (Nat.le_refl _) new
    have it2 : h''.IsTupleIter it a (i + 1) := st'.1.at fun o q => (sb.2 it (Ne.symm hne)).trans q
    refine ⟨.ref s.heap.objs.size, _, I1, rfl, ⟨_, x, rfl, I.hok.fresh (Nat.le_refl _), rfl, fun ys hy => by rw [I.tuple_inj hy hq]; exact hx⟩, ⟨⟨y, he'⟩, it2, hne⟩, fun b hb => ?_⟩
    have bl : b < s.heap.objs.size := by
      have two : b = e ∨ b = it := by simpa using hb
      rcases two with z | z <;> subst z <;> assumption
    rw [upd_ne (Nat.ne_of_lt bl)]
    exact (hf b hb).1
  done := by
    intro X hP hw hK hc i pins s σ H E I hf st hg
    subst hP hw hK
    obtain ⟨⟨old, he⟩, hit, hne⟩ := st
    obtain ⟨xs, hq, hx⟩ := hg
    obtain ⟨its, rv, p, hz⟩ := I.tuple hq
    have pt : s.heap.IsTuple a its.toArray := p
    obtain ⟨f0, f1, f2, f3, f4, f5⟩ := hf it (by simp)
    have over : its.toArray[i]? = none := by
      have := rv.length
      rw [List.getElem?_toArray]
      exact List.getElem?_eq_none (by omega)
    have D : Draws X.prog X.w X.A.in1 it [it, a] i (fun _ _ => True) (fun j h => j = i ∧ h.IsTupleIter it a j ∧ h.IsTuple a its.toArray) :=
      { live := fun _ _ st => let ⟨o, ho, _⟩ := st.2.1; ⟨o, ho⟩
        frame := fun _ _ _ st k => ⟨st.1, st.2.1.at fun o e => k it (by simp) o e, st.2.2.at fun o e => k a (by simp) o e⟩
        item := fun j s Q E lt st _ => absurd st.1 (Nat.ne_of_lt lt)
        done := fun s Q E st out => wpAny_nextOf_tuple_end (I.ok.hd hc) st.2.1 st.2.2 (by rw [st.1]; exact over) out }
    exact wpAny_pyNext_enum_endD D he ⟨rfl, hit, pt⟩ fun h' eb => ⟨rfl, I.turned (t' := s.toks) (fun b o hb q => eb b o hb q) f0 f1 f3 f4 f5⟩
  self := fun A i s Q E st h => let ⟨⟨_, he⟩, _⟩ := st; wpAny_pyIter_enum he h
def iEnumT (K : PySem.W.Frag) (ta : TA) : TI := fun σ H R => ta σ H fun vs H1 => ∃ a xs, vs = [.ref a] ∧ SqT K H1 a xs ∧ R (Itu K a) H1
theorem pi_enumT {X : Cx} {e : Expr} {ta : TA} {p pos tpos : Pos} {elts : List Expr} {kk : Nat} (hg : Gl X "enumerate") (hm : X.mg "enumerate" = none) (ha : PA X [e] ta)
    (hs : starEach [e] X.env = [(false, eval e X.env)] := by rfl) : PI X (.Tuple elts kk tpos) (.Call (.Name "enumerate" p) [e] [] pos) (iEnumT X.K ta) := by
  refine ⟨fun pins s σ H R I h => ?_⟩
  refine Call_ (ld_blt I hg hm boot_enumerate (PyProof.Rows.callWith_type1 (thn (ha.run pos pins s σ H _ I h) fun us s1 ⟨vs, H1, I1, r1, a, xs, ex, hq, q⟩ => ?_) hs rfl))
  subst ex
  obtain ⟨u, rfl, ru⟩ := vals1 r1
  cases ru
  obtain ⟨its, rv, p', hz⟩ := I1.tuple hq
  refine call_enumT (its := its.toArray) p' fun h' he hit hk => wpAny_pyIter_enum he ?_
  refine ⟨s1.heap.objs.size + 1, [s1.heap.objs.size + 1, s1.heap.objs.size], _, _, H1, rfl, I1.kept (t' := s1.toks) hk, turn_enumT a (s1.heap.objs.size + 1) s1.heap.objs.size, ⟨⟨.none, he⟩, hit, Nat.succ_ne_self _⟩, fun b hb => ?_, q⟩
  have two : b = s1.heap.objs.size + 1 ∨ b = s1.heap.objs.size := by simpa using hb
  have le : s1.heap.objs.size ≤ b := by
    rcases two with z | z <;> rw [z]
    · exact Nat.le_add_right _ _
    · exact Nat.le_refl _
  exact I1.fpOk le (I1.hok.fresh le)
section
variable {K : PySem.W.Frag} {a : Addr} {xs : List V} {g : TG} {tb : TS} {D : Ends} {σ : L2.St} {H : Hp}
/-- what a for asks of its walk -/
def ForW (J : It) (g : TG) (tb : TS) (D : Ends) (σ : L2.St) (H : Hp) : Prop :=
  ∃ W : Nat → Nat → L2.St → Hp → Prop, (∃ m, W 0 m σ H) ∧ ∀ i m σ H, W i m σ H →
    (J.stop i H ∧ D.nx σ H) ∨ (J.go i H ∧ ∃ N : L2.St → Hp → Prop, (∀ σ' H', N σ' H' → ∃ m', m' < m ∧ W (i + 1) m' σ' H') ∧
      ∀ x H', J.yld i H x H' → g x σ H' fun σ2 H2 => tb { D with nx := N, ct := N, bk := D.nx } σ2 H2)
theorem for_enumT (Pv : Nat → L2.St → Hp → Prop) (h0 : Pv 0 σ H) (at_a : ∀ i σ H, i ≤ xs.length → Pv i σ H → SqT K H a xs)
    (turn : ∀ i x σ H T, xs[i]? = some x → Pv i σ H → H T = none → g (.ref T) σ (upd H T (.tup [.int (i : Nat), x])) fun σ2 H2 => tb { D with nx := Pv (i + 1), ct := Pv (i + 1), bk := D.nx } σ2 H2)
    (fin : ∀ σ H, Pv xs.length σ H → D.nx σ H) : ForW (Itu K a) g tb D σ H := by
  refine ⟨fun i m σ H => m = xs.length - i ∧ i ≤ xs.length ∧ Pv i σ H, ⟨_, rfl, Nat.zero_le _, h0⟩, ?_⟩
  rintro i m σ H ⟨rfl, le, p⟩
  by_cases lt : i < xs.length
  · have ex := List.getElem?_eq_getElem lt
    refine .inr ⟨⟨xs, _, at_a i σ H le p, ex⟩, Pv (i + 1), fun σ' H' p' => ⟨_, by omega, rfl, lt, p'⟩, ?_⟩
    rintro v H' ⟨T, x, rfl, free, rfl, all⟩
    exact turn i x σ H T (all xs (at_a i σ H le p)) p free
  · have e : i = xs.length := by omega
    subst e
    exact .inl ⟨⟨xs, at_a _ σ H le p, Nat.le_refl _⟩, fin σ H p⟩
theorem for_enumL (Pv : Nat → L2.St → Hp → Prop) (h0 : Pv 0 σ H) (at_a : ∀ i σ H, i ≤ xs.length → Pv i σ H → SqL K H a xs)
    (turn : ∀ i x σ H T, xs[i]? = some x → Pv i σ H → H T = none → g (.ref T) σ (upd H T (.tup [.int (i : Nat), x])) fun σ2 H2 => tb { D with nx := Pv (i + 1), ct := Pv (i + 1), bk := D.nx } σ2 H2)
    (fin : ∀ σ H, Pv xs.length σ H → D.nx σ H) : ForW (Ite K a) g tb D σ H := by
  refine ⟨fun i m σ H => m = xs.length - i ∧ i ≤ xs.length ∧ Pv i σ H, ⟨_, rfl, Nat.zero_le _, h0⟩, ?_⟩
  rintro i m σ H ⟨rfl, le, p⟩
  by_cases lt : i < xs.length
  · have ex := List.getElem?_eq_getElem lt
    refine .inr ⟨⟨xs, _, at_a i σ H le p, ex⟩, Pv (i + 1), fun σ' H' p' => ⟨_, by omega, rfl, lt, p'⟩, ?_⟩
    rintro v H' ⟨T, x, rfl, free, rfl, all⟩
    exact turn i x σ H T (all xs (at_a i σ H le p)) p free
  · have e : i = xs.length := by omega
    subst e
    exact .inl ⟨⟨xs, at_a _ σ H le p, Nat.le_refl _⟩, fin σ H p⟩
end
end MM

set_option Elab.async false
set_option linter.all false
set_option maxRecDepth 100000
set_option maxHeartbeats 2000000
/-! set(t) of a tuple of ints; its length -/
namespace MM
open PySem PySem.Spec PyProof.Rows L2
theorem count_keys {ks ns : List Int} (nk : ks.Nodup) (mem : ∀ k, k ∈ ns ↔ k ∈ ks) : ks.length = ns.length ↔ ns.Nodup := by
  constructor
  · intro e
    by_cases h : ns.Nodup
    · exact h
    · exfalso
      rw [List.nodup_iff_count] at h
      obtain ⟨a, ha⟩ := Classical.not_forall.mp h
      have am : a ∈ ns := List.count_pos_iff.mp (by omega)
      have sub : ks ⊆ ns.erase a := by
        intro b hb
        by_cases z : b = a
        · subst z
          refine List.count_pos_iff.mp ?_
          rw [List.count_erase_self]
          omega
        · exact (List.mem_erase_of_ne z).mpr ((mem b).mpr hb)
      have le := List.Nodup.length_le_of_subset nk sub
      rw [List.length_erase_of_mem am] at le
      have pos : 0 < ns.length := List.length_pos_of_mem am
      omega
  · intro nn
    exact ((List.perm_ext_iff_of_nodup nk nn).mpr fun a => (mem a).symm).length_eq
section
variable {X : Cx}
def rSetI (K : PySem.W.Frag) : List V → Hp → VK → Prop := fun xs H Q => ∃ (p : Addr) (ns : List Int), xs = [.ref p] ∧ SqT K H p (ns.map V.int) ∧ ns.length ≤ 1000 ∧
  ∀ t n, H t = none → (n = ns.length ↔ ns.Nodup) → n ≤ ns.length → Q (.ref t) (upd H t (.set (fun j => decide (j ∈ ns)) n))
theorem ints_of : ∀ {ns : List Int} {its : List Value}, Vals (ns.map V.int) its → IntsAre its ns
  | [], _, r => by
    cases r
    exact .nil
  | n :: _, _, r => by
    cases r with
    | cons h t =>
      obtain ⟨k, rfl⟩ := h
      exact .cons n k (ints_of t)
theorem cr_setI (hc : X.calm = true) : CallR X (.type "set") (rSetI X.K) := by
  intro pins s σ H xs us Q I r h
  obtain ⟨p, ns, rfl, hp, hl, q⟩ := h
  obtain ⟨u, rfl, ru⟩ := vals1 r
  cases ru
  obtain ⟨its, rv, ht, hz⟩ := I.tuple hp
  have pt : s.heap.IsTuple p its.toArray := ht
  refine call_set_tupI (P := X.prog) ns (I.ok.hd hc) pt (by simpa using ints_of rv) (by show ns.length + 1 < 4096; omega) fun h' tk c R le keep => ?_
  have cnt : c = ns.length ↔ ns.Nodup := by
    obtain ⟨o, es, ep, t, ho, hx, hd, g, nd, hm, hb, hf, hn, _⟩ := R
    rw [← hn]
    have := count_keys (ks := es.toList.map keyOf) (ns := ns) nd fun k => by
      rw [← hm k]
      exact decide_eq_true_iff.symm
    rw [List.length_map, Array.length_toList] at this
    exact this
  refine ⟨.ref _, _, I.laid (t' := tk) (o := .set (fun j => decide (j ∈ ns)) c) keep (Nat.le_refl _) ?_, rfl, q _ c (I.hok.fresh (Nat.le_refl _)) cnt le⟩
  exact R.setOf
theorem cr_lenSet : CallR X (.builtin "len") (fun xs H Q => ∃ a S n, xs = [V.ref a] ∧ H a = some (.set S n) ∧ Q (.int (n : Nat)) H) := by
  intro pins s σ H xs us Q I r h
  obtain ⟨a, S, n, rfl, ha, q⟩ := h
  obtain ⟨u, rfl, ru⟩ := vals1 r
  cases ru
  obtain ⟨o, es, ep, t, ho, hx, hd, _, _, hb, hf, hn⟩ := (show s.heap.SetOf (intKind X.prog X.w) a S n from I.hok a _ ha)
  subst hn
  have small : es.size < 4096 := hb
  exact PySem.call_len_set ho hx hd hf (by omega) ⟨.int _, H, I.tok _, ⟨_, rfl⟩, q⟩
def rLenK (K : PySem.W.Frag) : List V → Hp → VK → Prop := fun xs H Q => ∃ p ys, xs = [.ref p] ∧ (SqL K H p ys ∨ SqT K H p ys) ∧ Q (.int ys.length) H
theorem cr_lenK {K : PySem.W.Frag} (e : X.K = K) : CallR X (.builtin "len") (rLenK K) := by
  subst e
  exact call_len_seq
end
end MM

set_option Elab.async false
set_option linter.all false
set_option maxRecDepth 100000
set_option maxHeartbeats 2000000
/-! sets of ints that grow: the rules with the world by its name -/
namespace MM
open PySem PySem.Spec PyProof.Rows L2
section
variable {X : Cx} {w : World}
theorem cr_set0W (e : X.w = w) : CallR X (.type "set") (rSet0 w) := by
  subst e
  exact cr_set0
theorem or_sinW (e : X.w = w) : OpR X (compareOp .In) (rSIn w) := by
  subst e
  exact or_sin
theorem or_snotinW (e : X.w = w) : OpR X (compareOp .NotIn) (rSNotIn w) := by
  subst e
  exact or_snotin
variable {o e : Expr} {es : List Expr} {to : TE} {t : TA} {apos cpos : Pos}
theorem pe_saddW (ew : X.w = w) (ho : PE X o to) (ha : PA X (e :: es) t)
    (hbase : attributeBase o "add" X.env (eval o X.env) = eval o X.env := by rfl)
    (hfew : ((backTo cpos (starEach (e :: es) X.env)).all (fun x => !x.1) && (backToKw cpos (keywordEach [] X.env)).all (fun x => x.1.isSome)
      && decide ((e :: es).length + ([] : List Keyword).length + (if ([] : List Keyword).isEmpty then 0 else 1) < 30)) = true := by rfl)
    (hline : (apos.endLine == cpos.line) = true := by rfl) (hs : starEach (e :: es) X.env = (false, eval e X.env) :: starEach es X.env := by rfl) (hplain : (backTo cpos (starEach es X.env)).any (·.1) = false := by rfl) :
    PE X (.Call (.Attribute o "add" apos) (e :: es) [] cpos) (tSAdd w to t) := by
  subst ew
  exact pe_sadd ho ha hbase hfew hline hs hplain
end
end MM

set_option Elab.async false
set_option linter.all false
set_option maxRecDepth 100000
set_option maxHeartbeats 2000000
namespace MM
open PySem PySem.Spec PyProof.Rows L2
/-! math.lcm -/
section
variable {X : Cx}
def rLcm : List V → Hp → VK → Prop := fun vs H Q => ∃ a b : Int, vs = [.int a, .int b] ∧ a.natAbs < 2 ^ 13000 ∧ b.natAbs < 2 ^ 13000 ∧ Q (.int ((Nat.lcm a.natAbs b.natAbs : Nat) : Int)) H
theorem log_ok {n : Nat} (h : n < 2 ^ 13000) : ¬ n.log2 / 30 + 1 > 450 := by
  have := PySem.W.mg_log (n := n) (k := 12999) h
  omega
theorem lcm_ok {a b : Nat} (ha : a < 2 ^ 13000) (hb : b < 2 ^ 13000) : (Nat.lcm a b).log2 < bitsLine := by
  have h1 : Nat.lcm a b ≤ a * b := Nat.div_le_self _ _
  have h2 : a * b < 2 ^ 26000 := by
    rw [show (26000 : Nat) = 13000 + 13000 from rfl, Nat.pow_add]
    exact Nat.mul_lt_mul'' ha hb
  have h3 := PySem.W.mg_log (n := Nat.lcm a b) (k := 25999) (Nat.lt_of_le_of_lt h1 h2)
  exact Nat.lt_of_le_of_lt h3 (by decide +kernel)
theorem cr_lcm : CallR X (.builtin "math.lcm") rLcm := by
  intro pins s σ H vs us Q I r h
  obtain ⟨a, b, rfl, ha, hb, q⟩ := h
  obtain ⟨t, u, rfl⟩ := Vals.int2 r
  have e : (Nat.lcm 1 a.natAbs).lcm b.natAbs = Nat.lcm a.natAbs b.natAbs := by rw [Nat.lcm_one_left]
  refine PySem.call_function_meets PySem.W.MGF.kind_lcm PySem.W.MGF.plain_lcm PySem.W.MGF.entry_lcm (PySem.W.MGF.args_lcm _ _) (PySem.W.mg_run_lcm a t b u (log_ok ?_) (log_ok ?_) ?_).meets ?_
  · exact Nat.max_lt.mpr ⟨by exact Nat.one_lt_two_pow (by decide), ha⟩
  · exact Nat.max_lt.mpr ⟨ha, hb⟩
  · rw [e, Int.natAbs_natCast]
    exact lcm_ok ha hb
  · rw [e]
    exact ⟨.int _, H, I.tok _, ⟨_, rfl⟩, q⟩
/-- // by a divisor that is not 0 -/
def CDivG (_ j : Int) : Prop := j ≠ 0 ∧ j.natAbs.log2 < 9000
theorem op_fdivG : OpR X (binaryOp .FloorDiv) (rI CDivG fun i j => .int (i.fdiv j)) := opI fun i j _ _ _ _ _ hc q =>
  floordiv_int hc.1 q (.inl (PyProof.noPylong_of_log2 hc.2))
theorem divG {i j : Int} (h0 : j ≠ 0) (h : j.natAbs < 2 ^ 8999) : CDivG i j := ⟨h0, Nat.lt_of_lt_of_le (PySem.Flt.log2_lt_of (by decide) h) (by decide)⟩
end
end MM

set_option Elab.async false
set_option linter.all false
set_option maxRecDepth 100000
set_option maxHeartbeats 2000000
/-! more comprehensions: over enumerate, with a test -/
namespace MM
open PySem PySem.Spec PyProof.Rows L2
section
variable {K : PySem.W.Frag} {v : Nat} {g : TG} {tt : TT} {te : TE} {vs : List Nat} {σ : L2.St} {H1 : Hp} {D : Addr} {Qd : Hp → Prop} {n : Nat} {a : Addr} {xs : List V}
/-- what a comprehension asks of a turn with the item x -/
def LcT (g : TG) (tt : TT) (te : TE) (vs : List Nat) (σ : L2.St) (D : Addr) (Nx : Hp → Prop) (x : V) (H : Hp) : Prop :=
  g x (wipe σ vs) H fun σ2 H2 => wipe σ2 vs = wipe σ vs ∧ tt σ2 H2 fun b H3 =>
    if b = true then te σ2 H3 fun y H4 => ∃ acc, H4 D = some (.lst acc) ∧ acc.length < sizeLine ∧ Nx (upd H4 D (.lst (acc ++ [y]))) else Nx H3
theorem lc_enumT (Pv : Nat → Hp → Prop) (h0 : Pv 0 (upd H1 D (.lst []))) (at_a : ∀ i H, i ≤ xs.length → Pv i H → SqT K H a xs)
    (hs : ∀ i x H T, xs[i]? = some x → Pv i H → H T = none → LcT g tt te vs σ D (Pv (i + 1)) (.ref T) (upd H T (.tup [.int (i : Nat), x])))
    (hd : ∀ H, Pv xs.length H → Qd H) : LcW (Itu K a) g tt te vs σ H1 D Qd := by
  refine ⟨fun i m H => m = xs.length - i ∧ i ≤ xs.length ∧ Pv i H, ⟨_, rfl, Nat.zero_le _, h0⟩, ?_⟩
  rintro i m H ⟨rfl, le, p⟩
  by_cases lt : i < xs.length
  · have ex := List.getElem?_eq_getElem lt
    refine .inr ⟨⟨xs, _, at_a i H le p, ex⟩, Pv (i + 1), fun H' p' => ⟨_, by omega, rfl, lt, p'⟩, ?_⟩
    rintro v H' ⟨T, x, rfl, free, rfl, all⟩
    exact hs i x H T (all xs (at_a i H le p)) p free
  · have e : i = xs.length := by omega
    subst e
    exact .inl ⟨⟨xs, at_a _ H le p, Nat.le_refl _⟩, hd H p⟩
theorem lc_enumL (Pv : Nat → Hp → Prop) (h0 : Pv 0 (upd H1 D (.lst []))) (at_a : ∀ i H, i ≤ xs.length → Pv i H → SqL K H a xs)
    (hs : ∀ i x H T, xs[i]? = some x → Pv i H → H T = none → LcT g tt te vs σ D (Pv (i + 1)) (.ref T) (upd H T (.tup [.int (i : Nat), x])))
    (hd : ∀ H, Pv xs.length H → Qd H) : LcW (Ite K a) g tt te vs σ H1 D Qd := by
  refine ⟨fun i m H => m = xs.length - i ∧ i ≤ xs.length ∧ Pv i H, ⟨_, rfl, Nat.zero_le _, h0⟩, ?_⟩
  rintro i m H ⟨rfl, le, p⟩
  by_cases lt : i < xs.length
  · have ex := List.getElem?_eq_getElem lt
    refine .inr ⟨⟨xs, _, at_a i H le p, ex⟩, Pv (i + 1), fun H' p' => ⟨_, by omega, rfl, lt, p'⟩, ?_⟩
    rintro v H' ⟨T, x, rfl, free, rfl, all⟩
    exact hs i x H T (all xs (at_a i H le p)) p free
  · have e : i = xs.length := by omega
    subst e
    exact .inl ⟨⟨xs, at_a _ H le p, Nat.le_refl _⟩, hd H p⟩
theorem filt_step {xs : List V} {i : Nat} {x : V} (hi : xs[i]? = some x) (p : V → Bool) (f : V → V) :
    ((xs.take (i + 1)).filter p).map f = ((xs.take i).filter p).map f ++ (if p x = true then [f x] else []) := by
  rw [List.take_add_one, hi, List.filter_append, List.map_append]
  cases e : p x <;> simp [e]
/-- with a test -/
theorem lc_seqF (p : V → Bool) (f : V → V) (hx : SqL K H1 a xs) (nD : H1 D = none) (hn : xs.length ≤ sizeLine)
    (ht : ∀ x acc, x ∈ xs → ∀ Q : Bool → Hp → Prop, Q (p x) (upd H1 D (.lst acc)) → tt ((wipe σ [v]).set v (some x)) (upd H1 D (.lst acc)) Q)
    (hs : ∀ x acc, x ∈ xs → p x = true → ∀ Q : VK, Q (f x) (upd H1 D (.lst acc)) → te ((wipe σ [v]).set v (some x)) (upd H1 D (.lst acc)) Q)
    (hd : Qd (upd H1 D (.lst ((xs.filter p).map f)))) : LcW (Itl K a) (gName v) tt te [v] σ H1 D Qd := by
  refine lc_list (xs := xs) (Pv := fun i H => H = upd H1 D (.lst (((xs.take i).filter p).map f))) rfl (fun i H _ e => by rw [e]; exact sql_new hx nD) ?_ (fun H e => by rw [e, List.take_length]; exact hd)
  intro i x H hi e
  subst e
  have lt : i < xs.length := (List.getElem?_eq_some_iff.mp hi).1
  have le : (((xs.take i).filter p).map f).length ≤ i := by
    rw [List.length_map]
    exact Nat.le_trans (List.length_filter_le _ _) (by rw [List.length_take]; omega)
  refine ⟨wipe_one, ht x _ (List.mem_of_getElem? hi) _ ?_⟩
  have st := filt_step hi p f
  cases e : p x with
  | true =>
    rw [if_pos rfl]
    refine hs x _ (List.mem_of_getElem? hi) e _ ⟨_, upd_same, Nat.lt_of_le_of_lt le (Nat.lt_of_lt_of_le lt hn), ?_⟩
    rw [upd_upd, st, if_pos e]
  | false =>
    rw [if_neg Bool.false_ne_true, st, if_neg (by rw [e]; exact Bool.false_ne_true), List.append_nil]
theorem lc_tplF (p : V → Bool) (f : V → V) (hx : SqT K H1 a xs) (nD : H1 D = none) (hn : xs.length ≤ sizeLine)
    (ht : ∀ x acc, x ∈ xs → ∀ Q : Bool → Hp → Prop, Q (p x) (upd H1 D (.lst acc)) → tt ((wipe σ [v]).set v (some x)) (upd H1 D (.lst acc)) Q)
    (hs : ∀ x acc, x ∈ xs → p x = true → ∀ Q : VK, Q (f x) (upd H1 D (.lst acc)) → te ((wipe σ [v]).set v (some x)) (upd H1 D (.lst acc)) Q)
    (hd : Qd (upd H1 D (.lst ((xs.filter p).map f)))) : LcW (Itt K a) (gName v) tt te [v] σ H1 D Qd := by
  refine lc_tup (xs := xs) (Pv := fun i H => H = upd H1 D (.lst (((xs.take i).filter p).map f))) rfl (fun i H _ e => by rw [e]; exact sqt_new hx nD) ?_ (fun H e => by rw [e, List.take_length]; exact hd)
  intro i x H hi e
  subst e
  have lt : i < xs.length := (List.getElem?_eq_some_iff.mp hi).1
  have le : (((xs.take i).filter p).map f).length ≤ i := by
    rw [List.length_map]
    exact Nat.le_trans (List.length_filter_le _ _) (by rw [List.length_take]; omega)
  refine ⟨wipe_one, ht x _ (List.mem_of_getElem? hi) _ ?_⟩
  have st := filt_step hi p f
  cases e : p x with
  | true =>
    rw [if_pos rfl]
    refine hs x _ (List.mem_of_getElem? hi) e _ ⟨_, upd_same, Nat.lt_of_le_of_lt le (Nat.lt_of_lt_of_le lt hn), ?_⟩
    rw [upd_upd, st, if_pos e]
  | false =>
    rw [if_neg Bool.false_ne_true, st, if_neg (by rw [e]; exact Bool.false_ne_true), List.append_nil]
end
end MM
namespace MM
open PySem PySem.Spec PyProof.Rows L2
section
variable {K : PySem.W.Frag} {H : Hp} {Q : VK}
theorem slA {a : Addr} {xs : List V} {lo hi : Option Int} (S : SqT K H a xs) (q : ∀ H' t, Same H H' → SqT K H' t (cutV xs lo hi) → Q (.ref t) H') : rSlA K (.ref a) lo hi H Q := by
  refine ⟨a, xs, rfl, S, fun h => ?_, fun _ p np => q _ p (same_new np) (.inl (.inl upd_same))⟩
  refine q H a (Same.refl H) ?_
  have : cutV xs lo hi = xs := by
    unfold cutV
    rw [h.1, h.2, List.drop_zero, Nat.sub_zero, List.take_length]
  rw [this]
  exact S
theorem catA {a b : Addr} {xs ys : List V} (S : SqT K H a xs) (S2 : SqT K H b ys) (z : xs.length + ys.length ≤ sizeLine) (q : ∀ H' t, Same H H' → SqT K H' t (xs ++ ys) → Q (.ref t) H') : rCatA K (.ref a) (.ref b) H Q := by
  refine ⟨a, b, xs, ys, rfl, rfl, S, S2, z, fun h => ?_, fun _ h => ?_, fun _ _ p np => q _ p (same_new np) (.inl (.inl upd_same))⟩
  · exact q H b (Same.refl H) (by rw [h]; exact S2)
  · exact q H a (Same.refl H) (by rw [h, List.append_nil]; exact S)
end
end MM
namespace MM
open PySem PySem.Spec PyProof.Rows L2
def rTupOf (K : PySem.W.Frag) : List V → Hp → VK → Prop := fun xs H Q => ∃ p ys, xs = [V.ref p] ∧ ((SqL K H p ys ∧ ∀ (l : Addr), H l = none → Q (.ref l) (upd H l (.tup ys))) ∨ SqT K H p ys ∧ Q (.ref p) H)
end MM

set_option Elab.async false
set_option linter.all false
set_option maxRecDepth 100000
set_option maxHeartbeats 2000000
/-! sorted of tuples of ints, of lists of lists of ints, of tuples of tuples by their lengths; walks over two at once -/
namespace MM
open PySem PySem.Spec PyProof.Rows L2 PySem.Calls PySem.W
section
variable {prog : Program} {w : World} {A : Around} {E : Value → Shared → Prop} {s : Shared}
theorem collect_tuple {l : Addr} {vs : List Value} {Q : List Value → Shared → Prop} (hl : s.heap.IsTuple l vs.toArray)
    (h : Q vs { s with heap := (s.heap.push (seqObj "list" #[] 0)).update s.heap.objs.size (Obj.mapSeq (· ++ vs.toArray)) }) (hsz : vs.length ≤ sizeLine) :
    wpAny (model prog w) A (collect (.ref l)) Q E s := by
  obtain ⟨o, ho, hc, n, hd⟩ := id hl
  unfold collect
  refine wpAny_bind (wpAny_runValue (codeAny_builtin entry_proto_collect' ?_))
  show wpAny _ _ (do again (.builtin "list.__iadd__" ⟨[← newList [], .ref l], []⟩)) _ _ s
  refine wpAny_bind (wpAny_newList (wpAny_pure ⟨Code.quiet_builtin _ (by decide +kernel), codeAny_builtin entry_list_iadd' ?_⟩))
  show wpAny _ _ (Builtin.List.listExtendWith (.ref s.heap.objs.size) (.ref l) (.ref s.heap.objs.size)) _ _ { s with heap := s.heap.push (seqObj "list" #[] 0) }
  unfold Builtin.List.listExtendWith
  have ho' : (s.heap.push (seqObj "list" #[] 0)).get? l = some o := Heap.get?_push_of_some _ ho
  refine wpAny_bind (wpAny_typeOf (T := "tuple") ⟨o, ho', hc⟩ ?_)
  have ht : (Value.type "tuple" == Value.type "tuple") = true := by rfl
  rw [if_pos (by rw [ht]; simp)]
  refine wpAny_bind (listItems_at ho' hd ?_)
  refine wpAny_bind (listItems_at (xs := #[]) (n := 0) (Heap.get?_push_size _ rfl) rfl ?_)
  rw [if_neg (by simp)]
  refine wpAny_bind (listUpdate_at (xs := #[]) (n := 0) (Heap.get?_push_size _ rfl) rfl ?_ (Nat.zero_le _) (by show (#[] ++ vs.toArray).size ≤ sizeLine + 1; simp only [Array.size_append, List.size_toArray, List.length_nil]; omega))
  refine wpAny_pure ?_
  show wpAny (model prog w) A (do
      let o ← load s.heap.objs.size
      match o.data with
      | .seq xs _ => pure xs.toList
      | _ => unsupported "internal:collect") Q E { s with heap := (s.heap.push (seqObj "list" #[] 0)).update s.heap.objs.size (Obj.mapSeq (· ++ vs.toArray)) }
  refine wpAny_bind (wpAny_load (get?_update_seq (Heap.get?_push_size _ rfl) _) ?_)
  show wpAny _ _ (pure ((#[] : Array Value) ++ vs.toArray).toList) Q E _
  rw [show ((#[] : Array Value) ++ vs.toArray).toList = vs by simp]
  exact wpAny_pure h
theorem sorted_of_tup {l : Addr} {vs : List Value} {kw : List (Str × Value)} {Q : Value → Shared → Prop} (hl : s.heap.IsTuple l vs.toArray) (hL : vs.length ≤ sizeLine) (ha1 : argsOk "sorted" ⟨[.ref l], kw⟩) (ha2 : ∀ x, argsOk "list.sort" ⟨[.ref x], kw⟩)
    (body : ∀ E' : Value → Shared → Prop, wpAny (model prog w) A.in1.in1 (Builtin.«list.sort» ⟨[.ref (s.heap.objs.size + 1)], kw⟩) (fun f s' => f = .done (.ret .none) ∧ Q (.ref (s.heap.objs.size + 1)) s') E' { s with heap := copyHeap s.heap vs }) :
    wpAny (model prog w) A (call (.builtin "sorted") [.ref l] kw) Q E s := by
  refine call_function_entry_kw kind_sorted plain_sorted entry_sorted ha1 ?_
  unfold Builtin.«sorted»
  refine wpAny_bind (m := checkCount "sorted" 1 1 _) (wpAny_pure ?_)
  refine wpAny_bind (collect_tuple hl ?_ hL)
  refine wpAny_bind (wpAny_newList ?_ hL)
  have hsz : ((s.heap.push (seqObj "list" #[] 0)).update s.heap.objs.size (Obj.mapSeq (· ++ vs.toArray))).objs.size = s.heap.objs.size + 1 := by
    rw [Heap.size_update, size_push']
  show wpAny _ _ _ _ _ { s with heap := copyHeap s.heap vs }
  rw [hsz]
  refine wpAny_bind (wpAny_holding (wpAny_call_entry_kw slot_list_sort ⟨_, copyHeap_at s.heap vs, rfl⟩ entry_list_sort ?body (ha2 _)))
  case body =>
    show wpAny (model prog w) A.in1.in1 (Builtin.«list.sort» ⟨[.ref (s.heap.objs.size + 1)], kw⟩) _ _ _
    refine wpAny_mono (body _) (fun f s' hf => ?_) fun _ _ e => e
    obtain ⟨rfl, hq⟩ := hf
    exact ⟨_, rfl, wpAny_pure ⟨_, rfl, hq⟩⟩
variable {β : Type} {vs : List Value} {bs : List β} {enc : β → PyData} {R : Value → β → Prop}
theorem sorted_tup_data {l : Addr} {Q : Value → Shared → Prop} (hl : s.heap.IsTuple l vs.toArray) (e : EachIs R vs bs) (er : EachIs (fun v b => ∃ as, Reads s.heap v (enc b) as) vs bs) (hal : AllAlike (bs.map enc)) (hk : Sortable (bs.map enc)) (hL : bs.length ≤ sizeLine)
    (hu : ∀ b, b ∈ bs → A.units + 2 + (enc b).depth < cLine) (h : ∀ out, out.length = bs.length → EachIs R out (bs.mergeSort (dataLe false enc)) → Q (.ref (s.heap.objs.size + 1)) { s with heap := sortedAll s.heap vs (List.toArray out) }) :
    wpAny (model prog w) A (call (.builtin "sorted") [.ref l]) Q E s := by
  have er' : EachIs (fun v b => ∃ as, Reads (sortingHeap (copyHeap s.heap vs) (s.heap.objs.size + 1) vs) v (enc b) as) vs bs := er.mono fun _ _ ⟨as, r⟩ => ⟨as, PyProof.Rows.Reads.keeps (fun _ _ => sorting_copy_old) r⟩
  have hL' : vs.length ≤ sizeLine := by rw [e.length]; exact hL
  exact sorted_of_tup hl hL' (args_sorted1 _) (fun _ => args_list_sort _) fun _ => list_sort_vals (s := { s with heap := copyHeap s.heap vs }) (copyHeap_at s.heap vs)
    (SortsAt.data (s := { s with heap := sortingHeap (copyHeap s.heap vs) (s.heap.objs.size + 1) vs }) (each_map (R := fun v d => ∃ as, Reads (sortingHeap (copyHeap s.heap vs) (s.heap.objs.size + 1) vs) v d as) enc er') hal hk (bound_map hu)) hL' ⟨rfl, h _ (by rw [sortVals_length false rfl]; exact e.length) (sortVals_data false e er' hal)⟩
theorem sorted_tup_key {l : Addr} {f : Value} {kw : List (Str × Value)} {b : Bool} {Q : Value → Shared → Prop} (k : β → PyData) (hl : s.heap.IsTuple l vs.toArray) (e : EachIs R vs bs) (hal : AllAlike (bs.map k)) (hk : Sortable (bs.map k)) (hL : bs.length ≤ sizeLine)
    (hu : ∀ x, x ∈ bs → A.units + 2 + (k x).depth < cLine) (ha1 : argsOk "sorted" ⟨[.ref l], kw⟩) (ha2 : ∀ x, argsOk "list.sort" ⟨[.ref x], kw⟩) (ht : ∀ x, Builtin.«list.sort» ⟨[.ref x], kw⟩ = ksk_tree x f b)
    (turn : ∀ (v : Value) (x : β), R v x → x ∈ bs → ∀ (h : Heap) (tk : Nat), (∀ b o, s.heap.get? b = some o → h.get? b = some o) →
      wpAny (model prog w) A.in1.in1 (call f [v]) (KeyPure (k x) { s with heap := h, toks := tk }) (fun _ _ => False) { s with heap := h, toks := tk })
    (h : ∀ out c h' tk, (∀ b o, s.heap.get? b = some o → h'.get? b = some o) → s.heap.get? (s.heap.objs.size + 1) = none → h'.get? (s.heap.objs.size + 1) = some (seqObj "list" (List.toArray out) c) → out.length = bs.length → EachIs R out (bs.mergeSort (dataLe b k)) →
      Q (.ref (s.heap.objs.size + 1)) { s with heap := h', toks := tk }) :
    wpAny (model prog w) A (call (.builtin "sorted") [.ref l] kw) Q E s := by
  have fresh : s.heap.get? (s.heap.objs.size + 1) = none := Heap.get?_none_of_le (Nat.le_succ _)
  have up : ∀ {g : Heap}, KeepsBut (s.heap.objs.size + 1) (copyHeap s.heap vs) g → ∀ b o, s.heap.get? b = some o → g.get? b = some o := fun {g} kp b o q =>
    kp b o (Nat.ne_of_lt (Nat.lt_succ_of_lt (Heap.lt_size q))) (copyHeap_old q)
  refine sorted_of_tup hl (by rw [e.length]; exact hL) ha1 ha2 fun E' => ?_
  rw [ht]
  refine keyH_tree (kz := bs.map k) (s := { s with heap := copyHeap s.heap vs }) (copyHeap_at s.heap vs) (by rw [List.length_map]; exact e.length.symm) (by rw [e.length]; exact hL) hal hk (bound_map (A := A.in1.in1) hu)
    (keyH_turns (s := { s with heap := copyHeap s.heap vs }) e fun v x hR hx h tk kp => turn v x hR hx h tk (up kp)) fun h' tk out c kp hD ko => ⟨rfl, ?_⟩
  exact h out c h' tk (up kp) fresh hD ((ko.length (by rw [List.length_map]; exact e.length.symm)).trans e.length) (keyedOut_each k ko e)
end
/-! by values -/
section
variable {X : Cx}
theorem each_of {R : V → Value → Prop} : ∀ {xs : List V} {us : List Value}, Paired R xs us → ∀ {β : Type} {bs : List (V × β)}, xs = bs.map Prod.fst → EachIs (fun v b => R b.1 v) us bs
  | _, _, .nil, _, [], _ => .nil
  | _, _, .nil, _, _ :: _, e => by cases e
  | _, _, .cons _ _, _, [], e => by cases e
  | _, _, .cons r t, _, b :: bs, e => by
    rw [List.map_cons] at e
    obtain ⟨e1, e2⟩ := List.cons.inj e
    subst e1
    exact .cons r (each_of t e2)
theorem vals_of_each {β : Type} : ∀ {us : List Value} {bs : List (V × β)}, EachIs (fun v b => RelV b.1 v) us bs → Vals (bs.map Prod.fst) us
  | _, _, .nil => .nil
  | _, _, .cons h t => .cons h (vals_of_each t)
theorem each_and {α β : Type} {R S : α → β → Prop} : ∀ {us : List α} {bs : List β}, EachIs R us bs → (∀ u b, R u b → b ∈ bs → S u b) → EachIs S us bs
  | _, _, .nil, _ => .nil
  | _, _, .cons h t, f => .cons (f _ _ h (by simp)) (each_and t fun u b r m => f u b r (by simp [m]))
/-- sorted(xs), xs a list of lists of ints -/
def rSortedLI (K : PySem.W.Frag) : List V → Hp → VK → Prop := fun vs H Q => ∃ (a : Addr) (bs : List (V × List Int)), vs = [.ref a] ∧ SqL K H a (bs.map Prod.fst) ∧ bs.length ≤ 1000 ∧ (∀ b ∈ bs, ∃ t, b.1 = .ref t ∧ SqL K H t (b.2.map V.int)) ∧
  ∀ (zs : List (V × List Int)) (p : Addr), zs.Perm bs → zs.Pairwise (fun x y => x.2 ≤ y.2) → H p = none → Q (.ref p) (upd H p (.lst (zs.map Prod.fst)))
theorem cr_sortedLI (hu : X.A.units + 64 < cLine) : CallR X (.builtin "sorted") (rSortedLI X.K) := by
  intro pins s σ H vs us Q I r h
  obtain ⟨a, bs, rfl, hs, hl, hb, q⟩ := h
  obtain ⟨its, rv, pl, hz⟩ := I.list hs
  rw [Vals.ref1 r]
  have e := each_of rv rfl
  have sml : ∀ n, n ≤ 1000 → n ≤ sizeLine := fun n h => Nat.le_of_lt (Nat.lt_of_le_of_lt h (by decide))
  refine sorted_data (enc := fun b : V × List Int => .list (b.2.map .int)) pl.isList e (each_and e fun u b ru hm => ?_) (AllAlike.of fun b b' => by rw [alike]; exact alike_ints _ _) (Sortable.others fun b => ⟨by simp, by simp⟩) (sml _ hl) (fun b _ => ?_) fun out lo eo => ?_
  · obtain ⟨t, et, St⟩ := hb b hm
    rw [et] at ru
    obtain ⟨as, rd⟩ := Dp.reads I (.list (b.2.map .int)) (.ref t) u (.lst St (dp_ints _)) ru
    exact ⟨as, rd⟩
  · have := depth_ints b.2
    simp only [PyData.depth]
    omega
  obtain ⟨ep, he'⟩ := PyProof.Rows.sortedAll_at s.heap its out.toArray
  rw [dataLe_rows (fun b : V × List Int => b.2)] at eo
  have pm := List.mergeSort_perm bs (fun p q : V × List Int => decide (p.2 ≤ q.2))
  have pw := List.pairwise_mergeSort (le := fun p q : V × List Int => decide (p.2 ≤ q.2)) (fun a b c h1 h2 => decide_eq_true (List.le_trans (of_decide_eq_true h1) (of_decide_eq_true h2)))
    (fun a b => by
      rcases List.le_total a.2 b.2 with h | h
      · simp [h]
      · simp [h]) bs
  have hlen : ((bs.mergeSort fun p q => decide (p.2 ≤ q.2)).map Prod.fst).length ≤ sizeLine := by
    rw [List.length_map, pm.length_eq]
    exact sml _ hl
  exact ⟨.ref _, upd H (s.heap.objs.size + 1) (.lst ((bs.mergeSort fun p q => decide (p.2 ≤ q.2)).map Prod.fst)), I.laid (t' := s.toks) (fun _ _ => PyProof.Rows.sortedAll_old) (Nat.le_succ _) ⟨hlen, out, ep, vals_of_each eo, he'⟩, rfl,
    q _ _ pm (pw.imp fun h => of_decide_eq_true h) (I.hok.fresh (Nat.le_succ _))⟩
/-- sorted(t), t a tuple of ints -/
def rSortedIT (K : PySem.W.Frag) : List V → Hp → VK → Prop := fun vs H Q => ∃ (a : Addr) (ns : List Int), vs = [.ref a] ∧ SqT K H a (ns.map V.int) ∧ ns.length ≤ 1000 ∧
  ∀ (zs : List Int) (p : Addr), zs.Perm ns → zs.Pairwise (· ≤ ·) → H p = none → Q (.ref p) (upd H p (.lst (zs.map V.int)))
theorem each_ints : ∀ {us : List Value} {ns : List Int}, Vals (ns.map V.int) us → EachIs (fun v n => RelV (.int n) v) us ns
  | _, [], r => by
    cases r
    exact .nil
  | _, n :: ns, r => by
    cases r with
    | cons h t => exact .cons h (each_ints t)
theorem vals_each_ints : ∀ {us : List Value} {ns : List Int}, EachIs (fun v n => RelV (.int n) v) us ns → Vals (ns.map V.int) us
  | _, _, .nil => .nil
  | _, _, .cons h t => .cons h (vals_each_ints t)
theorem cr_sortedIT (hu : X.A.units + 64 < cLine) : CallR X (.builtin "sorted") (rSortedIT X.K) := by
  intro pins s σ H vs us Q I r h
  obtain ⟨a, ns, rfl, hs, hl, q⟩ := h
  obtain ⟨its, rv, pl, hz⟩ := I.tuple hs
  rw [Vals.ref1 r]
  have e := each_ints rv
  have sml : ∀ n, n ≤ 1000 → n ≤ sizeLine := fun n h => Nat.le_of_lt (Nat.lt_of_le_of_lt h (by decide))
  refine sorted_tup_data (enc := fun n : Int => .int n) pl e (each_and e fun u b ru hm => ?_) (AllAlike.of fun b b' => by simp [alike]) (Sortable.others fun b => ⟨by simp, by simp⟩) (sml _ hl) (fun b _ => ?_) fun out lo eo => ?_
  · obtain ⟨t, rfl⟩ := ru
    exact ⟨_, Reads.int b t⟩
  · simp only [PyData.depth]
    omega
  obtain ⟨ep, he'⟩ := PyProof.Rows.sortedAll_at s.heap its out.toArray
  rw [dataLe_int (fun b : Int => b)] at eo
  have pm := List.mergeSort_perm ns (fun p q : Int => decide (p ≤ q))
  have pw := List.pairwise_mergeSort (le := fun p q : Int => decide (p ≤ q)) (fun a b c h1 h2 => decide_eq_true (Int.le_trans (of_decide_eq_true h1) (of_decide_eq_true h2)))
    (fun a b => by
      rcases Int.le_total a b with h | h
      · simp [h]
      · simp [h]) ns
  have hlen : ((ns.mergeSort fun p q => decide (p ≤ q)).map V.int).length ≤ sizeLine := by
    rw [List.length_map, pm.length_eq]
    exact sml _ hl
  exact ⟨.ref _, upd H (s.heap.objs.size + 1) (.lst ((ns.mergeSort fun p q => decide (p ≤ q)).map V.int)), I.laid (t' := s.toks) (fun _ _ => PyProof.Rows.sortedAll_old) (Nat.le_succ _) ⟨hlen, out, ep, vals_each_ints eo, he'⟩, rfl,
    q _ _ pm (pw.imp fun h => of_decide_eq_true h) (I.hok.fresh (Nat.le_succ _))⟩
/-- sorted(t, key=len), t a tuple of tuples -/
def rSortLen (K : PySem.W.Frag) : List V → Hp → VK → Prop := fun vs H Q => ∃ (β : Type) (n : β → Nat) (a : Addr) (bs : List (V × β)), vs = [.ref a] ∧ SqT K H a (bs.map Prod.fst) ∧ bs.length ≤ 1000 ∧ (∀ b ∈ bs, ∃ t ys, b.1 = .ref t ∧ SqT K H t ys ∧ ys.length = n b.2) ∧
  ∀ (zs : List (V × β)) (p : Addr), zs.Perm bs → zs.Pairwise (fun x y => n x.2 ≤ n y.2) → H p = none → Q (.ref p) (upd H p (.lst (zs.map Prod.fst)))
theorem run_sortLen (hu : X.A.units + 64 < cLine) {pins : List (Addr × Obj)} {s : Shared} {σ : L2.St} {H : Hp} {vs : List V} {us : List Value} {Q : VK} (I : Inv X pins σ H s) (r : Vals vs us) (h : rSortLen X.K vs H Q) :
    wpAny (model X.prog X.w) X.A (call (.builtin "sorted") us [(Str.ofString "key", .builtin "len")]) (EP X pins σ Q) X.xe s := by
  obtain ⟨β, n, a, bs, rfl, hs, hl, hb, q⟩ := h
  obtain ⟨its, rv, pl, hz⟩ := I.tuple hs
  rw [Vals.ref1 r]
  have e := each_of rv rfl
  have sml : ∀ n, n ≤ 1000 → n ≤ sizeLine := fun n h => Nat.le_of_lt (Nat.lt_of_le_of_lt h (by decide))
  refine sorted_tup_key (b := false) (fun b : V × β => .int (n b.2 : Int)) pl e (AllAlike.of fun b b' => by simp [alike]) (Sortable.others fun b => ⟨by simp, by simp⟩) (sml _ hl) (fun b _ => ?_) (ksk_s1 _ _) (fun _ => ksk_l1 _ _) (fun _ => ksk_t4 _ _) (fun v x rx hx h tk kp => ?_) fun out c h' tk kp fr hD lo eo => ?_
  · simp only [PyData.depth]
    omega
  · obtain ⟨t, ys, et, St, el⟩ := hb x hx
    rw [et] at rx
    cases rx
    obtain ⟨its2, rv2, p2, hz2⟩ := I.tuple St
    have hlen := rv2.length
    have p3 : h.IsTuple t its2.toArray := by
      obtain ⟨o, ho, hc, hd⟩ := p2
      exact ⟨o, kp _ _ ho, hc, hd⟩
    have hn := line63
    refine len_tuple (s := { s with heap := h, toks := tk }) p3 (by simp only [List.size_toArray] <;> omega) ⟨h, tk + 1 + 1, rfl, fun b o e => e, ?_⟩
    rw [List.size_toArray, ← hlen, el]
    exact Reads.int _ _
  rw [dataLe_int (fun b : V × β => (n b.2 : Int))] at eo
  have pm := List.mergeSort_perm bs (fun p q : V × β => decide ((n p.2 : Int) ≤ (n q.2 : Int)))
  have pw := List.pairwise_mergeSort (le := fun p q : V × β => decide ((n p.2 : Int) ≤ (n q.2 : Int))) (fun a b c h1 h2 => decide_eq_true (Int.le_trans (of_decide_eq_true h1) (of_decide_eq_true h2)))
    (fun a b => by
      rcases Int.le_total (n a.2 : Int) (n b.2 : Int) with h | h
      · simp [h]
      · simp [h]) bs
  have hlen : ((bs.mergeSort fun p q => decide ((n p.2 : Int) ≤ (n q.2 : Int))).map Prod.fst).length ≤ sizeLine := by
    rw [List.length_map, pm.length_eq]
    exact sml _ hl
  exact ⟨.ref _, upd H (s.heap.objs.size + 1) (.lst ((bs.mergeSort fun p q => decide ((n p.2 : Int) ≤ (n q.2 : Int))).map Prod.fst)), I.laid (t' := tk) kp (Nat.le_succ _) ⟨hlen, out, c, vals_of_each eo, hD⟩, rfl,
    q _ _ pm (pw.imp fun h => by have := of_decide_eq_true h; omega) (I.hok.fresh (Nat.le_succ _))⟩
theorem pe_sortLen {e : Expr} {t : TA} {p p2 kpos pos : Pos} (hu : X.A.units + 64 < cLine) (hg : Gl X "sorted") (hm : X.mg "sorted" = none) (hg2 : Gl X "len") (hm2 : X.mg "len" = none) (ha : PA X [e] t)
    (he : backTo pos (starEach [e] X.env) = (false, eval e X.env) :: backTo pos (starEach [] X.env) := by rfl) (hpl : (backTo pos (starEach [e] X.env)).any (·.1) = false := by rfl)
    (hall : (backToKw pos (keywordEach [⟨some (Str.ofString "key"), .Name "len" p2, kpos⟩] X.env)).all (·.1.isSome) = true := by rfl) (hnone : (backToKw pos (keywordEach [⟨some (Str.ofString "key"), .Name "len" p2, kpos⟩] X.env)).any (·.1.isNone) = false := by rfl)
    (hks : (backToKw pos (keywordEach [⟨some (Str.ofString "key"), .Name "len" p2, kpos⟩] X.env)).filterMap (·.1) = [Str.ofString "key"] := by rfl) :
    PE X (.Call (.Name "sorted" p) [e] [⟨some (Str.ofString "key"), .Name "len" p2, kpos⟩] pos) (tCB (rSortLen X.K) t) := by
  refine ⟨fun pins s σ H Q I h => ?_⟩
  refine wpAny_Call_Name_kw (ld_blt I hg hm (u := .builtin "sorted") (by decide +kernel) ?_ (by decide) (by decide))
  refine PyProof.Rows.callWith_kw (thn (ha.run pos pins s σ H _ I h) fun us s1 ⟨vs, H1, I1, r1, q1⟩ => ?_) he hpl hall hnone
  show wpAny _ _ (evalAll [do let v ← eval (.Name "len" p2) X.env; standAt pos; pure v]) _ _ s1
  refine wpAny_evalAll_cons (wpAny_bind (ld_blt I1 hg2 hm2 (u := .builtin "len") (by decide +kernel) (wpAny_bind (wpAny_standAt (wpAny_pure (wpAny_evalAll_nil ?_)))) (by decide) (by decide)))
  rw [hks]
  exact run_sortLen hu I1 r1 q1
end
end MM
namespace MM
open PySem PySem.Spec PyProof.Rows L2
section
variable {K : PySem.W.Frag} {a b : Addr} {xs ys : List V} {g : TG} {tb : TS} {D : Ends} {σ : L2.St} {H : Hp}
theorem for_zipM (Pv : Nat → L2.St → Hp → Prop) (h0 : Pv 0 σ H) (hq : ∀ i σ H, Pv i σ H → SqL K H a xs ∧ SqL K H b ys)
    (hs : ∀ (i : Nat) (x y : V) (T : Addr) (σ : L2.St) (H : Hp), xs[i]? = some x → ys[i]? = some y → Pv i σ H → H T = none → g (.ref T) σ (upd H T (.tup [x, y])) fun σ2 H2 => tb { D with nx := Pv (i + 1), ct := Pv (i + 1), bk := D.nx } σ2 H2)
    (hd : ∀ σ H, Pv (min xs.length ys.length) σ H → D.nx σ H) : ForW (Itz K a b) g tb D σ H := by
  refine ⟨fun i m σ H => m = min xs.length ys.length - i ∧ i ≤ min xs.length ys.length ∧ Pv i σ H, ⟨_, rfl, Nat.zero_le _, h0⟩, ?_⟩
  rintro i m σ H ⟨rfl, le, p⟩
  obtain ⟨q1, q2⟩ := hq i σ H p
  by_cases lt : i < min xs.length ys.length
  · have e1 : xs[i]? = some (xs[i]'(by omega)) := List.getElem?_eq_getElem (by omega)
    have e2 : ys[i]? = some (ys[i]'(by omega)) := List.getElem?_eq_getElem (by omega)
    refine .inr ⟨⟨xs, ys, _, _, q1, q2, e1, e2⟩, Pv (i + 1), fun σ' H' p' => ⟨_, by omega, rfl, lt, p'⟩, ?_⟩
    rintro v H' ⟨T, x, y, rfl, free, rfl, h1, h2⟩
    exact hs i x y T σ H (h1 xs q1) (h2 ys q2) p free
  · have e : i = min xs.length ys.length := by omega
    subst e
    exact .inl ⟨⟨xs, ys, q1, q2, by omega⟩, hd σ H p⟩
end
end MM

set_option Elab.async false
set_option maxRecDepth 100000
set_option maxHeartbeats 2000000
set_option linter.all false
/-! own exceptions over any built-in base, whose own __init__ asks the base's and keeps one field -/
namespace ME
open PySem PySem.Spec PyProof.Rows L2

/-- the class at C stands over B, by own classes between, or none -/
structure Over (K : PySem.W.Frag) (C : Addr) (B newId initId : String) (top : List Value) : Prop where
  base : ExcBaseFacts B newId initId top
  put : StoreFacts B top "object.__setattr__" "object"
  row : ∃ nm q N bs bm sn sub ab col dd k0 k1 k2 k3 k5,
    K.lookup C = some (excClassObj nm q C N bs bm true sn sub ab col dd k0 k1 k2 k3 k5 newId) ∧ PySem.W.excTail top bm = true
  hook : PySem.W.findIn K (.ref C) "__setattr__" = some (some (.builtin "object.__setattr__"))
  isE : PySem.W.subIn K (.ref C) (.type "BaseException") = some true
  meta_ : PySem.W.typeIn K (.ref C) = some (.type "type")
  keep : PySem.W.keepIn K (.ref C) = true

section
open Builtin Builtin.ObjectAttr
variable {prog : Program} {w : World} {A : Around} {R : Result → Shared → Prop} {hp : Heap} {g : Array GenState} {d : Drawn}
  {t : Nat} {os : OsState} {K : PySem.W.Frag} {C x : Addr} {B newId initId : String} {top : List Value}
/-- the first field of an exception lays its dict -/
theorem first_put {name : Str} {tk : Tok} {v : Value} {fv : Array Value} (T : Over K C B newId initId top) (X : K.In hp)
    (hx : hp.get? x = some { cls := .ref C, data := .fields fv })
    (ha : PySem.W.findIn K (.ref C) name = some none)
    (hq : ∀ h' tk' dx, (∀ b o, b ≠ x → hp.get? b = some o → h'.get? b = some o) → hp.objs.size ≤ dx → dx ≠ x →
      h'.get? x = some { cls := .ref C, dict := some dx, data := .fields fv } →
      h'.Ns1 dx (fun y => if y = name then some v else none) → R (.ok (.ret .none)) ⟨h', g, d, tk', os⟩) :
    codeAny (model prog w) A (.call (.builtin "object.__setattr__") ⟨[.ref x, .str name tk, v], []⟩) R ⟨hp, g, d, t, os⟩ := by
  obtain ⟨nm, q, N, bs, bm, sn, sub, ab, col, dd, k0, k1, k2, k3, k5, hC, hbm⟩ := T.row
  have hcd : PySem.W.clsIn K C = some { name := nm, bases := bs, mro := .ref C :: bm, ns := N, qualname := q, hasDict := true, slotNames := sn, subclasses := sub, abstract := ab, collection := col, hasDel := false } := by
    unfold PySem.W.clsIn
    rw [hC] <;> rfl
  have hall : PySem.W.excTail top (.ref C :: bm) = true := hbm
  have inst : PySem.W.InstAt hp x { cls := .ref C, data := .fields fv } C none := ⟨hx, rfl, rfl, trivial⟩
  have S := PySem.F.store_object
  have far : x ≠ hp.objs.size := Nat.ne_of_lt (Heap.lt_size hx)
  have obj : (Value.ref C :: bm).contains (.type "object") = true :=
    (PySem.W.excTail_contains "object" _ hall).trans T.put.hasOwner
  have mro : PySem.W.mroIn K C (.type "object") = some true := by
    unfold PySem.W.mroIn
    rw [hcd, Option.bind_some]
    simp only [List.isEmpty_cons, obj, Bool.false_eq_true, if_false]
  have isObj : PySem.W.Looks (model prog w) hp (isInstance (.ref x) (.type "object")) true :=
    inst.type.andThen (PySem.W.looks_mroIn X mro)
  have rd : PySem.W.Looks (model prog w) hp (classData C) _ := PySem.W.looks_clsIn X hcd
  have rm : PySem.W.Looks (model prog w) hp (mroOf (.ref C)) (.ref C :: bm) := rd.andThen .now
  have none_ : PySem.W.Looks (model prog w) hp (storeTaker? none) none := .now
  refine codeAny_call_builtin S.slot.plain S.entry (@PySem.W.check_slot (model prog w) _ _ ⟨hp, g, d, t, os⟩
    "object.__setattr__" "object" "__setattr__" (.ref x) [.str name tk, v] [] _ S.kind S.split isObj (S.args (.ref x) (.str name tk) v) ?_)
  rw [PySem.W.osa_eq, refuse_eq]
  refine wpAny_bind (wpAny_bind (inst.type.at (wpAny_bind (rm.at ?_))))
  rw [PySem.W.excTail_pass _ (T.put.passes _) _ hall]
  refine wpAny_pure (wpAny_bind (inst.type.at (wpAny_bind ((PySem.W.looks_findIn X ha).at (wpAny_bind (none_.at ?_))))))
  show wpAny _ _ (storeInOwnDict (.ref x) (.ref C) (.str name tk) name v false) _ _ _
  unfold storeInOwnDict ownDictForStores
  repeat (first
    | with_reducible refine PySem.HandSPX.store_in_new ?_ ?_
    | with_reducible refine wpAny_loadPart_at hx ?_
    | with_reducible refine rd.at ?_
    | wp_step)
  · refine ⟨_, #[], _, (Heap.get?_update_ne _ _ _ _ far.symm).trans (Heap.get?_push_at rfl rfl), rfl, ?_, fun _ => rfl⟩
    intro e he
    simp at he
  · intro h' tk' hn' hs
    have there : (hp.push { cls := .type "dict", data := .dict #[] }).get? x = some { cls := .ref C, data := .fields fv } :=
      Heap.get?_push_of_some _ hx
    refine hq h' tk' hp.objs.size ?_ (Nat.le_refl _) far.symm ((hs.2 x far).trans (Heap.get?_update_self _ there rfl)) hn'
    intro b o hb ho
    have nb : b ≠ hp.objs.size := Nat.ne_of_lt (Heap.lt_size ho)
    rw [hs.2 b nb, Heap.get?_update_ne _ _ _ _ hb]
    exact Heap.get?_push_of_some _ ho
end

section
variable {X : Cx} {pins : List (Addr × Obj)} {σ : L2.St} {H : Hp} {s : Shared} {a C : Addr} {f : Str} {y : V} {u : Value}
  {E : Value → Shared → Prop} {A : Around} {B newId initId : String} {top : List Value}
/-- self.f = y, the first field -/
theorem put_new {Q : Unit → Shared → Prop} (T : Over X.K C B newId initId top) (I : Inv X pins σ H s)
    (ea : H a = some (exo a C none)) (no : PySem.W.findIn X.K (.ref C) f = some none) (ry : RelV y u)
    (h : ∀ dx s', H dx = none → dx ≠ a →
      Inv X pins σ (upd (upd H dx (exd dx [(f, y)])) a (exo a C (some dx))) s' → Q () s') :
    wpAny (model X.prog X.w) A (setAttr (.ref a) f u) Q E s := by
  obtain ⟨t1, ho⟩ := exo_at I.hok ea
  obtain ⟨hp, g, d, t, os⟩ := s
  refine PySem.W.set_plain I.kIn (od := none) ⟨ho, rfl, rfl, trivial⟩ T.hook ?_
  refine first_put T I.kIn ho no (fun h' tk' dx kp ge ne hx hn => ?_)
  have free : H dx = none := I.hok.fresh ge
  have old : ∀ {b : Addr} {o : Obj}, hp.get? b = some o → b ≠ dx := by
    intro b o hb
    exact Nat.ne_of_lt (Nat.lt_of_lt_of_le (Heap.lt_size hb) ge)
  have nota : ∀ {b : Addr}, H b = none → b ≠ a := by
    rintro b hb rfl
    rw [ea] at hb
    cases hb
  have same : ∀ {b : Addr} {v : HO}, H b = some v → b ≠ a →
      upd (upd H dx (exd dx [(f, y)])) a (exo a C (some dx)) b = some v := by
    intro b v hb ba
    rw [upd_ne ba, upd_ne (ne_of_none hb free)]
    exact hb
  have un : Un X.fs [] H (upd (upd H dx (exd dx [(f, y)])) a (exo a C (some dx))) hp h' := by
    constructor
    case keep => exact fun b o hb hn _ _ => kp b o (nota hn) hb
    case slot => exact fun b o hb hn _ _ => ⟨o.slots, kp b o (nota hn) hb⟩
    case free =>
      intro b o hb hn _
      rw [upd_ne (nota hn), upd_ne (old hb)]
      exact hn
    case there =>
      intro b o hb _
      by_cases ba : b = a
      · exact ⟨_, ba ▸ hx⟩
      · exact ⟨o, kp b o ba hb⟩
    case tups => exact fun b xs hb => same hb (at_ne ea hb exo_tup)
    case frzs => exact fun b o v hb => same hb (at_ne ea hb exo_frz)
    case tbls =>
      intro b ps hb
      refine ⟨#[], ?_⟩
      rw [same hb (at_ne ea hb exo_tbl)]
      simp
  refine h dx _ free ne (I.un (t' := tk') un fun b o hb => ?_)
  by_cases ba : b = a
  · subst ba
    rw [upd_same] at hb
    cases hb
    exact exo_ok hx
  rw [upd_ne ba] at hb
  by_cases bd : b = dx
  · subst bd
    rw [upd_same] at hb
    cases hb
    exact exd_ok hn (relO_put (fs := []) ry fun _ => True.intro)
  rw [upd_ne bd] at hb
  refine (I.hok b o hb).stay ?_ (fun c hc => same hc (at_ne ea hc exo_own)) (fun c xs hc => same hc (at_ne ea hc exo_tup))
  rintro c v hc z
  refine kp c v ?_ z
  rcases hc with rfl | hc
  · exact ba
  · exact at_ne ea hc exo_own

/-- B.__init__(self, ..) -/
theorem ask_ok {us : List Value} {Q : Value → Shared → Prop} (T : Over X.K C B newId initId top) (I : Inv X pins σ H s)
    (ea : H a = some (exo a C none)) (hl : us.length ≤ sizeLine) (h : ∀ s', Inv X pins σ H s' → Q .none s') :
    wpAny (model X.prog X.w) A (call (.builtin initId) (.ref a :: us)) Q E s := by
  obtain ⟨nm, q, N, bs, bm, sn, sub, ab, col, dd, k0, k1, k2, k3, k5, hC, hbm⟩ := T.row
  obtain ⟨t1, ho⟩ := exo_at I.hok ea
  obtain ⟨hp, g, d, t, os⟩ := s
  refine wpAny_call (PySem.HandSPX.init_base T.base (fun Y => PySem.W.excTail_contains Y bm hbm) (I.kIn _ _ hC) ho hl ?_)
  intro h' t2 kp hx
  have J := I.write (t' := t) (x := a) (e := a) (o := exo a C none) (by rw [ea]; exact True.intro) (.inl rfl) kp ⟨_, hx⟩ (exo_ok hx)
  have same : upd H a (exo a C none) = H := by
    funext b
    by_cases hb : b = a
    · subst hb
      rw [upd_same, ea]
    · rw [upd_ne hb]
  rw [same] at J
  exact h _ J
end

/-- B.__init__(self, ..): nothing of it is told -/
def tAsk (K : PySem.W.Frag) (B newId initId : String) (top : List Value) (ta : TA) : TE := fun σ H Q =>
  ta σ H fun vs H1 => ∃ (a C : Addr) (ws : List V), vs = .ref a :: ws ∧ ws.length ≤ 1000 ∧ Over K C B newId initId top ∧
    H1 a = some (exo a C none) ∧ Q .non H1
/-- self.f = e, the first field -/
def tPut (K : PySem.W.Frag) (B newId initId : String) (top : List Value) (f : Str) (to te : TE) : TS := fun D σ H =>
  te σ H fun y H1 => to σ H1 fun x H2 => ∃ a C : Addr, x = .ref a ∧ Over K C B newId initId top ∧
    PySem.W.findIn K (.ref C) f = some none ∧ H2 a = some (exo a C none) ∧
    ∀ dx, H2 dx = none → dx ≠ a → D.nx σ (upd (upd H2 dx (exd dx [(f, y)])) a (exo a C (some dx)))
section
variable {X : Cx} {o e : Expr} {es : List Expr} {to te : TE} {ta : TA} {f : Str} {p p' p1 p2 pos : Pos}
  {B newId initId : String} {top : List Value}
theorem ps_put (ho : PE X o to) (he : PE X e te)
    (hs : swapsWith e (some (.Attribute o f p')) pos.line X.env = pure false := by rfl) :
    PS X (.Assign [.Attribute o f p'] e pos) (tPut X.K B newId initId top f to te) := by
  constructor
  intro pins s σ H D I h
  refine plainObj_wpAny_Assign_Attribute (thn (he.run pins s σ H _ I h) ?_) hs
  rintro v s1 ⟨y, H1, I1, r1, q1⟩
  refine thn (ho.run pins s1 σ H1 _ I1 q1) ?_
  rintro u s2 ⟨x, H2, I2, r2, a, C, rfl, T, no, ea, q⟩
  obtain rfl : u = Value.ref a := r2
  exact put_new T I2 ea no r1 fun dx s' n ne J => ⟨σ, _, J, q dx n ne⟩
theorem pe_ask {pl : Sem Bool} (hg : Gl X B) (hm : X.mg B = none) (hv : bootBuiltins B = some (.type B))
    (ty : typeOf (.type B) = pure (.type "type")) (st : Manifest.isStub B = false)
    (vV : PySem.W.findCls X.K (.type B) (.type "type") "__init__" = some (.val (.builtin initId)))
    (hi : PySem.W.handedIn (.builtin initId) = true)
    (ha : PA X (e :: es) ta) (hn : (B : Str) ≠ "__name__" := by decide) (hdb : ((B : Str) == ("__debug__" : Str)) = false := by decide)
    (hc : eval (.Call (.Attribute (.Name B p1) "__init__" p2) (e :: es) [] pos) X.env = (do
      let ov ← eval (.Name B p1) X.env
      standAt p2.atName
      let (f, first) ← holding [ov] (getMethod ov "__init__" pl)
      callWith pos f first (backTo pos (starEach (e :: es) X.env)) (backToKw pos (keywordEach [] X.env))) := by rfl)
    (he : starEach (e :: es) X.env = (false, eval e X.env) :: starEach es X.env := by rfl)
    (hpl : (backTo pos (starEach es X.env)).any (·.1) = false := by rfl) :
    PE X (.Call (.Attribute (.Name B p1) "__init__" p2) (e :: es) [] pos) (tAsk X.K B newId initId top ta) := by
  constructor
  intro pins s σ H Q I h
  refine PySem.W.methodCall_KW (ld_blt I hg hm hv ?_ hn hdb) hc
  obtain ⟨m, fr⟩ := I.fr
  refine PySem.W.method_type fr I.ok.mod.kin ty st vV hi ?_
  show wpAny _ _ (callWith pos (Value.builtin initId) [] (backTo pos (starEach (e :: es) X.env)) []) _ _ _
  refine PyProof.Rows.callWith_method1 (thn (ha.run pos pins _ σ H _ (I.tok _) h) ?_) he hpl
  rintro us s1 ⟨vs, H1, I1, r1, a, C, ws, rfl, hl, T, ea, q⟩
  cases r1 with
  | @cons _ u0 _ ur ra rw' =>
    obtain rfl : u0 = Value.ref a := ra
    refine ask_ok T I1 ea ?_ fun s' J => ⟨.non, H1, J, rfl, q⟩
    rw [← Paired.length rw', sizeLine_eq]
    omega
end

/-- what __init__ of such a class keeps: one field, called f -/
def spKeep (C : Addr) (f : Str) : Sp := fun vs H Q _ => ∃ (a : Addr) (y : V), vs = [.ref a, y] ∧ H a = some (exo a C none) ∧
  ∀ dx, H dx = none → dx ≠ a → Q .non (upd (upd H dx (exd dx [(f, y)])) a (exo a C (some dx)))
/-- C(e) is made: its class, its dict, which keeps e under f -/
def tMade (C : Addr) (f : Str) (ta : TA) : L2.St → Hp → XK → Prop := fun σ H Q => ta σ H fun vs H1 => ∃ y, vs = [y] ∧
  ∀ d, H1 d = none → Q (.ref C) (some d) (upd H1 d (.xd [(f, y)]))
section
variable {X : Cx} {e : Expr} {es : List Expr} {ta : TA} {p pos : Pos} {CX : CXT} {x f : Str} {C fI : Addr} {k : Nat} {fd : FuncData}
  {ps : List Str} {B newId initId : String} {top : List Value}
theorem room_make {A : Around} (r : MM.Rm (k + 1) A) (C : Addr) (us : List Value) (kw : List (Str × Value)) :
    MM.Rm k (A.under (.builtin "type.__call__" ⟨.ref C :: us, kw⟩)) := ⟨r.room.make C us kw, r.still⟩
theorem pmk_made (T : Over X.K C B newId initId top) (iC : PySem.W.findIn X.K (.ref C) "__init__" = some (some (.ref fI)))
    (tI : PySem.W.typeIn X.K (.ref fI) = some (.type "function"))
    (F : MM.FnG X.prog X.w X.K X.mg X.base CX k fI fd ps (spKeep C f)) (hr : MM.Rm (k + 1) X.A) (hb : Binds X.K fd ps [])
    (hx : Passes CX X (fun _ _ _ => False)) (hm : X.mg x = some (.ref C)) (ha : PA X (e :: es) ta) (hg : Gl X x := by rfl)
    (hdb : (x == ("__debug__" : Str)) = false := by decide)
    (he : starEach (e :: es) X.env = (false, eval e X.env) :: starEach es X.env := by rfl)
    (hpl : (backTo pos (starEach es X.env)).any (·.1) = false := by rfl) :
    PMk X (.Call (.Name x p) (e :: es) [] pos) (tMade C f ta) := by
  intro pins s σ H Q I h
  obtain ⟨nm, q, N, bs, bm, sn, sub, ab, col, dd, k0, k1, k2, k3, k5, hC, hbm⟩ := T.row
  refine wpAny_Call_Name_kw (ld_glob I hg hm ?_ hdb)
  refine PySem.W.callWith_K (h₀ := X.base) I.ok.mod.kin T.keep (thn (ha.run pos pins s σ H _ I h) ?_) he hpl
  rintro us s1 ⟨vs, H1, I1, r1, y, rfl, q1⟩
  refine ⟨I1.kIn, ?_⟩
  obtain ⟨u, rfl, ry⟩ := vals1 r1
  show wpAny _ _ (call (.ref C) [u]) _ _ _
  obtain ⟨hp, g, dr, tk, os⟩ := s1
  have size : hp.objs.size ≤ hp.objs.size + 1 := Nat.le_succ _
  have new : H1 (hp.objs.size + 1) = none := I1.hok.fresh size
  have kept : ∀ b o, hp.get? b = some o →
      ((hp.push (PySem.W.kdv_tup [u])).push (PySem.HandSPX.excO C hp.objs.size)).get? b = some o := by
    intro b o z
    exact Heap.get?_push_of_some _ (Heap.get?_push_of_some _ z)
  have lies : ((hp.push (PySem.W.kdv_tup [u])).push (PySem.HandSPX.excO C hp.objs.size)).get? (hp.objs.size + 1) =
      some (PySem.HandSPX.excO C hp.objs.size) := by heap_get
  have I2 := I1.laid (t' := tk) (a := hp.objs.size + 1) (o := exo (hp.objs.size + 1) C none) kept size (exo_ok lies)
  have r2 : Vals [V.ref (hp.objs.size + 1), y] [Value.ref (hp.objs.size + 1), u] := .cons rfl (.cons ry .nil)
  have sp : spKeep C f [V.ref (hp.objs.size + 1), y] (upd H1 (hp.objs.size + 1) (exo (hp.objs.size + 1) C none))
      (fun v H2 => v = .non ∧ ∃ d, H1 d = none ∧ d ≠ hp.objs.size + 1 ∧
        H2 = upd (upd (upd H1 (hp.objs.size + 1) (exo (hp.objs.size + 1) C none)) d (exd d [(f, y)])) (hp.objs.size + 1) (exo (hp.objs.size + 1) C (some d)))
      (fun _ _ _ => False) := by
    refine ⟨_, y, rfl, upd_same, fun dx n ne => ⟨rfl, dx, ?_, ne, rfl⟩⟩
    rw [upd_ne ne] at n
    exact n
  have len := F.arity sp
  have bd := hb ⟨_, g, dr, tk, os⟩ [Value.ref (hp.objs.size + 1), u] I2.kIn (by rw [List.append_nil]; exact len)
  rw [List.append_nil] at bd
  refine wpAny_call (PySem.HandSPX.call_own T.base (fun Y => PySem.W.excTail_contains Y bm hbm) (I1.kIn _ _ hC)
    (PySem.W.looks_findIn I1.kIn iC) (fun self => PySem.W.bind_fn I1.kIn self tI) (by show 1 ≤ sizeLine; rw [sizeLine_eq]; omega)
    (codeAny_mono (F.runs (out := X.stack) (room_make hr C [u] []) (I2.env0.make C [u] []) bd r2 sp) ?_))
  intro r s' hq
  cases r with
  | error er => exact hx pins σ _ _ er s' I2 hq
  | ok fl =>
    cases fl with
    | next => exact hq.elim
    | brk => exact hq.elim
    | cont => exact hq.elim
    | ret u' =>
      obtain ⟨v, H2, os2, bare2, un2, hok2, rv, rfl, d, nd, ne, rfl⟩ := hq
      obtain ⟨h2, g2, d2, t2, os'⟩ := s'
      have ed : (upd (upd (upd H1 (hp.objs.size + 1) (exo (hp.objs.size + 1) C none)) d (exd d [(f, y)])) (hp.objs.size + 1)
          (exo (hp.objs.size + 1) C (some d))) d = some (exd d [(f, y)]) := by
        rw [upd_ne ne, upd_same]
      refine ⟨rv, mk_end (raises_own T.isE T.meta_) I1 size kept un2 hok2 os2 bare2 upd_same ed nd ?_⟩
      have same : upd (del (upd (upd (upd H1 (hp.objs.size + 1) (exo (hp.objs.size + 1) C none)) d (exd d [(f, y)])) (hp.objs.size + 1)
          (exo (hp.objs.size + 1) C (some d))) (hp.objs.size + 1)) d (.xd [(f, y)]) = upd H1 d (.xd [(f, y)]) := by
        funext b
        by_cases b1 : b = d
        · subst b1
          rw [upd_same, upd_same]
        rw [upd_ne b1, upd_ne b1]
        by_cases b2 : b = hp.objs.size + 1
        · subst b2
          rw [del_same, new]
        rw [del_ne b2, upd_ne b2, upd_ne b1, upd_ne b2]
      rw [same]
      exact q1 d nd
end
end ME

set_option Elab.async false
set_option maxRecDepth 100000
set_option maxHeartbeats 2000000
set_option linter.all false
/-! try with several clauses, with and without a name -/
namespace ME
open PySem PySem.Spec PyProof.Rows L2
/-- where slot i is emptied behind the suite -/
def Ends.drop (D : Ends) (i : Nat) : Ends where
  nx := fun σ H => D.nx (σ.set i none) H
  rt := D.rt
  bk := fun σ H => D.bk (σ.set i none) H
  ct := fun σ H => D.ct (σ.set i none) H
/-- clauses, one after the other; W: what is wished of the exception that the body lets out -/
inductive Cl (X : Cx) (Wout : WX) : List ExceptHandler → (Ends → WX) → Prop where
  | nil : Cl X Wout [] (fun _ => Wout)
  | no {x : Str} {c : Value} {ts : Addr → Value → Option Addr → TS} {b₀ : Stmt} {suite : List Stmt} {np pos : Pos}
      {hds : List ExceptHandler} {W : Ends → WX} (hc : Names X x c)
      (su : ∀ (a : Addr) (oe : Obj) (cls : Value) (d : Option Addr) (pn : List (Addr × Obj)), Zc cls d oe →
        (∃ vs, oe.data = .fields vs) → PSs (X.suite a ((a, oe) :: pn)) (b₀ :: suite) (ts a cls d))
      (r : Cl X Wout hds W) :
      Cl X Wout (.ExceptHandler (some (.Name x np)) none (b₀ :: suite) pos :: hds) (fun D cls d σ H =>
        ∃ b, PySem.W.exmOne X.K cls c = some b ∧ (b = true → ∀ a, H a = none → ts a cls d D σ H) ∧ (b = false → W D cls d σ H))
  | as_ {x n : Str} {i : Nat} {c : Value} {ts : Addr → Value → Option Addr → TS} {b₀ : Stmt} {suite : List Stmt} {np pos : Pos}
      {hds : List ExceptHandler} {W : Ends → WX} (hc : Names X x c) (hN : X.N.Nodup) (hi : X.N[i]? = some n)
      (hl : X.env.kindOf n = some .local)
      (su : ∀ (a : Addr) (oe : Obj) (cls : Value) (d : Option Addr) (pn : List (Addr × Obj)), Zc cls d oe →
        (∃ vs, oe.data = .fields vs) → PSs (X.suite a ((a, oe) :: pn)) (b₀ :: suite) (ts a cls d))
      (r : Cl X Wout hds W) :
      Cl X Wout (.ExceptHandler (some (.Name x np)) (some n) (b₀ :: suite) pos :: hds) (fun D cls d σ H =>
        ∃ b, PySem.W.exmOne X.K cls c = some b ∧ (b = true → ∀ a, H a = none → σ.length = X.N.length → ts a cls d (Ends.drop D i) (σ.set i (some (.ref a))) H) ∧
          (b = false → W D cls d σ H))

/-- the exception at a has landed in X: h is the heap now, sI the state without it -/
structure Lands (X : Cx) (pins : List (Addr × Obj)) (σ : L2.St) (H : Hp) (cls : Value) (d : Option Addr) (a : Addr) (B : Heap)
    (sI s : Shared) (h : Heap) : Prop where
  inv : Inv X pins σ H sI
  ground : ∀ b o, sI.heap.get? b = some o → b ∉ frs X.stack → B.get? b = some o
  up : sI.heap.UpToSlots h
  fly : HandSPX.FlyingZ B (X.env :: X.outer) a (Zc cls d) h
  none_ : H a = none
  os : s.os = sI.os
  bare : AllBare s.gens
section
variable {X : Cx} {pins : List (Addr × Obj)} {σ : L2.St} {H : Hp} {cls : Value} {d : Option Addr} {a : Addr} {B : Heap}
  {sI s : Shared} {h : Heap} {D : Ends} {Wout : WX} {hds : List ExceptHandler} {W : Ends → WX}
theorem Lands.here (L : Lands X pins σ H cls d a B sI s h) : Inv X pins σ H { s with heap := h } :=
  L.inv.landed (s' := { s with heap := h }) L.ground L.fly.1 L.up L.os L.bare
theorem Lands.later (L : Lands X pins σ H cls d a B sI s h) {h' : Heap} (f : HandSPX.FlyingZ B (X.env :: X.outer) a (Zc cls d) h')
    (u : h.UpToSlots h') : Lands X pins σ H cls d a B sI s h' :=
  { L with up := L.up.trans u, fly := f }
/-- the exception as it lies, in the suite's context -/
theorem Lands.suite (L : Lands X pins σ H cls d a B sI s h) (hf : X.env.frame = some X.env.locals) :
    ∃ (oe : Obj) (vs : Array Value), h.get? a = some oe ∧ Zc cls d oe ∧ oe.data = .fields vs ∧
      Inv (X.suite a ((a, oe) :: (X.pn ++ pins))) [] σ H { s with heap := h } := by
  obtain ⟨oe, vs, he, hz, hd⟩ := L.fly.there
  have away : a ∉ frs (X.env :: X.outer) := by
    intro hm
    obtain ⟨_, o', e', no⟩ := L.fly.2.2.1.mem hm
    rw [he] at e'
    cases e'
    exact no _ hd
  have nL : a ≠ X.env.locals := fun z => away (List.mem_filterMap.mpr ⟨X.env, List.mem_cons_self, by rw [hf, z]⟩)
  have nF : a ∉ X.fs := by
    intro hm
    obtain ⟨e, he', q⟩ := List.mem_filterMap.mp hm
    exact away (List.mem_filterMap.mpr ⟨e, List.mem_cons_of_mem _ he', q⟩)
  exact ⟨oe, vs, he, hz, hd, L.here.suite he hd L.none_ nL nF⟩
/-- a suite's end -/
theorem Lands.out {oe : Obj} {f : Flow} {s6 : Shared} (ok : X.Ok)
    (q : SP (X.suite a ((a, oe) :: (X.pn ++ pins))) [] D f s6) : SP X pins D f s6 := by
  cases f with
  | ret u =>
    obtain ⟨v, σ6, H6, S, r, z⟩ := q
    exact ⟨v, σ6, H6, S.unsuite ok, r, z⟩
  | next =>
    obtain ⟨σ6, H6, S, z⟩ := q
    exact ⟨σ6, H6, S.unsuite ok, z⟩
  | brk =>
    obtain ⟨σ6, H6, S, z⟩ := q
    exact ⟨σ6, H6, S.unsuite ok, z⟩
  | cont =>
    obtain ⟨σ6, H6, S, z⟩ := q
    exact ⟨σ6, H6, S.unsuite ok, z⟩
theorem handled (hs : X.stack = X.env :: X.outer) (hf : X.env.frame = some X.env.locals) (tk : Takes X Wout)
    (C : Cl X Wout hds W) : ∀ {h : Heap}, Lands X pins σ H cls d a B sI s h → W D cls d σ H →
      wpAny (model X.prog X.w) X.A (handleBy (.ref a) X.env hds) (SP X pins D) X.xe { s with heap := h } := by
  induction C with
  | nil =>
    intro h L w
    have L0 := L
    refine wpAny_handleBy_nil ?_
    obtain ⟨k1, k2, k3, oe, vs, T, oT, ts', he, hz, hd, h1, hr⟩ := L.fly
    unfold PySem.passOn
    refine wpAny_bind (wpAny_field he hd h1 ?_)
    rw [if_neg (show ¬ ((Value.ref T == Value.none) = true) from by simp)]
    have on : wpAny (model X.prog X.w) X.A (setFlight (.ref a) X.env.frame)
        (fun _ s4 => wpAny (model X.prog X.w) X.A (throw (.ref a) : Sem Flow) (SP X pins D) X.xe s4) X.xe { s with heap := h } := by
      rw [hf]
      refine HandSPX.setFlight_upZ L0.fly fun h4 hh4 up4 => wpAny_throw (tk _ _ ?_)
      exact ⟨a, B, sI, pins, σ, H, cls, d, rfl, L0.inv, L0.ground, L0.up.trans up4, .inr (.inr (by rw [hs]; exact hh4)), L0.none_, L0.os,
        L0.bare, w⟩
    first
      | exact wpAny_bind (wpAny_pure (wpAny_bind on))
      | exact wpAny_bind on
  | @no x c ts b₀ suite np pos hds' W' hc su r ih =>
    intro h L w
    obtain ⟨b, e, yes, no⟩ := w
    obtain ⟨oe, vs, he, hz, hd, S⟩ := L.suite hf
    refine wpAny_handleBy_cons (codeAny_handlers_test ?_) (by intro q; cases q)
    have ty : PySem.W.Looks (model X.prog X.w) h (typeOf (.ref a)) cls := fun A Q E s k q =>
      wpAny_typeOf_ref (k _ _ he) (by rw [hz.1]; exact q)
    have ask := PySem.W.exm_one (M := model X.prog X.w) L.here.kIn ty e
    have name : ∀ {Q : Value → Shared → Prop} {E : Value → Shared → Prop}, Q c { s with heap := h } →
        wpAny (model X.prog X.w) (X.A.mark (some (.ref a))) (eval (.Name x np) X.env) Q E { s with heap := h } := by
      intro Q E q
      obtain ⟨hg, hdb, hm | ⟨hm, hv, hn⟩⟩ := hc
      · exact ld_glob (X := X.suite a ((a, oe) :: (X.pn ++ pins))) S hg hm q hdb
      · exact ld_blt (X := X.suite a ((a, oe) :: (X.pn ++ pins))) S hg hm hv q hn hdb
    refine name (ask.here ?_)
    cases b with
    | false => exact ih L (no rfl)
    | true =>
      refine codeAny_handlers_suite (HandSPX.lands_againZ L.fly fun h4 f4 u4 => ?_)
      obtain ⟨oe4, vs4, _, hz4, hd4, S4⟩ := (L.later f4 u4).suite hf
      refine wpAny_mono ((su a oe4 cls d (X.pn ++ pins) hz4 ⟨_, hd4⟩).run [] _ _ H _ S4 (yes rfl a L.none_))
        (fun f s6 q => Lands.out L.inv.ok q) (fun _ _ z => False.elim z)
  | @as_ x n i c ts b₀ suite np pos hds' W' hc hN hi hl su r ih =>
    intro h L w
    obtain ⟨b, e, yes, no⟩ := w
    obtain ⟨oe, vs, he, hz, hd, S⟩ := L.suite hf
    refine wpAny_handleBy_cons (codeAny_handlers_test ?_) (by intro q; cases q)
    have ty : PySem.W.Looks (model X.prog X.w) h (typeOf (.ref a)) cls := fun A Q E s k q =>
      wpAny_typeOf_ref (k _ _ he) (by rw [hz.1]; exact q)
    have ask := PySem.W.exm_one (M := model X.prog X.w) L.here.kIn ty e
    have name : ∀ {Q : Value → Shared → Prop} {E : Value → Shared → Prop}, Q c { s with heap := h } →
        wpAny (model X.prog X.w) (X.A.mark (some (.ref a))) (eval (.Name x np) X.env) Q E { s with heap := h } := by
      intro Q E q
      obtain ⟨hg, hdb, hm | ⟨hm, hv, hn⟩⟩ := hc
      · exact ld_glob (X := X.suite a ((a, oe) :: (X.pn ++ pins))) S hg hm q hdb
      · exact ld_blt (X := X.suite a ((a, oe) :: (X.pn ++ pins))) S hg hm hv q hn hdb
    refine name (ask.here ?_)
    cases b with
    | false => exact ih L (no rfl)
    | true =>
      refine codeAny_handlers_suite_as (HandSPX.lands_againZ L.fly fun h4 f4 u4 => ?_)
      obtain ⟨oe4, vs4, _, hz4, hd4, S4⟩ := (L.later f4 u4).suite hf
      refine store_ok (X := X.suite a ((a, oe4) :: (X.pn ++ pins))) (v := .ref a) S4 hN hi (.inl hl) rfl (fun s5 S5 => ?_) (.inr hl)
      refine wpAny_mono ((su a oe4 cls d (X.pn ++ pins) hz4 ⟨_, hd4⟩).run [] s5 _ H _ S5 (yes rfl a L.none_ L.inv.len))
        (fun f s6 q => ?_) (fun _ _ z => False.elim z)
      have q' := Lands.out L.inv.ok q
      cases f with
      | ret u =>
        obtain ⟨v, σ6, H6, J, r6, z⟩ := q'
        exact gone_ok J hN hi hl fun s7 J7 => ⟨v, _, H6, J7, r6, z⟩
      | next =>
        obtain ⟨σ6, H6, J, z⟩ := q'
        exact gone_ok J hN hi hl fun s7 J7 => ⟨_, H6, J7, z⟩
      | brk =>
        obtain ⟨σ6, H6, J, z⟩ := q'
        exact gone_ok J hN hi hl fun s7 J7 => ⟨_, H6, J7, z⟩
      | cont =>
        obtain ⟨σ6, H6, J, z⟩ := q'
        exact gone_ok J hN hi hl fun s7 J7 => ⟨_, H6, J7, z⟩
/-- try: body / the clauses -/
theorem ps_try_cl {body : List Stmt} {h₀ : ExceptHandler} {pos : Pos} {tb : WX → TS} (hs : X.stack = X.env :: X.outer)
    (hf : X.env.frame = some X.env.locals) (tk : Takes X Wout) (C : Cl X Wout (h₀ :: hds) W)
    (hb : ∀ (W : WX) (pn : List (Addr × Obj)) (xe : Value → Shared → Prop), Takes (X.tr pn xe) W →
      PassesOwn (model X.prog X.w) X.A X.env xe → PSs (X.tr pn xe) body (tb W)) :
    PS X (.Try body (h₀ :: hds) [] [] pos) (fun D σ H => tb (W D) D σ H) := by
  constructor
  intro pins s σ H D I h
  have ok := I.ok
  have fr : X.A.frames = some (X.env :: X.outer) := by rw [ok.frames, hs]
  refine wpAny_Try_except ?_
  refine wpAny_mono ((hb (W D) (X.pn ++ pins) (fun e s₁ => wpAny (model X.prog X.w) X.A (noteFrame e X.env)
    (fun _ s₂ => wpAny (model X.prog X.w) X.A (setFlight e none) (fun _ s₃ =>
      wpAny (model X.prog X.w) X.A (handleBy e X.env (h₀ :: hds)) (SP X pins D) X.xe s₃) X.xe s₂) X.xe s₁) ?_
    PassesOwn.looking).run [] s σ H D (I.toTry _) h) ?_ (fun e s1 he => he)
  · rintro u s' ⟨a, B, sI, pins', σ', H', cls, d, rfl, J', nb, up, sky, na, os, ag, w⟩
    have J : Inv X pins σ' H' sI := J'.ofTry ok
    have sky' : Sky B (X.env :: X.outer) a (Zc cls d) X.env.locals s'.heap := by
      rw [← hs]
      exact sky
    show wpAny (model X.prog X.w) X.A (noteFrame (.ref a) X.env) _ _ _
    refine Sky.land Zc.steady fr hf sky' fun h3 f3 u3 => ?_
    exact handled hs hf tk C ⟨J, nb, up.trans u3, f3, na, os, ag⟩ w
  · intro f s1 q
    cases f with
    | ret u =>
      obtain ⟨v, σ', H', J, r, z⟩ := q
      exact ⟨v, σ', H', J.ofTry ok, r, z⟩
    | next =>
      obtain ⟨σ', H', J, z⟩ := q
      exact wpAny_execs_nil ⟨σ', H', J.ofTry ok, z⟩
    | brk =>
      obtain ⟨σ', H', J, z⟩ := q
      exact ⟨σ', H', J.ofTry ok, z⟩
    | cont =>
      obtain ⟨σ', H', J, z⟩ := q
      exact ⟨σ', H', J.ofTry ok, z⟩
end
end ME

set_option Elab.async false
set_option maxRecDepth 100000
set_option maxHeartbeats 2000000
set_option linter.all false
/-! calls that may raise; a lambda handed to a def, where nothing is being shown; a def in a variable -/
namespace ME
open PySem PySem.Spec PyProof.Rows L2 LamX MM

section
variable {X : Cx} {CX : CXT} {k : Nat} {ps : List Str} {sp : Sp} {E : L2.St → XK} {x a : Str} {p pos : Pos} {e : Expr} {es : List Expr} {t : TA}
/-- f(e, ..), f a def of the text that may raise -/
def tDS (sp : Sp) (E : L2.St → XK) (t : TA) : TE := fun σ H Q => t σ H fun vs H1 => sp vs H1 Q (E σ)
theorem call_gS {f : Addr} {fd : FuncData} {pins : List (Addr × Obj)} {σ : L2.St} {H : Hp} {s : Shared} {Q : VK} {us : List Value} {vs : List V}
    (F : FnG X.prog X.w X.K X.mg X.base CX k f fd ps sp) (hr : Rm k X.A) (hb : Binds X.K fd ps []) (hx : PassesAt CX X σ (E σ))
    (I : Inv X pins σ H s) (r : Vals vs us) (h : sp vs H Q (E σ)) :
    wpAny (model X.prog X.w) X.A (call (.ref f) us) (EP X pins σ Q) X.xe s := by
  have nl : (us ++ []).length = ps.length := by
    rw [List.append_nil, ← r.length]
    exact F.arity h
  have bd := hb s us I.kIn nl
  rw [List.append_nil] at bd
  refine wpAny_call (codeAny_mono (F.runs hr I.env0 bd r h) ?_)
  intro res s' hq
  cases res with
  | error e => exact hx pins H s e s' I hq
  | ok fl =>
    cases fl with
    | ret u => exact I.after hq
    | next => exact hq.elim
    | brk => exact hq.elim
    | cont => exact hq.elim
theorem pe_dS (D : Def X.prog X.w X.K X.mg X.base CX k x ps sp) (hr : Rm k X.A) (hx : ∀ σ, PassesAt CX X σ (E σ)) (ha : PA X (e :: es) t)
    (hg : Gl X x := by rfl) (hdb : (x == ("__debug__" : Str)) = false := by decide)
    (he : starEach (e :: es) X.env = (false, eval e X.env) :: starEach es X.env := by rfl)
    (hpl : (backTo pos (starEach es X.env)).any (·.1) = false := by rfl) : PE X (.Call (.Name x p) (e :: es) [] pos) (tDS sp E t) := by
  obtain ⟨f, fd, F, hm, hk, hb, _⟩ := D
  constructor
  intro pins s σ H Q I h
  refine wpAny_Call_Name_kw (ld_glob I hg hm ?_ hdb)
  refine PySem.W.callWith_K (h₀ := X.base) I.ok.mod.kin hk ?_ he hpl
  exact thn (ha.run pos pins s σ H _ I h) fun us s1 ⟨vs, H1, I1, r, q⟩ => ⟨I1.kIn, call_gS F hr hb (hx σ) I1 r q⟩
/-- a(e, ..), a a variable that holds a def of the text: G tells which, and what it promises -/
def tVia (K : PySem.W.Frag) (i : Nat) (G : Addr → Sp → Prop) (E : L2.St → XK) (t : TA) : TE := fun σ H Q =>
  ∃ f sp, σ[i]? = some (some (.ref f)) ∧ G f sp ∧ t σ H fun vs H1 => sp vs H1 Q (E σ)
theorem pe_via {i : Nat} {G : Addr → Sp → Prop}
    (hG : ∀ f sp, G f sp → PySem.W.keepIn X.K (.ref f) = true ∧ ∃ fd k ps, FnG X.prog X.w X.K X.mg X.base CX k f fd ps sp ∧ Rm k X.A ∧ Binds X.K fd ps [])
    (hx : ∀ σ, PassesAt CX X σ (E σ)) (ha : PA X (e :: es) t) (hN : X.N[i]? = some a) (hv : Vis X.env.scope a)
    (hdb : (a == ("__debug__" : Str)) = false := by decide) (hcd : (a == ("__classdict__" : Str)) = false := by decide)
    (he : starEach (e :: es) X.env = (false, eval e X.env) :: starEach es X.env := by rfl)
    (hpl : (backTo pos (starEach es X.env)).any (·.1) = false := by rfl) :
    PE X (.Call (.Name a p) (e :: es) [] pos) (tVia X.K i G E t) := by
  constructor
  intro pins s σ H Q I h
  obtain ⟨f, sp, hs, g, h⟩ := h
  obtain ⟨hk, fd, k, ps, F, hr, hb⟩ := hG f sp g
  refine wpAny_Call_Name_kw (thn ((pe_var (pos := p) (i := i) hN hv hdb hcd).run pins s σ H (fun v H1 => v = .ref f ∧ H1 = H) I ⟨.ref f, hs, rfl, rfl⟩) ?_)
  rintro u s1 ⟨v, H1, I1, r1, rfl, rfl⟩
  obtain rfl : u = Value.ref f := r1
  refine PySem.W.callWith_K (h₀ := X.base) I1.ok.mod.kin hk ?_ he hpl
  exact thn (ha.run pos pins s1 σ H1 _ I1 h) fun us s2 ⟨vs, H2, I2, r, q⟩ => ⟨I2.kIn, call_gS F hr hb (hx σ) I2 r q⟩
end

section
variable {X : Cx} {pins : List (Addr × Obj)} {σ : L2.St} {H : Hp} {s : Shared}
/-- the def that got the lambda calls it -/
theorem act {Eg : XK} {CXg : CXT} {Ng : List Str} {qg : Str} {sg : Scope} {g f c' : Addr} {cdg pm ctv : Value} {params : Arguments}
    {body : Expr} {scope : Scope} {k i : Nat} {a : Str} {pn : List (Addr × Obj)} {xe : Value → Shared → Prop} {W : WX} {E : XK} {tb : TE}
    {p1 p2 : Pos} (I : Inv X pins σ H s) (L : LamS X.env.scope scope)
    (hf : s.heap.get? f = some (PySem.W.kla_obj "<lambda>" (X.env.qual ++ "<lambda>") params body scope (cloFrom X.env.cells scope.names []) pm c' ctv))
    (hfn : H f = none) (hfr : f ∉ frs X.stack)
    (hbind : bindArgs (PySem.W.kla_fn "<lambda>" (X.env.qual ++ "<lambda>") params body scope (cloFrom X.env.cells scope.names []) pm (.ref c') ctv) ⟨[], []⟩ = pure [])
    (tk : Takes ((cxOf CXg X.prog X.w X.K X.mg X.base Ng qg sg g cdg X.A X.stack s H Eg).tr pn xe) W)
    (hW : ∀ cls d σ' H', E cls d H' → W cls d σ' H') (hr : Rm (k + 1) (X.A.deeper (envOfC qg sg s.heap.objs.size g cdg)))
    (hbody : ∀ (A : Around) (outer : List Env) (s : Shared) (H : Hp), Rm k (A.deeper (lamEnv X scope s.heap.objs.size f c')) →
      PE (lamCx X A outer s H E scope f c') body tb)
    (hN : Ng[i]? = some a) (hv : Vis sg a) (hd : (a == ("__debug__" : Str)) = false := by decide)
    (hcd : (a == ("__classdict__" : Str)) = false := by decide) :
    PE ((cxOf CXg X.prog X.w X.K X.mg X.base Ng qg sg g cdg X.A X.stack s H Eg).tr pn xe) (.Call (.Name a p1) [] [] p2)
      (fun σZ HZ Q => σZ[i]? = some (some (.ref f)) ∧ HZ c' = some (CodeO c' (X.env.qual ++ "<lambda>")) ∧ tb σ HZ Q) := by
  constructor
  intro pinsZ sZ σZ HZ Q IZ h
  obtain ⟨hs, hc, ht⟩ := h
  refine wpAny_Call_Name_kw (thn ((pe_var (pos := p1) (i := i) hN hv hd hcd).run pinsZ sZ σZ HZ (fun v H1 => v = .ref f ∧ H1 = HZ) IZ ⟨.ref f, hs, rfl, rfl⟩) ?_)
  rintro u s1 ⟨v, H1, I1, r1, rfl, eH⟩
  rw [eH] at I1
  obtain rfl : u = Value.ref f := r1
  have there := I1.base.keep f _ hf hfn hfr (fun z => nomatch (show f ∈ ([] : List Addr) from z))
  refine PySem.W.callWith_F0 ⟨_, _, _, _, there⟩ ?_
  obtain ⟨⟨oc, vs, t, hoc, hdc, hvc⟩, _, _⟩ := I1.hok c' _ hc
  have run : codeAny (model X.prog X.w) (X.A.deeper (envOfC qg sg s.heap.objs.size g cdg)) (.call (.ref f) ⟨[], []⟩)
      (CR (L2.CX X.prog X.w) (envOfC qg sg s.heap.objs.size g cdg :: X.stack) X.prog X.w HZ s1 Q E) s1 := by
    refine PySem.W.kla_callFunE hr.room.depth there rfl L.co L.gen rfl ⟨c', oc, vs, t, rfl, hoc, hdc, hvc⟩ ?_
    rw [hbind]
    refine wpAny_pure (wpAny_newFunctionEnv (fun y hy => (L.own y hy).2) (fun y hy => absurd hy (by simp)) (fun h₁ hns hsb => ⟨I1.nolimit.fresh _ hsb, ?_⟩) L.kind)
    show codeAny _ _ (.expr body (lamEnv X scope s1.heap.objs.size f c')) _ _
    have kp : ∀ b o, s1.heap.get? b = some o → h₁.get? b = some o := by
      intro b o z
      exact hsb.extBut b o (Nat.ne_of_lt (Heap.lt_size z)) (Heap.get?_push_of_some _ z)
    have J := lam_start2 (E := E) (f := f) (c' := c') (tk := s1.toks + ([] : List (Str × Value)).length) I L I1.env0 hr.room.hd I1.base hns kp
    refine PySem.W.kla_codeExpr (wpAny_mono ((hbody _ _ s1 HZ hr.down).run [] _ _ HZ Q J ht) ?_ fun e s' hq => hq)
    rintro v s' ⟨w', H', J', rv, q⟩
    exact ⟨w', H', J'.os, J'.bare, J'.base, J'.hok, rv, q⟩
  refine wpAny_call (codeAny_mono run fun r s' hq => ?_)
  cases r with
  | error e => exact passes_call tk hW pinsZ σZ HZ s1 e s' I1 hq
  | ok fl =>
    cases fl with
    | ret u => exact I1.after hq
    | next => exact hq.elim
    | brk => exact hq.elim
    | cont => exact hq.elim
/-- x(lambda: body), x a def of the text -/
theorem pe_lam {T : List (Addr × Str)} {TT : (XK → Hp → VK → Prop) → Hp → VK → Prop} {x a : Str} {c P : Addr} {k : Nat} {st : Stmt}
    {Ng : List Str} {params : Arguments} {body : Expr} {scope : Scope} {t : XK → TE} {p lpos pos : Pos} (D : At X.K X.mg x st)
    (hb : ∀ (kV doc pm : Value) (an : Option Addr) (cd ct : Value) (us : List Value), us.length = [a].length →
      bindArgs (PySem.W.fnOf x x (defArgs st) (defBody st) (defScope st) .none kV doc pm an cd ct) ⟨us, []⟩ = pure ([a].zip us))
    (Sg : FnScope Ng [a] (defScope st)) (hNg : Ng[0]? = some a) (hva : Vis (defScope st) a)
    (hG : ∀ g cd, GivesTo X Ng x (defScope st) g cd (defBody st) a (X.env.qual ++ "<lambda>") TT)
    (TB : TabB X.base X.mg c P) (hcode : X.env.code = .ref c) (hmT : (P, X.env.qual ++ "<lambda>") ∈ T)
    (hu : ∀ p ∈ T, p.1 = P → p.2 = X.env.qual ++ "<lambda>") (hr : Rm (k + 2) X.A) (L : LamS X.env.scope scope)
    (hdef : defaultsOf params X.env = ([], []))
    (hbind : ∀ (q : Str) (cl : List (Str × Addr)) (pm cv ctv : Value), bindArgs (PySem.W.kla_fn "<lambda>" q params body scope cl pm cv ctv) ⟨[], []⟩ = pure [])
    (hbody : ∀ (A : Around) (outer : List Env) (s : Shared) (H : Hp) (E : XK) (f c' : Addr), Rm k (A.deeper (lamEnv X scope s.heap.objs.size f c')) →
      PE (lamCx X A outer s H E scope f c') body (t E))
    (hg : Gl X x := by rfl) (hdb : (x == ("__debug__" : Str)) = false := by decide) (hd : (a == ("__debug__" : Str)) = false := by decide)
    (hcd : (a == ("__classdict__" : Str)) = false := by decide) :
    PE X (.Call (.Name x p) [.Lambda params body scope lpos] [] pos) (tLam T TT t) := by
  obtain ⟨fd, F⟩ := D.fn
  have bnd := F.bindsN hb
  obtain ⟨oc, od, dV, kV, doc, pm, an, cdv, ct, osl, rfl, lk, hcg, _⟩ := F.ex
  constructor
  intro pins s σ H Q I h
  obtain ⟨hT, h⟩ := h
  refine wpAny_Call_Name_kw (ld_glob I hg D.glo ?_ hdb)
  refine PySem.W.callWith_K (h₀ := X.base) I.ok.mod.kin F.kp ?_ (by rfl) (by rfl)
  show wpAny _ _ (spliced ((false, eval (.Lambda params body scope lpos) X.env) :: backTo pos (starEach [] X.env))) _ _ s
  refine Calls.spliced_cons (lam_make2 I TB hcode hmT hu hT hdef (L.has I.ok) ?_)
  intro f c' pm' ctv H1 s' I1 eN T1 hf hfn hfr hco
  refine Calls.spliced_nil ⟨I1.kIn, ?_⟩
  have run : codeAny (model X.prog X.w) X.A (.call (.ref (He.ga X.K x)) ⟨[.ref f], []⟩) (CR C8.CX0 X.stack X.prog X.w H1 s' Q C8.E0) s' := by
    refine run_ofS (N := Ng) (ps := [a]) (us := [.ref f]) (vs := [.ref f]) lk hcg Sg (hr.le (Nat.le_refl _)).room I1.env0 (bnd s' [.ref f] I1.kIn rfl) (.cons rfl .nil) rfl fun _ => ?_
    obtain ⟨t', ht', hq'⟩ := hG _ _ f c' s' H1 Q (fun E H' Q' => t E σ H' Q')
      (fun W pn xe E p1 p2 tk hW => act (i := 0) I1 L hf hfn hfr (hbind _ _ _ _ _) tk hW hr.down (fun A outer s H hr2 => hbody A outer s H E f c' hr2) hNg hva hd hcd)
      hco (h H1 eN T1)
    exact ⟨t', ht'.nox, hq'⟩
  refine wpAny_call (codeAny_mono run fun r s2 hq => ?_)
  cases r with
  | error e => exact (show False from hq).elim
  | ok fl =>
    cases fl with
    | ret u => exact I1.after hq
    | next => exact hq.elim
    | brk => exact hq.elim
    | cont => exact hq.elim
end
end ME

set_option Elab.async false
set_option maxRecDepth 100000
set_option maxHeartbeats 2000000
set_option linter.all false
/-! the law's end where its text makes lambdas: the tables of their code objects are written -/
namespace ME
open PySem PySem.Spec PyProof.Rows L2 LamX MM

/-- the heap as it is told: the script, and empty tables -/
structure Told (cs : List (Addr × Addr)) (a : Addr) (ns : List Int) (K : PySem.W.Frag) (H : Hp) : Prop where
  tabs : ∀ p ∈ cs, H p.2 = some (.tbl #[])
  seq : SqL K H a (ns.map V.int)
  each : ∀ b, H b = none ∨ b ∈ cs.map (·.2) ∨ (b = a ∧ ∃ o xs, H b = some (.frz o (.lst xs)))
  out : H a ≠ none → K.lookup a = none
section
variable {P : Program} {w : World} {K : PySem.W.Frag} {mg mb : Str → Option Value} {CX : CXT} {k : Nat} {fa a : Addr}
  {fd : FuncData} {x : Str} {sp : Sp} {s : Shared} {vs : List Value} {ns : List Int} {cs : List (Addr × Addr)}
theorem tab_core {H : Hp} (KX : K.In s.heap) (hns : s.heap.Ns mainGlobals mg) (hb : s.heap.Ns builtinsNs mb)
    (hbb : ∀ y : Str, y ≠ "__name__" → mb y = bootBuiltins y) (nl : s.heap.NoLimit) (hg : s.gens = #[])
    (hT : ∀ p ∈ cs, s.heap.get? p.2 = some { cls := .none, data := .fields #[] }) (nT : ∀ p ∈ cs, K.lookup p.2 = none)
    (C : ∀ p ∈ cs, PySem.W.CodeHd s.heap p.1 p.2)
    (hbm : ∃ (bm : Addr) (ob : Obj), mg "__builtins__" = some (.ref bm) ∧ bm ≠ builtinsNs ∧ s.heap.get? bm = some ob ∧
      ob.cls = .type "module" ∧ ob.dict = some builtinsNs ∧ ob.data = .plain)
    (ha : s.heap.get? a = some { cls := .type "list", data := .seq vs.toArray }) (hr : Rm k callerA)
    (F : ∀ base : Heap, K.In base → base.Ns mainGlobals mg → (∀ p ∈ cs, TabB base mg p.1 p.2) → FnG P w K mg base CX k fa fd [x] sp)
    (hbind : ∀ (s : Shared) (u : Value), BindsTo s fd ⟨[u], []⟩ [(x, u)])
    (hsp : sp [.ref a] H (fun v _ => v = .bl true) fun _ _ _ => False)
    (hCX : ∀ e s', CX [] H s (fun _ _ _ => False) e s' → False) (T : Told cs a ns K H) (ok : HOk P w H s.heap) :
    codeAny (model P w) callerA (.call (.ref fa) ⟨[.ref a], []⟩) (LawEnd s) s := by
  have isTab : ∀ b, b ∈ cs.map (·.2) → ∃ p ∈ cs, b = p.2 := by
    intro b hb
    obtain ⟨p, hp, rfl⟩ := List.mem_map.mp hb
    exact ⟨p, hp, rfl⟩
  -- what is neither a list nor an empty record is not told
  have free : ∀ {b : Addr} {o : Obj}, s.heap.get? b = some o → (∀ y n, o.data ≠ .seq y n) → o.data ≠ .fields #[] → H b = none := by
    intro b o e n1 n2
    rcases T.each b with z | z | ⟨rfl, _⟩
    · exact z
    · obtain ⟨p, hp, rfl⟩ := isTab b z
      rw [hT p hp] at e
      cases e
      exact absurd rfl n2
    · rw [ha] at e
      cases e
      exact absurd rfl (n1 _ _)
  have dict : ∀ {b : Addr} {o : Obj} {es : Array DictEntry} {ep : Nat}, s.heap.get? b = some o → o.data = .dict es ep → H b = none := by
    intro b o es ep e d
    refine free e ?_ ?_
    · intro y n z
      rw [d] at z
      cases z
    · intro z
      rw [d] at z
      cases z
  have sees : ∀ {b : Addr} {m : Str → Option Value}, s.heap.Ns b m → (hidT s.heap H).Ns b m := by
    rintro b m ⟨o, es, ep, e, d, r⟩
    exact ⟨o, es, ep, hidT_get e (dict e d), d, r⟩
  have inB : K.In (hidT s.heap H) := by
    intro b o e
    refine hidT_get (KX b o e) ?_
    rcases T.each b with z | z | ⟨rfl, o', xs, z⟩
    · exact z
    · obtain ⟨p, hp, rfl⟩ := isTab b z
      rw [nT p hp] at e
      cases e
    · rw [T.out (by rw [z]; exact Option.some_ne_none _)] at e
      cases e
  have md : Mod K mg (hidT s.heap H) := by
    obtain ⟨mc, l1, l2⟩ := nl
    exact ⟨inB, sees hns, ⟨mb, sees hb, hbb⟩, ⟨mc, sees l1, l2⟩⟩
  have glob : ∀ {b : Addr} {o : Obj}, s.heap.get? b = some o → (∀ es ep, o.data ≠ .dict es ep) → b ≠ mainGlobals := by
    rintro b o e no rfl
    obtain ⟨o', es, ep, e', d, _⟩ := hns
    rw [e] at e'
    cases e'
    exact no _ _ d
  have TB : ∀ p ∈ cs, TabB (hidT s.heap H) mg p.1 p.2 := by
    intro p hp
    constructor
    · obtain ⟨o, us, file, tf, flags, tg, inF, text, tt, e1, r1, r2, r3, rest⟩ := C p hp
      refine ⟨o, us, file, tf, flags, tg, inF, text, tt, hidT_get e1 (free e1 ?_ ?_), r1, r2, r3, rest⟩
      · intro y n z
        rw [r2] at z
        cases z
      · intro z
        rw [r2] at z
        cases z
        simp at r3
    · obtain ⟨bm, ob, b1, b2, b3, b4, b5, b6⟩ := hbm
      have n1 : bm ≠ mainGlobals := by
        refine glob b3 ?_
        intro es ep z
        rw [b6] at z
        cases z
      have n2 : bm ≠ p.2 := by
        rintro rfl
        rw [hT p hp] at b3
        cases b3
        cases b6
      refine ⟨bm, ob, b1, b2, n1, n2, hidT_get b3 (free b3 ?_ ?_), b4, b5, b6⟩
      · intro y n z
        rw [b6] at z
        cases z
      · intro z
        rw [b6] at z
        cases z
    · have := glob (hT p hp) (by intro es ep z; cases z)
      exact fun z => this z.symm
  have e0 : Env0 P w K mg (hidT s.heap H) callerA [] s H := by
    refine ⟨rfl, md, fun b o e => of_hidT e, Nat.le_of_eq (hidT_size _ _), trivial, ?_, ok, .of_eq hg⟩
    intro b z
    cases z
  have vv : Vals [V.ref a] [Value.ref a] := .cons rfl .nil
  refine codeAny_mono ((F _ inB (sees hns) TB).runs (us := [.ref a]) hr e0 (hbind s (.ref a)) vv hsp) ?_
  intro r t h
  cases r with
  | error e => exact (hCX e t h).elim
  | ok fl =>
    cases fl with
    | next => exact h.elim
    | brk => exact h.elim
    | cont => exact h.elim
    | ret u =>
      obtain ⟨v, H', os, bare, un, ok', rv, q⟩ := h
      have q2 : v = .bl true := q
      subst q2
      have eu : u = Value.bool true := rv
      subst eu
      have grown : ∀ p ∈ cs, ∃ more : Array Value, t.heap.get? p.2 = some { cls := .none, data := .fields more } := by
        intro p hp
        obtain ⟨more, z⟩ := un.tbls p.2 #[] (T.tabs p hp)
        exact ⟨_, ok' p.2 _ z⟩
      have kept : ∀ b o, b ∉ cs.map (·.2) → s.heap.get? b = some o → t.heap.get? b = some o := by
        intro b o nb e
        rcases T.each b with z | z | ⟨rfl, o', xs, z⟩
        · exact un.keep b o e z (by intro z; cases z) (by intro z; cases z)
        · exact absurd z nb
        · have e1 := (ok b _ z).1
          have e2 := (ok' b _ (un.frzs b o' _ z)).1
          rw [e] at e1
          cases e1
          exact e2
      refine ⟨rfl, ⟨?_, ?_⟩, os, bare⟩
      · intro b o e
        by_cases hb : b ∈ cs.map (·.2)
        · obtain ⟨p, hp, rfl⟩ := isTab b hb
          obtain ⟨more, hm⟩ := grown p hp
          rw [hT p hp] at e
          cases e
          exact .inr (.inl ⟨((C p hp).tab (hT p hp)).isCodeTable, rfl, #[], more, rfl, by rw [Array.empty_append]; exact hm⟩)
        · exact .inl (kept b o hb e)
      · intro b o e
        by_cases hb : b ∈ cs.map (·.2)
        · obtain ⟨p, hp, rfl⟩ := isTab b hb
          obtain ⟨more, hm⟩ := grown p hp
          exact ⟨_, hm⟩
        · exact ⟨o, kept b o hb e⟩
theorem law_tab (KX : K.In s.heap) (hns : s.heap.Ns mainGlobals mg) (hb : s.heap.Ns builtinsNs mb)
    (hbb : ∀ y : Str, y ≠ "__name__" → mb y = bootBuiltins y) (nl : s.heap.NoLimit) (hg : s.gens = #[])
    (hT : ∀ p ∈ cs, s.heap.get? p.2 = some { cls := .none, data := .fields #[] }) (nT : ∀ p ∈ cs, K.lookup p.2 = none)
    (C : ∀ p ∈ cs, PySem.W.CodeHd s.heap p.1 p.2)
    (hbm : ∃ (bm : Addr) (ob : Obj), mg "__builtins__" = some (.ref bm) ∧ bm ≠ builtinsNs ∧ s.heap.get? bm = some ob ∧
      ob.cls = .type "module" ∧ ob.dict = some builtinsNs ∧ ob.data = .plain)
    (ha : s.heap.get? a = some { cls := .type "list", data := .seq vs.toArray }) (hi : IntsAre vs ns) (hl : ns.length ≤ sizeLine)
    (hr : Rm k callerA)
    (F : ∀ base : Heap, K.In base → base.Ns mainGlobals mg → (∀ p ∈ cs, TabB base mg p.1 p.2) → FnG P w K mg base CX k fa fd [x] sp)
    (hbind : ∀ (s : Shared) (u : Value), BindsTo s fd ⟨[u], []⟩ [(x, u)])
    (hsp : ∀ H : Hp, (∀ p ∈ cs, H p.2 = some (.tbl #[])) → SqL K H a (ns.map V.int) → sp [.ref a] H (fun v _ => v = .bl true) fun _ _ _ => False)
    (hCX : ∀ H e s', CX [] H s (fun _ _ _ => False) e s' → False) :
    codeAny (model P w) callerA (.call (.ref fa) ⟨[.ref a], []⟩) (LawEnd s) s := by
  have rv := vals_ints hi
  have nv := hi.length
  have apart : a ∉ cs.map (·.2) := by
    intro z
    obtain ⟨p, hp, e⟩ := List.mem_map.mp z
    have h1 := hT p hp
    rw [e, ha] at h1
    cases h1
  have mem : ∀ p ∈ cs, p.2 ∈ cs.map (·.2) := fun p hp => List.mem_map.mpr ⟨p, hp, rfl⟩
  have tabOk : ∀ b, b ∈ cs.map (·.2) → s.heap.get? b = some { cls := .none, data := .fields #[] } := by
    intro b hb
    obtain ⟨p, hp, rfl⟩ := List.mem_map.mp hb
    exact hT p hp
  have go : ∀ H, Told cs a ns K H → HOk P w H s.heap → codeAny (model P w) callerA (.call (.ref fa) ⟨[.ref a], []⟩) (LawEnd s) s :=
    fun H T ok => tab_core KX hns hb hbb nl hg hT nT C hbm ha hr F hbind (hsp H T.tabs T.seq) (hCX H) T ok
  cases fr : K.lookup a with
  | some o =>
    have e := KX a o fr
    rw [ha] at e
    cases e
    refine go (fun b => if b ∈ cs.map (·.2) then some (.tbl #[]) else none) ⟨fun p hp => if_pos (mem p hp), ?_, ?_, ?_⟩ ?_
    · refine .inr ⟨_, vs.toArray, _, fr, rfl, rfl, rfl, ?_, by simpa using rv⟩
      rw [List.size_toArray, nv]
      exact hl
    · intro b
      by_cases hb : b ∈ cs.map (·.2)
      · exact .inr (.inl hb)
      · exact .inl (if_neg hb)
    · intro z
      exact absurd (if_neg apart) z
    · intro b u z
      by_cases hb : b ∈ cs.map (·.2)
      · have z1 := (if_pos hb).symm.trans z
        cases z1
        exact tabOk b hb
      · have z1 := (if_neg hb).symm.trans z
        cases z1
  | none =>
    refine go (fun b => if b = a then some (.frz { cls := .type "list", data := .seq vs.toArray } (.lst (ns.map V.int)))
      else if b ∈ cs.map (·.2) then some (.tbl #[]) else none) ⟨?_, ?_, ?_, ?_⟩ ?_
    · intro p hp
      have ne : ¬ p.2 = a := fun z => apart (z ▸ mem p hp)
      exact (if_neg ne).trans (if_pos (mem p hp))
    · exact .inl (.inr ⟨_, if_pos rfl⟩)
    · intro b
      by_cases e : b = a
      · exact .inr (.inr ⟨e, _, _, if_pos e⟩)
      · by_cases hb : b ∈ cs.map (·.2)
        · exact .inr (.inl hb)
        · exact .inl ((if_neg e).trans (if_neg hb))
    · exact fun _ => fr
    · intro b u z
      by_cases e : b = a
      · have z1 := (if_pos e).symm.trans z
        cases z1
        subst e
        refine ⟨ha, ?_, vs, _, rv, ha⟩
        rw [List.length_map]
        exact hl
      · have z1 := (if_neg e).symm.trans z
        by_cases hb : b ∈ cs.map (·.2)
        · have z2 := (if_pos hb).symm.trans z1
          cases z2
          exact tabOk b hb
        · have z2 := (if_neg hb).symm.trans z1
          cases z2
end
/-- the head's end, with tables -/
theorem walk_tab {l : PySem.W.OpenLaw} {n k : Nat} {q : Program} {loose : List Str} {XP : (Str → Option Value) → Heap → Prop}
    {YP : World → Heap → Prop} {d : DefRec} {CX : World → CXT} {x : Str}
    (hn : l.most = some n) (hn2 : n ≤ sizeLine) (hdf : d.params.defaults = []) (hr : Rm k callerA)
    (F : ∀ (w : World) (mg : Str → Option Value) (fa : Addr) (h : Heap), YP w h → h.Ns mainGlobals mg → mg d.name = some (.ref fa) →
      ∃ (K : PySem.W.Frag) (fd : FuncData) (sp : Sp) (cs : List (Addr × Addr)), K.In h ∧
        (∀ p ∈ cs, h.get? p.2 = some { cls := .none, data := .fields #[] }) ∧ (∀ p ∈ cs, K.lookup p.2 = none) ∧
        (∀ p ∈ cs, PySem.W.CodeHd h p.1 p.2) ∧ (∀ (s : Shared) (u : Value), BindsTo s fd ⟨[u], []⟩ [(x, u)]) ∧
        (∀ (H : Hp) (a : Addr) (ns : List Int), ns.length ≤ n → (∀ p ∈ cs, H p.2 = some (.tbl #[])) → SqL K H a (ns.map V.int) →
          sp [.ref a] H (fun v _ => v = .bl true) fun _ _ _ => False) ∧
        ∀ base : Heap, K.In base → base.Ns mainGlobals mg → (∀ p ∈ cs, TabB base mg p.1 p.2) → FnG l.prog w K mg base (CX w) k fa fd [x] sp)
    (hCX : ∀ (w : World) (H : Hp) (s : Shared) (e : Value) (s' : Shared), CX w [] H s (fun _ _ _ => False) e s' → False) :
    PySem.W.WalkO q loose XP YP l.row.toRowW d [] (fun f vs => PySem.call f vs) := by
  refine Att.attach_callB hn hdf ?_
  intro w s0 s1 mg mb fa o pm cd doc a vs ns G Y ho hd hcd hmg hobj hints hlen hbits hg
  obtain ⟨K, fd, sp, cs, KX, hT, nT, C, hb, hsp, hF⟩ := F w mg fa _ Y G.T.g hmg
  exact law_tab KX G.T.g G.T.b G.T.builtins G.T.nolimit hg hT nT C G.T.bmain hobj hints (Nat.le_trans hlen hn2) hr hF hb
    (fun H t hS => hsp H a ns hlen t hS) (fun H e s' => hCX w H s1 e s')
end ME

set_option Elab.async false
set_option linter.all false
set_option maxRecDepth 100000
set_option maxHeartbeats 2000000
/-! zip of a tuple and a list -/
namespace MM
open PySem PySem.Spec PyProof.Rows L2
/-- a tuple at a beside a list at b -/
def ItzM (K : PySem.W.Frag) (a b : Addr) : It where
  go i H := ∃ (us ws : List V) (p q : V), SqT K H a us ∧ SqL K H b ws ∧ us[i]? = some p ∧ ws[i]? = some q
  yld i H v H' := ∃ T p q, v = .ref T ∧ H T = none ∧ H' = upd H T (.tup [p, q]) ∧ (∀ us, SqT K H a us → us[i]? = some p) ∧ ∀ ws, SqL K H b ws → ws[i]? = some q
  stop i H := ∃ us ws : List V, SqT K H a us ∧ SqL K H b ws ∧ i ≤ us.length ∧ i ≤ ws.length ∧ (i = us.length ∨ i = ws.length)
abbrev tnM (a b z TI TO i1 i2 : Addr) (i : Nat) (h : Heap) : Prop :=
  IsZip h z TI TO .none ∧ IsTupOf2 h TI (.ref i1) (.ref i2) ∧ (∃ p q, IsTupOf2 h TO p q) ∧ h.IsTupleIter i1 a i ∧ h.IsListIter i2 b i
theorem sepM {a b z TI TO i1 i2 : Addr} (D : ZipApart z TI TO i1 i2 a b) : ZipSep2 z TI TO i1 i2 [i1, a] [i2, b] := by
  obtain ⟨h1, h2, h3, h4, h5, h6, h7, h8, h9, h10, h11, h12, h13, h14, h15, h16, h17, h18⟩ := D
  constructor <;> simp only [List.mem_cons, List.not_mem_nil, or_false, true_or, not_or, ne_eq]
  · exact h1
  · exact h2
  · exact h5
  · exact h6
  · exact ⟨Ne.symm h3, Ne.symm h11⟩
  · exact ⟨h8, Ne.symm h12⟩
  · exact h7
  · exact ⟨Ne.symm h4, Ne.symm h15⟩
  · exact ⟨h9, Ne.symm h16⟩
  · exact ⟨h10, Ne.symm h17⟩
  · exact ⟨Ne.symm h10, Ne.symm h14⟩
theorem turn_zipM {P : Program} {w : World} {K : PySem.W.Frag} {tgs : List Expr} {n : Nat} {ps : Pos} {a b z TI TO i1 i2 : Addr} (D : ZipApart z TI TO i1 i2 a b) :
    Turn P w K (.Tuple tgs n ps) (ItzM K a b) [z, TI, TO, i1, i2] z (tnM a b z TI TO i1 i2) where
  mem := List.mem_cons_self
  obj := by
    rintro i h ⟨e1, e2, ⟨p, q, e3⟩, ⟨o1, e4, _, d1⟩, ⟨o2, e5, _, d2⟩⟩ c hc
    simp only [List.mem_cons, List.not_mem_nil, or_false] at hc
    rcases hc with rfl | rfl | rfl | rfl | rfl
    · exact ⟨_, e1, nofun⟩
    · exact ⟨_, e2, nofun⟩
    · exact ⟨_, e3, nofun⟩
    · exact ⟨o1, e4, fun v e => by rw [d1] at e; cases e⟩
    · exact ⟨o2, e5, fun v e => by rw [d2] at e; cases e⟩
  keep := by
    rintro i h h' ⟨e1, e2, ⟨p, q, e3⟩, e4, e5⟩ k
    exact ⟨k _ (by simp) _ e1, k _ (by simp) _ e2, ⟨p, q, k _ (by simp) _ e3⟩, e4.at (k _ (by simp)), e5.at (k _ (by simp))⟩
  item := by
    rintro X rfl rfl rfl calm i pins s σ H E I fp ⟨ez, eTI, ⟨p0, q0, eTO⟩, e1, e2⟩ ⟨us, ws, p, q, S1, S2, hp, hq⟩
    obtain ⟨as_, r1, c1, _⟩ := I.tuple S1
    obtain ⟨bs, r2, c2, _⟩ := I.list S2
    obtain ⟨u1, hu1, ru1⟩ := r1.get hp
    obtain ⟨u2, hu2, ru2⟩ := r2.get hq
    have zlt : z < s.heap.objs.size := Heap.lt_size ez
    have hd := I.ok.hd calm
    have l1 : i < as_.toArray.size := by
      rw [List.size_toArray]
      exact (List.getElem?_eq_some_iff.mp hu1).1
    have l2 : i < bs.toArray.size := by
      rw [List.size_toArray]
      exact (List.getElem?_eq_some_iff.mp hu2).1
    refine wpAny_pyNext_zipD2_item (sepM D) (Draws.tuple (A := X.A.in1) hd i1 a D.l1i1 as_.toArray) (Draws.list (A := X.A.in1) hd i2 b D.l2i2 bs.toArray) ez eTI eTO ⟨e1, c1⟩ ⟨e2, c2.isList⟩ l1 l2
      fun x1 x2 h' tk y1 y2 f1 f2 f3 f4 f5 f6 kp => ?_
    have y1' : some u1 = some x1 := by
      rw [← hu1, ← y1]
      simp
    have y2' : some u2 = some x2 := by
      rw [← hu2, ← y2]
      simp
    cases y1'
    cases y2'
    refine ⟨_, rfl, wpAny_letOwnedTupleGo_zip (s := { s with heap := h', toks := tk }) f1 fun h2 g1 sb => ?_⟩
    have zn : s.heap.objs.size ≠ z := Nat.ne_of_gt zlt
    have T2 : h2.get? s.heap.objs.size = some { cls := .type "tuple", data := .seq #[u1, u2] } := (sb.2 _ zn).trans f5
    have new : ObjOk X.prog X.w (upd H s.heap.objs.size (.tup [p, q])) h2 s.heap.objs.size (.tup [p, q]) :=
      ⟨by show 2 ≤ sizeLine; decide, [u1, u2], .cons ru1 (.cons ru2 .nil), ⟨_, T2, rfl, _, rfl⟩⟩
    have I2 : Inv X pins σ (upd H s.heap.objs.size (.tup [p, q])) { s with heap := h2, toks := tk } := by
      refine I.turnedNew (t' := tk) (ch := [z, TI, TO, i1, i2]) (fun c o nc e => ?_) fp (Nat.le_refl _) new
      simp only [List.mem_cons, List.not_mem_nil, or_false, not_or] at nc
      exact (sb.2 c nc.1).trans (kp c o nc.1 nc.2.2.1 nc.2.2.2.1 nc.2.2.2.2 e)
    refine ⟨.ref s.heap.objs.size, _, I2, rfl, ⟨_, p, q, rfl, I.hok.fresh (Nat.le_refl _), rfl, ?_, ?_⟩, ⟨g1, (sb.2 _ D.TIz).trans (kp _ _ D.TIz D.TITO D.TIi1 D.TIi2 eTI), ⟨u1, u2, (sb.2 _ D.TOz).trans f2⟩, f3.1.at fun o e => (sb.2 _ D.i1z).trans e, f4.1.at fun o e => (sb.2 _ D.i2z).trans e⟩, fun c hc => ?_⟩
    · intro l hl
      rw [I.tuple_inj hl S1]
      exact hp
    · intro l hl
      rw [I.list_inj hl S2]
      exact hq
    · have lt : c < s.heap.objs.size := by
        obtain ⟨_, q1, _⟩ := e1
        obtain ⟨_, q2, _⟩ := e2
        have hc2 := hc
        simp only [List.mem_cons, List.not_mem_nil, or_false] at hc2
        rcases hc2 with rfl | rfl | rfl | rfl | rfl
        · exact zlt
        · exact Heap.lt_size eTI
        · exact Heap.lt_size eTO
        · exact Heap.lt_size q1
        · exact Heap.lt_size q2
      rw [upd_ne (Nat.ne_of_lt lt)]
      exact (fp c hc).1
  done := by
    rintro X rfl rfl rfl calm i pins s σ H E I fp ⟨ez, eTI, ⟨p0, q0, eTO⟩, e1, e2⟩ ⟨us, ws, S1, S2, m1, m2, le⟩
    obtain ⟨as_, r1, c1, _⟩ := I.tuple S1
    obtain ⟨bs, r2, c2, _⟩ := I.list S2
    have hd := I.ok.hd calm
    have n1 := r1.length
    have n2 := r2.length
    refine wpAny_pyNext_zipD2_end (sepM D) (Draws.tuple (A := X.A.in1) hd i1 a D.l1i1 as_.toArray) (Draws.list (A := X.A.in1) hd i2 b D.l2i2 bs.toArray) ez eTI eTO ⟨e1, c1⟩ ⟨e2, c2.isList⟩
      (by rw [List.size_toArray]; omega) (by rw [List.size_toArray]; omega) (by rw [List.size_toArray, List.size_toArray]; omega) fun h' tk kp => ⟨rfl, I.turnedL (t' := tk) (ch := [z, TI, TO, i1, i2]) (fun c o nc e => ?_) fp⟩
    simp only [List.mem_cons, List.not_mem_nil, or_false, not_or] at nc
    exact kp c o nc.1 nc.2.2.1 nc.2.2.2.1 nc.2.2.2.2 e
  self := fun A i s Q E st h => wpAny_pyIter_zip st.1 h
def iZipM (K : PySem.W.Frag) (ta : TA) : TI := fun σ H R => ta σ H fun vs H1 => ∃ a b us ws, vs = [.ref a, .ref b] ∧ SqT K H1 a us ∧ SqL K H1 b ws ∧ R (ItzM K a b) H1
theorem pi_zipM {X : Cx} {e e2 : Expr} {ta : TA} {p pos ps : Pos} {tgs : List Expr} {n : Nat} (hg : Gl X "zip") (hm : X.mg "zip" = none) (ha : PA X [e, e2] ta)
    (hs : starEach [e, e2] X.env = (false, eval e X.env) :: starEach [e2] X.env := by rfl) (hpl : (backTo pos (starEach [e2] X.env)).any (·.1) = false := by rfl) :
    PI X (.Tuple tgs n ps) (.Call (.Name "zip" p) [e, e2] [] pos) (iZipM X.K ta) := by
  refine ⟨fun pins s σ H R I h => Call_ (ld_blt I hg hm PyProof.Rows.boot_zip (PyProof.Rows.callWith_type1 (thn (ha.run pos pins s σ H _ I h) fun vals s1 hx => ?_) hs hpl))⟩
  obtain ⟨vs, H1, I1, rs, a, b, us, ws, rfl, S1, S2, q⟩ := hx
  cases rs with
  | cons h1 rs1 =>
  cases rs1 with
  | cons h2 t =>
    cases t
    cases h1
    cases h2
    obtain ⟨as_, r1, c1, _⟩ := I1.tuple S1
    obtain ⟨bs, r2, c2, _⟩ := I1.list S2
    have nw : ∀ k : Nat, FpOk X pins H1 (s1.heap.objs.size + k) := fun k => I1.fpOk (Nat.le_add_right _ _) (I1.hok.fresh (Nat.le_add_right _ _))
    refine zip_begins2 (begins_tuple a as_.toArray) (begins_list b bs.toArray) c1 c2.isList fun h' g1 g2 g3 g4 g5 _ kp => wpAny_pyIter_zip g1 ?_
    have I2 : Inv X pins σ H1 { s1 with heap := h' } := I1.kept (t' := s1.toks) kp
    have la : a < s1.heap.objs.size := by
      obtain ⟨_, z, _⟩ := id c1
      exact Heap.lt_size z
    refine ⟨s1.heap.objs.size + 4, [s1.heap.objs.size + 4, s1.heap.objs.size + 2, s1.heap.objs.size + 3, s1.heap.objs.size, s1.heap.objs.size + 1], _, _, H1, rfl, I2, turn_zipM (PySem.W.ktu_apart s1.heap.objs.size a b la c2.lt), ⟨g1, g2, ⟨_, _, g3⟩, ⟨_, g4, rfl, rfl⟩, ⟨_, g5, rfl, rfl⟩⟩, fun c hc => ?_, q⟩
    simp only [List.mem_cons, List.not_mem_nil, or_false] at hc
    rcases hc with rfl | rfl | rfl | rfl | rfl
    · exact nw 4
    · exact nw 2
    · exact nw 3
    · exact nw 0
    · exact nw 1
section
variable {K : PySem.W.Frag} {a b : Addr} {us ws : List V}
theorem walk_zipM {n : Nat} (hn : n = min us.length ws.length) : Walk (ItzM K a b) n (fun H => SqT K H a us ∧ SqL K H b ws) (YPair (fun i => us[i]?) (fun i => ws[i]?)) := by
  refine ⟨fun i H lt q => ?_, fun H q => ?_, fun i H x H' lt q y => ?_⟩
  · exact ⟨us, ws, us[i]'(by omega), ws[i]'(by omega), q.1, q.2, List.getElem?_eq_getElem _, List.getElem?_eq_getElem _⟩
  · exact ⟨us, ws, q.1, q.2, by omega, by omega, by omega⟩
  · obtain ⟨T, p, r, rfl, fr, rfl, f1, f2⟩ := y
    exact ⟨T, p, r, rfl, fr, rfl, f1 us q.1, f2 ws q.2⟩
variable {v : Nat} {g : TG} {tt : TT} {te : TE} {vs : List Nat} {σ : L2.St} {H1 : Hp} {D : Addr} {Qd : Hp → Prop} {n : Nat}
theorem lc_zipM (hn : n = min us.length ws.length) (Pv : Nat → Hp → Prop) (h0 : Pv 0 (upd H1 D (.lst []))) (hq : ∀ i H, i ≤ n → Pv i H → SqT K H a us ∧ SqL K H b ws)
    (hs : ∀ i x y H T, us[i]? = some x → ws[i]? = some y → Pv i H → H T = none → LcT g tt te vs σ D (Pv (i + 1)) (.ref T) (upd H T (.tup [x, y])))
    (hd : ∀ H, Pv n H → Qd H) : LcW (ItzM K a b) g tt te vs σ H1 D Qd := by
  refine lc_it (walk_zipM hn) Pv h0 hq (fun i x H H' lt p y => ?_) hd
  obtain ⟨T, p1, q1, rfl, fr, rfl, e1, e2⟩ := y
  exact hs i p1 q1 H T e1 e2 p fr
end
end MM

set_option Elab.async false
set_option linter.all false
set_option maxRecDepth 100000
set_option maxHeartbeats 2000000
/-! repr of data, and of the dict without keys -/
namespace MM
open PySem PySem.Spec PyProof.Rows L2
/-- data, or a dict without keys -/
def Dq (K : PySem.W.Frag) (H : Hp) (v : V) (d : PyData) : Prop := (Dp K H v d ∧ SeqAt.shaped d = true) ∨ ∃ a, v = .ref a ∧ H a = some (.dK []) ∧ d = .dict []
def rReprO (K : PySem.W.Frag) : List V → Hp → VK → Prop := fun xs H Q =>
  ∃ x d, xs = [x] ∧ Dq K H x d ∧ d.showable = true ∧ d.shown.length ≤ sizeLine ∧ Q (.str d.shown) H
theorem cr_reprO {X : Cx} (hg : X.A.guards = some []) (hu : X.A.units + 66 < cLine) : CallR X (.builtin "repr") (rReprO X.K) := by
  intro pins s σ H xs us Q I r h
  obtain ⟨x, d, rfl, ⟨hd, hs⟩ | ⟨a, rfl, ha, rfl⟩, hw, hz, q⟩ := h
  · exact cr_repr hg hu pins s σ H _ us Q I r ⟨x, d, rfl, hd, hs, hw, hz, q⟩
  · obtain ⟨u, rfl, ru⟩ := vals1 r
    cases ru
    obtain ⟨_, lo, vs, kv, o, es, n, e1, e2, e3, _, e5, _⟩ := dk_of I.hok ha
    cases kv
    have em : es.toList = [] := List.eq_nil_of_length_eq_zero e5.length
    have rd : Reads s.heap (.ref a) (.dict []) (a :: [] ++ []) := by
      refine Reads.dict e1 e2.1 e3 ?_ ?_
      · rw [em]
        exact .nil
      · rw [em]
        exact .nil
    have ns : sysModules ∉ (a :: [] ++ [] : List Addr) := by
      intro z
      rw [show (a :: [] ++ [] : List Addr) = [a] from rfl, List.mem_singleton] at z
      rw [z, beq_self_eq_true] at lo
      cases lo
    exact repr_of_reads' rd hw (fun _ => ns) hg (Nat.lt_of_le_of_lt (Nat.add_le_add_left (by decide) _) hu) (fun _ _ e => e) (fun h' z tk hk => ⟨.str _, H, I.kept hk, ⟨_, rfl⟩, q⟩) hz
end MM
namespace MM
open PySem PySem.Spec PyProof.Rows L2
/-- a short tuple, many times -/
def rRepW (K : PySem.W.Frag) : R2 := fun x y H Q => ∃ l k xs, x = .ref l ∧ y = .int k ∧ SqT K H l xs ∧ xs ≠ [] ∧ 2 ≤ k ∧ k ≤ 10000 ∧ xs.length ≤ 100 ∧ ∀ p, H p = none → Q (.ref p) (upd H p (.tup (List.replicate k.toNat xs).flatten))
theorem op_repW {X : Cx} : OpR X (binaryOp .Mult) (rRepW X.K) := by
  rintro pins s σ H _ _ v u Q I rx ry ⟨l, k, xs, rfl, rfl, hT, some_, k2, kb, lb, q⟩
  cases rx
  obtain ⟨tok, rfl⟩ := ry
  obtain ⟨vals, r, ⟨⟨cls, dd, data, sl⟩, ho, hc, n, hd⟩, _⟩ := I.tuple hT
  dsimp only at hc hd
  cases hc
  cases hd
  have len : vals.length = xs.length := r.length.symm
  have pos : 0 < vals.length := by
    rw [len]
    exact List.length_pos_iff.mpr some_
  have ie : vals.toArray.isEmpty = false := by
    cases vals with
    | nil => cases pos
    | cons a b => rfl
  have sz : vals.toArray.size = xs.length := by rw [List.size_toArray, len]
  have prod : ((vals.toArray.size : Nat) : Int) * k ≤ 1000000 := by
    rw [sz]
    have : ((xs.length : Nat) : Int) * k ≤ 100 * k := Int.mul_le_mul_of_nonneg_right (by omega) (by omega)
    omega
  have fl : (List.replicate k.toNat vals).flatten.length ≤ sizeLine := by
    rw [PyProof.Rows.lm_len_rep_flat, len, sizeLine_eq]
    have : k.toNat * xs.length ≤ 10000 * 100 := Nat.mul_le_mul (by omega) lb
    omega
  have g0 : (decide (k < -(2 ^ 63)) || decide (k ≥ 2 ^ 63)) = false := by
    rw [Bool.or_eq_false_iff]
    exact ⟨decide_eq_false (by omega), decide_eq_false (by omega)⟩
  have g1 : (vals.toArray.isEmpty || k == 1) = false := by
    rw [Bool.or_eq_false_iff]
    exact ⟨ie, beq_eq_false_iff_ne.mpr (by omega)⟩
  have g2 : (decide (k ≤ 0) || vals.toArray.isEmpty) = false := by
    rw [Bool.or_eq_false_iff]
    exact ⟨decide_eq_false (by omega), ie⟩
  have g3 : Builtin.Tuple.tupleTooMany (((vals.toArray.size : Nat) : Int) * k) = false := by
    unfold Builtin.Tuple.tupleTooMany
    rw [sizeLine_eq]
    exact decide_eq_false (by omega)
  have M := tuple_mulW l vals.toArray n dd sl k tok g0 g1 g2 (by omega) g3 (by rw [size_rep, List.size_toArray]; exact fl)
  have isT : s.TypeIs (.ref l) "tuple" := ⟨_, ho, rfl⟩
  have new : L2.Inv X pins σ (upd H s.heap.objs.size (.tup (List.replicate k.toNat xs).flatten)) { s with heap := s.heap.push { cls := .type "tuple", data := .seq (List.replicate k.toNat vals).flatten.toArray } } := by
    refine I.laid (t' := s.toks) (fun _ _ e => Heap.get?_push_of_some _ e) (Nat.le_refl _) ⟨?_, _, r.rep k.toNat, IsTup.new _ _⟩
    rw [← len] at lb
    rw [PyProof.Rows.lm_len_rep_flat, sizeLine_eq, ← len]
    have : k.toNat * vals.length ≤ 10000 * 100 := Nat.mul_le_mul (by omega) lb
    omega
  refine wpAny_binaryOp_repeat_ref (U := "int") (by decide) isT (fun s' => typeIs_int s' k tok) noFill_tuple_mul F.fills_int_mul
    F.slot_int_rmul repeat_tuple F.slot_int_index.lookup ?_
  refine call_meets F.slot_int_rmul (typeIs_int s k tok) F.entry_int_rmul (F.args_int_rmul_2 _ _)
    (int_rmul_tuple k tok l vals.toArray n dd sl) ⟨ho, rfl, isT, ?_⟩
  refine call_meets F.slot_tuple_mul isT F.entry_tuple_mul (F.args_tuple_mul_2 _ _) M ⟨ho, ?_⟩
  rw [size_rep]
  exact ⟨.ref s.heap.objs.size, _, new, rfl, q _ (I.hok.fresh (Nat.le_refl _))⟩
end MM

set_option Elab.async false
set_option linter.all false
set_option maxRecDepth 100000
set_option maxHeartbeats 2000000
namespace K03
open PySem PySem.Spec PyProof.Rows L2 MM
/-! the classes of errors -/
abbrev ga (K : PySem.W.Frag) (x : Str) : Addr := He.ga K x
abbrev veTop : List Value := [.type "ValueError", .type "Exception", .type "BaseException", .type "object"]
abbrev ieTop : List Value := [.type "IndexError", .type "LookupError", .type "Exception", .type "BaseException", .type "object"]
/-- an own class under ValueError, without __init__ -/
structure Plain (K : PySem.W.Frag) (mg : Str → Option Value) (x : Str) : Prop where
  glo : mg x = some (.ref (ga K x))
  keep : PySem.W.keepIn K (.ref (ga K x)) = true
  row : PySem.W.excIn K (ga K x) veTop "ValueError.__new__" = true
  isE : PySem.W.subIn K (.ref (ga K x)) (.type "BaseException") = some true
  meta_ : PySem.W.typeIn K (.ref (ga K x)) = some (.type "type")
def plainB (K : PySem.W.Frag) (x : Str) : Bool :=
  PySem.W.keepIn K (.ref (ga K x)) && PySem.W.excIn K (ga K x) veTop "ValueError.__new__" &&
    decide (PySem.W.subIn K (.ref (ga K x)) (.type "BaseException") = some true) &&
    decide (PySem.W.typeIn K (.ref (ga K x)) = some (.type "type"))
theorem plain_ok {K : PySem.W.Frag} {mg : Str → Option Value} {x : Str} (g : mg x = some (.ref (ga K x))) (h : plainB K x = true) : Plain K mg x := by
  unfold plainB at h
  simp only [Bool.and_eq_true, decide_eq_true_eq] at h
  obtain ⟨⟨⟨a, b⟩, c⟩, d⟩ := h
  exact ⟨g, a, b, c, d⟩
/-- the class of wrong numbers -/
structure Num (K : PySem.W.Frag) (mg : Str → Option Value) (x f : Str) (st : List Stmt) (ar : Arguments) (sc : Scope) : Prop where
  glo : mg x = some (.ref (ga K x))
  over : ME.Over K (ga K x) "IndexError" "IndexError.__new__" "IndexError.__init__" ieTop
  none_ : PySem.W.findIn K (.ref (ga K x)) f = some none
  field : XfC K (ga K x)
  ini : ∃ fI fd, PySem.W.findIn K (.ref (ga K x)) "__init__" = some (some (.ref fI)) ∧ PySem.W.typeIn K (.ref fI) = some (.type "function") ∧
    FunD K "__init__" (x ++ ".__init__") ar st sc [] [] fI fd
end K03
namespace K03
open PySem PySem.Spec PyProof.Rows L2 MM
def inClass (s : Stmt) : Stmt := match s with
  | .ClassDef _ _ _ b _ _ _ _ _ _ _ => b.getD 0 (.Pass ⟨0, 0, 0, 0⟩)
  | _ => .Pass ⟨0, 0, 0, 0⟩
abbrev sInit : Stmt := inClass (PySem.Challenge.pw_movemarks_k03_errors_of_integers_and_tab.main.body.getD 5 (.Pass ⟨0, 0, 0, 0⟩))
abbrev NumC (K : PySem.W.Frag) (mg : Str → Option Value) : Prop := Num K mg "InvalidNumber" "given" (defBody sInit) (defArgs sInit) (defScope sInit)
theorem scInit : FnScope ["self", "given"] ["self", "given"] (defScope sInit) :=
  ⟨rfl, rfl, rfl, by decide +kernel, rfl, by decide +kernel, by decide +kernel⟩
theorem vIE (K : PySem.W.Frag) : PySem.W.findCls K (.type "IndexError") (.type "type") "__init__" = some (.val (.builtin "IndexError.__init__")) := by kernel_rfl
section
variable {P : Program} {w : World} {K : PySem.W.Frag} {mg : Str → Option Value} {base : Heap}
/-- its __init__ keeps what is given -/
theorem init_ok (Y : NumC K mg) (ie : mg "IndexError" = none) {fI : Addr} {fd : FuncData}
    (F : FunD K "__init__" "InvalidNumber.__init__" (defArgs sInit) (defBody sInit) (defScope sInit) [] [] fI fd) :
    FnG P w K mg base CX0 1 fI fd ["self", "given"] (ME.spKeep (ga K "InvalidNumber") "given") := by
  refine FnG.body (N := ["self", "given"]) F scInit ?_ ?_
  · intro vs H Q E h
    obtain ⟨a, y, rfl, _⟩ := h
    rfl
  · intro cd A out s H vs Q E hr h
    obtain ⟨a, y, rfl, ea, q⟩ := h
    refine ⟨_, pss_cons (ps_expr (ME.pe_ask (top := ieTop) (initId := "IndexError.__init__") (newId := "IndexError.__new__") rfl ie boot_IndexError exb_IndexError.ty (by decide +kernel) (vIE K) (by decide +kernel) (pa_cons (pv 0) (pa_cons pe_str pa_nil)))) (pss_one (ME.ps_put (B := "IndexError") (newId := "IndexError.__new__") (initId := "IndexError.__init__") (top := ieTop) (pv 0) (pv 1))), ?_⟩
    refine ⟨_, rfl, a, _, _, rfl, by decide, Y.over, ea, ?_⟩
    refine ⟨_, rfl, _, rfl, a, _, rfl, Y.over, Y.none_, ea, fun dx n ne => ?_⟩
    exact q dx n ne
end
end K03
namespace K03
open PySem PySem.Spec PyProof.Rows L2 MM
section
variable {X : Cx} {W : WX} {x m : Str} {j : Nat} {p p1 p2 pos : Pos} {e : Expr} {es : List Expr} {ta : TA}
/-- raise X('..') -/
theorem ps_plain (Y : Plain X.K X.mg x) (hc : X.calm = true) (tk : Takes X W) (hg : Gl X x := by rfl)
    (hdb : (x == ("__debug__" : Str)) = false := by decide) :
    PS X (.Raise (some (.Call (.Name x p) [.Constant (.str m) j p2] [] p1)) none pos) (fun _ σ H => W (.ref (ga X.K x)) none σ H) :=
  ps_raise hc tk (pmk_own PySem.F.excBase_ValueError Y.row Y.glo Y.keep (raises_own Y.isE Y.meta_) hg hdb)
/-- raise InvalidNumber(e) -/
theorem ps_num (Y : NumC X.K X.mg) (ie : X.mg "IndexError" = none) (hc : X.calm = true) (tk : Takes X W) (hr : Rm 2 X.A)
    (ha : PA X (e :: es) ta) (hg : Gl X "InvalidNumber" := by rfl)
    (he : starEach (e :: es) X.env = (false, eval e X.env) :: starEach es X.env := by rfl)
    (hpl : (backTo p1 (starEach es X.env)).any (·.1) = false := by rfl) :
    PS X (.Raise (some (.Call (.Name "InvalidNumber" p) (e :: es) [] p1)) none pos) (fun _ σ H => ta σ H fun vs H1 => ∃ y, vs = [y] ∧
      ∀ d, H1 d = none → W (.ref (ga X.K "InvalidNumber")) (some d) σ (upd H1 d (.xd [("given", y)]))) := by
  obtain ⟨fI, fd, iC, tI, F⟩ := Y.ini
  exact ps_raise hc tk (ME.pmk_made Y.over iC tI (init_ok (P := X.prog) (w := X.w) (base := X.base) Y ie F) hr
    (F.bindsN (fun _ _ _ _ _ _ us hl => match us, hl with | [_, _], _ => rfl)) pass0 Y.glo ha hg (by decide) he hpl)
end
end K03
namespace K03
open PySem PySem.Spec PyProof.Rows L2 MM
/-- the classes of errors, and which one is caught as which -/
structure Ex (K : PySem.W.Frag) (mg : Str → Option Value) : Prop where
  tb : Plain K mg "InvalidTable"
  op : Plain K mg "InvalidOperation"
  num : NumC K mg
  ie : mg "IndexError" = none
  e11 : PySem.W.exmOne K (.ref (ga K "InvalidNumber")) (.ref (ga K "InvalidNumber")) = some true
  e21 : PySem.W.exmOne K (.ref (ga K "InvalidTable")) (.ref (ga K "InvalidNumber")) = some false
  e22 : PySem.W.exmOne K (.ref (ga K "InvalidTable")) (.ref (ga K "InvalidTable")) = some true
  e31 : PySem.W.exmOne K (.ref (ga K "InvalidOperation")) (.ref (ga K "InvalidNumber")) = some false
  e32 : PySem.W.exmOne K (.ref (ga K "InvalidOperation")) (.ref (ga K "InvalidTable")) = some false
  e33 : PySem.W.exmOne K (.ref (ga K "InvalidOperation")) (.ref (ga K "InvalidOperation")) = some true
end K03
namespace K03
open PySem PySem.Spec PyProof.Rows L2 MM
abbrev orS (a b : Sp) : Sp := fun vs H Q E => a vs H Q E ∨ b vs H Q E
theorem def_or {P : Program} {w : World} {K : PySem.W.Frag} {mg : Str → Option Value} {base : Heap} {CX : CXT} {j k l : Nat} {x : Str} {ps : List Str}
    {a b : Sp} (D : Def P w K mg base CX0 j x ps a) (B : Def P w K mg base CX k x ps b) (hj : j ≤ l) (hk : k ≤ l) :
    Def P w K mg base CX l x ps (orS a b) := by
  obtain ⟨f, fd, F, hm, kp, bd, oc, od, sl, lk⟩ := D
  obtain ⟨f', fd', F', hm', kp', bd', oc', od', sl', lk'⟩ := B
  obtain rfl : f = f' := by
    rw [hm] at hm'
    cases hm'
    rfl
  obtain rfl : fd = fd' := by
    rw [lk] at lk'
    cases lk'
    rfl
  refine ⟨f, fd, ⟨?_, ?_⟩, hm, kp, bd, oc, od, sl, lk⟩
  · rintro vs H Q E (h | h)
    · exact F.arity h
    · exact F'.arity h
  · rintro A out s H ar us vs Q E hr e0 hb hv (h | h)
    · refine codeAny_mono (F.runs (hr.le hj) e0 hb hv h) fun r s' q => ?_
      cases r with
      | error e => exact (show False from q).elim
      | ok fl => cases fl <;> exact q
    · exact F'.runs (hr.le hk) e0 hb hv h
end K03

set_option Elab.async false
set_option linter.all false
set_option maxRecDepth 100000
set_option maxHeartbeats 2000000
namespace K03
open PySem PySem.Spec PyProof.Rows L2 MM
def topS (i : Nat) : Stmt := PySem.Challenge.pw_movemarks_k03_errors_of_integers_and_tab.main.body.getD i (.Pass ⟨0, 0, 0, 0⟩)
/-! own words for the readings: a step, its side -/
local macro_rules | `(tactic| walk_at "side") => `(tactic| first
  | omega
  | exact ⟨by omega, by omega⟩
  | exact Or.inl ⟨by omega, by omega⟩
  | exact Or.inr ⟨by omega, by omega⟩
  | (show CPw _ _; decide +kernel)
  | (show (0 : Int) < _; decide +kernel)
  | (show CDivW _ _; first | assumption | exact ⟨by decide, by decide +kernel⟩))
local macro_rules | `(tactic| walk_at "here") => `(tactic| first
  | assumption
  | exact upd_same
  | exact Or.inl (Or.inl upd_same)
  | exact Or.inl upd_same)
local macro_rules | `(tactic| walk_at "one") => `(tactic| first
  | refine ⟨_, rfl, ?_⟩
  | refine Or.inl ⟨_, rfl, ?_⟩
  | refine Or.inr ⟨_, rfl, ?_⟩
  | refine ⟨_, _, rfl, rfl, (by walk_at "side"), ?_⟩
  | refine ⟨_, _, rfl, rfl, ?_⟩
  | refine ⟨_, _, rfl, Or.inl (by walk_at "here"), ?_⟩
  | refine ⟨_, _, rfl, Or.inr (by walk_at "here"), ?_⟩
  | refine ⟨_, _, rfl, (by walk_at "here"), ?_⟩
  | refine ⟨_, _, _, _, rfl, rfl, (by walk_at "here"), rfl, ?_⟩
  | refine ⟨_, _, rfl, ?_⟩
  | refine ifT (by rfl) ?_
  | refine ifF (by rfl) ?_
  | refine ifT (decide_eq_true (by omega)) ?_
  | refine ifF (decide_eq_false (by omega)) ?_)
local macro_rules | `(tactic| walk_at "st") => `(tactic| repeat (walk_at "one"))

abbrev sIsWhole : Stmt := topS 11
abbrev sIsInteger : Stmt := topS 12
abbrev sIsBetween : Stmt := topS 13
abbrev sNeedBetween : Stmt := topS 14
abbrev sIsPrime : Stmt := topS 15
abbrev sNeedPrime : Stmt := topS 16
abbrev sPrimeFactors : Stmt := topS 17
abbrev sNeedDivided : Stmt := topS 18
abbrev sPartAt : Stmt := topS 19
abbrev sNeedNumbers : Stmt := topS 20
abbrev sCommonDivisor : Stmt := topS 21
abbrev sCommonMultiple : Stmt := topS 22
abbrev sReduced : Stmt := topS 23
abbrev sLowest : Stmt := topS 24
abbrev sIsLine : Stmt := topS 27
abbrev sIsTable : Stmt := topS 28
abbrev sNeedTable : Stmt := topS 29
abbrev sColumns : Stmt := topS 30
abbrev sTableProduct : Stmt := topS 31
abbrev sLineProduct : Stmt := topS 32
abbrev sLeadRow : Stmt := topS 33
abbrev sStepped : Stmt := topS 34
abbrev sStairs : Stmt := topS 35
abbrev sBegunWith : Stmt := topS 36
abbrev sDeterminant : Stmt := topS 37
abbrev sRank : Stmt := topS 38
abbrev sKernelRow : Stmt := topS 39
abbrev sWithoutDivisor : Stmt := topS 40
abbrev sKernel : Stmt := topS 41
abbrev sBezout : Stmt := topS 42
abbrev sMixed : Stmt := topS 43
abbrev sColumnCleared : Stmt := topS 44
abbrev sCornerCleared : Stmt := topS 45
abbrev sLeadPlace : Stmt := topS 46
abbrev sDiagonal : Stmt := topS 47
abbrev sAsChain : Stmt := topS 48
abbrev sDivisorsWithin : Stmt := topS 49
abbrev sSquareDivisors : Stmt := topS 50
abbrev sElementaryDivisors : Stmt := topS 51
abbrev sBagL : Stmt := topS 53
abbrev sGrabL : Stmt := topS 54
abbrev sOneOfL : Stmt := topS 55
abbrev sWordL : Stmt := topS 56
abbrev sNumbersRightL : Stmt := topS 57
abbrev sTablesRightL : Stmt := topS 58
abbrev sLaw : Stmt := topS 59
structure Tx (K : PySem.W.Frag) (mg : Str → Option Value) : Prop where
  t_is_whole : At K mg "is_whole" sIsWhole
  t_is_integer : At K mg "is_integer" sIsInteger
  t_is_between : At K mg "is_between" sIsBetween
  t_need_between : At K mg "need_between" sNeedBetween
  t_is_prime : At K mg "is_prime" sIsPrime
  t_need_prime : At K mg "need_prime" sNeedPrime
  t_prime_factors : At K mg "prime_factors" sPrimeFactors
  t_need_divided : At K mg "_need_divided" sNeedDivided
  t_part_at : At K mg "part_at" sPartAt
  t_need_numbers : At K mg "_need_numbers" sNeedNumbers
  t_common_divisor : At K mg "common_divisor" sCommonDivisor
  t_common_multiple : At K mg "common_multiple" sCommonMultiple
  t_reduced : At K mg "reduced" sReduced
  t_lowest : At K mg "lowest" sLowest
  t_is_line : At K mg "_is_line" sIsLine
  t_is_table : At K mg "is_table" sIsTable
  t_need_table : At K mg "_need_table" sNeedTable
  t_columns : At K mg "_columns" sColumns
  t_table_product : At K mg "table_product" sTableProduct
  t_line_product : At K mg "_line_product" sLineProduct
  t_lead_row : At K mg "_lead_row" sLeadRow
  t_stepped : At K mg "_stepped" sStepped
  t_stairs : At K mg "_stairs" sStairs
  t_begun_with : At K mg "_begun_with" sBegunWith
  t_determinant : At K mg "determinant" sDeterminant
  t_rank : At K mg "rank" sRank
  t_kernel_row : At K mg "_kernel_row" sKernelRow
  t_without_divisor : At K mg "_without_divisor" sWithoutDivisor
  t_kernel : At K mg "kernel" sKernel
  t_bezout : At K mg "bezout" sBezout
  t_mixed : At K mg "mixed" sMixed
  t_column_cleared : At K mg "_column_cleared" sColumnCleared
  t_corner_cleared : At K mg "_corner_cleared" sCornerCleared
  t_lead_place : At K mg "_lead_place" sLeadPlace
  t_diagonal : At K mg "_diagonal" sDiagonal
  t_as_chain : At K mg "_as_chain" sAsChain
  t_divisors_within : At K mg "_divisors_within" sDivisorsWithin
  t_square_divisors : At K mg "_square_divisors" sSquareDivisors
  t_elementary_divisors : At K mg "elementary_divisors" sElementaryDivisors
  t_law_bag : At K mg "_law_bag" sBagL
  t_law_grab : At K mg "_law_grab" sGrabL
  t_law_one_of : At K mg "_law_one_of" sOneOfL
  t_law_word : At K mg "_law_word" sWordL
  t_law_numbers_right : At K mg "_law_numbers_right" sNumbersRightL
  t_law_tables_right : At K mg "_law_tables_right" sTablesRightL
  t_law : At K mg "law" sLaw
  f_IndexError : mg "IndexError" = none
  f_abs : mg "abs" = none
  f_all : mg "all" = none
  f_any : mg "any" = none
  f_bool : mg "bool" = none
  f_enumerate : mg "enumerate" = none
  f_int : mg "int" = none
  f_isinstance : mg "isinstance" = none
  f_len : mg "len" = none
  f_list : mg "list" = none
  f_max : mg "max" = none
  f_min : mg "min" = none
  f_range : mg "range" = none
  f_repr : mg "repr" = none
  f_sum : mg "sum" = none
  f_tuple : mg "tuple" = none
  f_zip : mg "zip" = none
  c_MAX_PRIME : ∃ u, mg "MAX_PRIME" = some u ∧ RelV (.int (100)) u
  c_MAX_FACTORED : ∃ u, mg "MAX_FACTORED" = some u ∧ RelV (.int (10 ^ 9)) u
  c_MOST_NUMBERS : ∃ u, mg "MOST_NUMBERS" = some u ∧ RelV (.int (1000)) u
  c_TOO_LONG : ∃ u, mg "_TOO_LONG" = some u ∧ RelV (.int (10 ^ 60)) u
  c_MAX_SIZE : ∃ u, mg "MAX_SIZE" = some u ∧ RelV (.int (60)) u
  b_gcd : mg "gcd" = some (.builtin "math.gcd")
  b_lcm : mg "lcm" = some (.builtin "math.lcm")

section
variable {P : Program} {w : World} {K : PySem.W.Frag} {mg : Str → Option Value} {base : Heap}
/-- a bag of draws -/
def BagAt (H : Hp) (p : Addr) : Prop := ∃ g m c : Int, H p = some (.lst [.int g, .int m, .int c])
def spBag (K : PySem.W.Frag) : Sp := fun vs H Q _ => ∃ (a : Addr) (n : Nat) (ns : List Int), vs = [.ref a, .int n] ∧ SqL K H a (ns.map V.int) ∧ n ≤ 100 ∧
  ∀ (H' : Hp) (p : Addr), Same H H' → H p = none → BagAt H' p → Q (.ref p) H'
theorem scBagL : FnScope ["_law_script", "_law_spot", "_law_cell", "_law_great", "_law_mixed"] ["_law_script", "_law_spot"] (defScope sBagL) :=
  ⟨rfl, rfl, rfl, by decide +kernel, rfl, by decide +kernel, by decide +kernel⟩
theorem dBagL (T : Tx K mg) : Def P w K mg base CX0 1 "_law_bag" ["_law_script", "_law_spot"] (spBag K) := by
  refine T.t_law_bag.def_ (N := ["_law_script", "_law_spot", "_law_cell", "_law_great", "_law_mixed"]) scBagL (fun _ _ _ _ _ _ us hl => match us, hl with | [_, _], _ => rfl) ?_ ?_
  · intro vs H Q E h
    obtain ⟨a, n, ns, rfl, _⟩ := h
    rfl
  · intro f cd A out s H vs Q E hr h
    obtain ⟨a, n, ns, rfl, hS, hn, q⟩ := h
    refine ⟨_, (pss_cons (ps_set (i := 2) scBagL.nd rfl (Or.inl rfl) (pe_ifExp (pt_cmpR op_lt (pv 1) (pe_callB call_len_seq rfl T.f_len (by decide +kernel) (pa_cons (pv 0) pa_nil)) (nomark _)) (pe_ix ix_list (pv 0) (pv 1) (fun _ _ => rfl)) (pe_op op_add (pe_op op_add (pe_callB (cr_sum rfl) rfl T.f_sum (by decide +kernel) (pa_cons (pe_slice sl_list (pv 0) po_none (po_some pe_int)) pa_nil)) (pe_op op_mul pe_int (pv 1))) pe_int)))
      (pss_cons (ps_set (i := 3) scBagL.nd rfl (Or.inl rfl) (pe_op op_mod (pe_callTy call_int1 rfl T.f_int (by decide +kernel) (pa_cons (pe_callB call_abs rfl T.f_abs (by decide +kernel) (pa_cons (pv 2) pa_nil)) pa_nil)) (pe_op op_pw (pe_op op_pw pe_int pe_int) pe_int)))
      (pss_cons (ps_set (i := 4) scBagL.nd rfl (Or.inl rfl) (pe_op op_add (pe_op op_add (pe_op op_add (pe_op op_mul (pe_op op_mod (pe_callTy call_int1 rfl T.f_int (by decide +kernel) (pa_cons (pv 3) pa_nil)) pe_int) pe_int) (pe_op op_mul pe_int (pv 1))) (pe_op op_mul pe_int (pe_callTy call_int1 rfl T.f_int (by decide +kernel) (pa_cons (pe_cmpR op_lt (pv 2) pe_int (nomark _)) pa_nil)))) pe_int))
      (pss_one (ps_ret (pe_lst (pa_cons (pe_callB (call_max2 rfl) rfl T.f_max (by decide +kernel) (pa_cons pe_int (pa_cons (pe_op op_sub (pv 3) (pe_op op_pw pe_int pe_int)) pa_nil))) (pa_cons (pe_op op_mod (pe_callTy call_int1 rfl T.f_int (by decide +kernel) (pa_cons (pv 4) pa_nil)) pe_int) (pa_cons pe_int pa_nil))))))))), ?_⟩
    -- behind the cell: whatever it is
    have fin : ∀ (H1 : Hp) (u v : Int), Same H H1 → ∀ p, H1 p = none → Q (.ref p) (upd H1 p (.lst [.int u, .int v, .int 0])) := by
      intro H1 u v sm p hp
      refine q _ p ?_ (sm.free hp) ⟨u, v, 0, upd_same⟩
      intro b o e
      rw [upd_ne (ne_of_none (sm b o e) hp)]
      exact sm b o e
    walk_at "st"
    refine ite2 (fun c => ?_) (fun c => ?_)
    · have lt : n < ns.length := by
        have := of_decide_eq_true c
        rw [List.length_map] at this
        omega
      refine ⟨_, rfl, _, rfl, a, _, _, _, rfl, rfl, hS, atI_cell lt, ?_⟩
      walk_at "st"
      exact ⟨by show 3 ≤ sizeLine; decide, fin H _ _ (Same.refl H)⟩
    · walk_at "st"
      intro p hp
      have sm : Same H (upd H p (.lst (cutV (ns.map V.int) none (some 1)))) := by
        intro b o e
        rw [upd_ne (ne_of_none e hp)]
        exact e
      have ec : cutV (ns.map V.int) none (some 1) = (ns.take 1).map V.int := by
        unfold cutV
        rw [HT.sIx_none, show HT.sIx (ns.map V.int).length (ns.map V.int).length (some 1) = min 1 (ns.map V.int).length from HT.sIx_nat _ _ 1, List.map_take, List.drop_zero, Nat.sub_zero]
        cases ns with
        | nil => rfl
        | cons x r => simp
      refine ⟨_, ns.take 1, rfl, ?_, ?_⟩
      · rw [← ec]
        exact .inl (.inl upd_same)
      walk_at "st"
      exact ⟨by show 3 ≤ sizeLine; decide, fin _ _ _ sm⟩
def spGrab : Sp := fun vs H Q _ => ∃ (p : Addr) (t g m c : Int), vs = [.ref p, .int t] ∧ H p = some (.lst [.int g, .int m, .int c]) ∧ CDivW 0 t ∧
  ∀ r g' m' c' : Int, 0 ≤ r → r < t → Q (.int r) (upd H p (.lst [.int g', .int m', .int c']))
theorem grab_out {H : Hp} {p : Addr} {t r : Int} {xs : List V} {Q : VK} (q : ∀ r g' m' c' : Int, 0 ≤ r → r < t → Q (.int r) (upd H p (.lst [.int g', .int m', .int c'])))
    (ht : 0 < t) (z : Int) (e : r = z % t) (ex : ∃ g' m' c', xs = [V.int g', V.int m', V.int c']) : Q (.int r) (upd H p (.lst xs)) := by
  obtain ⟨g', m', c', rfl⟩ := ex
  rw [e]
  exact q _ _ _ _ (Int.emod_nonneg _ (by omega)) (Int.emod_lt_of_pos _ ht)
theorem scGrabL : FnScope ["_law_bag_here", "_law_total", "_law_found", "_law_one", "_law_two"] ["_law_bag_here", "_law_total"] (defScope sGrabL) :=
  ⟨rfl, rfl, rfl, by decide +kernel, rfl, by decide +kernel, by decide +kernel⟩
theorem dGrabL (T : Tx K mg) : Def P w K mg base CX0 1 "_law_grab" ["_law_bag_here", "_law_total"] spGrab := by
  refine T.t_law_grab.def_ (N := ["_law_bag_here", "_law_total", "_law_found", "_law_one", "_law_two"]) scGrabL (fun _ _ _ _ _ _ us hl => match us, hl with | [_, _], _ => rfl) ?_ ?_
  · intro vs H Q E h
    obtain ⟨p, t, g, m, c, rfl, _⟩ := h
    rfl
  · intro f cd A out s H vs Q E hr h
    obtain ⟨p, t, g, m, c, rfl, hp, ht, q⟩ := h
    have ht0 : 0 < t := ht.1
    have hS : SqL K H p _ := .inl (.inl hp)
    have hd : ∀ i, CDivW i t := fun _ => ht
    refine ⟨_, (pss_cons (ps_if (pt_cmpR op_gt (pe_ix ix_list (pv 0) pe_int (fun _ _ => rfl)) pe_int (nomark _)) (pss_cons (ps_set (i := 2) scGrabL.nd rfl (Or.inl rfl) (pe_op op_mod (pe_callTy call_int1 rfl T.f_int (by decide +kernel) (pa_cons (pe_ix ix_list (pv 0) pe_int (fun _ _ => rfl)) pa_nil)) (pv 1)))
        (pss_cons (ps_asg (pe_op op_fdivW (pe_ix ix_list (pv 0) pe_int (fun _ _ => rfl)) (pv 1)) (pg_sub (pv 0) pe_int set_list))
        (pss_one (ps_ret (pv 2))))) pss_nil)
      (pss_cons (ps_asg (pe_op op_add (pe_ix ix_list (pv 0) pe_int (fun _ _ => rfl)) pe_int) (pg_sub (pv 0) pe_int set_list))
      (pss_cons (ps_set (i := 3) scGrabL.nd rfl (Or.inl rfl) (pe_op op_mod (pe_callTy call_int1 rfl T.f_int (by decide +kernel) (pa_cons (pe_op op_add (pe_ix ix_list (pv 0) pe_int (fun _ _ => rfl)) (pe_op op_mul pe_int (pe_ix ix_list (pv 0) pe_int (fun _ _ => rfl)))) pa_nil)) pe_int))
      (pss_cons (ps_set (i := 4) scGrabL.nd rfl (Or.inl rfl) (pe_op op_add (pe_op op_mul (pe_op op_mod (pe_callTy call_int1 rfl T.f_int (by decide +kernel) (pa_cons (pe_op op_mul (pv 3) (pv 3)) pa_nil)) pe_int) (pv 3)) (pe_op op_mul pe_int (pe_ix ix_list (pv 0) pe_int (fun _ _ => rfl)))))
      (pss_one (ps_ret (pe_op op_mod (pe_callTy call_int1 rfl T.f_int (by decide +kernel) (pa_cons (pe_op op_fdivW (pe_op op_mod (pe_callTy call_int1 rfl T.f_int (by decide +kernel) (pa_cons (pv 4) pa_nil)) pe_int) pe_int) pa_nil)) (pv 1)))))))), ?_⟩
    walk_at "st"
    refine ite2 (fun c => ?_) (fun c => ?_)
    · walk_at "st"
      refine grab_out q ht0 g rfl ⟨_, _, _, rfl⟩
    · walk_at "st"
      refine grab_out q ht0 _ rfl ⟨_, _, _, rfl⟩
theorem sql_upd {K : PySem.W.Frag} {H : Hp} {p l : Addr} {xs : List V} {o : HO} (h : SqL K H l xs) (ne : l ≠ p) : SqL K (upd H p o) l xs := by
  rcases h with (h | ⟨u, h⟩) | h
  · exact .inl (.inl (by rw [upd_ne ne]; exact h))
  · exact .inl (.inr ⟨u, by rw [upd_ne ne]; exact h⟩)
  · exact .inr h
theorem at_in {xs : List V} {r : Int} (h0 : 0 ≤ r) (h1 : r < xs.length) : ∃ v, v ∈ xs ∧ atI xs r = some v := by
  have lt : r.toNat < xs.length := by omega
  refine ⟨xs[r.toNat], List.getElem_mem lt, ?_⟩
  have e : ((r.toNat : Nat) : Int) = r := by omega
  have q := atI_nat (xs := xs) (j := r.toNat) (List.getElem?_eq_getElem lt)
  rw [e] at q
  exact q
theorem div_small {n : Nat} (h0 : 0 < n) (h : n ≤ 100000) : CDivW 0 (n : Int) := by
  refine wide_div (b := 20) (by omega) ?_ (by decide) (by decide)
  have e : ((n : Int)).natAbs = n := Int.natAbs_natCast n
  rw [e]
  exact Nat.lt_of_le_of_lt h (by decide)
def spOneOf (K : PySem.W.Frag) : Sp := fun vs H Q _ => ∃ (p l : Addr) (g m c : Int) (xs : List V), vs = [.ref p, .ref l] ∧ H p = some (.lst [.int g, .int m, .int c]) ∧ SqL K H l xs ∧
  l ≠ p ∧ 0 < xs.length ∧ xs.length ≤ 1000 ∧ ∀ v g' m' c', v ∈ xs → Q v (upd H p (.lst [.int g', .int m', .int c']))
theorem scOneOfL : FnScope ["_law_bag_here", "_law_items"] ["_law_bag_here", "_law_items"] (defScope sOneOfL) :=
  ⟨rfl, rfl, rfl, by decide +kernel, rfl, by decide +kernel, by decide +kernel⟩
theorem dOneOfL (T : Tx K mg) (DGrabL : Def P w K mg base CX0 1 "_law_grab" ["_law_bag_here", "_law_total"] spGrab) : Def P w K mg base CX0 2 "_law_one_of" ["_law_bag_here", "_law_items"] (spOneOf K) := by
  refine T.t_law_one_of.def_ (N := ["_law_bag_here", "_law_items"]) scOneOfL (fun _ _ _ _ _ _ us hl => match us, hl with | [_, _], _ => rfl) ?_ ?_
  · intro vs H Q E h
    obtain ⟨p, l, g, m, c, xs, rfl, _⟩ := h
    rfl
  · intro f cd A out s H vs Q E hr h
    have hr1 : Rm 1 _ := hr.le (by decide)
    obtain ⟨p, l, g, m, c, xs, rfl, hp, hS, ne, h0, h1, q⟩ := h
    refine ⟨_, (pss_one (ps_ret (pe_ix ix_list (pv 1) (pe_d DGrabL (hr1.le (by decide)) pass0 (pa_cons (pv 0) (pa_cons (pe_callB call_len_seq rfl T.f_len (by decide +kernel) (pa_cons (pv 1) pa_nil)) pa_nil))) (fun _ _ => rfl)))), ?_⟩
    walk_at "st"
    refine ⟨p, _, g, m, c, rfl, hp, div_small h0 (by omega), fun r g' m' c' r0 r1 => ?_⟩
    obtain ⟨v, hv, e⟩ := at_in r0 r1
    exact ⟨_, _, _, v, rfl, rfl, sql_upd hS ne, e, q v g' m' c' hv⟩
end
end K03


set_option Elab.async false
set_option linter.all false
set_option maxRecDepth 100000
set_option maxHeartbeats 2000000
namespace K03
open PySem PySem.Spec PyProof.Rows L2 MM
/-! own words for the readings: a step, its side -/
local macro_rules | `(tactic| walk_at "side") => `(tactic| first
  | omega
  | exact ⟨by omega, by omega⟩
  | exact Or.inl ⟨by omega, by omega⟩
  | exact Or.inr ⟨by omega, by omega⟩
  | (show CPw _ _; decide +kernel)
  | (show (0 : Int) < _; decide +kernel)
  | (show CDivW _ _; first | assumption | exact ⟨by decide, by decide +kernel⟩))
local macro_rules | `(tactic| walk_at "here") => `(tactic| first
  | assumption
  | exact upd_same
  | exact Or.inl (Or.inl upd_same)
  | exact Or.inl upd_same)
local macro_rules | `(tactic| walk_at "one") => `(tactic| first
  | refine ⟨_, rfl, ?_⟩
  | refine Or.inl ⟨_, rfl, ?_⟩
  | refine Or.inr ⟨_, rfl, ?_⟩
  | refine ⟨_, _, rfl, rfl, (by walk_at "side"), ?_⟩
  | refine ⟨_, _, rfl, rfl, ?_⟩
  | refine ⟨_, _, rfl, Or.inl (by walk_at "here"), ?_⟩
  | refine ⟨_, _, rfl, Or.inr (by walk_at "here"), ?_⟩
  | refine ⟨_, _, rfl, (by walk_at "here"), ?_⟩
  | refine ⟨_, _, _, _, rfl, rfl, (by walk_at "here"), rfl, ?_⟩
  | refine ⟨_, _, rfl, ?_⟩
  | refine ifT (by rfl) ?_
  | refine ifF (by rfl) ?_
  | refine ifT (decide_eq_true (by omega)) ?_
  | refine ifF (decide_eq_false (by omega)) ?_)
local macro_rules | `(tactic| walk_at "st") => `(tactic| repeat (walk_at "one"))

section
variable {P : Program} {w : World} {K : PySem.W.Frag} {mg : Str → Option Value} {base : Heap}
def spIsWhole (K : PySem.W.Frag) : Sp := fun vs H Q _ => ∃ x n, vs = [x] ∧ Kd K H x n ∧ Q (.bl (isW x)) H
theorem scIsWhole : FnScope ["value"] ["value"] (defScope sIsWhole) :=
  ⟨rfl, rfl, rfl, by decide +kernel, rfl, by decide +kernel, by decide +kernel⟩
theorem dIsWhole (T : Tx K mg) : Def P w K mg base CX0 1 "is_whole" ["value"] (spIsWhole K) := by
  refine T.t_is_whole.def_ (N := ["value"]) scIsWhole (fun _ _ _ _ _ _ us hl => match us, hl with | [_], _ => rfl) ?_ ?_
  · intro vs H Q E h
    obtain ⟨x, n, rfl, _⟩ := h
    rfl
  · intro f cd A out s H vs Q E hr h
    obtain ⟨x, n, rfl, hk, q⟩ := h
    refine ⟨_, (pss_one (ps_ret (pe_and (pe_callB (cr_is .int) rfl T.f_isinstance (by decide +kernel) (pa_cons (pv 0) (pa_cons (pe_ty .int T.f_int (by decide +kernel)) pa_nil))) (pe_one (pe_not (pe_callB (cr_is .bl) rfl T.f_isinstance (by decide +kernel) (pa_cons (pv 0) (pa_cons (pe_ty .bl T.f_bool (by decide +kernel)) pa_nil)))))))), ?_⟩
    refine ⟨_, rfl, _, _, rfl, hk, _, rfl, ?_⟩
    cases hk
    all_goals walk_at "st"
    all_goals first
      | exact q
      | (refine ⟨_, _, rfl, .int _, ?_⟩; walk_at "st"; exact q)
      | (refine ⟨_, _, rfl, .bl _, ?_⟩; walk_at "st"; exact q)
def isI : V → Bool
  | .int i => decide (-10 ^ 60 < i) && decide (i < 10 ^ 60)
  | _ => false
def spIsInteger (K : PySem.W.Frag) : Sp := fun vs H Q _ => ∃ x n, vs = [x] ∧ Kd K H x n ∧ Q (.bl (isI x)) H
theorem scIsInteger : FnScope ["value"] ["value"] (defScope sIsInteger) :=
  ⟨rfl, rfl, rfl, by decide +kernel, rfl, by decide +kernel, by decide +kernel⟩
theorem dIsInteger (T : Tx K mg) (DIsWhole : Def P w K mg base CX0 1 "is_whole" ["value"] (spIsWhole K)) : Def P w K mg base CX0 2 "is_integer" ["value"] (spIsInteger K) := by
  refine T.t_is_integer.def_ (N := ["value"]) scIsInteger (fun _ _ _ _ _ _ us hl => match us, hl with | [_], _ => rfl) ?_ ?_
  · intro vs H Q E h
    obtain ⟨x, n, rfl, _⟩ := h
    rfl
  · intro f cd A out s H vs Q E hr h
    have hr1 : Rm 1 _ := hr.le (by decide)
    obtain ⟨x, n, rfl, hk, q⟩ := h
    refine ⟨_, (pss_one (ps_ret (pe_and (pe_d DIsWhole (hr1.le (by decide)) pass0 (pa_cons (pv 0) pa_nil)) (pe_one (pe_chain op_lt op_lt (pe_un un_neg (C8.pe_gc rfl T.c_TOO_LONG)) (pv 0) (C8.pe_gc rfl T.c_TOO_LONG)))))), ?_⟩
    refine ⟨_, rfl, _, n, rfl, hk, _, rfl, ?_⟩
    cases hk
    all_goals walk_at "st"
    all_goals first
      | exact q
      | skip
    rename_i i
    refine ite2 (fun c => ?_) (fun c => ?_)
    · walk_at "st"
      have q' : Q (.bl (decide (-10 ^ 60 < i) && decide (i < 10 ^ 60))) H := q
      rw [show decide (-10 ^ 60 < i) = true from c, Bool.true_and] at q'
      exact q'
    · have q' : Q (.bl (decide (-10 ^ 60 < i) && decide (i < 10 ^ 60))) H := q
      rw [show decide (-10 ^ 60 < i) = false from Bool.eq_false_iff.mpr c, Bool.false_and] at q'
      exact q'
def isB (x : V) (l m : Int) : Bool := match x with
  | .int i => decide (l ≤ i) && decide (i ≤ m)
  | _ => false
def spIsBetween (K : PySem.W.Frag) : Sp := fun vs H Q _ => ∃ x n l m, vs = [x, .int l, .int m] ∧ Kd K H x n ∧ Q (.bl (isB x l m)) H
theorem scIsBetween : FnScope ["value", "least", "most"] ["value", "least", "most"] (defScope sIsBetween) :=
  ⟨rfl, rfl, rfl, by decide +kernel, rfl, by decide +kernel, by decide +kernel⟩
theorem dIsBetween (T : Tx K mg) (DIsWhole : Def P w K mg base CX0 1 "is_whole" ["value"] (spIsWhole K)) : Def P w K mg base CX0 2 "is_between" ["value", "least", "most"] (spIsBetween K) := by
  refine T.t_is_between.def_ (N := ["value", "least", "most"]) scIsBetween (fun _ _ _ _ _ _ us hl => match us, hl with | [_, _, _], _ => rfl) ?_ ?_
  · intro vs H Q E h
    obtain ⟨x, n, l, m, rfl, _⟩ := h
    rfl
  · intro f cd A out s H vs Q E hr h
    have hr1 : Rm 1 _ := hr.le (by decide)
    obtain ⟨x, n, l, m, rfl, hk, q⟩ := h
    refine ⟨_, (pss_one (ps_ret (pe_and (pe_d DIsWhole (hr1.le (by decide)) pass0 (pa_cons (pv 0) pa_nil)) (pe_one (pe_chain op_le op_le (pv 1) (pv 0) (pv 2)))))), ?_⟩
    refine ⟨_, rfl, _, n, rfl, hk, _, rfl, ?_⟩
    cases hk
    all_goals walk_at "st"
    all_goals first
      | exact q
      | skip
    rename_i i
    refine ite2 (fun c => ?_) (fun c => ?_)
    · walk_at "st"
      have q' : Q (.bl (decide (l ≤ i) && decide (i ≤ m))) H := q
      rw [show decide (l ≤ i) = true from c, Bool.true_and] at q'
      exact q'
    · have q' : Q (.bl (decide (l ≤ i) && decide (i ≤ m))) H := q
      rw [show decide (l ≤ i) = false from Bool.eq_false_iff.mpr c, Bool.false_and] at q'
      exact q'
def spNeedBetween (K : PySem.W.Frag) : Sp := fun vs H Q _ => ∃ i l m : Int, vs = [.int i, .int l, .int m] ∧ l ≤ i ∧ i ≤ m ∧ Q .non H
theorem scNeedBetween : FnScope ["value", "least", "most"] ["value", "least", "most"] (defScope sNeedBetween) :=
  ⟨rfl, rfl, rfl, by decide +kernel, rfl, by decide +kernel, by decide +kernel⟩
theorem dNeedBetween (T : Tx K mg) (DIsBetween : Def P w K mg base CX0 2 "is_between" ["value", "least", "most"] (spIsBetween K)) : Def P w K mg base CX0 3 "need_between" ["value", "least", "most"] (spNeedBetween K) := by
  refine T.t_need_between.def_ (N := ["value", "least", "most"]) scNeedBetween (fun _ _ _ _ _ _ us hl => match us, hl with | [_, _, _], _ => rfl) ?_ ?_
  · intro vs H Q E h
    obtain ⟨i, l, m, rfl, _⟩ := h
    rfl
  · intro f cd A out s H vs Q E hr h
    have hr1 : Rm 2 _ := hr.le (by decide)
    obtain ⟨i, l, m, rfl, h1, h2, q⟩ := h
    refine ⟨_, (pss_one (ps_if (pt_not (pt_val (pe_d DIsBetween (hr1.le (by decide)) pass0 (pa_cons (pv 0) (pa_cons (pv 1) (pa_cons (pv 2) pa_nil)))))) (pss_one ps_never) pss_nil)), ?_⟩
    refine ⟨_, rfl, _, rfl, _, rfl, _, .int, l, m, rfl, .int i, _, rfl, ?_⟩
    refine ifF ?_ q
    show (!(decide (l ≤ i) && decide (i ≤ m))) = false
    rw [decide_eq_true h1, decide_eq_true h2] <;> rfl
def noDiv (i : Int) : Bool := ((List.range (i - 2).toNat).map fun (k : Nat) => !decide (i % (2 + (k : Int)) = 0)).all id
def isP : V → Bool
  | .int i => decide (2 ≤ i) && decide (i ≤ 99) && noDiv i
  | _ => false
def spIsPrime (K : PySem.W.Frag) : Sp := fun vs H Q _ => ∃ x n, vs = [x] ∧ Kd K H x n ∧ ∀ H', Same H H' → Q (.bl (isP x)) H'
theorem scIsPrime : FnScope ["value", "divisor"] ["value"] (defScope sIsPrime) :=
  ⟨rfl, rfl, rfl, by decide +kernel, rfl, by decide +kernel, by decide +kernel⟩
theorem dIsPrime (T : Tx K mg) (DIsBetween : Def P w K mg base CX0 2 "is_between" ["value", "least", "most"] (spIsBetween K)) : Def P w K mg base CX0 3 "is_prime" ["value"] (spIsPrime K) := by
  refine T.t_is_prime.def_ (N := ["value", "divisor"]) scIsPrime (fun _ _ _ _ _ _ us hl => match us, hl with | [_], _ => rfl) ?_ ?_
  · intro vs H Q E h
    obtain ⟨x, n, rfl, _⟩ := h
    rfl
  · intro f cd A out s H vs Q E hr h
    have hr1 : Rm 2 _ := hr.le (by decide)
    obtain ⟨x, n, rfl, hk, q⟩ := h
    refine ⟨_, (pss_cons (ps_if (pt_not (pt_val (pe_d DIsBetween (hr1.le (by decide)) pass0 (pa_cons (pv 0) (pa_cons pe_int (pa_cons (pe_op op_sub (C8.pe_gc rfl T.c_MAX_PRIME) pe_int) pa_nil)))))) (pss_one (ps_ret pe_bl)) pss_nil)
      (pss_one (ps_ret (pe_callB (cr_all rfl) rfl T.f_all (by decide +kernel) (pa_cons (pe_lc (own := [("divisor", 1)]) (g := gName 1) (tt := tYes) rfl scIsPrime.nd (pi_range2 rfl T.f_range (pa_cons pe_int (pa_cons (pv 0) pa_nil))) (blkOk_by (N := ["value", "divisor"]) (sc := defScope sIsPrime) (by decide +kernel)) (fun _ _ _ _ _ => pg_name (i := 1) scIsPrime.nd rfl (Or.inl rfl)) (fun _ _ _ _ _ => pts_nil) (fun _ _ _ _ _ => (pe_cmpR op_ne (pe_op op_mod (pv 0) (pv 1)) pe_int (nomark _)))) pa_nil))))), ?_⟩
    refine ⟨_, rfl, _, _, rfl, rfl, _, n, _, _, rfl, hk, _, rfl, ?_⟩
    show (if (!isB x 2 (100 - 1)) = true then _ else _)
    cases e : isB x 2 99 with
    | false =>
      refine ifT (by rw [show (100 - 1 : Int) = 99 from rfl, e]; rfl) ?_
      have e2 : isP x = false := by
        cases hk <;> first | rfl | (rename_i i; show (isB (.int i) 2 99 && noDiv i) = false; rw [e]; rfl)
      have q' := q H (Same.refl H)
      rw [e2] at q'
      exact q'
    | true =>
      refine ifF (by rw [show (100 - 1 : Int) = 99 from rfl, e]; rfl) ?_
      obtain ⟨i, rfl⟩ : ∃ i, x = .int i := by
        cases hk <;> first | exact ⟨_, rfl⟩ | cases e
      have bd : 2 ≤ i ∧ i ≤ 99 := by
        have e' : (decide (2 ≤ i) && decide (i ≤ 99)) = true := e
        rw [Bool.and_eq_true] at e'
        exact ⟨of_decide_eq_true e'.1, of_decide_eq_true e'.2⟩
      refine ⟨_, rfl, 2, i, rfl, by omega, ?_⟩
      intro D nD
      refine lc_rng (fun k => .bl (!decide (i % (2 + (k : Int)) = 0))) ?_ ?_ ?_
      · exact Nat.le_of_lt (small1000 (by omega))
      · intro k acc hk' Q' q'
        refine ⟨_, rfl, _, rfl, _, _, rfl, rfl, by omega, rfl, ?_⟩
        show Q' (.bl (!decide (V.int (i % (2 + (k : Int))) = V.int 0))) _
        rw [dInt]
        exact q'
      · refine ⟨D, (List.range (i - 2).toNat).map fun (k : Nat) => !decide (i % (2 + (k : Int)) = 0), rfl, .inl (.inl (Eq.trans upd_same ?_)), ?_⟩
        · rw [List.map_map]
          rfl
        · have q' := q _ (same_new (o := .lst ((List.range (i - 2).toNat).map fun (k : Nat) => V.bl (!decide (i % (2 + (k : Int)) = 0)))) nD)
          have e2 : isP (.int i) = noDiv i := by
            show (isB (.int i) 2 99 && noDiv i) = noDiv i
            rw [e, Bool.true_and]
          rw [e2] at q'
          exact q'
def spNeedPrime (K : PySem.W.Frag) : Sp := fun vs H Q _ => ∃ i, vs = [.int i] ∧ isP (.int i) = true ∧ ∀ H', Same H H' → Q .non H'
theorem scNeedPrime : FnScope ["prime"] ["prime"] (defScope sNeedPrime) :=
  ⟨rfl, rfl, rfl, by decide +kernel, rfl, by decide +kernel, by decide +kernel⟩
theorem dNeedPrime (T : Tx K mg) (DIsPrime : Def P w K mg base CX0 3 "is_prime" ["value"] (spIsPrime K)) : Def P w K mg base CX0 4 "need_prime" ["prime"] (spNeedPrime K) := by
  refine T.t_need_prime.def_ (N := ["prime"]) scNeedPrime (fun _ _ _ _ _ _ us hl => match us, hl with | [_], _ => rfl) ?_ ?_
  · intro vs H Q E h
    obtain ⟨i, rfl, _⟩ := h
    rfl
  · intro f cd A out s H vs Q E hr h
    have hr1 : Rm 3 _ := hr.le (by decide)
    obtain ⟨i, rfl, hp, q⟩ := h
    refine ⟨_, (pss_one (ps_if (pt_not (pt_val (pe_d DIsPrime (hr1.le (by decide)) pass0 (pa_cons (pv 0) pa_nil)))) (pss_one ps_never) pss_nil)), ?_⟩
    refine ⟨_, rfl, _, .int, rfl, .int i, ?_⟩
    intro H' sm
    refine ⟨_, rfl, ?_⟩
    refine ifF ?_ (q H' sm)
    rw [hp] <;> rfl
/-- a value, and its members if it is a tuple -/
inductive Rv (K : PySem.W.Frag) (H : Hp) : V → Option (List V) → Prop where
  | no {x : V} {n : Kn} (h : Kd K H x n) (ne : n.isa .tup = false) : Rv K H x none
  | yes {a : Addr} {xs : List V} (h : SqT K H a xs) (m : ∀ y, y ∈ xs → ∃ n, Kd K H y n) : Rv K H (.ref a) (some xs)
def rat2 : V → V → Bool
  | .int i, .int j => isI (.int i) && (isI (.int j) && (decide (0 < j) && decide (Nat.gcd i.natAbs j.natAbs = 1)))
  | _, _ => false
def isRat : Option (List V) → Bool
  | some [x, y] => rat2 x y
  | _ => false
def spIsRatio (K : PySem.W.Frag) : Sp := fun vs H Q _ => ∃ x o, vs = [x] ∧ Rv K H x o ∧ Q (.bl (isRat o)) H
end
end K03


set_option Elab.async false
set_option linter.all false
set_option maxRecDepth 100000
set_option maxHeartbeats 2000000
namespace K03
open PySem PySem.Spec PyProof.Rows L2 MM
/-! own words for the readings: a step, its side -/
local macro_rules | `(tactic| walk_at "side") => `(tactic| first
  | omega
  | exact ⟨by omega, by omega⟩
  | exact Or.inl ⟨by omega, by omega⟩
  | exact Or.inr ⟨by omega, by omega⟩
  | (show CPw _ _; decide +kernel)
  | (show (0 : Int) < _; decide +kernel)
  | (show CDivW _ _; first | assumption | exact ⟨by decide, by decide +kernel⟩))
local macro_rules | `(tactic| walk_at "here") => `(tactic| first
  | assumption
  | exact upd_same
  | exact Or.inl (Or.inl upd_same)
  | exact Or.inl upd_same)
local macro_rules | `(tactic| walk_at "one") => `(tactic| first
  | refine ⟨_, rfl, ?_⟩
  | refine Or.inl ⟨_, rfl, ?_⟩
  | refine Or.inr ⟨_, rfl, ?_⟩
  | refine ⟨_, _, rfl, rfl, (by walk_at "side"), ?_⟩
  | refine ⟨_, _, rfl, rfl, ?_⟩
  | refine ⟨_, _, rfl, Or.inl (by walk_at "here"), ?_⟩
  | refine ⟨_, _, rfl, Or.inr (by walk_at "here"), ?_⟩
  | refine ⟨_, _, rfl, (by walk_at "here"), ?_⟩
  | refine ⟨_, _, _, _, rfl, rfl, (by walk_at "here"), rfl, ?_⟩
  | refine ⟨_, _, rfl, ?_⟩
  | refine ifT (by rfl) ?_
  | refine ifF (by rfl) ?_
  | refine ifT (decide_eq_true (by omega)) ?_
  | refine ifF (decide_eq_false (by omega)) ?_)
local macro_rules | `(tactic| walk_at "st") => `(tactic| repeat (walk_at "one"))

section
variable {P : Program} {w : World} {K : PySem.W.Frag} {mg : Str → Option Value} {base : Heap}
def gcdL (ns : List Int) : Nat := ns.foldl (fun g n => Nat.gcd g n.natAbs) 0
theorem gcdL_more {ns : List Int} {i : Nat} {n : Int} (h : ns[i]? = some n) : gcdL (ns.take (i + 1)) = Nat.gcd (gcdL (ns.take i)) n.natAbs := by
  unfold gcdL
  rw [List.take_add_one, h, List.foldl_append]
  rfl
theorem abs_nat (n : Int) : (if n < 0 then -n else n) = ((n.natAbs : Nat) : Int) := by
  split <;> omega
theorem map_int {ns : List Int} {i : Nat} {x : V} (h : (ns.map V.int)[i]? = some x) : ∃ n, ns[i]? = some n ∧ x = V.int n := by
  rw [List.getElem?_map] at h
  cases e : ns[i]? with
  | none =>
    rw [e] at h
    cases h
  | some n =>
    rw [e] at h
    exact ⟨n, rfl, (Option.some.inj h).symm⟩
def spGcd (K : PySem.W.Frag) : Sp := fun vs H Q _ => ∃ a ns, vs = [.ref a] ∧ SqT K H a (ns.map V.int) ∧ Q (.int (gcdL ns : Nat)) H
theorem isI_abs (i : Int) : decide ((if i < 0 then -i else i) < (10 : Int) ^ 60) = isI (.int i) := by
  show _ = (decide (-10 ^ 60 < i) && decide (i < 10 ^ 60))
  by_cases h : i < 0
  · rw [if_pos h]
    by_cases c : -10 ^ 60 < i
    · rw [decide_eq_true (by omega : -i < 10 ^ 60), decide_eq_true c, decide_eq_true (by omega : i < 10 ^ 60)] <;> rfl
    · rw [decide_eq_false (by omega : ¬ -i < 10 ^ 60), decide_eq_false c] <;> rfl
  · rw [if_neg h, decide_eq_true (by omega : -10 ^ 60 < i), Bool.true_and]
theorem noDiv_filter (i : Int) : (PyData.eqv (.list ((((List.range (i - 2).toNat).filter fun (k : Nat) => decide (i % (2 + (k : Int)) = 0)).map fun (k : Nat) => 2 + (k : Int)).map PyData.int)) (.list [])) = noDiv i := by
  unfold noDiv
  generalize (i - 2).toNat = n
  have key : ∀ l : List Nat, PyData.eqv (.list (((l.filter fun (k : Nat) => decide (i % (2 + (k : Int)) = 0)).map fun (k : Nat) => 2 + (k : Int)).map PyData.int)) (.list []) =
      (l.map fun (k : Nat) => !decide (i % (2 + (k : Int)) = 0)).all id := by
    intro l
    induction l with
    | nil => rfl
    | cons k r ih =>
      by_cases c : i % (2 + (k : Int)) = 0
      · simp [c, PyData.eqv, PyData.eqvAll]
      · rw [List.filter_cons_of_neg (by simpa using c), ih]
        simp [c]
  exact key _
end
end K03


set_option Elab.async false
set_option linter.all false
set_option maxRecDepth 100000
namespace K03
open PySem PySem.Spec PyProof.Rows L2 MM
/-! factors: prime numbers with how often each one divides -/
abbrev Fs := List (Nat × Nat)
def look (fs : Fs) (d : Nat) : Nat := ((fs.find? fun p => decide (p.1 = d)).map (·.2)).getD 0
def bump (fs : Fs) (d : Nat) : Fs :=
  if (fs.any fun p => decide (p.1 = d)) = true then fs.map (fun p => if p.1 = d then (p.1, look fs d + 1) else p) else fs ++ [(d, look fs d + 1)]
def toK (fs : Fs) : List (Key × V) := fs.map fun p => (Sum.inl (p.1 : Int), V.int (p.2 : Int))
theorem key_nat (a d : Nat) : decide ((Sum.inl (a : Int) : Key) = Sum.inl (d : Int)) = decide (a = d) := by
  refine decide_eq_decide.mpr ⟨fun z => ?_, fun z => by rw [z]⟩
  have := Sum.inl.inj z
  omega
theorem valV_toK (fs : Fs) (d : Nat) : valV (toK fs) (Sum.inl (d : Int)) = (fs.find? fun p => decide (p.1 = d)).map fun p => V.int (p.2 : Int) := by
  unfold valV toK
  rw [List.find?_map, Option.map_map]
  have e : ((fun kv : Key × V => decide (kv.1 = Sum.inl (d : Int))) ∘ fun p : Nat × Nat => ((Sum.inl (p.1 : Int) : Key), V.int (p.2 : Int))) = fun p => decide (p.1 = d) := by
    funext p
    exact key_nat p.1 d
  rw [e]
  rfl
theorem get_toK (fs : Fs) (d : Nat) : (valV (toK fs) (Sum.inl (d : Int))).getD (.int 0) = .int (look fs d : Nat) := by
  rw [valV_toK]
  unfold look
  cases fs.find? fun p => decide (p.1 = d) <;> rfl
theorem put_toK (fs : Fs) (d : Nat) : putK (toK fs) (Sum.inl (d : Int)) (.int (((look fs d : Nat) : Int) + 1)) = toK (bump fs d) := by
  have e1 : ((toK fs).any fun kv => decide (kv.1 = (Sum.inl (d : Int) : Key))) = fs.any fun p => decide (p.1 = d) := by
    unfold toK
    rw [List.any_map]
    congr 1
    funext p
    exact key_nat p.1 d
  unfold putK bump
  rw [e1]
  by_cases c : (fs.any fun p => decide (p.1 = d)) = true
  · rw [if_pos c, if_pos c]
    unfold toK
    rw [List.map_map, List.map_map]
    refine List.map_congr_left fun p _ => ?_
    by_cases z : p.1 = d
    · have z2 : (Sum.inl (p.1 : Int) : Key) = Sum.inl (d : Int) := by rw [z]
      simp only [Function.comp_apply, z2, z, if_true]
      rfl
    · have z2 : ¬ (Sum.inl (p.1 : Int) : Key) = Sum.inl (d : Int) := fun q => z (by have := Sum.inl.inj q; omega)
      simp only [Function.comp_apply, z2, z, if_false]
  · rw [if_neg c, if_neg c]
    unfold toK
    rw [List.map_append]
    rfl
theorem toK_len (fs : Fs) : (toK fs).length = fs.length := List.length_map _
theorem toK_keys (fs : Fs) : (toK fs).map (·.1) = (fs.map fun p => (p.1 : Int)).map Sum.inl := by
  unfold toK
  rw [List.map_map, List.map_map]
  rfl
/-- the inner loop -/
def inn (fs : Fs) (r d : Nat) : Fs × Nat :=
  if h : 2 ≤ d ∧ 0 < r ∧ r % d = 0 then inn (bump fs d) (r / d) d else (fs, r)
termination_by r
decreasing_by exact Nat.div_lt_self h.2.1 h.1
theorem inn_le (fs : Fs) (r d : Nat) : (inn fs r d).2 ≤ r := by
  rw [inn]
  split
  · rename_i h
    have lt := Nat.div_lt_self h.2.1 h.1
    exact Nat.le_trans (inn_le (bump fs d) (r / d) d) (Nat.le_of_lt lt)
  · exact Nat.le_refl _
termination_by r
decreasing_by assumption
theorem inn_pos (fs : Fs) (r d : Nat) (h0 : 0 < r) : 0 < (inn fs r d).2 := by
  rw [inn]
  split
  · rename_i h
    have lt := Nat.div_lt_self h.2.1 h.1
    refine inn_pos (bump fs d) (r / d) d (Nat.div_pos (Nat.le_of_dvd h.2.1 (Nat.dvd_of_mod_eq_zero h.2.2)) (by omega))
  · exact h0
termination_by r
decreasing_by assumption
/-- the outer loop and what stands behind it -/
def outer (fs : Fs) (r d : Nat) : Fs :=
  if h : 2 ≤ d ∧ d * d ≤ r then outer (inn fs r d).1 (inn fs r d).2 (d + 1) else if 1 < r then bump fs r else fs
termination_by r - d
decreasing_by
  have := inn_le fs r d
  have h2 : 2 * d ≤ d * d := Nat.mul_le_mul_right d h.1
  omega
def facs (n : Nat) : Fs := outer [] n 2
/-! what the loops keep: keys ascend, none is above d; 2 ** how many, times the rest -/
def Asc (fs : Fs) (d : Nat) : Prop := (fs.map (·.1)).Pairwise (· < ·) ∧ ∀ p ∈ fs, p.1 ≤ d
theorem bump_asc {fs : Fs} {d : Nat} (h : Asc fs d) : Asc (bump fs d) d := by
  unfold bump
  by_cases c : (fs.any fun p => decide (p.1 = d)) = true
  · rw [if_pos c]
    have e : ((fs.map fun p => if p.1 = d then (p.1, look fs d + 1) else p).map (·.1)) = fs.map (·.1) := by
      rw [List.map_map]
      refine List.map_congr_left fun p _ => ?_
      by_cases z : p.1 = d <;> simp [z]
    refine ⟨by rw [e]; exact h.1, fun p hp => ?_⟩
    obtain ⟨q, hq, rfl⟩ := List.mem_map.mp hp
    have := h.2 q hq
    by_cases z : q.1 = d <;> simp [z] <;> omega
  · rw [if_neg c]
    refine ⟨?_, fun p hp => ?_⟩
    · rw [List.map_append, List.pairwise_append]
      refine ⟨h.1, by simp, fun a ha b hb => ?_⟩
      obtain ⟨p, hp, rfl⟩ := List.mem_map.mp ha
      have eb : b = d := by simpa using hb
      have h1 := h.2 p hp
      have h2 : p.1 ≠ d := fun z => c (List.any_eq_true.mpr ⟨p, hp, decide_eq_true z⟩)
      omega
    · rcases List.mem_append.mp hp with hp | hp
      · exact h.2 p hp
      · have : p = (d, look fs d + 1) := by simpa using hp
        rw [this]
        exact Nat.le_refl _
theorem bump_len (fs : Fs) (d : Nat) : (bump fs d).length ≤ fs.length + 1 := by
  unfold bump
  split
  · rw [List.length_map]
    omega
  · rw [List.length_append]
    exact Nat.le_refl _
theorem inn_asc (fs : Fs) (r d : Nat) (h : Asc fs d) : Asc (inn fs r d).1 d := by
  rw [inn]
  split
  · rename_i c
    have lt := Nat.div_lt_self c.2.1 c.1
    exact inn_asc (bump fs d) (r / d) d (bump_asc h)
  · exact h
termination_by r
decreasing_by assumption
theorem inn_big (fs : Fs) (r d N : Nat) (h : 2 ^ fs.length * r ≤ N) : 2 ^ (inn fs r d).1.length * (inn fs r d).2 ≤ N := by
  rw [inn]
  split
  · rename_i c
    have lt := Nat.div_lt_self c.2.1 c.1
    refine inn_big (bump fs d) (r / d) d N (Nat.le_trans ?_ h)
    have h1 : 2 ^ (bump fs d).length ≤ 2 ^ (fs.length + 1) := Nat.pow_le_pow_right (by decide) (bump_len fs d)
    have h2 : 2 * (r / d) ≤ r := Nat.le_trans (Nat.mul_le_mul_right _ c.1) (Nat.mul_div_le r d)
    calc 2 ^ (bump fs d).length * (r / d) ≤ 2 ^ (fs.length + 1) * (r / d) := Nat.mul_le_mul_right _ h1
      _ = 2 ^ fs.length * (2 * (r / d)) := by rw [Nat.pow_succ, Nat.mul_assoc]
      _ ≤ 2 ^ fs.length * r := Nat.mul_le_mul_left _ h2
  · exact h
termination_by r
decreasing_by assumption
theorem inn_dvd (fs : Fs) (r d : Nat) : (inn fs r d).2 ∣ r := by
  rw [inn]
  split
  · rename_i c
    have lt := Nat.div_lt_self c.2.1 c.1
    exact Nat.dvd_trans (inn_dvd (bump fs d) (r / d) d) (Nat.div_dvd_of_dvd (Nat.dvd_of_mod_eq_zero c.2.2))
  · exact Nat.dvd_refl _
termination_by r
decreasing_by assumption
theorem inn_not (fs : Fs) (r d : Nat) (h2 : 2 ≤ d) (h0 : 0 < r) : (inn fs r d).2 % d ≠ 0 := by
  rw [inn]
  split
  · rename_i c
    have lt := Nat.div_lt_self c.2.1 c.1
    exact inn_not (bump fs d) (r / d) d h2 (Nat.div_pos (Nat.le_of_dvd c.2.1 (Nat.dvd_of_mod_eq_zero c.2.2)) (by omega))
  · rename_i c
    exact fun z => c ⟨h2, h0, z⟩
termination_by r
decreasing_by assumption
theorem outer_ok (fs : Fs) (r d N : Nat) (h2 : 2 ≤ d) (h0 : 0 < r) (ha : Asc fs (d - 1)) (hb : 2 ^ fs.length * r ≤ N) (hd : ∀ k, 2 ≤ k → k < d → r % k ≠ 0) :
    ((outer fs r d).map (·.1)).Pairwise (· < ·) ∧ 2 ^ (outer fs r d).length ≤ N := by
  rw [outer]
  split
  · rename_i c
    have dec : (inn fs r d).2 - (d + 1) < r - d := by
      have := inn_le fs r d
      have h2 : 2 * d ≤ d * d := Nat.mul_le_mul_right d c.1
      omega
    refine outer_ok _ _ (d + 1) N (by omega) (inn_pos fs r d h0) ?_ (inn_big fs r d N hb) ?_
    · exact inn_asc fs r d ⟨ha.1, fun p hp => by have := ha.2 p hp; omega⟩
    · intro k k2 kd z
      by_cases e : k = d
      · subst e
        exact inn_not fs r k h2 h0 z
      · refine hd k k2 (by omega) ?_
        exact Nat.mod_eq_zero_of_dvd (Nat.dvd_trans (Nat.dvd_of_mod_eq_zero z) (inn_dvd fs r d))
  · split
    · rename_i c1 c
      have rd : d ≤ r := by
        by_cases e : d ≤ r
        · exact e
        · exact absurd (Nat.mod_self r) (hd r (by omega) (by omega))
      refine ⟨(bump_asc (d := r) ⟨ha.1, fun p hp => by have := ha.2 p hp; omega⟩).1, Nat.le_trans ?_ hb⟩
      calc 2 ^ (bump fs r).length ≤ 2 ^ (fs.length + 1) := Nat.pow_le_pow_right (by decide) (bump_len fs r)
        _ = 2 ^ fs.length * 2 := Nat.pow_succ ..
        _ ≤ 2 ^ fs.length * r := Nat.mul_le_mul_left _ c
    · refine ⟨ha.1, Nat.le_trans ?_ hb⟩
      exact Nat.le_mul_of_pos_right _ h0
termination_by r - d
decreasing_by assumption
theorem facs_ok {n : Nat} (h0 : 0 < n) : ((facs n).map (·.1)).Pairwise (· < ·) ∧ 2 ^ (facs n).length ≤ n :=
  outer_ok [] n 2 n (by decide) h0 ⟨by simp, fun p hp => by cases hp⟩ (by simp) (fun k k2 kd => by omega)
/-- at the end the rest is no key as yet -/
theorem outer_new {fs : Fs} {r d : Nat} (ha : Asc fs (d - 1)) (h2 : 2 ≤ d) (hd : ∀ k, 2 ≤ k → k < d → r % k ≠ 0) (h1 : 1 < r) : look fs r = 0 := by
  have rd : d ≤ r := by
    by_cases e : d ≤ r
    · exact e
    · exact absurd (Nat.mod_self r) (hd r (by omega) (by omega))
  unfold look
  rw [List.find?_eq_none.mpr]
  · rfl
  · intro p hp z
    have := ha.2 p hp
    have := of_decide_eq_true z
    omega
end K03

set_option Elab.async false
set_option linter.all false
set_option maxRecDepth 100000
set_option maxHeartbeats 2000000
namespace K03
open PySem PySem.Spec PyProof.Rows L2 MM
/-! own words for the readings: a step, its side -/
local macro_rules | `(tactic| walk_at "side") => `(tactic| first
  | omega
  | exact ⟨by omega, by omega⟩
  | exact Or.inl ⟨by omega, by omega⟩
  | exact Or.inr ⟨by omega, by omega⟩
  | (show CPw _ _; decide +kernel)
  | (show (0 : Int) < _; decide +kernel)
  | (show CDivW _ _; first | assumption | exact ⟨by decide, by decide +kernel⟩))
local macro_rules | `(tactic| walk_at "here") => `(tactic| first
  | assumption
  | exact upd_same
  | exact Or.inl (Or.inl upd_same)
  | exact Or.inl upd_same)
local macro_rules | `(tactic| walk_at "one") => `(tactic| first
  | refine ⟨_, rfl, ?_⟩
  | refine Or.inl ⟨_, rfl, ?_⟩
  | refine Or.inr ⟨_, rfl, ?_⟩
  | refine ⟨_, _, rfl, rfl, (by walk_at "side"), ?_⟩
  | refine ⟨_, _, rfl, rfl, ?_⟩
  | refine ⟨_, _, rfl, Or.inl (by walk_at "here"), ?_⟩
  | refine ⟨_, _, rfl, Or.inr (by walk_at "here"), ?_⟩
  | refine ⟨_, _, rfl, (by walk_at "here"), ?_⟩
  | refine ⟨_, _, _, _, rfl, rfl, (by walk_at "here"), rfl, ?_⟩
  | refine ⟨_, _, rfl, ?_⟩
  | refine ifT (by rfl) ?_
  | refine ifF (by rfl) ?_
  | refine ifT (decide_eq_true (by omega)) ?_
  | refine ifF (decide_eq_false (by omega)) ?_)
local macro_rules | `(tactic| walk_at "st") => `(tactic| repeat (walk_at "one"))

section
variable {P : Program} {w : World} {K : PySem.W.Frag} {mg : Str → Option Value} {base : Heap}
def spFacs : Sp := fun vs H Q _ => ∃ n : Nat, vs = [.int (n : Int)] ∧ 0 < n ∧ n ≤ 10 ^ 9 ∧ ∀ p, H p = none → Q (.ref p) (upd H p (.dK (toK (facs n))))
theorem len_small {fs : Fs} {r n : Nat} (h : 2 ^ fs.length * r ≤ n) (h0 : 0 < r) (hn : n ≤ 10 ^ 9) : fs.length < 30 := by
  have h1 : 2 ^ fs.length ≤ n := Nat.le_trans (Nat.le_mul_of_pos_right _ h0) h
  by_cases c : fs.length < 30
  · exact c
  · have h2 : 2 ^ 30 ≤ 2 ^ fs.length := Nat.pow_le_pow_right (by decide) (by omega)
    have h3 : (2 : Nat) ^ 30 ≤ 10 ^ 9 := Nat.le_trans h2 (Nat.le_trans h1 hn)
    exact absurd h3 (by decide)
theorem scPrimeFactors : FnScope ["number", "factors", "rest", "divisor"] ["number"] (defScope sPrimeFactors) :=
  ⟨rfl, rfl, rfl, by decide +kernel, rfl, by decide +kernel, by decide +kernel⟩
theorem dPrimeFactors (T : Tx K mg) (DNeedBetween : Def P w K mg base CX0 3 "need_between" ["value", "least", "most"] (spNeedBetween K)) : Def P w K mg base CX0 4 "prime_factors" ["number"] spFacs := by
  refine T.t_prime_factors.def_ (N := ["number", "factors", "rest", "divisor"]) scPrimeFactors (fun _ _ _ _ _ _ us hl => match us, hl with | [_], _ => rfl) ?_ ?_
  · intro vs H Q E h
    obtain ⟨n, rfl, _⟩ := h
    rfl
  · intro f cd A out s H vs Q E hr h
    have hu := hr.hu1
    have hr1 : Rm 3 _ := hr.le (by decide)
    obtain ⟨n, rfl, h0, hn, q⟩ := h
    refine ⟨_, (pss_cons (ps_expr (pe_d DNeedBetween (hr1.le (by decide)) pass0 (pa_cons (pv 0) (pa_cons pe_int (pa_cons (C8.pe_gc rfl T.c_MAX_FACTORED) pa_nil)))))
      (pss_cons (ps_set (i := 1) scPrimeFactors.nd rfl (Or.inl rfl) pe_dnewK)
      (pss_cons (ps_set (i := 2) scPrimeFactors.nd rfl (Or.inl rfl) (pv 0))
      (pss_cons (ps_set (i := 3) scPrimeFactors.nd rfl (Or.inl rfl) pe_int)
      (pss_cons (ps_while PassesOwn.never (pt_cmpR op_le (pe_op op_mul (pv 3) (pv 3)) (pv 2) (nomark _))
        (pss_cons (ps_while PassesOwn.never (pt_cmpR op_eq (pe_op op_mod (pv 2) (pv 3)) pe_int (nomark _))
          (pss_cons (ps_dput hu (pv 1) (pv 3) (pe_op op_add (pe_dget2 hu (pv 1) (pv 3) pe_int ⟨rfl, rfl, rfl, rfl⟩) pe_int) rfl)
          (pss_one (ps_set (i := 2) scPrimeFactors.nd rfl (Or.inl rfl) (pe_op op_fdivW (pv 2) (pv 3))))))
        (pss_one (ps_aug (i := 3) scPrimeFactors.nd rfl (Or.inl rfl) pe_int ip_add))))
      (pss_cons (ps_if (pt_cmpR op_gt (pv 2) pe_int (nomark _)) (pss_one (ps_dput hu (pv 1) (pv 2) pe_int rfl)) pss_nil)
      (pss_one (ps_ret (pv 1))))))))), ?_⟩
    refine ⟨_, rfl, (n : Int), 1, 10 ^ 9, rfl, by omega, by omega, ?_⟩
    intro p hp
    refine ⟨_, rfl, ?_⟩
    refine while_by (fun σ H2 => ∃ (fs : Fs) (r d : Nat), σ = [some (.int (n : Int)), some (.ref p), some (.int (r : Int)), some (.int (d : Int))] ∧ H2 = upd H p (.dK (toK fs)) ∧
        2 ≤ d ∧ d ≤ n + 2 ∧ 0 < r ∧ r ≤ n ∧ outer fs r d = facs n ∧ Asc fs (d - 1) ∧ 2 ^ fs.length * r ≤ n ∧ ∀ k, 2 ≤ k → k < d → r % k ≠ 0)
      (fun σ _ => match σ with | [_, _, some (.int r), some (.int d)] => (r - d).toNat | _ => 0) ?_ ?_ ?_
    · exact ⟨[], n, 2, rfl, rfl, by omega, by omega, h0, Nat.le_refl _, rfl, ⟨by simp, fun p hp => by cases hp⟩, by simp, fun k k2 kd => by omega⟩
    · rintro σ H2 ⟨fs, r, d, rfl, rfl, d2, dn, r0, rn, eo, ha, hb, hd⟩
      refine ⟨_, rfl, _, rfl, _, _, rfl, rfl, .inl ⟨by omega, by omega⟩, _, rfl, _, _, rfl, rfl, _, rfl, ?_⟩
      refine ite2 (fun c => ?_) (fun c => ?_)
      · have c2 : d * d ≤ r := by
          have := of_decide_eq_true c
          omega
        refine while_by (fun σ H2 => ∃ (fs1 : Fs) (r1 : Nat), σ = [some (.int (n : Int)), some (.ref p), some (.int (r1 : Int)), some (.int (d : Int))] ∧ H2 = upd H p (.dK (toK fs1)) ∧
            0 < r1 ∧ r1 ≤ r ∧ inn fs1 r1 d = inn fs r d ∧ 2 ^ fs1.length * r1 ≤ n)
          (fun σ _ => match σ with | [_, _, some (.int r), _] => r.toNat | _ => 0) ⟨fs, r, rfl, rfl, r0, Nat.le_refl _, rfl, hb⟩ ?_ ?_
        · rintro σ H2 ⟨fs1, r1, rfl, rfl, r10, r1r, ei, hb1⟩
          refine ⟨_, rfl, _, rfl, _, _, rfl, rfl, by omega, rfl, _, rfl, ?_⟩
          show (if decide (V.int ((r1 : Int) % (d : Int)) = V.int 0) = true then _ else _)
          rw [dInt, show decide ((r1 : Int) % (d : Int) = 0) = decide (r1 % d = 0) from decide_eq_decide.mpr (by omega)]
          by_cases z : r1 % d = 0
          · refine ifT (decide_eq_true z) ?_
            have e1 := ei
            rw [inn, dif_pos ⟨d2, r10, z⟩] at e1
            have lt := Nat.div_lt_self r10 d2
            have hb2 : 2 ^ (bump fs1 d).length * (r1 / d) ≤ n := by
              refine Nat.le_trans ?_ hb1
              have h1 : 2 ^ (bump fs1 d).length ≤ 2 ^ (fs1.length + 1) := Nat.pow_le_pow_right (by decide) (bump_len fs1 d)
              have h2 : 2 * (r1 / d) ≤ r1 := Nat.le_trans (Nat.mul_le_mul_right _ d2) (Nat.mul_div_le r1 d)
              calc 2 ^ (bump fs1 d).length * (r1 / d) ≤ 2 ^ (fs1.length + 1) * (r1 / d) := Nat.mul_le_mul_right _ h1
                _ = 2 ^ fs1.length * (2 * (r1 / d)) := by rw [Nat.pow_succ, Nat.mul_assoc]
                _ ≤ 2 ^ fs1.length * r1 := Nat.mul_le_mul_left _ h2
            have ll := len_small hb1 r10 hn
            have dl : (d : Nat) ≤ 10 ^ 9 + 2 := by omega
            refine ⟨_, rfl, _, rfl, .inl ⟨_, .inl upd_same⟩, _, rfl, _, DGet.k (k := Sum.inl (d : Int)) upd_same, _, _, get_toK fs1 d, rfl, ?_⟩
            refine ⟨_, rfl, _, rfl, p, _, rfl, DPut.k (k := Sum.inl (d : Int)) upd_same (small1000 (by rw [toK_len]; omega)), ?_⟩
            refine ⟨_, rfl, _, rfl, _, _, rfl, rfl, wide_div (b := 40) (by omega) (by rw [Int.natAbs_natCast]; omega) (by decide) (by decide), ?_⟩
            refine ⟨⟨bump fs1 d, r1 / d, ?_, ?_, Nat.div_pos (Nat.le_of_dvd r10 (Nat.dvd_of_mod_eq_zero z)) (by omega), by omega, e1, hb2⟩, ?_⟩
            · show [some (V.int (n : Int)), some (V.ref p), some (V.int ((r1 : Int) / (d : Int))), some (V.int (d : Int))] = _
              rw [Int.natCast_ediv]
            · rw [upd_upd, put_toK]
            · show ((r1 : Int) / (d : Int)).toNat < ((r1 : Int)).toNat
              rw [← Int.natCast_ediv]
              omega
          · refine ifF (decide_eq_false z) ?_
            have e1 := ei
            rw [inn, dif_neg (fun q => z q.2.2)] at e1
            have el : inn fs r d = (fs1, r1) := e1.symm
            have ir := inn_dvd fs r d
            rw [el] at ir
            have eo2 := eo
            rw [outer, dif_pos ⟨d2, c2⟩, el] at eo2
            have dd : d ≤ d * d := Nat.le_mul_self d
            refine ⟨_, rfl, (d : Int), 1, rfl, rfl, ⟨fs1, r1, d + 1, rfl, rfl, by omega, by omega, r10, by omega, eo2, ?_, hb1, ?_⟩, ?_⟩
            · have := inn_asc fs r d ⟨ha.1, fun p hp => by have := ha.2 p hp; omega⟩
              rw [el] at this
              exact this
            · intro k k2 kd q
              by_cases e : k = d
              · subst e
                exact z q
              · exact hd k k2 (by omega) (Nat.mod_eq_zero_of_dvd (Nat.dvd_trans (Nat.dvd_of_mod_eq_zero q) ir))
            · show ((r1 : Int) - ((d : Int) + 1)).toNat < ((r : Int) - (d : Int)).toNat
              have h2 : 2 * d ≤ d * d := Nat.mul_le_mul_right d d2
              omega
        · rintro σ H2 Q1 Q2 m ⟨v, hv, v2, hv2, i, j, e1, e2, cc, sc, k, e5, q⟩
          exact ⟨v, hv, v2, hv2, i, j, e1, e2, cc, sc, k, e5, m _ _ q⟩
      · have c2 : ¬ d * d ≤ r := fun z => c (decide_eq_true (by
          have z2 : ((d * d : Nat) : Int) ≤ (r : Int) := Int.ofNat_le.mpr z
          simpa using z2))
        have eo2 := eo
        rw [outer, dif_neg (fun q => c2 q.2)] at eo2
        have ll := len_small hb r0 hn
        refine ⟨_, rfl, _, _, rfl, rfl, _, rfl, ?_⟩
        refine ite2 (fun e => ?_) (fun e => ?_)
        · have e1 : 1 < r := by
            have := of_decide_eq_true e
            omega
          rw [if_pos e1] at eo2
          have lk := outer_new ha d2 hd e1
          refine ⟨_, rfl, _, rfl, p, _, rfl, DPut.k (k := Sum.inl (r : Int)) upd_same (small1000 (by rw [toK_len]; omega)), _, rfl, ?_⟩
          have ep := put_toK fs r
          rw [lk] at ep
          rw [upd_upd, show (V.int 1) = V.int (((0 : Nat) : Int) + 1) from rfl, ep, eo2]
          exact q p hp
        · have e1 : ¬ 1 < r := fun z => e (decide_eq_true (by omega))
          rw [if_neg e1] at eo2
          refine ⟨_, rfl, ?_⟩
          rw [eo2]
          exact q p hp
    · rintro σ H2 Q1 Q2 m ⟨v, hv, v2, hv2, i, j, e1, e2, cc, v3, hv3, i2, j2, e3, e4, k, e5, q⟩
      exact ⟨v, hv, v2, hv2, i, j, e1, e2, cc, v3, hv3, i2, j2, e3, e4, k, e5, m _ _ q⟩
def spFacs2 : Sp := fun vs H Q _ => ∃ n : Nat, vs = [.int (n : Int)] ∧ 0 < n ∧ n ≤ 10 ^ 9 ∧ ∀ H' p, Same H H' → H p = none → H' p = some (.dK (toK (facs n))) → Q (.ref p) H'
end
end K03


set_option Elab.async false
set_option linter.all false
set_option maxRecDepth 100000
namespace K03
open PySem PySem.Spec PyProof.Rows L2 MM
/-! the greatest power of p that divides m, from t on -/
def grow (p m t : Nat) : Nat :=
  if h : 2 ≤ p ∧ 0 < t ∧ 0 < m ∧ m % (t * p) = 0 then grow p m (t * p) else t
termination_by m - t
decreasing_by
  have h1 : t * p ≤ m := Nat.le_of_dvd h.2.2.1 (Nat.dvd_of_mod_eq_zero h.2.2.2)
  have h2 : t * 2 ≤ t * p := Nat.mul_le_mul_left t h.1
  omega
theorem mod_abs (n : Int) (k : Nat) : (n % (k : Int) = 0) ↔ n.natAbs % k = 0 := by
  rw [← Int.dvd_iff_emod_eq_zero, ← Nat.dvd_iff_mod_eq_zero]
  exact ⟨fun h => by simpa using Int.natAbs_dvd_natAbs.mpr h, fun h => Int.natAbs_dvd_natAbs.mp (by simpa using h)⟩
def stepP (p m t : Nat) : Nat := if m % (t * p) = 0 then t * p else t
def iterP (p m : Nat) : Nat → Nat → Nat
  | 0, t => t
  | k + 1, t => iterP p m k (stepP p m t)
theorem iterP_snoc (p m : Nat) : ∀ k t, iterP p m (k + 1) t = stepP p m (iterP p m k t)
  | 0, _ => rfl
  | k + 1, t => iterP_snoc p m k (stepP p m t)
theorem iterP_stay {p m t : Nat} (h : ¬ m % (t * p) = 0) : ∀ k, iterP p m k t = t
  | 0 => rfl
  | k + 1 => by
    show iterP p m k (stepP p m t) = t
    have e : stepP p m t = t := if_neg h
    rw [e]
    exact iterP_stay h k
theorem iterP_grow {p m : Nat} (hp : 2 ≤ p) (hm : 0 < m) : ∀ k t, 0 < t → t ≤ m → m < t * p ^ k → iterP p m k t = grow p m t
  | 0, t, h0, hle, hlt => by
    rw [Nat.pow_zero, Nat.mul_one] at hlt
    omega
  | k + 1, t, h0, hle, hlt => by
    by_cases c : m % (t * p) = 0
    · rw [grow, dif_pos ⟨hp, h0, hm, c⟩]
      show iterP p m k (stepP p m t) = _
      have e : stepP p m t = t * p := if_pos c
      rw [e]
      refine iterP_grow hp hm k (t * p) (Nat.mul_pos h0 (by omega)) (Nat.le_of_dvd hm (Nat.dvd_of_mod_eq_zero c)) ?_
      rw [Nat.pow_succ, Nat.mul_comm (p ^ k) p, ← Nat.mul_assoc] at hlt
      exact hlt
    · rw [grow, dif_neg (fun q => c q.2.2.2)]
      exact iterP_stay c (k + 1)
theorem grow_pos (p m t : Nat) (h0 : 0 < t) : 0 < grow p m t := by
  rw [grow]
  split
  · rename_i h
    have h1 : t * p ≤ m := Nat.le_of_dvd h.2.2.1 (Nat.dvd_of_mod_eq_zero h.2.2.2)
    have h2 : t * 2 ≤ t * p := Nat.mul_le_mul_left t h.1
    have dec : m - t * p < m - t := by omega
    exact grow_pos p m (t * p) (Nat.mul_pos h0 (by omega))
  · exact h0
termination_by m - t
decreasing_by assumption
theorem grow_dvd (p m t : Nat) (h0 : t ∣ m) : grow p m t ∣ m := by
  rw [grow]
  split
  · rename_i h
    have h1 : t * p ≤ m := Nat.le_of_dvd h.2.2.1 (Nat.dvd_of_mod_eq_zero h.2.2.2)
    have h2 : t * 2 ≤ t * p := Nat.mul_le_mul_left t h.1
    have dec : m - t * p < m - t := by omega
    exact grow_dvd p m (t * p) (Nat.dvd_of_mod_eq_zero h.2.2.2)
  · exact h0
termination_by m - t
decreasing_by assumption
theorem grow_pw (p m t : Nat) (h : ∃ j, t = p ^ j) : ∃ k, grow p m t = p ^ k := by
  rw [grow]
  split
  · rename_i c
    have h1 : t * p ≤ m := Nat.le_of_dvd c.2.2.1 (Nat.dvd_of_mod_eq_zero c.2.2.2)
    have h2 : t * 2 ≤ t * p := Nat.mul_le_mul_left t c.1
    have dec : m - t * p < m - t := by omega
    exact grow_pw p m (t * p) (by
      obtain ⟨j, e⟩ := h
      exact ⟨j + 1, by rw [e, Nat.pow_succ]⟩)
  · exact h
termination_by m - t
decreasing_by assumption
theorem grow_self {p : Nat} (hp : 2 ≤ p) (k : Nat) : ∀ i j, i + j = k → grow p (p ^ k) (p ^ j) = p ^ k
  | 0, j, e => by
    have ej : j = k := by omega
    subst ej
    rw [grow, dif_neg]
    rintro ⟨_, h0, _, c⟩
    have h1 := Nat.le_of_dvd h0 (Nat.dvd_of_mod_eq_zero c)
    have h2 : p ^ j * 2 ≤ p ^ j * p := Nat.mul_le_mul_left _ hp
    omega
  | i + 1, j, e => by
    have h0 : 0 < p ^ j := Nat.pow_pos (by omega)
    have hk : 0 < p ^ k := Nat.pow_pos (by omega)
    have hz : p ^ k % (p ^ j * p) = 0 := by
      rw [← Nat.pow_succ]
      exact Nat.mod_eq_zero_of_dvd (Nat.pow_dvd_pow p (by omega))
    rw [grow, dif_pos ⟨hp, h0, hk, hz⟩]
    exact grow_self hp k i (j + 1) (by omega)
theorem grow_twice {p m : Nat} (hp : 2 ≤ p) : grow p (grow p m 1) 1 = grow p m 1 := by
  obtain ⟨k, e⟩ := grow_pw p m 1 ⟨0, rfl⟩
  rw [e]
  exact grow_self hp k k 0 rfl
theorem grow_one {p : Nat} (hp : 2 ≤ p) : grow p 1 1 = 1 := grow_self hp 0 0 0 rfl
end K03

set_option Elab.async false
set_option linter.all false
set_option maxRecDepth 100000
set_option maxHeartbeats 2000000
namespace K03
open PySem PySem.Spec PyProof.Rows L2 MM
/-! own words for the readings: a step, its side -/
local macro_rules | `(tactic| walk_at "side") => `(tactic| first
  | omega
  | exact ⟨by omega, by omega⟩
  | exact Or.inl ⟨by omega, by omega⟩
  | exact Or.inr ⟨by omega, by omega⟩
  | (show CPw _ _; decide +kernel)
  | (show (0 : Int) < _; decide +kernel)
  | (show CDivW _ _; first | assumption | exact ⟨by decide, by decide +kernel⟩))
local macro_rules | `(tactic| walk_at "here") => `(tactic| first
  | assumption
  | exact upd_same
  | exact Or.inl (Or.inl upd_same)
  | exact Or.inl upd_same)
local macro_rules | `(tactic| walk_at "one") => `(tactic| first
  | refine ⟨_, rfl, ?_⟩
  | refine Or.inl ⟨_, rfl, ?_⟩
  | refine Or.inr ⟨_, rfl, ?_⟩
  | refine ⟨_, _, rfl, rfl, (by walk_at "side"), ?_⟩
  | refine ⟨_, _, rfl, rfl, ?_⟩
  | refine ⟨_, _, rfl, Or.inl (by walk_at "here"), ?_⟩
  | refine ⟨_, _, rfl, Or.inr (by walk_at "here"), ?_⟩
  | refine ⟨_, _, rfl, (by walk_at "here"), ?_⟩
  | refine ⟨_, _, _, _, rfl, rfl, (by walk_at "here"), rfl, ?_⟩
  | refine ⟨_, _, rfl, ?_⟩
  | refine ifT (by rfl) ?_
  | refine ifF (by rfl) ?_
  | refine ifT (decide_eq_true (by omega)) ?_
  | refine ifF (decide_eq_false (by omega)) ?_)
local macro_rules | `(tactic| walk_at "st") => `(tactic| repeat (walk_at "one"))

section
variable {P : Program} {w : World} {K : PySem.W.Frag} {mg : Str → Option Value} {base : Heap}
def spNeedDivided : Sp := fun vs H Q _ => ∃ n : Int, vs = [.int n] ∧ isI (.int n) = true ∧ n ≠ 0 ∧ Q .non H
theorem scNeedDivided : FnScope ["number"] ["number"] (defScope sNeedDivided) :=
  ⟨rfl, rfl, rfl, by decide +kernel, rfl, by decide +kernel, by decide +kernel⟩
theorem dNeedDivided (T : Tx K mg) (DIsInteger : Def P w K mg base CX0 2 "is_integer" ["value"] (spIsInteger K)) : Def P w K mg base CX0 3 "_need_divided" ["number"] spNeedDivided := by
  refine T.t_need_divided.def_ (N := ["number"]) scNeedDivided (fun _ _ _ _ _ _ us hl => match us, hl with | [_], _ => rfl) ?_ ?_
  · intro vs H Q E h
    obtain ⟨n, rfl, _⟩ := h
    rfl
  · intro f cd A out s H vs Q E hr h
    have hr1 : Rm 2 _ := hr.le (by decide)
    obtain ⟨n, rfl, hi, h0, q⟩ := h
    refine ⟨_, (pss_one (ps_if (PW.pt (pw_or (pt_not (pt_val (pe_d DIsInteger (hr1.le (by decide)) pass0 (pa_cons (pv 0) pa_nil)))) (pw_or1 (pt_cmpR op_eq (pv 0) pe_int (nomark _))))) (pss_one ps_never) pss_nil)), ?_⟩
    refine ⟨_, rfl, _, .int, rfl, .int n, _, rfl, ?_⟩
    refine ifF (by rw [hi]; rfl) ?_
    refine ⟨_, rfl, rfl, _, rfl, ?_⟩
    refine ifF ?_ q
    show decide (V.int n = V.int 0) = false
    rw [dInt]
    exact decide_eq_false h0
def spPartAt : Sp := fun vs H Q _ => ∃ (p : Nat) (n : Int), vs = [.int (p : Int), .int n] ∧ isP (.int (p : Int)) = true ∧ isI (.int n) = true ∧ n ≠ 0 ∧ ∀ H', Same H H' → Q (.int (grow p n.natAbs 1 : Nat)) H'
theorem isP_bd {p : Nat} (h : isP (.int (p : Int)) = true) : 2 ≤ p ∧ p ≤ 99 := by
  have h1 : (decide (2 ≤ (p : Int)) && decide ((p : Int) ≤ 99) && noDiv p) = true := h
  rw [Bool.and_eq_true, Bool.and_eq_true] at h1
  have a := of_decide_eq_true h1.1.1
  have b := of_decide_eq_true h1.1.2
  omega
theorem scPartAt : FnScope ["prime", "number", "part"] ["prime", "number"] (defScope sPartAt) :=
  ⟨rfl, rfl, rfl, by decide +kernel, rfl, by decide +kernel, by decide +kernel⟩
theorem dPartAt (T : Tx K mg) (DNeedPrime : Def P w K mg base CX0 4 "need_prime" ["prime"] (spNeedPrime K)) (DNeedDivided : Def P w K mg base CX0 3 "_need_divided" ["number"] spNeedDivided) : Def P w K mg base CX0 5 "part_at" ["prime", "number"] spPartAt := by
  refine T.t_part_at.def_ (N := ["prime", "number", "part"]) scPartAt (fun _ _ _ _ _ _ us hl => match us, hl with | [_, _], _ => rfl) ?_ ?_
  · intro vs H Q E h
    obtain ⟨p, n, rfl, _⟩ := h
    rfl
  · intro f cd A out s H vs Q E hr h
    have hr1 : Rm 4 _ := hr.le (by decide)
    obtain ⟨p, n, rfl, hp, hi, h0, q⟩ := h
    obtain ⟨p2, p99⟩ := isP_bd hp
    refine ⟨_, (pss_cons (ps_expr (pe_d DNeedPrime (hr1.le (by decide)) pass0 (pa_cons (pv 0) pa_nil)))
      (pss_cons (ps_expr (pe_d DNeedDivided (hr1.le (by decide)) pass0 (pa_cons (pv 1) pa_nil)))
      (pss_cons (ps_set (i := 2) scPartAt.nd rfl (Or.inl rfl) pe_int)
      (pss_cons (ps_while PassesOwn.never (pt_cmpR op_eq (pe_op op_mod (pv 1) (pe_op op_mul (pv 2) (pv 0))) pe_int (nomark _))
        (pss_one (ps_set (i := 2) scPartAt.nd rfl (Or.inl rfl) (pe_op op_mul (pv 2) (pv 0)))))
      (pss_one (ps_ret (pv 2))))))), ?_⟩
    refine ⟨_, rfl, (p : Int), rfl, hp, ?_⟩
    intro H' sm
    refine ⟨_, rfl, n, rfl, hi, h0, ?_⟩
    have m0 : 0 < n.natAbs := by omega
    refine while_by (fun σ H2 => H2 = H' ∧ ∃ t : Nat, σ = [some (.int (p : Int)), some (.int n), some (.int (t : Int))] ∧ 0 < t ∧ t ≤ n.natAbs ∧ grow p n.natAbs t = grow p n.natAbs 1)
      (fun σ _ => match σ with | [_, _, some (.int t)] => n.natAbs - t.toNat | _ => 0) ⟨rfl, 1, rfl, by omega, by omega, rfl⟩ ?_ ?_
    · rintro σ H2 ⟨rfl, t, rfl, t0, tm, eg⟩
      have tp : 0 < t * p := Nat.mul_pos t0 (by omega)
      refine ⟨_, rfl, _, rfl, _, rfl, _, _, rfl, rfl, .inr ⟨by omega, by omega⟩, _, _, rfl, rfl, ?_, rfl, _, rfl, ?_⟩
      · show (0 : Int) < (t : Int) * (p : Int)
        rw [← Int.natCast_mul]
        omega
      show (if decide (V.int (n % ((t : Int) * (p : Int))) = V.int 0) = true then _ else _)
      rw [dInt, ← Int.natCast_mul, show decide (n % ((t * p : Nat) : Int) = 0) = decide (n.natAbs % (t * p) = 0) from decide_eq_decide.mpr (mod_abs n (t * p))]
      by_cases z : n.natAbs % (t * p) = 0
      · refine ifT (decide_eq_true z) ?_
        have e1 := eg
        rw [grow, dif_pos ⟨p2, t0, m0, z⟩] at e1
        have le := Nat.le_of_dvd m0 (Nat.dvd_of_mod_eq_zero z)
        have h2 : t * 2 ≤ t * p := Nat.mul_le_mul_left t p2
        refine ⟨_, rfl, _, rfl, _, _, rfl, rfl, .inr ⟨by omega, by omega⟩, ⟨rfl, t * p, ?_, tp, le, e1⟩, ?_⟩
        · show [some (V.int (p : Int)), some (V.int n), some (V.int ((t : Int) * (p : Int)))] = _
          rw [← Int.natCast_mul]
        · show n.natAbs - ((t : Int) * (p : Int)).toNat < n.natAbs - ((t : Int)).toNat
          rw [← Int.natCast_mul]
          omega
      · refine ifF (decide_eq_false z) ?_
        have e1 := eg
        rw [grow, dif_neg (fun q => z q.2.2.2)] at e1
        refine ⟨_, rfl, ?_⟩
        rw [e1]
        exact q _ sm
    · rintro σ H2 Q1 Q2 m ⟨v, hv, v2, hv2, v3, hv3, i, j, e1, e2, cc, i2, j2, e3, e4, c2, sc, k, e5, q⟩
      exact ⟨v, hv, v2, hv2, v3, hv3, i, j, e1, e2, cc, i2, j2, e3, e4, c2, sc, k, e5, m _ _ q⟩
end
end K03


set_option Elab.async false
set_option linter.all false
set_option maxRecDepth 100000
set_option maxHeartbeats 2000000
namespace K03
open PySem PySem.Spec PyProof.Rows L2 MM
/-! math.lcm -/
section
variable {X : Cx}
def rLcm : List V → Hp → VK → Prop := fun vs H Q => ∃ a b : Int, vs = [.int a, .int b] ∧ a.natAbs < 2 ^ 13000 ∧ b.natAbs < 2 ^ 13000 ∧ Q (.int ((Nat.lcm a.natAbs b.natAbs : Nat) : Int)) H
theorem log_ok {n : Nat} (h : n < 2 ^ 13000) : ¬ n.log2 / 30 + 1 > 450 := by
  have := PySem.W.mg_log (n := n) (k := 12999) h
  omega
theorem lcm_ok {a b : Nat} (ha : a < 2 ^ 13000) (hb : b < 2 ^ 13000) : (Nat.lcm a b).log2 < bitsLine := by
  have h1 : Nat.lcm a b ≤ a * b := Nat.div_le_self _ _
  have h2 : a * b < 2 ^ 26000 := by
    rw [show (26000 : Nat) = 13000 + 13000 from rfl, Nat.pow_add]
    exact Nat.mul_lt_mul'' ha hb
  have h3 := PySem.W.mg_log (n := Nat.lcm a b) (k := 25999) (Nat.lt_of_le_of_lt h1 h2)
  exact Nat.lt_of_le_of_lt h3 (by decide +kernel)
theorem cr_lcm : CallR X (.builtin "math.lcm") rLcm := by
  intro pins s σ H vs us Q I r h
  obtain ⟨a, b, rfl, ha, hb, q⟩ := h
  obtain ⟨t, u, rfl⟩ := Vals.int2 r
  have e : (Nat.lcm 1 a.natAbs).lcm b.natAbs = Nat.lcm a.natAbs b.natAbs := by rw [Nat.lcm_one_left]
  refine PySem.call_function_meets PySem.W.MGF.kind_lcm PySem.W.MGF.plain_lcm PySem.W.MGF.entry_lcm (PySem.W.MGF.args_lcm _ _) (PySem.W.mg_run_lcm a t b u (log_ok ?_) (log_ok ?_) ?_).meets ?_
  · exact Nat.max_lt.mpr ⟨by exact Nat.one_lt_two_pow (by decide), ha⟩
  · exact Nat.max_lt.mpr ⟨ha, hb⟩
  · rw [e, Int.natAbs_natCast]
    exact lcm_ok ha hb
  · rw [e]
    exact ⟨.int _, H, I.tok _, ⟨_, rfl⟩, q⟩
/-- // by a divisor that is not 0 -/
def CDivG (_ j : Int) : Prop := j ≠ 0 ∧ j.natAbs.log2 < 9000
theorem op_fdivG : OpR X (binaryOp .FloorDiv) (rI CDivG fun i j => .int (i.fdiv j)) := opI fun i j _ _ _ _ _ hc q =>
  floordiv_int hc.1 q (.inl (PyProof.noPylong_of_log2 hc.2))
theorem divG {i j : Int} (h0 : j ≠ 0) (h : j.natAbs < 2 ^ 8999) : CDivG i j := ⟨h0, Nat.lt_of_lt_of_le (PySem.Flt.log2_lt_of (by decide) h) (by decide)⟩
end
/-! least common multiples -/
def lcmL (ns : List Int) : Nat := ns.foldl (fun g n => Nat.lcm g n.natAbs) 1
theorem lcmL_more {ns : List Int} {i : Nat} {n : Int} (h : ns[i]? = some n) : lcmL (ns.take (i + 1)) = Nat.lcm (lcmL (ns.take i)) n.natAbs := by
  unfold lcmL
  rw [List.take_add_one, h, List.foldl_append]
  rfl
end K03

set_option Elab.async false
set_option linter.all false
set_option maxRecDepth 100000
set_option maxHeartbeats 2000000
namespace K03
open PySem PySem.Spec PyProof.Rows L2 MM
/-! own words for the readings: a step, its side -/
local macro_rules | `(tactic| walk_at "side") => `(tactic| first
  | omega
  | exact ⟨by omega, by omega⟩
  | exact Or.inl ⟨by omega, by omega⟩
  | exact Or.inr ⟨by omega, by omega⟩
  | (show CPw _ _; decide +kernel)
  | (show (0 : Int) < _; decide +kernel)
  | (show CDivW _ _; first | assumption | exact ⟨by decide, by decide +kernel⟩))
local macro_rules | `(tactic| walk_at "here") => `(tactic| first
  | assumption
  | exact upd_same
  | exact Or.inl (Or.inl upd_same)
  | exact Or.inl upd_same)
local macro_rules | `(tactic| walk_at "one") => `(tactic| first
  | refine ⟨_, rfl, ?_⟩
  | refine Or.inl ⟨_, rfl, ?_⟩
  | refine Or.inr ⟨_, rfl, ?_⟩
  | refine ⟨_, _, rfl, rfl, (by walk_at "side"), ?_⟩
  | refine ⟨_, _, rfl, rfl, ?_⟩
  | refine ⟨_, _, rfl, Or.inl (by walk_at "here"), ?_⟩
  | refine ⟨_, _, rfl, Or.inr (by walk_at "here"), ?_⟩
  | refine ⟨_, _, rfl, (by walk_at "here"), ?_⟩
  | refine ⟨_, _, _, _, rfl, rfl, (by walk_at "here"), rfl, ?_⟩
  | refine ⟨_, _, rfl, ?_⟩
  | refine ifT (by rfl) ?_
  | refine ifF (by rfl) ?_
  | refine ifT (decide_eq_true (by omega)) ?_
  | refine ifF (decide_eq_false (by omega)) ?_)
local macro_rules | `(tactic| walk_at "st") => `(tactic| repeat (walk_at "one"))

section
variable {P : Program} {w : World} {K : PySem.W.Frag} {mg : Str → Option Value} {base : Heap}
def Ints (K : PySem.W.Frag) (H : Hp) (a : Addr) (ns : List Int) : Prop := SqT K H a (ns.map V.int) ∧ ns.length ≤ 1000 ∧ ∀ n, n ∈ ns → isI (.int n) = true
def spNeedNumbers (K : PySem.W.Frag) : Sp := fun vs H Q _ => ∃ a ns, vs = [.ref a] ∧ Ints K H a ns ∧ ∀ H', Same H H' → Q .non H'
theorem all_map {α : Type} {l : List α} {f : α → Bool} (h : ∀ x, x ∈ l → f x = true) : (l.map f).all id = true := by
  rw [List.all_map]
  exact List.all_eq_true.mpr h
theorem scNeedNumbers : FnScope ["numbers", "number"] ["numbers"] (defScope sNeedNumbers) :=
  ⟨rfl, rfl, rfl, by decide +kernel, rfl, by decide +kernel, by decide +kernel⟩
theorem dNeedNumbers (T : Tx K mg) (DIsInteger : Def P w K mg base CX0 2 "is_integer" ["value"] (spIsInteger K)) : Def P w K mg base CX0 3 "_need_numbers" ["numbers"] (spNeedNumbers K) := by
  refine T.t_need_numbers.def_ (N := ["numbers", "number"]) scNeedNumbers (fun _ _ _ _ _ _ us hl => match us, hl with | [_], _ => rfl) ?_ ?_
  · intro vs H Q E h
    obtain ⟨a, ns, rfl, _⟩ := h
    rfl
  · intro f cd A out s H vs Q E hr h
    have hr1 : Rm 2 _ := hr.le (by decide)
    obtain ⟨a, ns, rfl, ⟨hS, hl, hi⟩, q⟩ := h
    refine ⟨_, (pss_cons (ps_if (PW.pt (pw_or (pt_not (pt_val (pe_callB (cr_is .tup) rfl T.f_isinstance (by decide +kernel) (pa_cons (pv 0) (pa_cons (pe_ty .tup T.f_tuple (by decide +kernel)) pa_nil))))) (pw_or1 (pt_cmpR op_gt (pe_callB call_len_seq rfl T.f_len (by decide +kernel) (pa_cons (pv 0) pa_nil)) (C8.pe_gc rfl T.c_MOST_NUMBERS) (nomark _))))) (pss_one ps_never) pss_nil)
      (pss_one (ps_if (pt_not (pt_val (pe_callB (cr_all rfl) rfl T.f_all (by decide +kernel) (pa_cons (pe_lc (own := [("number", 1)]) (g := gName 1) (tt := tYes) rfl scNeedNumbers.nd (pi_tup (pv 0)) (blkOk_by (N := ["numbers", "number"]) (sc := defScope sNeedNumbers) (by decide +kernel)) (fun _ _ _ _ _ => pg_name (i := 1) scNeedNumbers.nd rfl (Or.inl rfl)) (fun _ _ _ _ _ => pts_nil) (fun _ _ _ _ _ => (pe_d DIsInteger (hr1.le (by decide)) pass0 (pa_cons (pv 1) pa_nil)))) pa_nil)))) (pss_one ps_never) pss_nil))), ?_⟩
    refine ⟨_, rfl, _, _, rfl, .tup hS, _, rfl, ?_⟩
    refine ifF rfl ?_
    refine ⟨_, rfl, _, _, rfl, .inr hS, _, _, rfl, rfl, _, rfl, ?_⟩
    refine ifF ?_ ?_
    · refine decide_eq_false ?_
      rw [List.length_map]
      omega
    refine ⟨_, rfl, a, rfl, ⟨_, hS⟩, ?_⟩
    intro D nD
    refine lc_tpl (fun x => .bl (isI x)) hS nD (by rw [List.length_map]; exact Nat.le_of_lt (small1000 hl)) ?_ ?_
    · intro x acc hx Q' q'
      obtain ⟨n, _, rfl⟩ := List.mem_map.mp hx
      exact ⟨_, rfl, _, .int, rfl, .int n, q'⟩
    · refine ⟨D, ns.map fun n => isI (.int n), rfl, .inl (.inl (Eq.trans upd_same ?_)), ?_⟩
      · rw [List.map_map, List.map_map]
        rfl
      · refine ⟨_, rfl, ?_⟩
        refine ifF ?_ (q _ (same_new nD))
        rw [all_map (fun x hx => hi x hx)]
        rfl
def spCommonDivisor (K : PySem.W.Frag) : Sp := fun vs H Q _ => ∃ a ns, vs = [.ref a] ∧ Ints K H a ns ∧ ∀ H', Same H H' → Q (.int (gcdL ns : Nat)) H'
theorem scCommonDivisor : FnScope ["numbers", "divisor", "number"] ["numbers"] (defScope sCommonDivisor) :=
  ⟨rfl, rfl, rfl, by decide +kernel, rfl, by decide +kernel, by decide +kernel⟩
theorem dCommonDivisor (T : Tx K mg) (DNeedNumbers : Def P w K mg base CX0 3 "_need_numbers" ["numbers"] (spNeedNumbers K)) : Def P w K mg base CX0 4 "common_divisor" ["numbers"] (spCommonDivisor K) := by
  refine T.t_common_divisor.def_ (N := ["numbers", "divisor", "number"]) scCommonDivisor (fun _ _ _ _ _ _ us hl => match us, hl with | [_], _ => rfl) ?_ ?_
  · intro vs H Q E h
    obtain ⟨a, ns, rfl, _⟩ := h
    rfl
  · intro f cd A out s H vs Q E hr h
    have hr1 : Rm 3 _ := hr.le (by decide)
    obtain ⟨a, ns, rfl, hI, q⟩ := h
    refine ⟨_, (pss_cons (ps_expr (pe_d DNeedNumbers (hr1.le (by decide)) pass0 (pa_cons (pv 0) pa_nil)))
      (pss_cons (ps_set (i := 1) scCommonDivisor.nd rfl (Or.inl rfl) pe_int)
      (pss_cons (ps_for PassesOwn.never rfl (pi_tup (pv 0)) (pg_name (i := 2) scCommonDivisor.nd rfl (Or.inl rfl))
        (pss_one (ps_set (i := 1) scCommonDivisor.nd rfl (Or.inl rfl) (pe_callBfun cr_gcd rfl T.b_gcd (pa_cons (pv 1) (pa_cons (pv 2) pa_nil))))))
      (pss_one (ps_ret (pv 1)))))), ?_⟩
    refine ⟨_, rfl, a, ns, rfl, hI, ?_⟩
    intro H' sm
    have hS := same_sqt sm hI.1
    refine ⟨_, rfl, a, rfl, ⟨_, hS⟩, for_tup (K := K) (a := a) (xs := ns.map V.int)
      (fun i σ H2 => H2 = H' ∧ ∃ y, σ = [some (.ref a), some (.int (gcdL (ns.take i) : Nat)), y]) ⟨rfl, none, rfl⟩ (fun i σ H2 _ e => by rw [e.1]; exact hS) ?_ ?_⟩
    · rintro i x σ H2 hi ⟨rfl, y, rfl⟩
      obtain ⟨n, hn, rfl⟩ := map_int hi
      refine ⟨_, rfl, _, rfl, _, _, rfl, ⟨rfl, some (.int n), ?_⟩⟩
      show [some (V.ref a), some (V.int ((Nat.gcd (gcdL (ns.take i)) n.natAbs : Nat) : Int)), some (V.int n)] = _
      rw [gcdL_more hn]
    · rintro σ H2 ⟨rfl, y, rfl⟩
      rw [List.length_map, List.take_length]
      exact ⟨_, rfl, q _ sm⟩
def LcmOk (ns : List Int) : Prop := (∀ n, n ∈ ns → 0 < n) ∧ ∀ i, lcmL (ns.take i) < 2 ^ 13000
theorem isI_13000 {n : Int} (h : isI (.int n) = true) : n.natAbs < 2 ^ 13000 := by
  have e : (decide (-10 ^ 60 < n) && decide (n < 10 ^ 60)) = true := h
  rw [Bool.and_eq_true] at e
  have a := of_decide_eq_true e.1
  have b := of_decide_eq_true e.2
  have c : n.natAbs < 10 ^ 60 := by omega
  refine Nat.lt_of_lt_of_le c (Nat.le_trans (m := 2 ^ 200) (by decide) (Nat.pow_le_pow_right (by decide) (by decide)))
def spCommonMultiple (K : PySem.W.Frag) : Sp := fun vs H Q _ => ∃ a ns, vs = [.ref a] ∧ Ints K H a ns ∧ LcmOk ns ∧ ∀ H', Same H H' → Q (.int (lcmL ns : Nat)) H'
theorem scCommonMultiple : FnScope ["numbers", "number", "multiple"] ["numbers"] (defScope sCommonMultiple) :=
  ⟨rfl, rfl, rfl, by decide +kernel, rfl, by decide +kernel, by decide +kernel⟩
theorem dCommonMultiple (T : Tx K mg) (DNeedNumbers : Def P w K mg base CX0 3 "_need_numbers" ["numbers"] (spNeedNumbers K)) : Def P w K mg base CX0 4 "common_multiple" ["numbers"] (spCommonMultiple K) := by
  refine T.t_common_multiple.def_ (N := ["numbers", "number", "multiple"]) scCommonMultiple (fun _ _ _ _ _ _ us hl => match us, hl with | [_], _ => rfl) ?_ ?_
  · intro vs H Q E h
    obtain ⟨a, ns, rfl, _⟩ := h
    rfl
  · intro f cd A out s H vs Q E hr h
    have hr1 : Rm 3 _ := hr.le (by decide)
    obtain ⟨a, ns, rfl, hI, hL, q⟩ := h
    refine ⟨_, (pss_cons (ps_expr (pe_d DNeedNumbers (hr1.le (by decide)) pass0 (pa_cons (pv 0) pa_nil)))
      (pss_cons (ps_if (pt_not (pt_val (pe_callB (cr_all rfl) rfl T.f_all (by decide +kernel) (pa_cons (pe_lc (own := [("number", 1)]) (g := gName 1) (tt := tYes) rfl scCommonMultiple.nd (pi_tup (pv 0)) (blkOk_by (N := ["numbers", "number", "multiple"]) (sc := defScope sCommonMultiple) (by decide +kernel)) (fun _ _ _ _ _ => pg_name (i := 1) scCommonMultiple.nd rfl (Or.inl rfl)) (fun _ _ _ _ _ => pts_nil) (fun _ _ _ _ _ => (pe_cmpR op_gt (pv 1) pe_int (nomark _)))) pa_nil)))) (pss_one ps_never) pss_nil)
      (pss_cons (ps_set (i := 2) scCommonMultiple.nd rfl (Or.inl rfl) pe_int)
      (pss_cons (ps_for PassesOwn.never rfl (pi_tup (pv 0)) (pg_name (i := 1) scCommonMultiple.nd rfl (Or.inl rfl))
        (pss_one (ps_set (i := 2) scCommonMultiple.nd rfl (Or.inl rfl) (pe_callBfun cr_lcm rfl T.b_lcm (pa_cons (pv 2) (pa_cons (pv 1) pa_nil))))))
      (pss_one (ps_ret (pv 2))))))), ?_⟩
    refine ⟨_, rfl, a, ns, rfl, hI, ?_⟩
    intro H1 sm
    have hS1 := same_sqt sm hI.1
    refine ⟨_, rfl, a, rfl, ⟨_, hS1⟩, ?_⟩
    intro D nD
    refine lc_tpl (fun x => .bl (match x with | .int n => decide (0 < n) | _ => false)) hS1 nD (by rw [List.length_map]; exact Nat.le_of_lt (small1000 hI.2.1)) ?_ ?_
    · intro x acc hx Q' q'
      obtain ⟨n, _, rfl⟩ := List.mem_map.mp hx
      exact ⟨_, rfl, _, _, rfl, rfl, q'⟩
    refine ⟨D, ns.map fun n => decide (0 < n), rfl, .inl (.inl (Eq.trans upd_same ?_)), ?_⟩
    · rw [List.map_map, List.map_map]
      rfl
    refine ⟨_, rfl, ?_⟩
    refine ifF ?_ ?_
    · rw [all_map (fun x hx => decide_eq_true (hL.1 x hx))]
      rfl
    have sm2 := sm.trans (same_new (o := .lst ((ns.map V.int).map fun x => V.bl (match x with | .int n => decide (0 < n) | _ => false))) nD)
    generalize upd H1 D _ = H' at sm2 ⊢
    have hS := same_sqt sm2 hI.1
    refine ⟨_, rfl, a, rfl, ⟨_, hS⟩, for_tup (K := K) (a := a) (xs := ns.map V.int)
      (fun i σ H2 => H2 = H' ∧ ∃ y, σ = [some (.ref a), y, some (.int (lcmL (ns.take i) : Nat))]) ⟨rfl, none, rfl⟩ (fun i σ H2 _ e => by rw [e.1]; exact hS) ?_ ?_⟩
    · rintro i x σ H2 hi ⟨rfl, y, rfl⟩
      obtain ⟨n, hn, rfl⟩ := map_int hi
      refine ⟨_, rfl, _, rfl, _, _, rfl, ?_, isI_13000 (hI.2.2 n (List.mem_of_getElem? hn)), rfl, some (.int n), ?_⟩
      · rw [Int.natAbs_natCast]
        exact hL.2 i
      show [some (V.ref a), some (V.int n), some (V.int ((Nat.lcm (((lcmL (ns.take i) : Nat) : Int)).natAbs n.natAbs : Nat) : Int))] = _
      rw [lcmL_more hn, Int.natAbs_natCast]
    · rintro σ H2 ⟨rfl, y, rfl⟩
      rw [List.length_map, List.take_length]
      exact ⟨_, rfl, q _ sm2⟩
def signG (b : Int) (g : Nat) : Int := if b < 0 then -(g : Int) else (g : Int)
def spLowest (K : PySem.W.Frag) : Sp := fun vs H Q _ => ∃ t b : Int, vs = [.int t, .int b] ∧ isI (.int t) = true ∧ isI (.int b) = true ∧ b ≠ 0 ∧
  ∀ p, H p = none → Q (.ref p) (upd H p (.tup [.int (t.fdiv (signG b (Nat.gcd t.natAbs b.natAbs))), .int (b.fdiv (signG b (Nat.gcd t.natAbs b.natAbs)))]))
theorem isI_8999 {n : Int} (h : isI (.int n) = true) : n.natAbs < 2 ^ 200 := by
  have e : (decide (-10 ^ 60 < n) && decide (n < 10 ^ 60)) = true := h
  rw [Bool.and_eq_true] at e
  have a := of_decide_eq_true e.1
  have b := of_decide_eq_true e.2
  have c : n.natAbs < 10 ^ 60 := by omega
  exact Nat.lt_of_lt_of_le c (by decide)
theorem scReduced : FnScope ["top", "bottom", "shared"] ["top", "bottom"] (defScope sReduced) :=
  ⟨rfl, rfl, rfl, by decide +kernel, rfl, by decide +kernel, by decide +kernel⟩
theorem dReduced (T : Tx K mg) : Def P w K mg base CX0 1 "reduced" ["top", "bottom"] (spLowest K) := by
  refine T.t_reduced.def_ (N := ["top", "bottom", "shared"]) scReduced (fun _ _ _ _ _ _ us hl => match us, hl with | [_, _], _ => rfl) ?_ ?_
  · intro vs H Q E h
    obtain ⟨t, b, rfl, _⟩ := h
    rfl
  · intro f cd A out s H vs Q E hr h
    obtain ⟨t, b, rfl, ht, hb, h0, q⟩ := h
    refine ⟨_, (pss_cons (ps_set (i := 2) scReduced.nd rfl (Or.inl rfl) (pe_callBfun cr_gcd rfl T.b_gcd (pa_cons (pv 0) (pa_cons (pv 1) pa_nil))))
      (pss_cons (ps_if (pt_cmpR op_lt (pv 1) pe_int (nomark _)) (pss_one (ps_set (i := 2) scReduced.nd rfl (Or.inl rfl) (pe_un un_neg (pv 2)))) pss_nil)
      (pss_one (ps_ret (pe_tup (pa_cons (pe_op op_fdivG (pv 0) (pv 2)) (pa_cons (pe_op op_fdivG (pv 1) (pv 2)) pa_nil))))))), ?_⟩
    refine ⟨_, rfl, _, rfl, t, b, rfl, ?_⟩
    refine ⟨_, rfl, _, _, rfl, rfl, _, rfl, ?_⟩
    have g0 : 0 < Nat.gcd t.natAbs b.natAbs := Nat.gcd_pos_of_pos_right _ (by omega)
    have g1 : Nat.gcd t.natAbs b.natAbs ≤ b.natAbs := Nat.gcd_le_right _ (by omega)
    have gs : (signG b (Nat.gcd t.natAbs b.natAbs)).natAbs = Nat.gcd t.natAbs b.natAbs := by
      unfold signG
      split <;> omega
    have gd : ∀ i, CDivG i (signG b (Nat.gcd t.natAbs b.natAbs)) := fun i => divG (by omega) (by
      rw [gs]
      exact Nat.lt_of_lt_of_le (Nat.lt_of_le_of_lt g1 (isI_8999 hb)) (Nat.pow_le_pow_right (by decide) (by decide)))
    refine ite2 (fun c => ?_) (fun c => ?_)
    · have b0 : b < 0 := of_decide_eq_true c
      have eg : signG b (Nat.gcd t.natAbs b.natAbs) = -((Nat.gcd t.natAbs b.natAbs : Nat) : Int) := if_pos b0
      rw [eg] at gd q
      exact ⟨_, rfl, _, rfl, _, rfl, _, rfl, _, _, rfl, rfl, gd _, _, rfl, _, rfl, _, _, rfl, rfl, gd _, by (show 2 ≤ sizeLine); decide, fun p hp => q p hp⟩
    · have b0 : ¬ b < 0 := fun z => c (decide_eq_true z)
      have eg : signG b (Nat.gcd t.natAbs b.natAbs) = ((Nat.gcd t.natAbs b.natAbs : Nat) : Int) := if_neg b0
      rw [eg] at gd q
      exact ⟨_, rfl, _, rfl, _, _, rfl, rfl, gd _, _, rfl, _, rfl, _, _, rfl, rfl, gd _, by (show 2 ≤ sizeLine); decide, fun p hp => q p hp⟩
theorem scLowest : FnScope ["top", "bottom"] ["top", "bottom"] (defScope sLowest) :=
  ⟨rfl, rfl, rfl, by decide +kernel, rfl, by decide +kernel, by decide +kernel⟩
theorem dLowest (T : Tx K mg) (DIsInteger : Def P w K mg base CX0 2 "is_integer" ["value"] (spIsInteger K)) (DNeedDivided : Def P w K mg base CX0 3 "_need_divided" ["number"] spNeedDivided) (DReduced : Def P w K mg base CX0 1 "reduced" ["top", "bottom"] (spLowest K)) : Def P w K mg base CX0 4 "lowest" ["top", "bottom"] (spLowest K) := by
  refine T.t_lowest.def_ (N := ["top", "bottom"]) scLowest (fun _ _ _ _ _ _ us hl => match us, hl with | [_, _], _ => rfl) ?_ ?_
  · intro vs H Q E h
    obtain ⟨t, b, rfl, _⟩ := h
    rfl
  · intro f cd A out s H vs Q E hr h
    have hr1 : Rm 3 _ := hr.le (by decide)
    obtain ⟨t, b, rfl, ht, hb, h0, q⟩ := h
    refine ⟨_, (pss_cons (ps_if (pt_not (pt_val (pe_d DIsInteger (hr1.le (by decide)) pass0 (pa_cons (pv 0) pa_nil)))) (pss_one ps_never) pss_nil)
      (pss_cons (ps_expr (pe_d DNeedDivided (hr1.le (by decide)) pass0 (pa_cons (pv 1) pa_nil)))
      (pss_one (ps_ret (pe_d DReduced (hr1.le (by decide)) pass0 (pa_cons (pv 0) (pa_cons (pv 1) pa_nil))))))), ?_⟩
    refine ⟨_, rfl, _, .int, rfl, .int t, _, rfl, ?_⟩
    refine ifF (by rw [ht]; rfl) ?_
    refine ⟨_, rfl, b, rfl, hb, h0, ?_⟩
    exact ⟨_, rfl, _, rfl, t, b, rfl, ht, hb, h0, q⟩
end
end K03


set_option Elab.async false
set_option linter.all false
set_option maxRecDepth 100000
set_option maxHeartbeats 2000000
namespace K03
open PySem PySem.Spec PyProof.Rows L2 MM
/-! own words for the readings: a step, its side -/
local macro_rules | `(tactic| walk_at "side") => `(tactic| first
  | omega
  | exact ⟨by omega, by omega⟩
  | exact Or.inl ⟨by omega, by omega⟩
  | exact Or.inr ⟨by omega, by omega⟩
  | (show CPw _ _; decide +kernel)
  | (show (0 : Int) < _; decide +kernel)
  | (show CDivW _ _; first | assumption | exact ⟨by decide, by decide +kernel⟩))
local macro_rules | `(tactic| walk_at "here") => `(tactic| first
  | assumption
  | exact upd_same
  | exact Or.inl (Or.inl upd_same)
  | exact Or.inl upd_same)
local macro_rules | `(tactic| walk_at "one") => `(tactic| first
  | refine ⟨_, rfl, ?_⟩
  | refine Or.inl ⟨_, rfl, ?_⟩
  | refine Or.inr ⟨_, rfl, ?_⟩
  | refine ⟨_, _, rfl, rfl, (by walk_at "side"), ?_⟩
  | refine ⟨_, _, rfl, rfl, ?_⟩
  | refine ⟨_, _, rfl, Or.inl (by walk_at "here"), ?_⟩
  | refine ⟨_, _, rfl, Or.inr (by walk_at "here"), ?_⟩
  | refine ⟨_, _, rfl, (by walk_at "here"), ?_⟩
  | refine ⟨_, _, _, _, rfl, rfl, (by walk_at "here"), rfl, ?_⟩
  | refine ⟨_, _, rfl, ?_⟩
  | refine ifT (by rfl) ?_
  | refine ifF (by rfl) ?_
  | refine ifT (decide_eq_true (by omega)) ?_
  | refine ifF (decide_eq_false (by omega)) ?_)
local macro_rules | `(tactic| walk_at "st") => `(tactic| repeat (walk_at "one"))

section
variable {P : Program} {w : World} {K : PySem.W.Frag} {mg : Str → Option Value} {base : Heap}
abbrev rTb (K : PySem.W.Frag) (H : Hp) (E : XK) : Prop := ∀ H', Same H H' → E (.ref (ga K "InvalidTable")) none H'
abbrev rOp (K : PySem.W.Frag) (H : Hp) (E : XK) : Prop := ∀ H', Same H H' → E (.ref (ga K "InvalidOperation")) none H'
/-- the error for the number y -/
abbrev rNum (K : PySem.W.Frag) (H : Hp) (y : V) (E : XK) : Prop := ∀ H' d, Same H H' → H d = none → H' d = some (.xd [("given", y)]) →
  E (.ref (ga K "InvalidNumber")) (some d) H'
def spNumX (K : PySem.W.Frag) : Sp := fun vs H _ E => ∃ x n l m, vs = [x, .int l, .int m] ∧ Kd K H x n ∧ isB x l m = false ∧ rNum K H x E
theorem bNeedBetween (T : Tx K mg) (Y : Ex K mg) (DIsBetween : Def P w K mg base CX0 2 "is_between" ["value", "least", "most"] (spIsBetween K)) : Def P w K mg base (L2.CX P w) 3 "need_between" ["value", "least", "most"] (spNumX K) := by
  refine T.t_need_between.defX (N := ["value", "least", "most"]) scNeedBetween (fun _ _ _ _ _ _ us hl => match us, hl with | [_, _, _], _ => rfl) ?_ ?_
  · intro vs H Q E h
    obtain ⟨x, n, l, m, rfl, _⟩ := h
    rfl
  · intro f cd A out s H vs Q E hr h
    have hr1 : Rm 2 _ := hr.le (by decide)
    have tk : Takes (cxOf (L2.CX P w) P w K mg base ["value", "least", "most"] "need_between" (defScope sNeedBetween) f cd A out s H E) (fun cls d _ H1 => E cls d H1) := takes_of rfl rfl rfl rfl
    obtain ⟨x, n, l, m, rfl, hk, bad, q⟩ := h
    refine ⟨_, (pss_one (ps_if (pt_not (pt_val (pe_d DIsBetween (hr1.le (by decide)) pass0 (pa_cons (pv 0) (pa_cons (pv 1) (pa_cons (pv 2) pa_nil)))))) (pss_one (ps_num Y.num Y.ie rfl tk (hr.le (by decide)) (pa_cons (pv 0) pa_nil))) pss_nil)), ?_⟩
    refine ⟨_, rfl, _, rfl, _, rfl, x, n, l, m, rfl, hk, _, rfl, ?_⟩
    refine ifT (show (!isB x l m) = true by rw [bad]; rfl) ?_
    exact ⟨_, rfl, x, rfl, fun d hd => q _ d (same_new hd) hd upd_same⟩
def spFacX (K : PySem.W.Frag) : Sp := fun vs H _ E => ∃ x n, vs = [x] ∧ Kd K H x n ∧ isB x 1 (10 ^ 9) = false ∧ rNum K H x E
theorem bPrimeFactors (T : Tx K mg) (Y : Ex K mg) (BNeedBetween : Def P w K mg base (L2.CX P w) 3 "need_between" ["value", "least", "most"] (spNumX K)) : Def P w K mg base (L2.CX P w) 4 "prime_factors" ["number"] (spFacX K) := by
  refine T.t_prime_factors.defX (N := ["number", "factors", "rest", "divisor"]) scPrimeFactors (fun _ _ _ _ _ _ us hl => match us, hl with | [_], _ => rfl) ?_ ?_
  · intro vs H Q E h
    obtain ⟨x, n, rfl, _⟩ := h
    rfl
  · intro f cd A out s H vs Q E hr h
    have hr2 : Rm 3 _ := hr.le (by decide)
    have tk : Takes (cxOf (L2.CX P w) P w K mg base ["number", "factors", "rest", "divisor"] "prime_factors" (defScope sPrimeFactors) f cd A out s H E) (fun cls d _ H1 => E cls d H1) := takes_of rfl rfl rfl rfl
    obtain ⟨x, n, rfl, hk, bad, q⟩ := h
    refine ⟨_, (pss_cons (ps_expr (ME.pe_dS BNeedBetween (hr2.le (by decide)) (passAt tk) (pa_cons (pv 0) (pa_cons pe_int (pa_cons (C8.pe_gc rfl T.c_MAX_FACTORED) pa_nil))))) (pss_cons ps_never (pss_cons ps_never (pss_cons ps_never (pss_cons ps_never (pss_cons ps_never (pss_one ps_never))))))), ?_⟩
    exact ⟨_, rfl, x, n, _, _, rfl, hk, bad, q⟩
def spPrX (K : PySem.W.Frag) : Sp := fun vs H _ E => ∃ x n, vs = [x] ∧ Kd K H x n ∧ isP x = false ∧ rNum K H x E
theorem bNeedPrime (T : Tx K mg) (Y : Ex K mg) (DIsPrime : Def P w K mg base CX0 3 "is_prime" ["value"] (spIsPrime K)) : Def P w K mg base (L2.CX P w) 4 "need_prime" ["prime"] (spPrX K) := by
  refine T.t_need_prime.defX (N := ["prime"]) scNeedPrime (fun _ _ _ _ _ _ us hl => match us, hl with | [_], _ => rfl) ?_ ?_
  · intro vs H Q E h
    obtain ⟨x, n, rfl, _⟩ := h
    rfl
  · intro f cd A out s H vs Q E hr h
    have hr1 : Rm 3 _ := hr.le (by decide)
    have tk : Takes (cxOf (L2.CX P w) P w K mg base ["prime"] "need_prime" (defScope sNeedPrime) f cd A out s H E) (fun cls d _ H1 => E cls d H1) := takes_of rfl rfl rfl rfl
    obtain ⟨x, n, rfl, hk, bad, q⟩ := h
    refine ⟨_, (pss_one (ps_if (pt_not (pt_val (pe_d DIsPrime (hr1.le (by decide)) pass0 (pa_cons (pv 0) pa_nil)))) (pss_one (ps_num Y.num Y.ie rfl tk (hr.le (by decide)) (pa_cons (pv 0) pa_nil))) pss_nil)), ?_⟩
    refine ⟨_, rfl, x, n, rfl, hk, fun H1 s1 => ?_⟩
    refine ⟨_, rfl, ?_⟩
    refine ifT (show (!isP x) = true by rw [bad]; rfl) ?_
    exact ⟨_, rfl, x, rfl, fun d hd => q _ d (s1.trans (same_new hd)) (s1.free hd) upd_same⟩
/-- an integer other than 0 -/
def isD (x : V) : Bool := match x with
  | .int i => isI (.int i) && !decide (i = 0)
  | _ => false
def spDivX (K : PySem.W.Frag) : Sp := fun vs H _ E => ∃ x n, vs = [x] ∧ Kd K H x n ∧ isD x = false ∧ rNum K H x E
theorem bNeedDivided (T : Tx K mg) (Y : Ex K mg) (DIsInteger : Def P w K mg base CX0 2 "is_integer" ["value"] (spIsInteger K)) : Def P w K mg base (L2.CX P w) 3 "_need_divided" ["number"] (spDivX K) := by
  refine T.t_need_divided.defX (N := ["number"]) scNeedDivided (fun _ _ _ _ _ _ us hl => match us, hl with | [_], _ => rfl) ?_ ?_
  · intro vs H Q E h
    obtain ⟨x, n, rfl, _⟩ := h
    rfl
  · intro f cd A out s H vs Q E hr h
    have hr1 : Rm 2 _ := hr.le (by decide)
    have tk : Takes (cxOf (L2.CX P w) P w K mg base ["number"] "_need_divided" (defScope sNeedDivided) f cd A out s H E) (fun cls d _ H1 => E cls d H1) := takes_of rfl rfl rfl rfl
    obtain ⟨x, n, rfl, hk, bad, q⟩ := h
    refine ⟨_, (pss_one (ps_if (PW.pt (pw_or (pt_not (pt_val (pe_d DIsInteger (hr1.le (by decide)) pass0 (pa_cons (pv 0) pa_nil)))) (pw_or1 (pt_cmpR op_eq (pv 0) pe_int (nomark _))))) (pss_one (ps_num Y.num Y.ie rfl tk (hr.le (by decide)) (pa_cons (pv 0) pa_nil))) pss_nil)), ?_⟩
    refine ⟨_, rfl, x, n, rfl, hk, _, rfl, ?_⟩
    cases e : isI x with
    | false =>
      refine ifT rfl ?_
      exact ⟨_, rfl, x, rfl, fun d hd => q _ d (same_new hd) hd upd_same⟩
    | true =>
      obtain ⟨i, rfl⟩ : ∃ i, x = .int i := by
        cases hk <;> first | exact ⟨_, rfl⟩ | cases e
      refine ifF rfl ?_
      refine ⟨_, rfl, rfl, _, rfl, ?_⟩
      have z : i = 0 := by
        have b2 : (isI (.int i) && !decide (i = 0)) = false := bad
        rw [e, Bool.true_and] at b2
        by_cases c : i = 0
        · exact c
        · rw [decide_eq_false c] at b2
          cases b2
      refine ifT (by rw [dInt]; exact decide_eq_true z) ?_
      exact ⟨_, rfl, _, rfl, fun d hd => q _ d (same_new hd) hd upd_same⟩
def spPartX (K : PySem.W.Frag) : Sp := fun vs H _ E => ∃ x n y m, vs = [x, y] ∧ Kd K H x n ∧ Kd K H y m ∧ ((isP x = false ∧ rNum K H x E) ∨ (isP x = true ∧ isD y = false ∧ rNum K H y E))
theorem bPartAt (T : Tx K mg) (Y : Ex K mg) (BNeedPrime : Def P w K mg base (L2.CX P w) 4 "need_prime" ["prime"] (orS (spNeedPrime K) (spPrX K))) (BNeedDivided : Def P w K mg base (L2.CX P w) 3 "_need_divided" ["number"] (spDivX K)) : Def P w K mg base (L2.CX P w) 5 "part_at" ["prime", "number"] (spPartX K) := by
  refine T.t_part_at.defX (N := ["prime", "number", "part"]) scPartAt (fun _ _ _ _ _ _ us hl => match us, hl with | [_, _], _ => rfl) ?_ ?_
  · intro vs H Q E h
    obtain ⟨x, n, y, m, rfl, _⟩ := h
    rfl
  · intro f cd A out s H vs Q E hr h
    have hr2 : Rm 4 _ := hr.le (by decide)
    have tk : Takes (cxOf (L2.CX P w) P w K mg base ["prime", "number", "part"] "part_at" (defScope sPartAt) f cd A out s H E) (fun cls d _ H1 => E cls d H1) := takes_of rfl rfl rfl rfl
    obtain ⟨x, n, y, m, rfl, hk, hm, q⟩ := h
    refine ⟨_, (pss_cons (ps_expr (ME.pe_dS BNeedPrime (hr2.le (by decide)) (passAt tk) (pa_cons (pv 0) pa_nil))) (pss_cons (ps_expr (ME.pe_dS BNeedDivided (hr2.le (by decide)) (passAt tk) (pa_cons (pv 1) pa_nil))) (pss_cons ps_never (pss_cons ps_never (pss_one ps_never))))), ?_⟩
    rcases q with ⟨bad, q⟩ | ⟨good, bad, q⟩
    · exact ⟨_, rfl, .inr ⟨x, n, rfl, hk, bad, q⟩⟩
    · obtain ⟨i, rfl⟩ : ∃ i, x = .int i := by
        cases hk <;> first | exact ⟨_, rfl⟩ | cases good
      refine ⟨_, rfl, .inl ⟨i, rfl, good, fun H1 s1 => ?_⟩⟩
      exact ⟨_, rfl, y, m, rfl, hm.same s1, bad, fun H' d s2 fd ed => q H' d (s1.trans s2) (s1.free fd) ed⟩
/-- a tuple of integers -/
def okN : Option (List V) → Bool
  | none => false
  | some xs => decide (xs.length ≤ 1000) && xs.all isI
def spNumsX (K : PySem.W.Frag) : Sp := fun vs H _ E => ∃ x o, vs = [x] ∧ Rv K H x o ∧ okN o = false ∧ rOp K H E
theorem bNeedNumbers (T : Tx K mg) (Y : Ex K mg) (DIsInteger : Def P w K mg base CX0 2 "is_integer" ["value"] (spIsInteger K)) : Def P w K mg base (L2.CX P w) 3 "_need_numbers" ["numbers"] (spNumsX K) := by
  refine T.t_need_numbers.defX (N := ["numbers", "number"]) scNeedNumbers (fun _ _ _ _ _ _ us hl => match us, hl with | [_], _ => rfl) ?_ ?_
  · intro vs H Q E h
    obtain ⟨x, o, rfl, _⟩ := h
    rfl
  · intro f cd A out s H vs Q E hr h
    have hr1 : Rm 2 _ := hr.le (by decide)
    have tk : Takes (cxOf (L2.CX P w) P w K mg base ["numbers", "number"] "_need_numbers" (defScope sNeedNumbers) f cd A out s H E) (fun cls d _ H1 => E cls d H1) := takes_of rfl rfl rfl rfl
    obtain ⟨x, o, rfl, hv, bad, q⟩ := h
    refine ⟨_, (pss_cons (ps_if (PW.pt (pw_or (pt_not (pt_val (pe_callB (cr_is .tup) rfl T.f_isinstance (by decide +kernel) (pa_cons (pv 0) (pa_cons (pe_ty .tup T.f_tuple (by decide +kernel)) pa_nil))))) (pw_or1 (pt_cmpR op_gt (pe_callB call_len_seq rfl T.f_len (by decide +kernel) (pa_cons (pv 0) pa_nil)) (C8.pe_gc rfl T.c_MOST_NUMBERS) (nomark _))))) (pss_one (ps_plain Y.op rfl tk)) pss_nil)
      (pss_one (ps_if (pt_not (pt_val (pe_callB (cr_all rfl) rfl T.f_all (by decide +kernel) (pa_cons (pe_lc (own := [("number", 1)]) (g := gName 1) (tt := tYes) rfl scNeedNumbers.nd (pi_tup (pv 0)) (blkOk_by (N := ["numbers", "number"]) (sc := defScope sNeedNumbers) (by decide +kernel)) (fun _ _ _ _ _ => pg_name (i := 1) scNeedNumbers.nd rfl (Or.inl rfl)) (fun _ _ _ _ _ => pts_nil) (fun _ _ _ _ _ => (pe_d DIsInteger (hr1.le (by decide)) pass0 (pa_cons (pv 1) pa_nil)))) pa_nil)))) (pss_one (ps_plain Y.op rfl tk)) pss_nil))), ?_⟩
    cases hv with
    | no hk ne =>
      refine ⟨_, rfl, _, _, rfl, hk, _, rfl, ?_⟩
      exact ifT (by rw [ne]; rfl) (ifT rfl (q H (Same.refl H)))
    | yes S m =>
      rename_i a xs
      refine ⟨_, rfl, _, _, rfl, .tup S, _, rfl, ?_⟩
      refine ifF rfl ?_
      refine ⟨_, rfl, _, _, rfl, .inr S, _, _, rfl, rfl, _, rfl, ?_⟩
      by_cases l1 : xs.length ≤ 1000
      · refine ifF (decide_eq_false (by omega)) ?_
        have b2 : xs.all isI = false := by
          have b3 : (decide (xs.length ≤ 1000) && xs.all isI) = false := bad
          rw [decide_eq_true l1, Bool.true_and] at b3
          exact b3
        refine ⟨_, rfl, a, rfl, ⟨_, S⟩, ?_⟩
        intro D nD
        refine lc_tpl (fun x => .bl (isI x)) S nD (Nat.le_of_lt (small1000 l1)) ?_ ?_
        · intro x acc hx Q' q'
          obtain ⟨n, hk⟩ := m x hx
          exact ⟨_, rfl, _, n, rfl, hk.same (same_new nD), q'⟩
        · refine ⟨D, xs.map isI, rfl, .inl (.inl (Eq.trans upd_same ?_)), ?_⟩
          · rw [List.map_map]
            rfl
          · refine ⟨_, rfl, ?_⟩
            refine ifT ?_ (q _ (same_new nD))
            rw [List.all_map]
            show (!xs.all isI) = true
            rw [b2]
            rfl
      · exact ifT (decide_eq_true (by omega)) (q H (Same.refl H))
theorem bCommonDivisor (T : Tx K mg) (Y : Ex K mg) (BNeedNumbers : Def P w K mg base (L2.CX P w) 3 "_need_numbers" ["numbers"] (orS (spNeedNumbers K) (spNumsX K))) : Def P w K mg base (L2.CX P w) 4 "common_divisor" ["numbers"] (spNumsX K) := by
  refine T.t_common_divisor.defX (N := ["numbers", "divisor", "number"]) scCommonDivisor (fun _ _ _ _ _ _ us hl => match us, hl with | [_], _ => rfl) ?_ ?_
  · intro vs H Q E h
    obtain ⟨x, o, rfl, _⟩ := h
    rfl
  · intro f cd A out s H vs Q E hr h
    have hr2 : Rm 3 _ := hr.le (by decide)
    have tk : Takes (cxOf (L2.CX P w) P w K mg base ["numbers", "divisor", "number"] "common_divisor" (defScope sCommonDivisor) f cd A out s H E) (fun cls d _ H1 => E cls d H1) := takes_of rfl rfl rfl rfl
    obtain ⟨x, o, rfl, hv, bad, q⟩ := h
    refine ⟨_, (pss_cons (ps_expr (ME.pe_dS BNeedNumbers (hr2.le (by decide)) (passAt tk) (pa_cons (pv 0) pa_nil))) (pss_cons ps_never (pss_cons ps_never (pss_one ps_never)))), ?_⟩
    exact ⟨_, rfl, .inr ⟨x, o, rfl, hv, bad, q⟩⟩
def spCommX (K : PySem.W.Frag) : Sp := fun vs H _ E => ∃ x, vs = [x] ∧ rOp K H E ∧ ((∃ o, Rv K H x o ∧ okN o = false) ∨
  (∃ a ns, x = .ref a ∧ Ints K H a ns ∧ (ns.map fun n => decide (0 < n)).all id = false))
theorem bCommonMultiple (T : Tx K mg) (Y : Ex K mg) (BNeedNumbers : Def P w K mg base (L2.CX P w) 3 "_need_numbers" ["numbers"] (orS (spNeedNumbers K) (spNumsX K))) : Def P w K mg base (L2.CX P w) 4 "common_multiple" ["numbers"] (spCommX K) := by
  refine T.t_common_multiple.defX (N := ["numbers", "number", "multiple"]) scCommonMultiple (fun _ _ _ _ _ _ us hl => match us, hl with | [_], _ => rfl) ?_ ?_
  · intro vs H Q E h
    obtain ⟨x, rfl, _⟩ := h
    rfl
  · intro f cd A out s H vs Q E hr h
    have hr2 : Rm 3 _ := hr.le (by decide)
    have tk : Takes (cxOf (L2.CX P w) P w K mg base ["numbers", "number", "multiple"] "common_multiple" (defScope sCommonMultiple) f cd A out s H E) (fun cls d _ H1 => E cls d H1) := takes_of rfl rfl rfl rfl
    obtain ⟨x, rfl, q, h⟩ := h
    refine ⟨_, (pss_cons (ps_expr (ME.pe_dS BNeedNumbers (hr2.le (by decide)) (passAt tk) (pa_cons (pv 0) pa_nil))) (pss_cons (ps_if (pt_not (pt_val (pe_callB (cr_all rfl) rfl T.f_all (by decide +kernel) (pa_cons (pe_lc (own := [("number", 1)]) (g := gName 1) (tt := tYes) rfl scCommonMultiple.nd (pi_tup (pv 0)) (blkOk_by (N := ["numbers", "number", "multiple"]) (sc := defScope sCommonMultiple) (by decide +kernel)) (fun _ _ _ _ _ => pg_name (i := 1) scCommonMultiple.nd rfl (Or.inl rfl)) (fun _ _ _ _ _ => pts_nil) (fun _ _ _ _ _ => (pe_cmpR op_gt (pv 1) pe_int (nomark _)))) pa_nil)))) (pss_one (ps_plain Y.op rfl tk)) pss_nil) (pss_cons ps_never (pss_cons ps_never (pss_one ps_never))))), ?_⟩
    rcases h with ⟨o, hv, bad⟩ | ⟨a, ns, rfl, hI, bad⟩
    · exact ⟨_, rfl, .inr ⟨x, o, rfl, hv, bad, q⟩⟩
    refine ⟨_, rfl, .inl ⟨a, ns, rfl, hI, fun H1 sm => ?_⟩⟩
    have hS1 := same_sqt sm hI.1
    refine ⟨_, rfl, a, rfl, ⟨_, hS1⟩, ?_⟩
    intro D nD
    refine lc_tpl (fun x => .bl (match x with | .int n => decide (0 < n) | _ => false)) hS1 nD (by rw [List.length_map]; exact Nat.le_of_lt (small1000 hI.2.1)) ?_ ?_
    · intro x acc hx Q' q'
      obtain ⟨n, _, rfl⟩ := List.mem_map.mp hx
      exact ⟨_, rfl, _, _, rfl, rfl, q'⟩
    refine ⟨D, ns.map fun n => decide (0 < n), rfl, .inl (.inl (Eq.trans upd_same ?_)), ?_⟩
    · rw [List.map_map, List.map_map]
      rfl
    refine ⟨_, rfl, ?_⟩
    refine ifT ?_ (q _ (sm.trans (same_new nD)))
    rw [bad]
    rfl
def spLowX (K : PySem.W.Frag) : Sp := fun vs H _ E => ∃ x n y m, vs = [x, y] ∧ Kd K H x n ∧ Kd K H y m ∧ ((isI x = false ∧ rNum K H x E) ∨ (isI x = true ∧ isD y = false ∧ rNum K H y E))
theorem bLowest (T : Tx K mg) (Y : Ex K mg) (DIsInteger : Def P w K mg base CX0 2 "is_integer" ["value"] (spIsInteger K)) (BNeedDivided : Def P w K mg base (L2.CX P w) 3 "_need_divided" ["number"] (spDivX K)) : Def P w K mg base (L2.CX P w) 4 "lowest" ["top", "bottom"] (spLowX K) := by
  refine T.t_lowest.defX (N := ["top", "bottom"]) scLowest (fun _ _ _ _ _ _ us hl => match us, hl with | [_, _], _ => rfl) ?_ ?_
  · intro vs H Q E h
    obtain ⟨x, n, y, m, rfl, _⟩ := h
    rfl
  · intro f cd A out s H vs Q E hr h
    have hr1 : Rm 2 _ := hr.le (by decide)
    have hr2 : Rm 3 _ := hr.le (by decide)
    have tk : Takes (cxOf (L2.CX P w) P w K mg base ["top", "bottom"] "lowest" (defScope sLowest) f cd A out s H E) (fun cls d _ H1 => E cls d H1) := takes_of rfl rfl rfl rfl
    obtain ⟨x, n, y, m, rfl, hk, hm, q⟩ := h
    refine ⟨_, (pss_cons (ps_if (pt_not (pt_val (pe_d DIsInteger (hr1.le (by decide)) pass0 (pa_cons (pv 0) pa_nil)))) (pss_one (ps_num Y.num Y.ie rfl tk (hr.le (by decide)) (pa_cons (pv 0) pa_nil))) pss_nil) (pss_cons (ps_expr (ME.pe_dS BNeedDivided (hr2.le (by decide)) (passAt tk) (pa_cons (pv 1) pa_nil))) (pss_one ps_never))), ?_⟩
    refine ⟨_, rfl, x, n, rfl, hk, _, rfl, ?_⟩
    rcases q with ⟨bad, q⟩ | ⟨good, bad, q⟩
    · refine ifT (by rw [bad]; rfl) ?_
      exact ⟨_, rfl, x, rfl, fun d hd => q _ d (same_new hd) hd upd_same⟩
    · refine ifF (by rw [good]; rfl) ?_
      exact ⟨_, rfl, y, m, rfl, hm, bad, q⟩
end
end K03


set_option Elab.async false
set_option linter.all false
set_option maxRecDepth 100000
set_option maxHeartbeats 4000000
namespace K03
open PySem PySem.Spec PyProof.Rows L2 MM
/-! own words for the readings: a step, its side -/
local macro_rules | `(tactic| walk_at "side") => `(tactic| first
  | omega
  | exact ⟨by omega, by omega⟩
  | exact Or.inl ⟨by omega, by omega⟩
  | exact Or.inr ⟨by omega, by omega⟩
  | (show CPw _ _; decide +kernel)
  | (show (0 : Int) < _; decide +kernel)
  | (show CDivW _ _; first | assumption | exact ⟨by decide, by decide +kernel⟩))
local macro_rules | `(tactic| walk_at "here") => `(tactic| first
  | assumption
  | exact upd_same
  | exact Or.inl (Or.inl upd_same)
  | exact Or.inl upd_same)
local macro_rules | `(tactic| walk_at "one") => `(tactic| first
  | refine ⟨_, rfl, ?_⟩
  | refine Or.inl ⟨_, rfl, ?_⟩
  | refine Or.inr ⟨_, rfl, ?_⟩
  | refine ⟨_, _, rfl, rfl, (by walk_at "side"), ?_⟩
  | refine ⟨_, _, rfl, rfl, ?_⟩
  | refine ⟨_, _, rfl, Or.inl (by walk_at "here"), ?_⟩
  | refine ⟨_, _, rfl, Or.inr (by walk_at "here"), ?_⟩
  | refine ⟨_, _, rfl, (by walk_at "here"), ?_⟩
  | refine ⟨_, _, _, _, rfl, rfl, (by walk_at "here"), rfl, ?_⟩
  | refine ⟨_, _, rfl, ?_⟩
  | refine ifT (by rfl) ?_
  | refine ifF (by rfl) ?_
  | refine ifT (decide_eq_true (by omega)) ?_
  | refine ifF (decide_eq_false (by omega)) ?_)
local macro_rules | `(tactic| walk_at "st") => `(tactic| repeat (walk_at "one"))

section
variable {P : Program} {w : World} {K : PySem.W.Frag} {mg : Str → Option Value} {base : Heap}
theorem lc_tplS {v : Nat} {te : TE} {σ : L2.St} {H1 : Hp} {D : Addr} {Qd : Hp → Prop} {a : Addr} {xs : List V} (rs : List V) (len : rs.length = xs.length) (hx : SqT K H1 a xs) (nD : H1 D = none) (hn : xs.length ≤ sizeLine)
    (hs : ∀ (i : Nat) (x r : V) (H : Hp), xs[i]? = some x → rs[i]? = some r → Same H1 H → ∀ Q : VK, (∀ H', Same H H' → Q r H') → te ((wipe σ [v]).set v (some x)) H Q)
    (hd : ∀ H, Same H1 H → H D = some (.lst rs) → Qd H) : LcW (Itt K a) (gName v) tYes te [v] σ H1 D Qd := by
  refine lc_tup (xs := xs) (Pv := fun i H => Same H1 H ∧ H D = some (.lst (rs.take i))) ⟨same_new nD, upd_same⟩ (fun i H _ e => same_sqt e.1 hx) ?_ (fun H e => hd H e.1 (by rw [← len, List.take_length] at e; exact e.2))
  rintro i x H hi ⟨S, hD⟩
  have lt : i < xs.length := (List.getElem?_eq_some_iff.mp hi).1
  have hr : rs[i]? = some (rs[i]'(by omega)) := List.getElem?_eq_getElem _
  refine ⟨wipe_one, yes_ ?_⟩
  refine hs i x _ H hi hr S _ fun H' s => ?_
  refine ⟨_, s _ _ hD, ?_, ?_, ?_⟩
  · rw [List.length_take]
    omega
  · intro b o e
    rw [upd_ne (ne_of_none e nD)]
    exact s _ _ (S _ _ e)
  · rw [upd_same, List.take_add_one, hr]
    rfl
def isLine : Option (List V) → Bool
  | some xs => decide (1 ≤ xs.length) && (decide (xs.length ≤ 60) && xs.all isI)
  | none => false
theorem Rv.same {H H' : Hp} {x : V} {o : Option (List V)} (h : Rv K H x o) (s : Same H H') : Rv K H' x o := by
  cases h with
  | no hk ne => exact .no (hk.same s) ne
  | yes S m => exact .yes (same_sqt s S) fun y hy => let ⟨n, hk⟩ := m y hy; ⟨n, hk.same s⟩
def spIsLine (K : PySem.W.Frag) : Sp := fun vs H Q _ => ∃ x o, vs = [x] ∧ Rv K H x o ∧ ∀ H', Same H H' → Q (.bl (isLine o)) H'
theorem scIsLine : FnScope ["value", "number"] ["value"] (defScope sIsLine) :=
  ⟨rfl, rfl, rfl, by decide +kernel, rfl, by decide +kernel, by decide +kernel⟩
theorem dIsLine (T : Tx K mg) (DIsInteger : Def P w K mg base CX0 2 "is_integer" ["value"] (spIsInteger K)) : Def P w K mg base CX0 3 "_is_line" ["value"] (spIsLine K) := by
  refine T.t_is_line.def_ (N := ["value", "number"]) scIsLine (fun _ _ _ _ _ _ us hl => match us, hl with | [_], _ => rfl) ?_ ?_
  · intro vs H Q E h
    obtain ⟨x, o, rfl, _⟩ := h
    rfl
  · intro f cd A out s H vs Q E hr h
    have hr1 : Rm 2 _ := hr.le (by decide)
    obtain ⟨x, o, rfl, hv, q⟩ := h
    refine ⟨_, (pss_cons (ps_if (PW.pt (pw_or (pt_not (pt_val (pe_callB (cr_is .tup) rfl T.f_isinstance (by decide +kernel) (pa_cons (pv 0) (pa_cons (pe_ty .tup T.f_tuple (by decide +kernel)) pa_nil))))) (pw_or1 (pt_not (pt_chain op_le op_le pe_int (pe_callB call_len_seq rfl T.f_len (by decide +kernel) (pa_cons (pv 0) pa_nil)) (C8.pe_gc rfl T.c_MAX_SIZE)))))) (pss_one (ps_ret pe_bl)) pss_nil)
      (pss_one (ps_ret (pe_callB (cr_all rfl) rfl T.f_all (by decide +kernel) (pa_cons (pe_lc (own := [("number", 1)]) (g := gName 1) (tt := tYes) rfl scIsLine.nd (pi_tup (pv 0)) (blkOk_by (N := ["value", "number"]) (sc := defScope sIsLine) (by decide +kernel)) (fun _ _ _ _ _ => pg_name (i := 1) scIsLine.nd rfl (Or.inl rfl)) (fun _ _ _ _ _ => pts_nil) (fun _ _ _ _ _ => (pe_d DIsInteger (hr1.le (by decide)) pass0 (pa_cons (pv 1) pa_nil)))) pa_nil))))), ?_⟩
    cases hv with
    | no hk ne =>
      refine ⟨_, rfl, _, _, rfl, hk, _, rfl, ?_⟩
      refine ifT (by rw [ne]; rfl) ?_
      exact ifT rfl (q H (Same.refl H))
    | yes S m =>
      rename_i a xs
      refine ⟨_, rfl, _, _, rfl, .tup S, _, rfl, ?_⟩
      refine ifF rfl ?_
      refine ⟨_, rfl, _, _, rfl, .inr S, _, _, rfl, rfl, _, rfl, ?_⟩
      by_cases l1 : 1 ≤ xs.length
      · refine ifT (decide_eq_true (by omega)) ?_
        refine ⟨_, _, rfl, rfl, _, rfl, ?_⟩
        by_cases l2 : xs.length ≤ 60
        · refine ifF ?_ ?_
          · show (!decide ((xs.length : Int) ≤ 60)) = false
            rw [decide_eq_true (by omega)]
            rfl
          refine ⟨_, rfl, a, rfl, ⟨_, S⟩, ?_⟩
          intro D nD
          refine lc_tpl (fun x => .bl (isI x)) S nD (Nat.le_of_lt (small1000 (by omega))) ?_ ?_
          · intro x acc hx Q' q'
            obtain ⟨n, hk⟩ := m x hx
            exact ⟨_, rfl, _, n, rfl, hk.same (same_new nD), q'⟩
          · refine ⟨D, xs.map isI, rfl, .inl (.inl (Eq.trans upd_same ?_)), ?_⟩
            · rw [List.map_map]
              rfl
            · have q' := q _ (same_new (o := .lst (xs.map fun x => V.bl (isI x))) nD)
              have e : isLine (some xs) = (xs.map isI).all id := by
                show (decide (1 ≤ xs.length) && (decide (xs.length ≤ 60) && xs.all isI)) = _
                rw [decide_eq_true l1, decide_eq_true l2, Bool.true_and, Bool.true_and, List.all_map]
                rfl
              rw [e] at q'
              exact q'
        · refine ifT ?_ ?_
          · show (!decide ((xs.length : Int) ≤ 60)) = true
            rw [decide_eq_false (by omega)]
            rfl
          have q' := q H (Same.refl H)
          have e : isLine (some xs) = false := by
            show (decide (1 ≤ xs.length) && (decide (xs.length ≤ 60) && xs.all isI)) = _
            rw [decide_eq_false l2, Bool.false_and, Bool.and_false]
          rw [e] at q'
          exact q'
      · refine ifF (decide_eq_false (by omega)) ?_
        refine ⟨_, rfl, ?_⟩
        have q' := q H (Same.refl H)
        have e : isLine (some xs) = false := by
          show (decide (1 ≤ xs.length) && (decide (xs.length ≤ 60) && xs.all isI)) = _
          rw [decide_eq_false l1, Bool.false_and]
        rw [e] at q'
        exact ifT rfl q'
/-- a value, by its rows if it is a tuple -/
inductive Tv (K : PySem.W.Frag) (H : Hp) : V → Option (List (Option (List V))) → Prop where
  | no {x : V} {n : Kn} (h : Kd K H x n) (ne : n.isa .tup = false) : Tv K H x none
  | yes {a : Addr} {us : List V} {os : List (Option (List V))} (h : SqT K H a us) (m : Paired (fun u o => Rv K H u o) us os) : Tv K H (.ref a) (some os)
def wid (o : Option (List V)) : Nat := (o.getD []).length
def isTab : Option (List (Option (List V))) → Bool
  | some (o :: os) => decide (os.length + 1 ≤ 60) && ((o :: os).all isLine && (o :: os).all fun p => decide (wid p = wid o))
  | _ => false
theorem Tv.same {H H' : Hp} {x : V} {t : Option (List (Option (List V)))} (h : Tv K H x t) (s : Same H H') : Tv K H' x t := by
  cases h with
  | no hk ne => exact .no (hk.same s) ne
  | yes S m => exact .yes (same_sqt s S) (Paired.mapP m fun _ _ r => Rv.same r s)
theorem paired_at {α β : Type} {R : α → β → Prop} : ∀ {us : List α} {os : List β}, Paired R us os → ∀ {i : Nat} {u : α}, us[i]? = some u → ∃ o, os[i]? = some o ∧ R u o
  | _, _, .nil, i, _, h => by cases h
  | _, _, .cons r t, 0, _, h => ⟨_, rfl, by cases h; exact r⟩
  | _, _, .cons r t, i + 1, _, h => paired_at t h
theorem paired_len {α β : Type} {R : α → β → Prop} : ∀ {us : List α} {os : List β}, Paired R us os → us.length = os.length
  | _, _, .nil => rfl
  | _, _, .cons _ t => congrArg (· + 1) (paired_len t)
def spIsTable (K : PySem.W.Frag) : Sp := fun vs H Q _ => ∃ x t, vs = [x] ∧ Tv K H x t ∧ ∀ H', Same H H' → Q (.bl (isTab t)) H'
theorem scIsTable : FnScope ["value", "row"] ["value"] (defScope sIsTable) :=
  ⟨rfl, rfl, rfl, by decide +kernel, rfl, by decide +kernel, by decide +kernel⟩
theorem dIsTable (T : Tx K mg) (DIsLine : Def P w K mg base CX0 3 "_is_line" ["value"] (spIsLine K)) : Def P w K mg base CX0 4 "is_table" ["value"] (spIsTable K) := by
  refine T.t_is_table.def_ (N := ["value", "row"]) scIsTable (fun _ _ _ _ _ _ us hl => match us, hl with | [_], _ => rfl) ?_ ?_
  · intro vs H Q E h
    obtain ⟨x, t, rfl, _⟩ := h
    rfl
  · intro f cd A out s H vs Q E hr h
    have hr1 : Rm 3 _ := hr.le (by decide)
    obtain ⟨x, t, rfl, hv, q⟩ := h
    refine ⟨_, (pss_cons (ps_if (PW.pt (pw_or (pt_not (pt_val (pe_callB (cr_is .tup) rfl T.f_isinstance (by decide +kernel) (pa_cons (pv 0) (pa_cons (pe_ty .tup T.f_tuple (by decide +kernel)) pa_nil))))) (pw_or1 (pt_not (pt_chain op_le op_le pe_int (pe_callB call_len_seq rfl T.f_len (by decide +kernel) (pa_cons (pv 0) pa_nil)) (C8.pe_gc rfl T.c_MAX_SIZE)))))) (pss_one (ps_ret pe_bl)) pss_nil)
      (pss_cons (ps_if (pt_not (pt_val (pe_callB (cr_all rfl) rfl T.f_all (by decide +kernel) (pa_cons (pe_lc (own := [("row", 1)]) (g := gName 1) (tt := tYes) rfl scIsTable.nd (pi_tup (pv 0)) (blkOk_by (N := ["value", "row"]) (sc := defScope sIsTable) (by decide +kernel)) (fun _ _ _ _ _ => pg_name (i := 1) scIsTable.nd rfl (Or.inl rfl)) (fun _ _ _ _ _ => pts_nil) (fun _ _ _ _ _ => (pe_d DIsLine (hr1.le (by decide)) pass0 (pa_cons (pv 1) pa_nil)))) pa_nil)))) (pss_one (ps_ret pe_bl)) pss_nil)
      (pss_one (ps_ret (pe_callB (cr_all rfl) rfl T.f_all (by decide +kernel) (pa_cons (pe_lc (own := [("row", 1)]) (g := gName 1) (tt := tYes) rfl scIsTable.nd (pi_tup (pv 0)) (blkOk_by (N := ["value", "row"]) (sc := defScope sIsTable) (by decide +kernel)) (fun _ _ _ _ _ => pg_name (i := 1) scIsTable.nd rfl (Or.inl rfl)) (fun _ _ _ _ _ => pts_nil) (fun _ _ _ _ _ => (pe_cmpR op_eq (pe_callB (cr_lenK (K := K) rfl) rfl T.f_len (by decide +kernel) (pa_cons (pv 1) pa_nil)) (pe_callB (cr_lenK (K := K) rfl) rfl T.f_len (by decide +kernel) (pa_cons (pe_ix (show IxR _ (rIxT K) from ix_tup) (pv 0) pe_int (fun _ _ => rfl)) pa_nil)) (nomark _)))) pa_nil)))))), ?_⟩
    cases hv with
    | no hk ne =>
      refine ⟨_, rfl, _, _, rfl, hk, _, rfl, ?_⟩
      refine ifT (by rw [ne]; rfl) ?_
      exact ifT rfl (q H (Same.refl H))
    | yes S m =>
      rename_i a us os
      have len := paired_len m
      refine ⟨_, rfl, _, _, rfl, .tup S, _, rfl, ?_⟩
      refine ifF rfl ?_
      refine ⟨_, rfl, _, _, rfl, .inr S, _, _, rfl, rfl, _, rfl, ?_⟩
      cases os with
      | nil =>
        refine ifF (decide_eq_false (by rw [len]; decide)) ?_
        refine ⟨_, rfl, ?_⟩
        exact ifT rfl (q H (Same.refl H))
      | cons o os =>
        have len1 : us.length = os.length + 1 := len
        refine ifT (decide_eq_true (by omega)) ?_
        refine ⟨_, _, rfl, rfl, _, rfl, ?_⟩
        by_cases l2 : os.length + 1 ≤ 60
        · refine ifF ?_ ?_
          · show (!decide ((us.length : Int) ≤ 60)) = false
            rw [decide_eq_true (by omega)]
            rfl
          refine ⟨_, rfl, a, rfl, ⟨_, S⟩, ?_⟩
          intro D nD
          refine lc_tplS ((o :: os).map fun p => .bl (isLine p)) (by rw [List.length_map]; exact len.symm) S nD (Nat.le_of_lt (small1000 (by omega))) ?_ ?_
          · intro i x r H1 hx hr s1 Q' q'
            obtain ⟨p, hp, rv⟩ := paired_at m hx
            rw [List.getElem?_map, hp] at hr
            cases hr
            exact ⟨_, rfl, x, p, rfl, Rv.same rv s1, q'⟩
          intro H1 s1 hD
          refine ⟨D, (o :: os).map isLine, rfl, .inl (.inl (Eq.trans hD ?_)), ?_⟩
          · rw [List.map_map]
            rfl
          refine ⟨_, rfl, ?_⟩
          cases e1 : ((o :: os).map isLine).all id with
          | false =>
            refine ifT rfl ?_
            have q' := q H1 s1
            have e : isTab (some (o :: os)) = false := by
              show (decide (os.length + 1 ≤ 60) && ((o :: os).all isLine && _)) = false
              rw [List.all_map] at e1
              rw [show (o :: os).all isLine = false from e1, Bool.false_and, Bool.and_false]
            rw [e] at q'
            exact q'
          | true =>
            refine ifF rfl ?_
            have lines : ∀ p ∈ o :: os, isLine p = true := by
              rw [List.all_map] at e1
              exact List.all_eq_true.mp e1
            have row : ∀ {i : Nat} {x : V} {H2 : Hp}, us[i]? = some x → Same H H2 → ∃ b ys p, x = .ref b ∧ SqT K H2 b ys ∧ (o :: os)[i]? = some p ∧ ys.length = wid p := by
              intro i x H2 hx s
              obtain ⟨p, hp, rv⟩ := paired_at m hx
              have lp := lines p (List.mem_of_getElem? hp)
              cases rv with
              | no hk ne => cases lp
              | yes S m => exact ⟨_, _, _, rfl, same_sqt s S, hp, rfl⟩
            refine ⟨_, rfl, a, rfl, ⟨_, same_sqt s1 S⟩, ?_⟩
            intro D2 nD2
            refine lc_tplS ((o :: os).map fun p => .bl (decide (wid p = wid o))) (by rw [List.length_map]; exact len.symm) (same_sqt s1 S) nD2 (Nat.le_of_lt (small1000 (by omega))) ?_ ?_
            · intro i x r H2 hx hr s2 Q' q'
              obtain ⟨b, ys, p, rfl, Sb, hp, wl⟩ := row hx (s1.trans s2)
              rw [List.getElem?_map, hp] at hr
              cases hr
              obtain ⟨u0, hu0⟩ : ∃ u0, us[0]? = some u0 := ⟨us[0]'(by omega), List.getElem?_eq_getElem _⟩
              obtain ⟨b0, ys0, p0, rfl, Sb0, hp0, wl0⟩ := row hu0 (s1.trans s2)
              cases hp0
              refine ⟨_, rfl, b, ys, rfl, .inr Sb, ?_⟩
              refine ⟨_, rfl, a, _, _, .ref b0, rfl, rfl, same_sqt (s1.trans s2) S, atI_nat (j := 0) hu0, b0, ys0, rfl, .inr Sb0, rfl, ?_⟩
              show Q' (.bl (decide (V.int (ys.length : Int) = V.int (ys0.length : Int)))) H2
              rw [dInt, wl, wl0, show decide (((wid p : Nat) : Int) = (wid o : Nat)) = decide (wid p = wid o) from decide_eq_decide.mpr (by omega)]
              exact q' H2 (Same.refl H2)
            intro H2 s2 hD2
            refine ⟨D2, (o :: os).map fun p => decide (wid p = wid o), rfl, .inl (.inl (Eq.trans hD2 ?_)), ?_⟩
            · rw [List.map_map]
              rfl
            have q' := q H2 (s1.trans s2)
            have e : isTab (some (o :: os)) = ((o :: os).map fun p => decide (wid p = wid o)).all id := by
              show (decide (os.length + 1 ≤ 60) && ((o :: os).all isLine && (o :: os).all fun p => decide (wid p = wid o))) = _
              rw [decide_eq_true l2, Bool.true_and, List.all_map]
              rw [List.all_map] at e1
              rw [show (o :: os).all isLine = true from e1, Bool.true_and]
              rfl
            rw [e] at q'
            exact q'
        · refine ifT ?_ ?_
          · show (!decide ((us.length : Int) ≤ 60)) = true
            rw [decide_eq_false (by omega)]
            rfl
          have q' := q H (Same.refl H)
          have e : isTab (some (o :: os)) = false := by
            show (decide (os.length + 1 ≤ 60) && _) = false
            rw [decide_eq_false l2, Bool.false_and]
          rw [e] at q'
          exact q'
def spNeedTable (K : PySem.W.Frag) : Sp := fun vs H Q _ => ∃ x t, vs = [x] ∧ Tv K H x t ∧ isTab t = true ∧ ∀ H', Same H H' → Q .non H'
theorem scNeedTable : FnScope ["table"] ["table"] (defScope sNeedTable) :=
  ⟨rfl, rfl, rfl, by decide +kernel, rfl, by decide +kernel, by decide +kernel⟩
theorem dNeedTable (T : Tx K mg) (DIsTable : Def P w K mg base CX0 4 "is_table" ["value"] (spIsTable K)) : Def P w K mg base CX0 5 "_need_table" ["table"] (spNeedTable K) := by
  refine T.t_need_table.def_ (N := ["table"]) scNeedTable (fun _ _ _ _ _ _ us hl => match us, hl with | [_], _ => rfl) ?_ ?_
  · intro vs H Q E h
    obtain ⟨x, t, rfl, _⟩ := h
    rfl
  · intro f cd A out s H vs Q E hr h
    have hr1 : Rm 4 _ := hr.le (by decide)
    obtain ⟨x, t, rfl, hv, good, q⟩ := h
    refine ⟨_, (pss_one (ps_if (pt_not (pt_val (pe_d DIsTable (hr1.le (by decide)) pass0 (pa_cons (pv 0) pa_nil)))) (pss_one ps_never) pss_nil)), ?_⟩
    refine ⟨_, rfl, x, t, rfl, hv, fun H1 s1 => ?_⟩
    refine ⟨_, rfl, ?_⟩
    exact ifF (by rw [good]; rfl) (q H1 s1)
def spTabX (K : PySem.W.Frag) : Sp := fun vs H _ E => ∃ x t, vs = [x] ∧ Tv K H x t ∧ isTab t = false ∧ rTb K H E
theorem bNeedTable (T : Tx K mg) (Y : Ex K mg) (DIsTable : Def P w K mg base CX0 4 "is_table" ["value"] (spIsTable K)) : Def P w K mg base (L2.CX P w) 5 "_need_table" ["table"] (spTabX K) := by
  refine T.t_need_table.defX (N := ["table"]) scNeedTable (fun _ _ _ _ _ _ us hl => match us, hl with | [_], _ => rfl) ?_ ?_
  · intro vs H Q E h
    obtain ⟨x, t, rfl, _⟩ := h
    rfl
  · intro f cd A out s H vs Q E hr h
    have hr1 : Rm 4 _ := hr.le (by decide)
    have tk : Takes (cxOf (L2.CX P w) P w K mg base ["table"] "_need_table" (defScope sNeedTable) f cd A out s H E) (fun cls d _ H1 => E cls d H1) := takes_of rfl rfl rfl rfl
    obtain ⟨x, t, rfl, hv, bad, q⟩ := h
    refine ⟨_, (pss_one (ps_if (pt_not (pt_val (pe_d DIsTable (hr1.le (by decide)) pass0 (pa_cons (pv 0) pa_nil)))) (pss_one (ps_plain Y.tb rfl tk)) pss_nil)), ?_⟩
    refine ⟨_, rfl, x, t, rfl, hv, fun H1 s1 => ?_⟩
    refine ⟨_, rfl, ?_⟩
    exact ifT (by rw [bad]; rfl) (q H1 s1)
theorem scKernel : FnScope ["table", "rows", "begun", "_", "line", "width", "found", "free", "row"] ["table"] (defScope sKernel) :=
  ⟨rfl, rfl, rfl, by decide +kernel, rfl, by decide +kernel, by decide +kernel⟩
theorem bKernel (T : Tx K mg) (Y : Ex K mg) (BNeedTable : Def P w K mg base (L2.CX P w) 5 "_need_table" ["table"] (orS (spNeedTable K) (spTabX K))) : Def P w K mg base (L2.CX P w) 6 "kernel" ["table"] (spTabX K) := by
  refine T.t_kernel.defX (N := ["table", "rows", "begun", "_", "line", "width", "found", "free", "row"]) scKernel (fun _ _ _ _ _ _ us hl => match us, hl with | [_], _ => rfl) ?_ ?_
  · intro vs H Q E h
    obtain ⟨x, t, rfl, _⟩ := h
    rfl
  · intro f cd A out s H vs Q E hr h
    have hr2 : Rm 5 _ := hr.le (by decide)
    have tk : Takes (cxOf (L2.CX P w) P w K mg base ["table", "rows", "begun", "_", "line", "width", "found", "free", "row"] "kernel" (defScope sKernel) f cd A out s H E) (fun cls d _ H1 => E cls d H1) := takes_of rfl rfl rfl rfl
    obtain ⟨x, t, rfl, hv, bad, q⟩ := h
    refine ⟨_, (pss_cons (ps_expr (ME.pe_dS BNeedTable (hr2.le (by decide)) (passAt tk) (pa_cons (pv 0) pa_nil))) (pss_cons ps_never (pss_cons ps_never (pss_cons ps_never (pss_cons ps_never (pss_one ps_never)))))), ?_⟩
    exact ⟨_, rfl, .inr ⟨x, t, rfl, hv, bad, q⟩⟩
theorem scElementaryDivisors : FnScope ["table", "rows", "begun", "_", "pivots", "other_rows", "other_begun", "row", "bound"] ["table"] (defScope sElementaryDivisors) :=
  ⟨rfl, rfl, rfl, by decide +kernel, rfl, by decide +kernel, by decide +kernel⟩
theorem bElementaryDivisors (T : Tx K mg) (Y : Ex K mg) (BNeedTable : Def P w K mg base (L2.CX P w) 5 "_need_table" ["table"] (orS (spNeedTable K) (spTabX K))) : Def P w K mg base (L2.CX P w) 6 "elementary_divisors" ["table"] (spTabX K) := by
  refine T.t_elementary_divisors.defX (N := ["table", "rows", "begun", "_", "pivots", "other_rows", "other_begun", "row", "bound"]) scElementaryDivisors (fun _ _ _ _ _ _ us hl => match us, hl with | [_], _ => rfl) ?_ ?_
  · intro vs H Q E h
    obtain ⟨x, t, rfl, _⟩ := h
    rfl
  · intro f cd A out s H vs Q E hr h
    have hr2 : Rm 5 _ := hr.le (by decide)
    have tk : Takes (cxOf (L2.CX P w) P w K mg base ["table", "rows", "begun", "_", "pivots", "other_rows", "other_begun", "row", "bound"] "elementary_divisors" (defScope sElementaryDivisors) f cd A out s H E) (fun cls d _ H1 => E cls d H1) := takes_of rfl rfl rfl rfl
    obtain ⟨x, t, rfl, hv, bad, q⟩ := h
    refine ⟨_, (pss_cons (ps_expr (ME.pe_dS BNeedTable (hr2.le (by decide)) (passAt tk) (pa_cons (pv 0) pa_nil))) (pss_cons ps_never (pss_cons ps_never (pss_cons ps_never (pss_cons ps_never (pss_cons ps_never (pss_cons ps_never (pss_one ps_never)))))))), ?_⟩
    exact ⟨_, rfl, .inr ⟨x, t, rfl, hv, bad, q⟩⟩
def spDetX (K : PySem.W.Frag) : Sp := fun vs H _ E => ∃ x t, vs = [x] ∧ Tv K H x t ∧ ((isTab t = false ∧ rTb K H E) ∨
  (isTab t = true ∧ (∃ a us b ys, x = .ref a ∧ SqT K H a us ∧ us[0]? = some (.ref b) ∧ SqT K H b ys ∧ us.length ≠ ys.length) ∧ rOp K H E))
theorem scDeterminant : FnScope ["table", "rows", "begun", "sign"] ["table"] (defScope sDeterminant) :=
  ⟨rfl, rfl, rfl, by decide +kernel, rfl, by decide +kernel, by decide +kernel⟩
theorem bDeterminant (T : Tx K mg) (Y : Ex K mg) (BNeedTable : Def P w K mg base (L2.CX P w) 5 "_need_table" ["table"] (orS (spNeedTable K) (spTabX K))) : Def P w K mg base (L2.CX P w) 6 "determinant" ["table"] (spDetX K) := by
  refine T.t_determinant.defX (N := ["table", "rows", "begun", "sign"]) scDeterminant (fun _ _ _ _ _ _ us hl => match us, hl with | [_], _ => rfl) ?_ ?_
  · intro vs H Q E h
    obtain ⟨x, t, rfl, _⟩ := h
    rfl
  · intro f cd A out s H vs Q E hr h
    have hr2 : Rm 5 _ := hr.le (by decide)
    have tk : Takes (cxOf (L2.CX P w) P w K mg base ["table", "rows", "begun", "sign"] "determinant" (defScope sDeterminant) f cd A out s H E) (fun cls d _ H1 => E cls d H1) := takes_of rfl rfl rfl rfl
    obtain ⟨x, t, rfl, hv, q⟩ := h
    refine ⟨_, (pss_cons (ps_expr (ME.pe_dS BNeedTable (hr2.le (by decide)) (passAt tk) (pa_cons (pv 0) pa_nil))) (pss_cons (ps_if (pt_cmpR op_ne (pe_callB call_len_seq rfl T.f_len (by decide +kernel) (pa_cons (pv 0) pa_nil)) (pe_callB call_len_seq rfl T.f_len (by decide +kernel) (pa_cons (pe_ix ix_tup (pv 0) pe_int (fun _ _ => rfl)) pa_nil)) (nomark _)) (pss_one (ps_plain Y.op rfl tk)) pss_nil) (pss_cons ps_never (pss_one ps_never)))), ?_⟩
    rcases q with ⟨bad, q⟩ | ⟨good, ⟨a, us, b, ys, rfl, S, h0, Sb, ne⟩, q⟩
    · exact ⟨_, rfl, .inr ⟨x, t, rfl, hv, bad, q⟩⟩
    refine ⟨_, rfl, .inl ⟨_, t, rfl, hv, good, fun H1 s1 => ?_⟩⟩
    refine ⟨_, rfl, a, us, rfl, .inr (same_sqt s1 S), _, rfl, a, _, _, .ref b, rfl, rfl, same_sqt s1 S, atI_nat (j := 0) h0, b, ys, rfl, .inr (same_sqt s1 Sb), rfl, _, rfl, ?_⟩
    refine ifT ?_ (q _ s1)
    show (!decide (V.int (us.length : Int) = V.int (ys.length : Int))) = true
    rw [dInt, decide_eq_false (by omega)]
    rfl
end
end K03


set_option Elab.async false
set_option linter.all false
set_option maxRecDepth 100000
set_option maxHeartbeats 4000000
namespace K03
open PySem PySem.Spec PyProof.Rows L2 MM
/-! own words for the readings: a step, its side -/
local macro_rules | `(tactic| walk_at "side") => `(tactic| first
  | omega
  | exact ⟨by omega, by omega⟩
  | exact Or.inl ⟨by omega, by omega⟩
  | exact Or.inr ⟨by omega, by omega⟩
  | (show CPw _ _; decide +kernel)
  | (show (0 : Int) < _; decide +kernel)
  | (show CDivW _ _; first | assumption | exact ⟨by decide, by decide +kernel⟩))
local macro_rules | `(tactic| walk_at "here") => `(tactic| first
  | assumption
  | exact upd_same
  | exact Or.inl (Or.inl upd_same)
  | exact Or.inl upd_same)
local macro_rules | `(tactic| walk_at "one") => `(tactic| first
  | refine ⟨_, rfl, ?_⟩
  | refine Or.inl ⟨_, rfl, ?_⟩
  | refine Or.inr ⟨_, rfl, ?_⟩
  | refine ⟨_, _, rfl, rfl, (by walk_at "side"), ?_⟩
  | refine ⟨_, _, rfl, rfl, ?_⟩
  | refine ⟨_, _, rfl, Or.inl (by walk_at "here"), ?_⟩
  | refine ⟨_, _, rfl, Or.inr (by walk_at "here"), ?_⟩
  | refine ⟨_, _, rfl, (by walk_at "here"), ?_⟩
  | refine ⟨_, _, _, _, rfl, rfl, (by walk_at "here"), rfl, ?_⟩
  | refine ⟨_, _, rfl, ?_⟩
  | refine ifT (by rfl) ?_
  | refine ifF (by rfl) ?_
  | refine ifT (decide_eq_true (by omega)) ?_
  | refine ifF (decide_eq_false (by omega)) ?_)
local macro_rules | `(tactic| walk_at "st") => `(tactic| repeat (walk_at "one"))

section
variable {P : Program} {w : World} {K : PySem.W.Frag} {mg : Str → Option Value} {base : Heap}
def zs (m : Nat) : List V := List.replicate m (.int 0)
/-- lists of zeros -/
def Zr (H : Hp) (m : Nat) (rs : List V) : Prop := ∀ v ∈ rs, ∃ b, v = .ref b ∧ H b = some (.lst (zs m))
def spLead0 : Sp := fun vs H Q _ => ∃ (r : Addr) (rs : List V) (m c : Nat), vs = [.ref r, .int 0, .int (c : Int)] ∧ H r = some (.lst rs) ∧ Zr H m rs ∧ rs.length ≤ 1000 ∧ c < m ∧ Q .non H
theorem scLeadRow : FnScope ["rows", "start", "column", "at"] ["rows", "start", "column"] (defScope sLeadRow) :=
  ⟨rfl, rfl, rfl, by decide +kernel, rfl, by decide +kernel, by decide +kernel⟩
theorem dLeadRow (T : Tx K mg) : Def P w K mg base CX0 1 "_lead_row" ["rows", "start", "column"] spLead0 := by
  refine T.t_lead_row.def_ (N := ["rows", "start", "column", "at"]) scLeadRow (fun _ _ _ _ _ _ us hl => match us, hl with | [_, _, _], _ => rfl) ?_ ?_
  · intro vs H Q E h
    obtain ⟨r, rs, m, c, rfl, _⟩ := h
    rfl
  · intro f cd A out s H vs Q E hr h
    obtain ⟨r, rs, m, c, rfl, hr_, hz, hl, hc, q⟩ := h
    refine ⟨_, (pss_cons (ps_for PassesOwn.never rfl (pi_range2 rfl T.f_range (pa_cons (pv 1) (pa_cons (pe_callB call_len_seq rfl T.f_len (by decide +kernel) (pa_cons (pv 0) pa_nil)) pa_nil))) (pg_name (i := 3) scLeadRow.nd rfl (Or.inl rfl))
        (pss_one (ps_if (pt_cmpR op_ne (pe_ix ix_list (pe_ix ix_list (pv 0) (pv 3) (fun _ _ => rfl)) (pv 2) (fun _ _ => rfl)) pe_int (nomark _)) (pss_one (ps_ret (pv 3))) pss_nil)))
      (pss_one (ps_ret pe_non))), ?_⟩
    refine ⟨_, rfl, _, rfl, r, rs, rfl, .inl (.inl (.inl hr_)), ?_⟩
    have hn : ((rs.length : Int) - 0).toNat = rs.length := by omega
    refine ⟨0, (rs.length : Int), rfl, ⟨by decide, by decide, by omega, by omega⟩, ?_⟩
    refine for_range (fun i σ H' => H' = H ∧ ∃ y, σ = [some (.ref r), some (.int 0), some (.int (c : Int)), y]) ⟨rfl, none, rfl⟩ ?_ ?_
    · rintro i σ H' hi ⟨rfl, y, rfl⟩
      rw [hn] at hi
      obtain ⟨b, hb, eb⟩ := hz rs[i] (List.getElem_mem hi)
      refine ⟨_, rfl, _, rfl, r, rs, _, .ref b, rfl, rfl, .inl (.inl hr_), ?_, _, rfl, b, zs m, _, .int 0, rfl, rfl, .inl (.inl eb), ?_, rfl, _, rfl, ?_⟩
      · rw [Int.zero_add]
        exact atI_nat (by rw [List.getElem?_eq_getElem hi, hb])
      · refine atI_nat ?_
        unfold zs
        rw [List.getElem?_replicate, if_pos hc]
      refine ifF rfl ?_
      exact ⟨rfl, _, rfl⟩
    · rintro σ H' ⟨rfl, y, rfl⟩
      exact q
def rLstOf (K : PySem.W.Frag) : List V → Hp → VK → Prop := fun xs H Q =>
  ∃ p ys, xs = [V.ref p] ∧ (SqL K H p ys ∨ SqT K H p ys) ∧ ∀ l : Addr, H l = none → Q (V.ref l) (upd H l (.lst ys))
/-- a tuple of tuples of zeros -/
def ZrT (K : PySem.W.Frag) (H : Hp) (m : Nat) (us : List V) : Prop := ∀ v ∈ us, ∃ b, v = .ref b ∧ SqT K H b (zs m)
def spStairs0 (K : PySem.W.Frag) : Sp := fun vs H Q _ => ∃ (a : Addr) (us : List V) (m : Nat), vs = [.ref a] ∧ SqT K H a us ∧ ZrT K H m us ∧ 1 ≤ us.length ∧ us.length ≤ 1000 ∧ 1 ≤ m ∧ m ≤ 1000 ∧
  ∀ H' r x t, Same H H' → H' r = some (.tup [.ref x, .ref t, .int 1]) → SqT K H' t [] → Q (.ref r) H'
theorem scStairs : FnScope ["table", "rows", "row", "last", "sign", "begun", "column", "done", "at", "below"] ["table"] (defScope sStairs) :=
  ⟨rfl, rfl, rfl, by decide +kernel, rfl, by decide +kernel, by decide +kernel⟩
theorem dStairs (T : Tx K mg) (DLeadRow : Def P w K mg base CX0 1 "_lead_row" ["rows", "start", "column"] spLead0) : Def P w K mg base CX0 2 "_stairs" ["table"] (spStairs0 K) := by
  refine T.t_stairs.def_ (N := ["table", "rows", "row", "last", "sign", "begun", "column", "done", "at", "below"]) scStairs (fun _ _ _ _ _ _ us hl => match us, hl with | [_], _ => rfl) ?_ ?_
  · intro vs H Q E h
    obtain ⟨a, us, m, rfl, _⟩ := h
    rfl
  · intro f cd A out s H vs Q E hr h
    have hr1 : Rm 1 _ := hr.le (by decide)
    obtain ⟨a, us, m, rfl, S, hz, l1, l2, m1, m2, q⟩ := h
    refine ⟨_, (pss_cons (ps_setLc (i := 1) (own := [("row", 2)]) (g := gName 2) (tt := tYes) rfl scStairs.nd rfl rfl (sw_true rfl rfl rfl rfl) (pi_tup (pv 0)) (blkOk_by (N := ["table", "rows", "row", "last", "sign", "begun", "column", "done", "at", "below"]) (sc := defScope sStairs) (by decide +kernel)) (fun _ _ _ _ _ => pg_name (i := 2) scStairs.nd rfl (Or.inl rfl)) (fun _ _ _ _ _ => pts_nil) (fun _ _ _ _ _ => (pe_callTy (show CallR _ _ (rLstOf K) from call_list_of) rfl T.f_list (by decide +kernel) (pa_cons (pv 2) pa_nil))))
      (pss_cons (ps_set (i := 3) scStairs.nd rfl (Or.inl rfl) pe_int)
      (pss_cons (ps_set (i := 4) scStairs.nd rfl (Or.inl rfl) pe_int)
      (pss_cons (ps_set (i := 5) scStairs.nd rfl (Or.inl rfl) (pe_lst pa_nil))
      (pss_cons (ps_for PassesOwn.never rfl (pi_range1 rfl T.f_range (pa_cons (pe_callB call_len_seq rfl T.f_len (by decide +kernel) (pa_cons (pe_ix ix_list (pv 1) pe_int (fun _ _ => rfl)) pa_nil)) pa_nil)) (pg_name (i := 6) scStairs.nd rfl (Or.inl rfl))
        (pss_cons (ps_set (i := 7) scStairs.nd rfl (Or.inl rfl) (pe_callB call_len_seq rfl T.f_len (by decide +kernel) (pa_cons (pv 5) pa_nil)))
        (pss_cons (ps_set (i := 8) scStairs.nd rfl (Or.inl rfl) (pe_d DLeadRow (hr1.le (by decide)) pass0 (pa_cons (pv 1) (pa_cons (pv 7) (pa_cons (pv 6) pa_nil)))))
        (pss_one (ps_if (pt_cmpR op_notN (pv 8) pe_non (nomark _)) (pss_cons ps_never
          (pss_cons ps_never
          (pss_cons ps_never
          (pss_one ps_never)))) pss_nil)))))
      (pss_one (ps_ret (pe_tup (pa_cons (pe_slice sl_list (pv 1) po_none (po_some (pe_callB call_len_seq rfl T.f_len (by decide +kernel) (pa_cons (pv 5) pa_nil)))) (pa_cons (pe_callTy call_tuple_of rfl T.f_tuple (by decide +kernel) (pa_cons (pv 5) pa_nil)) (pa_cons (pv 4) pa_nil))))))))))), ?_⟩
    have zero : ∀ {H' : Hp} {rs : List V} {D : Addr}, Zr H' m rs → H' D = some (.lst rs) → ∀ v ∈ rs, ∃ b, v = .ref b ∧ b ≠ D ∧ H' b = some (.lst (zs m)) := by
      intro H' rs D z hD v hv
      obtain ⟨b, rfl, e⟩ := z v hv
      refine ⟨b, rfl, ?_, e⟩
      rintro rfl
      rw [hD] at e
      have e2 : rs = zs m := by injection (Option.some.inj e)
      rw [e2] at hv
      cases List.eq_of_mem_replicate hv
    refine ⟨_, rfl, a, rfl, ⟨_, S⟩, fun D nD => ?_⟩
    refine lc_tup (K := K) (a := a) (xs := us) (Pv := fun i H' => Same H H' ∧ ∃ rs, H' D = some (.lst rs) ∧ rs.length = i ∧ Zr H' m rs) ⟨same_new nD, [], upd_same, rfl, by intro v hv; cases hv⟩ (fun i H' _ e => same_sqt e.1 S) ?_ ?_
    · rintro i x H' hx ⟨s, rs, hD, hl, z⟩
      obtain ⟨b, rfl, Sb⟩ := hz x (List.mem_of_getElem? hx)
      have li : i < us.length := (List.getElem?_eq_some_iff.mp hx).1
      refine ⟨wipe_one, yes_ ?_⟩
      refine ⟨_, rfl, b, zs m, rfl, .inr (same_sqt s Sb), fun l nl => ?_⟩
      have ld : l ≠ D := (ne_of_none hD nl).symm
      refine ⟨rs, same_new nl _ _ hD, ?_, ?_, rs ++ [.ref l], upd_same, by rw [List.length_append, hl]; rfl, ?_⟩
      · rw [sizeLine_eq]
        omega
      · intro c o e
        rw [upd_ne (ne_of_none e nD)]
        exact same_new nl _ _ (s _ _ e)
      · intro v hv
        rcases List.mem_append.mp hv with hv | hv
        · obtain ⟨c, rfl, nc, e⟩ := zero z hD v hv
          exact ⟨c, rfl, by rw [upd_ne nc]; exact same_new nl _ _ e⟩
        · rw [List.mem_singleton] at hv
          exact ⟨l, hv, by rw [upd_ne ld]; exact upd_same⟩
    rintro H1 ⟨s1, rs, hD, hl, z⟩
    refine ⟨by decide, fun g fg => ?_⟩
    have zg : Zr (upd H1 g (.lst [])) m rs := fun v hv => let ⟨b, e, eb⟩ := z v hv; ⟨b, e, same_new fg _ _ eb⟩
    have hD2 := same_new (o := .lst []) fg _ _ hD
    have s2 := s1.trans (same_new (o := .lst []) fg)
    have hg : (upd H1 g (.lst [])) g = some (.lst []) := upd_same
    generalize upd H1 g (.lst []) = H2 at zg hD2 s2 hg
    obtain ⟨v0, hv0⟩ : ∃ v0, rs[0]? = some v0 := ⟨rs[0]'(by omega), List.getElem?_eq_getElem _⟩
    obtain ⟨b0, rfl, eb0⟩ := zg v0 (List.mem_of_getElem? hv0)
    refine ⟨_, rfl, D, rs, _, .ref b0, rfl, rfl, .inl (.inl hD2), atI_nat (j := 0) hv0, b0, zs m, rfl, .inl (.inl (.inl eb0)), ?_⟩
    have zl : (zs m).length = m := List.length_replicate
    refine ⟨((zs m).length : Int), rfl, by omega, by omega, for_range (fun i σ H' => H' = H2 ∧ ∃ x1 x2 x3 x4 x5, σ = [some (.ref a), some (.ref D), x1, some (.int 1), some (.int 1), some (.ref g), x2, x3, x4, x5]) ⟨rfl, none, none, none, none, none, rfl⟩ ?_ ?_⟩
    · rintro c σ H' hc ⟨rfl, x1, x2, x3, x4, x5, rfl⟩
      have hcm : c < m := by omega
      refine ⟨_, rfl, g, [], rfl, .inl (.inl (.inl hg)), ?_⟩
      refine ⟨_, rfl, _, rfl, _, rfl, D, rs, m, c, ?_, hD2, zg, by omega, hcm, ?_⟩
      · show [V.ref D, V.int ((0 : Nat) : Int), V.int (0 + (c : Int))] = _
        rw [Int.zero_add]
        rfl
      refine ⟨_, rfl, rfl, _, rfl, ?_⟩
      refine ifF rfl ?_
      exact ⟨rfl, _, _, _, _, _, rfl⟩
    · rintro σ H' ⟨rfl, x1, x2, x3, x4, x5, rfl⟩
      refine ⟨_, rfl, ?_⟩
      simp only [tNoPart]
      refine ⟨_, rfl, g, [], rfl, .inl (.inl (.inl hg)), _, rfl, D, rs, rfl, .inl (.inl hD2), fun p fp => ?_⟩
      have s3 := s2.trans (same_new (o := .lst (cutV rs none (some (([] : List V).length : Int)))) fp)
      have hg3 := same_new (o := .lst (cutV rs none (some (([] : List V).length : Int)))) fp _ _ hg
      generalize upd H' p _ = H3 at s3 hg3 ⊢
      refine ⟨_, rfl, g, [], rfl, .inl ⟨.inl (.inl hg3), fun t ft => ?_⟩⟩
      refine ⟨_, rfl, ?_⟩
      refine ⟨by show 3 ≤ sizeLine; decide, fun r fr => ?_⟩
      refine q _ r p t ((s3.trans (same_new ft)).trans (same_new fr)) upd_same (.inl (.inl ?_))
      exact same_new fr _ _ upd_same
/-- a table of zeros -/
def spRank0 (K : PySem.W.Frag) : Sp := fun vs H Q _ => ∃ (a : Addr) (us : List V) (m : Nat), vs = [.ref a] ∧ SqT K H a us ∧ ZrT K H m us ∧ 1 ≤ us.length ∧ us.length ≤ 60 ∧ 1 ≤ m ∧ m ≤ 60 ∧ ∀ H' v, Same H H' → Q v H'
theorem zr_tab {H : Hp} {a : Addr} {us : List V} {m : Nat} (S : SqT K H a us) (z : ZrT K H m us) (l1 : 1 ≤ us.length) (l2 : us.length ≤ 60) (m1 : 1 ≤ m) (m2 : m ≤ 60) :
    ∃ t, Tv K H (.ref a) t ∧ isTab t = true := by
  refine ⟨some (us.map fun _ => some (zs m)), .yes S ?_, ?_⟩
  · have key : ∀ l : List V, ZrT K H m l → Paired (fun u o => Rv K H u o) l (l.map fun _ => some (zs m)) := by
      intro l
      induction l with
      | nil => intro _; exact .nil
      | cons u r ih =>
        intro zl
        obtain ⟨b, rfl, Sb⟩ := zl _ List.mem_cons_self
        refine .cons (.yes Sb fun y hy => ⟨.int, ?_⟩) (ih fun v hv => zl v (List.mem_cons_of_mem _ hv))
        rw [List.eq_of_mem_replicate hy]
        exact .int 0
    exact key us z
  · match us, l1, l2 with
    | u :: r, _, l2 =>
      have ln : isLine (some (zs m)) = true := by
        show (decide (1 ≤ (zs m).length) && (decide ((zs m).length ≤ 60) && (zs m).all isI)) = true
        unfold zs
        rw [List.length_replicate, decide_eq_true m1, decide_eq_true m2, Bool.true_and, Bool.true_and]
        exact List.all_eq_true.mpr fun x hx => by rw [List.eq_of_mem_replicate hx]; decide +kernel
      show (decide ((r.map fun _ => some (zs m)).length + 1 ≤ 60) && ((some (zs m) :: r.map fun _ => some (zs m)).all isLine && (some (zs m) :: r.map fun _ => some (zs m)).all fun p => decide (wid p = wid (some (zs m))))) = true
      rw [decide_eq_true (by rw [List.length_map]; exact l2), Bool.true_and, Bool.and_eq_true]
      constructor
      · refine List.all_eq_true.mpr fun x hx => ?_
        rcases List.mem_cons.mp hx with rfl | hx
        · exact ln
        · obtain ⟨_, _, rfl⟩ := List.mem_map.mp hx
          exact ln
      · refine List.all_eq_true.mpr fun x hx => ?_
        rcases List.mem_cons.mp hx with rfl | hx
        · exact decide_eq_true rfl
        · obtain ⟨_, _, rfl⟩ := List.mem_map.mp hx
          exact decide_eq_true rfl
theorem scRank : FnScope ["table"] ["table"] (defScope sRank) :=
  ⟨rfl, rfl, rfl, by decide +kernel, rfl, by decide +kernel, by decide +kernel⟩
theorem dRank (T : Tx K mg) (DNeedTable : Def P w K mg base CX0 5 "_need_table" ["table"] (spNeedTable K)) (DStairs : Def P w K mg base CX0 2 "_stairs" ["table"] (spStairs0 K)) : Def P w K mg base CX0 6 "rank" ["table"] (spRank0 K) := by
  refine T.t_rank.def_ (N := ["table"]) scRank (fun _ _ _ _ _ _ us hl => match us, hl with | [_], _ => rfl) ?_ ?_
  · intro vs H Q E h
    obtain ⟨a, us, m, rfl, _⟩ := h
    rfl
  · intro f cd A out s H vs Q E hr h
    have hr1 : Rm 5 _ := hr.le (by decide)
    obtain ⟨a, us, m, rfl, S, hz, l1, l2, m1, m2, q⟩ := h
    refine ⟨_, (pss_cons (ps_expr (pe_d DNeedTable (hr1.le (by decide)) pass0 (pa_cons (pv 0) pa_nil)))
      (pss_one (ps_ret (pe_callB call_len_seq rfl T.f_len (by decide +kernel) (pa_cons (pe_ix ix_tup (pe_d DStairs (hr1.le (by decide)) pass0 (pa_cons (pv 0) pa_nil)) pe_int (fun _ _ => rfl)) pa_nil))))), ?_⟩
    obtain ⟨t, hv, good⟩ := zr_tab S hz l1 l2 m1 m2
    refine ⟨_, rfl, _, t, rfl, hv, good, fun H1 s1 => ?_⟩
    refine ⟨_, rfl, a, us, m, rfl, same_sqt s1 S, fun v hv => ?_, l1, by omega, m1, by omega, fun H2 r x t2 s2 hr_ ht => ?_⟩
    · obtain ⟨b, e, Sb⟩ := hz v hv
      exact ⟨b, e, same_sqt s1 Sb⟩
    refine ⟨r, _, _, .ref t2, rfl, rfl, .inl (.inl hr_), rfl, t2, [], rfl, .inr ht, ?_⟩
    exact q _ _ (s1.trans s2)
theorem bRank (T : Tx K mg) (Y : Ex K mg) (BNeedTable : Def P w K mg base (L2.CX P w) 5 "_need_table" ["table"] (orS (spNeedTable K) (spTabX K))) : Def P w K mg base (L2.CX P w) 6 "rank" ["table"] (spTabX K) := by
  refine T.t_rank.defX (N := ["table"]) scRank (fun _ _ _ _ _ _ us hl => match us, hl with | [_], _ => rfl) ?_ ?_
  · intro vs H Q E h
    obtain ⟨x, t, rfl, _⟩ := h
    rfl
  · intro f cd A out s H vs Q E hr h
    have hr2 : Rm 5 _ := hr.le (by decide)
    have tk : Takes (cxOf (L2.CX P w) P w K mg base ["table"] "rank" (defScope sRank) f cd A out s H E) (fun cls d _ H1 => E cls d H1) := takes_of rfl rfl rfl rfl
    obtain ⟨x, t, rfl, hv, bad, q⟩ := h
    refine ⟨_, (pss_cons (ps_expr (ME.pe_dS BNeedTable (hr2.le (by decide)) (passAt tk) (pa_cons (pv 0) pa_nil))) (pss_one ps_never)), ?_⟩
    exact ⟨_, rfl, .inr ⟨x, t, rfl, hv, bad, q⟩⟩
end
end K03


set_option Elab.async false
set_option linter.all false
set_option maxRecDepth 100000
set_option maxHeartbeats 4000000
namespace K03
open PySem PySem.Spec PyProof.Rows L2 MM
/-! own words for the readings: a step, its side -/
local macro_rules | `(tactic| walk_at "side") => `(tactic| first
  | omega
  | exact ⟨by omega, by omega⟩
  | exact Or.inl ⟨by omega, by omega⟩
  | exact Or.inr ⟨by omega, by omega⟩
  | (show CPw _ _; decide +kernel)
  | (show (0 : Int) < _; decide +kernel)
  | (show CDivW _ _; first | assumption | exact ⟨by decide, by decide +kernel⟩))
local macro_rules | `(tactic| walk_at "here") => `(tactic| first
  | assumption
  | exact upd_same
  | exact Or.inl (Or.inl upd_same)
  | exact Or.inl upd_same)
local macro_rules | `(tactic| walk_at "one") => `(tactic| first
  | refine ⟨_, rfl, ?_⟩
  | refine Or.inl ⟨_, rfl, ?_⟩
  | refine Or.inr ⟨_, rfl, ?_⟩
  | refine ⟨_, _, rfl, rfl, (by walk_at "side"), ?_⟩
  | refine ⟨_, _, rfl, rfl, ?_⟩
  | refine ⟨_, _, rfl, Or.inl (by walk_at "here"), ?_⟩
  | refine ⟨_, _, rfl, Or.inr (by walk_at "here"), ?_⟩
  | refine ⟨_, _, rfl, (by walk_at "here"), ?_⟩
  | refine ⟨_, _, _, _, rfl, rfl, (by walk_at "here"), rfl, ?_⟩
  | refine ⟨_, _, rfl, ?_⟩
  | refine ifT (by rfl) ?_
  | refine ifF (by rfl) ?_
  | refine ifT (decide_eq_true (by omega)) ?_
  | refine ifF (decide_eq_false (by omega)) ?_)
local macro_rules | `(tactic| walk_at "st") => `(tactic| repeat (walk_at "one"))

section
variable {P : Program} {w : World} {K : PySem.W.Frag} {mg : Str → Option Value} {base : Heap}
theorem same_sql {H H' : Hp} {a : Addr} {xs : List V} (s : Same H H') (h : SqL K H a xs) : SqL K H' a xs := by
  rcases h with (h | ⟨o, h⟩) | h
  · exact .inl (.inl (s _ _ h))
  · exact .inl (.inr ⟨o, s _ _ h⟩)
  · exact .inr h
/-- a list of lists of integers, all of one length -/
def ColsL (K : PySem.W.Frag) (H : Hp) (r : Addr) (n : Nat) : Prop := ∃ cs : List V, H r = some (.lst cs) ∧ cs.length ≤ 1000 ∧ ∀ v ∈ cs, ∃ b ys, v = .ref b ∧ H b = some (.lst (List.map V.int ys)) ∧ ys.length = n
def Sm (ys : List Int) : Prop := ∀ y ∈ ys, -(2 ^ 64) < y ∧ y < 2 ^ 64
/-- a tuple of tuples of small integers, all of one length -/
def RowsT (K : PySem.W.Frag) (H : Hp) (us : List V) (m : Nat) : Prop := ∀ v ∈ us, ∃ b ys, v = .ref b ∧ SqT K H b (List.map V.int ys) ∧ ys.length = m ∧ Sm ys
theorem RowsT.same {H H' : Hp} {us : List V} {m : Nat} (h : RowsT K H us m) (s : Same H H') : RowsT K H' us m := fun v hv =>
  let ⟨b, ys, e, S, l⟩ := h v hv
  ⟨b, ys, e, same_sqt s S, l⟩
def spCols (K : PySem.W.Frag) : Sp := fun vs H Q _ => ∃ (a : Addr) (us : List V) (m : Nat), vs = [.ref a] ∧ SqT K H a us ∧ RowsT K H us m ∧ 1 ≤ us.length ∧ us.length ≤ 60 ∧ m ≤ 60 ∧
  ∀ H' r, Same H H' → ColsL K H' r us.length → Q (.ref r) H'
theorem scColumns : FnScope ["rows", "row", "at"] ["rows"] (defScope sColumns) :=
  ⟨rfl, rfl, rfl, by decide +kernel, rfl, by decide +kernel, by decide +kernel⟩
theorem dColumns (T : Tx K mg) : Def P w K mg base CX0 1 "_columns" ["rows"] (spCols K) := by
  refine T.t_columns.def_ (N := ["rows", "row", "at"]) scColumns (fun _ _ _ _ _ _ us hl => match us, hl with | [_], _ => rfl) ?_ ?_
  · intro vs H Q E h
    obtain ⟨a, us, m, rfl, _⟩ := h
    rfl
  · intro f cd A out s H vs Q E hr h
    obtain ⟨a, us, m, rfl, S, hR, l1, l2, m2, q⟩ := h
    refine ⟨_, (pss_one (ps_ret (pe_lc (own := [("at", 2)]) (g := gName 2) (tt := tYes) rfl scColumns.nd (pi_range1 rfl T.f_range (pa_cons (pe_callB call_len_seq rfl T.f_len (by decide +kernel) (pa_cons (pe_ix ix_tup (pv 0) pe_int (fun _ _ => rfl)) pa_nil)) pa_nil)) (blkOk_by (N := ["rows", "row", "at"]) (sc := defScope sColumns) (by decide +kernel)) (fun _ _ _ _ _ => pg_name (i := 2) scColumns.nd rfl (Or.inr rfl)) (fun _ _ _ _ _ => pts_nil) (fun _ _ _ _ _ => (pe_lc (own := [("row", 1)]) (g := gName 1) (tt := tYes) rfl scColumns.nd (show PI _ _ _ (iTup K _) from pi_tup (pv 0)) (blkOk_by (N := ["rows", "row", "at"]) (sc := _) (by kernel_rfl)) (fun _ _ _ _ _ => pg_name (i := 1) scColumns.nd rfl (Or.inl rfl)) (fun _ _ _ _ _ => pts_nil) (fun _ _ _ _ _ => (pe_ix (show IxR _ (rIxT K) from ix_tup) (pv 1) (pv 2) (fun _ _ => rfl)))))))), ?_⟩
    obtain ⟨u0, hu0⟩ : ∃ u0, us[0]? = some u0 := ⟨us[0]'(by omega), List.getElem?_eq_getElem _⟩
    obtain ⟨b0, y0, rfl, S0, ly0, _⟩ := hR u0 (List.mem_of_getElem? hu0)
    refine ⟨_, rfl, a, _, _, .ref b0, rfl, rfl, S, atI_nat (j := 0) hu0, b0, _, rfl, .inr S0, ?_⟩
    rw [show (List.map V.int y0).length = m by rw [List.length_map, ly0]]
    refine ⟨(m : Int), rfl, by omega, by omega, fun D nD => ?_⟩
    refine lc_range (Pv := fun i H' => Same H H' ∧ ∃ cs : List V, H' D = some (.lst cs) ∧ cs.length = i ∧ ∀ v ∈ cs, ∃ b ys, v = .ref b ∧ b ≠ D ∧ H' b = some (.lst (List.map V.int ys)) ∧ ys.length = us.length) ⟨same_new nD, [], upd_same, rfl, by intro v hv; cases hv⟩ ?_ ?_
    · rintro i H1 hi ⟨s1, cs, hD, hl, hc⟩
      have hi' : i < m := by omega
      refine ⟨wipe_one, yes_ ?_⟩
      refine ⟨_, rfl, a, rfl, ⟨_, same_sqt s1 S⟩, fun D2 nD2 => ?_⟩
      have DD : D2 ≠ D := (ne_of_none hD nD2).symm
      refine lc_tup (K := K) (a := a) (xs := us) (Pv := fun j H' => Same H1 H' ∧ ∃ ys : List Int, H' D2 = some (.lst (List.map V.int ys)) ∧ ys.length = j) ⟨same_new nD2, [], upd_same, rfl⟩ (fun j H' _ e => same_sqt (s1.trans e.1) S) ?_ ?_
      · rintro j x H2 hx ⟨s2, ys, hD2, hl2⟩
        obtain ⟨b, zs, rfl, Sb, lz, _⟩ := hR x (List.mem_of_getElem? hx)
        have lj : j < us.length := (List.getElem?_eq_some_iff.mp hx).1
        refine ⟨wipe_one, yes_ ?_⟩
        refine ⟨_, rfl, _, rfl, b, _, _, .int (zs[i]'(by omega)), rfl, rfl, same_sqt (s1.trans s2) Sb, ?_, ?_⟩
        · rw [Int.zero_add]
          exact atI_nat (by rw [List.getElem?_map, List.getElem?_eq_getElem]; rfl)
        refine ⟨_, hD2, ?_, ?_, ys ++ [zs[i]'(by omega)], ?_, by rw [List.length_append, hl2]; rfl⟩
        · rw [List.length_map, sizeLine_eq]
          omega
        · intro c o e
          rw [upd_ne (ne_of_none e nD2)]
          exact s2 _ _ e
        · rw [upd_same, List.map_append]
          rfl
      rintro H2 ⟨s2, ys, hD2, hl2⟩
      refine ⟨cs, s2 _ _ hD, ?_, ?_, cs ++ [.ref D2], upd_same, by rw [List.length_append, hl]; rfl, ?_⟩
      · rw [sizeLine_eq]
        omega
      · intro c o e
        rw [upd_ne (ne_of_none e nD)]
        exact s2 _ _ (s1 _ _ e)
      · intro v hv
        rcases List.mem_append.mp hv with hv | hv
        · obtain ⟨b, zs, rfl, nb, e, lz⟩ := hc v hv
          exact ⟨b, zs, rfl, nb, by rw [upd_ne nb]; exact s2 _ _ e, lz⟩
        · rw [List.mem_singleton] at hv
          exact ⟨D2, ys, hv, DD, by rw [upd_ne DD]; exact hD2, hl2⟩
    · rintro H1 ⟨s1, cs, hD, hl, hc⟩
      refine q H1 D s1 ⟨cs, hD, by omega, fun v hv => ?_⟩
      obtain ⟨b, zs, e, _, e2, lz⟩ := hc v hv
      exact ⟨b, zs, e, e2, lz⟩
def spLine (K : PySem.W.Frag) : Sp := fun vs H Q _ => ∃ (a b : Addr) (xs ys : List Int), vs = [.ref a, .ref b] ∧ SqT K H a (xs.map V.int) ∧ SqL K H b (ys.map V.int) ∧ xs.length ≤ 1000 ∧ Sm xs ∧ ∀ H' (i : Int), Same H H' → Q (.int i) H'
theorem scLineProduct : FnScope ["one", "other", "left", "right"] ["one", "other"] (defScope sLineProduct) :=
  ⟨rfl, rfl, rfl, by decide +kernel, rfl, by decide +kernel, by decide +kernel⟩
theorem dLineProduct (T : Tx K mg) : Def P w K mg base CX0 1 "_line_product" ["one", "other"] (spLine K) := by
  refine T.t_line_product.def_ (N := ["one", "other", "left", "right"]) scLineProduct (fun _ _ _ _ _ _ us hl => match us, hl with | [_, _], _ => rfl) ?_ ?_
  · intro vs H Q E h
    obtain ⟨a, b, xs, ys, rfl, _⟩ := h
    rfl
  · intro f cd A out s H vs Q E hr h
    obtain ⟨a, b, xs, ys, rfl, S1, S2, l1, sm, q⟩ := h
    refine ⟨_, (pss_one (ps_ret (pe_callB (cr_sum rfl) rfl T.f_sum (by decide +kernel) (pa_cons (pe_lc (own := [("left", 2), ("right", 3)]) (g := gTup K 2 (gCons (gName 2) (gCons (gName 3) gNil))) (tt := tYes) rfl scLineProduct.nd (pi_zipM rfl T.f_zip (pa_cons (pv 0) (pa_cons (pv 1) pa_nil))) (blkOk_by (N := ["one", "other", "left", "right"]) (sc := defScope sLineProduct) (by decide +kernel)) (fun _ _ _ _ _ => (show PG _ _ (gTup K 2 (gCons (gName 2) (gCons (gName 3) gNil))) from pg_tup rfl (pgs_cons (pg_name (i := 2) scLineProduct.nd rfl (Or.inl rfl)) (pgs_cons (pg_name (i := 3) scLineProduct.nd rfl (Or.inl rfl)) pgs_nil)))) (fun _ _ _ _ _ => pts_nil) (fun _ _ _ _ _ => (pe_op op_mul (pv 2) (pv 3)))) pa_nil)))), ?_⟩
    refine ⟨_, rfl, _, rfl, a, b, _, _, rfl, S1, S2, fun D nD => ?_⟩
    refine lc_zipM (n := min (xs.map V.int).length (ys.map V.int).length) rfl (fun i H' => Same H H' ∧ ∃ zs : List Int, H' D = some (.lst (zs.map V.int)) ∧ zs.length = i) ⟨same_new nD, [], upd_same, rfl⟩ (fun i H' _ e => ⟨same_sqt e.1 S1, same_sql e.1 S2⟩) ?_ ?_
    · rintro i x y H1 T hx hy ⟨s1, zs, hD, hl⟩ fT
      obtain ⟨xi, hxi, rfl⟩ := map_int hx
      obtain ⟨yi, _, rfl⟩ := map_int hy
      have DT : D ≠ T := ne_of_none hD fT
      have li : i < xs.length := by
        have := (List.getElem?_eq_some_iff.mp hx).1
        rw [List.length_map] at this
        exact this
      have s2 := s1.trans (same_new fT (o := .tup [.int xi, .int yi]))
      have hD2 := (upd_ne (o := .tup [.int xi, .int yi]) DT).trans hD
      refine ⟨T, _, rfl, .inl (.inl upd_same), rfl, _, _, rfl, ?_⟩
      refine ⟨_, _, rfl, rfl, rfl, ?_⟩
      generalize upd H1 T _ = H2 at s2 hD2 ⊢
      refine yes_ ?_
      refine ⟨_, rfl, _, rfl, xi, yi, rfl, rfl, ?_⟩
      refine ⟨.inl (sm _ (List.mem_of_getElem? hxi)), ?_⟩
      refine ⟨_, hD2, ?_, ?_, zs ++ [xi * yi], ?_, by rw [List.length_append, hl]; rfl⟩
      · rw [List.length_map, sizeLine_eq]
        omega
      · intro c o e
        rw [upd_ne (ne_of_none e nD)]
        exact s2 _ _ e
      · rw [upd_same, List.map_append]
        rfl
    · rintro H1 ⟨s1, zs, hD, hl⟩
      exact ⟨D, zs, rfl, .inl (.inl hD), q H1 _ s1⟩
/-- a good table -/
def GoodT (K : PySem.W.Frag) (H : Hp) (x : V) : Prop := ∃ t, Tv K H x t ∧ isTab t = true
theorem GoodT.same {H H' : Hp} {x : V} (h : GoodT K H x) (s : Same H H') : GoodT K H' x := let ⟨t, a, b⟩ := h; ⟨t, a.same s, b⟩
def spProd0 (K : PySem.W.Frag) : Sp := fun vs H Q _ => ∃ (a b : Addr) (us ws : List V) (n : Nat), vs = [.ref a, .ref b] ∧ GoodT K H (.ref a) ∧ GoodT K H (.ref b) ∧ SqT K H a us ∧ RowsT K H us ws.length ∧ SqT K H b ws ∧ RowsT K H ws n ∧
  1 ≤ us.length ∧ us.length ≤ 60 ∧ 1 ≤ ws.length ∧ ws.length ≤ 60 ∧ n ≤ 60 ∧ ∀ H' v, Same H H' → Q v H'
theorem scTableProduct : FnScope ["one", "other", "columns", "column", "row"] ["one", "other"] (defScope sTableProduct) :=
  ⟨rfl, rfl, rfl, by decide +kernel, rfl, by decide +kernel, by decide +kernel⟩
theorem dTableProduct (T : Tx K mg) (DNeedTable : Def P w K mg base CX0 5 "_need_table" ["table"] (spNeedTable K)) (DColumns : Def P w K mg base CX0 1 "_columns" ["rows"] (spCols K)) (DLineProduct : Def P w K mg base CX0 1 "_line_product" ["one", "other"] (spLine K)) : Def P w K mg base CX0 6 "table_product" ["one", "other"] (spProd0 K) := by
  refine T.t_table_product.def_ (N := ["one", "other", "columns", "column", "row"]) scTableProduct (fun _ _ _ _ _ _ us hl => match us, hl with | [_, _], _ => rfl) ?_ ?_
  · intro vs H Q E h
    obtain ⟨a, b, us, ws, n, rfl, _⟩ := h
    rfl
  · intro f cd A out s H vs Q E hr h
    have hr1 : Rm 5 _ := hr.le (by decide)
    obtain ⟨a, b, us, ws, n, rfl, ⟨t1, hv1, good1⟩, ⟨t2, hv2, good2⟩, Sa, hRa, Sb, hRb, l1, l2, l3, l4, l5, q⟩ := h
    refine ⟨_, (pss_cons (ps_expr (pe_d DNeedTable (hr1.le (by decide)) pass0 (pa_cons (pv 0) pa_nil)))
      (pss_cons (ps_expr (pe_d DNeedTable (hr1.le (by decide)) pass0 (pa_cons (pv 1) pa_nil)))
      (pss_cons (ps_if (pt_cmpR op_ne (pe_callB call_len_seq rfl T.f_len (by decide +kernel) (pa_cons (pe_ix ix_tup (pv 0) pe_int (fun _ _ => rfl)) pa_nil)) (pe_callB call_len_seq rfl T.f_len (by decide +kernel) (pa_cons (pv 1) pa_nil)) (nomark _)) (pss_one ps_never) pss_nil)
      (pss_cons (ps_set (i := 2) scTableProduct.nd rfl (Or.inr rfl) (pe_d DColumns (hr1.le (by decide)) pass0 (pa_cons (pv 1) pa_nil)))
      (pss_one (ps_ret (pe_callTy call_tuple_of rfl T.f_tuple (by decide +kernel) (pa_cons (pe_lc (own := [("row", 4)]) (g := gName 4) (tt := tYes) rfl scTableProduct.nd (pi_tup (pv 0)) (blkOk_by (N := ["one", "other", "columns", "column", "row"]) (sc := defScope sTableProduct) (by decide +kernel)) (fun _ _ _ _ _ => pg_name (i := 4) scTableProduct.nd rfl (Or.inr rfl)) (fun _ _ _ _ _ => pts_nil) (fun _ _ _ _ _ => (pe_callTy (show CallR _ _ (rTupOf K) from call_tuple_of) rfl T.f_tuple (by decide +kernel) (pa_cons (pe_lc (own := [("column", 3)]) (g := gName 3) (tt := tYes) rfl scTableProduct.nd (show PI _ _ _ (iList K _) from pi_list (pv 2)) (blkOk_by (N := ["one", "other", "columns", "column", "row"]) (sc := _) (by kernel_rfl)) (fun _ _ _ _ _ => pg_name (i := 3) scTableProduct.nd rfl (Or.inl rfl)) (fun _ _ _ _ _ => pts_nil) (fun _ _ _ _ _ => (pe_d DLineProduct (hr1.le (by decide)) pass0 (pa_cons (pv 4) (pa_cons (pv 3) pa_nil))))) pa_nil)))) pa_nil)))))))), ?_⟩
    obtain ⟨u0, hu0⟩ : ∃ u0, us[0]? = some u0 := ⟨us[0]'(by omega), List.getElem?_eq_getElem _⟩
    obtain ⟨b0, y0, rfl, S0, ly0, _⟩ := hRa u0 (List.mem_of_getElem? hu0)
    refine ⟨_, rfl, _, t1, rfl, hv1, good1, fun H1 s1 => ?_⟩
    refine ⟨_, rfl, _, t2, rfl, hv2.same s1, good2, fun H2 s2 => ?_⟩
    have s := s1.trans s2
    replace Sa := same_sqt s Sa
    replace Sb := same_sqt s Sb
    replace S0 := same_sqt s S0
    replace hRa := hRa.same s
    replace hRb := hRb.same s
    refine ⟨_, rfl, a, _, _, .ref b0, rfl, rfl, Sa, atI_nat (j := 0) hu0, b0, _, rfl, .inr S0, _, rfl, b, ws, rfl, .inr Sb, rfl, _, rfl, ?_⟩
    refine ifF ?_ ?_
    · show (!decide (V.int ((List.map V.int y0).length : Int) = V.int (ws.length : Int))) = false
      rw [dInt, List.length_map, ly0, decide_eq_true rfl]
      rfl
    refine ⟨_, rfl, b, ws, n, rfl, Sb, hRb, l3, l4, l5, fun H3 r s3 hC => ?_⟩
    obtain ⟨cs, hr_, lc, hc⟩ := hC
    replace Sa := same_sqt s3 Sa
    replace hRa := hRa.same s3
    refine ⟨_, rfl, a, rfl, ⟨_, Sa⟩, fun D nD => ?_⟩
    refine lc_tup (K := K) (a := a) (xs := us) (Pv := fun i H' => Same H3 H' ∧ ∃ ds : List V, H' D = some (.lst ds) ∧ ds.length = i) ⟨same_new nD, [], upd_same, rfl⟩ (fun i H' _ e => same_sqt e.1 Sa) ?_ ?_
    · rintro i x H4 hx ⟨s4, ds, hD, hl⟩
      obtain ⟨b1, y1, rfl, S1, ly1, sm1⟩ := hRa x (List.mem_of_getElem? hx)
      have li : i < us.length := (List.getElem?_eq_some_iff.mp hx).1
      refine ⟨wipe_one, yes_ ?_⟩
      refine ⟨_, rfl, r, rfl, ⟨_, .inl (.inl (s4 _ _ hr_))⟩, fun D2 nD2 => ?_⟩
      refine lc_list (K := K) (a := r) (xs := cs) (Pv := fun j H' => Same H4 H' ∧ ∃ es : List V, H' D2 = some (.lst es) ∧ es.length = j) ⟨same_new nD2, [], upd_same, rfl⟩ (fun j H' _ e => .inl (.inl (e.1 _ _ (s4 _ _ hr_)))) ?_ ?_
      · rintro j y H5 hy ⟨s5, es, hD2, hl2⟩
        obtain ⟨c, zs, rfl, hcz, _⟩ := hc y (List.mem_of_getElem? hy)
        have lj : j < cs.length := (List.getElem?_eq_some_iff.mp hy).1
        refine ⟨wipe_one, yes_ ?_⟩
        refine ⟨_, rfl, _, rfl, b1, c, y1, zs, rfl, same_sqt (s4.trans s5) S1, (.inl (.inl ((s4.trans s5) _ _ hcz))), by omega, sm1, fun H6 k s6 => ?_⟩
        refine ⟨es, s6 _ _ hD2, ?_, ?_, es ++ [.int k], upd_same, by rw [List.length_append, hl2]; rfl⟩
        · rw [sizeLine_eq]
          omega
        · intro c o e
          rw [upd_ne (ne_of_none e nD2)]
          exact s6 _ _ (s5 _ _ e)
      rintro H5 ⟨s5, es, hD2, hl2⟩
      refine ⟨D2, es, rfl, .inl ⟨.inl (.inl hD2), fun t ft => ?_⟩⟩
      have s6 := s5.trans (same_new ft (o := .tup es))
      refine ⟨ds, s6 _ _ hD, ?_, ?_, ds ++ [.ref t], upd_same, by rw [List.length_append, hl]; rfl⟩
      · rw [sizeLine_eq]
        omega
      · intro c o e
        rw [upd_ne (ne_of_none e nD)]
        exact s6 _ _ (s4 _ _ e)
    rintro H4 ⟨s4, ds, hD, hl⟩
    refine ⟨D, ds, rfl, .inl ⟨.inl (.inl hD), fun t ft => ?_⟩⟩
    exact q _ _ ((s.trans s3).trans (s4.trans (same_new ft)))
def spProdX (K : PySem.W.Frag) : Sp := fun vs H _ E => ∃ x t y u, vs = [x, y] ∧ Tv K H x t ∧ Tv K H y u ∧ ((isTab t = false ∧ rTb K H E) ∨ (isTab t = true ∧ isTab u = false ∧ rTb K H E) ∨
  (isTab t = true ∧ isTab u = true ∧ (∃ a us b ws b0 ys, x = .ref a ∧ y = .ref b ∧ SqT K H a us ∧ us[0]? = some (.ref b0) ∧ SqT K H b0 ys ∧ SqT K H b ws ∧ ys.length ≠ ws.length) ∧ rOp K H E))
theorem bTableProduct (T : Tx K mg) (Y : Ex K mg) (BNeedTable : Def P w K mg base (L2.CX P w) 5 "_need_table" ["table"] (orS (spNeedTable K) (spTabX K))) : Def P w K mg base (L2.CX P w) 6 "table_product" ["one", "other"] (spProdX K) := by
  refine T.t_table_product.defX (N := ["one", "other", "columns", "column", "row"]) scTableProduct (fun _ _ _ _ _ _ us hl => match us, hl with | [_, _], _ => rfl) ?_ ?_
  · intro vs H Q E h
    obtain ⟨x, t, y, u, rfl, _⟩ := h
    rfl
  · intro f cd A out s H vs Q E hr h
    have hr2 : Rm 5 _ := hr.le (by decide)
    have tk : Takes (cxOf (L2.CX P w) P w K mg base ["one", "other", "columns", "column", "row"] "table_product" (defScope sTableProduct) f cd A out s H E) (fun cls d _ H1 => E cls d H1) := takes_of rfl rfl rfl rfl
    obtain ⟨x, t, y, u, rfl, hv, hw, q⟩ := h
    refine ⟨_, (pss_cons (ps_expr (ME.pe_dS BNeedTable (hr2.le (by decide)) (passAt tk) (pa_cons (pv 0) pa_nil))) (pss_cons (ps_expr (ME.pe_dS BNeedTable (hr2.le (by decide)) (passAt tk) (pa_cons (pv 1) pa_nil))) (pss_cons (ps_if (pt_cmpR op_ne (pe_callB call_len_seq rfl T.f_len (by decide +kernel) (pa_cons (pe_ix ix_tup (pv 0) pe_int (fun _ _ => rfl)) pa_nil)) (pe_callB call_len_seq rfl T.f_len (by decide +kernel) (pa_cons (pv 1) pa_nil)) (nomark _)) (pss_one (ps_plain Y.op rfl tk)) pss_nil) (pss_cons ps_never (pss_one ps_never))))), ?_⟩
    rcases q with ⟨bad, q⟩ | ⟨good, bad, q⟩ | ⟨good, good2, ⟨a, us, b, ws, b0, ys, rfl, rfl, S, h0, S0, Sb, ne⟩, q⟩
    · exact ⟨_, rfl, .inr ⟨x, t, rfl, hv, bad, q⟩⟩
    · exact ⟨_, rfl, .inl ⟨x, t, rfl, hv, good, fun H1 s1 => ⟨_, rfl, .inr ⟨y, u, rfl, hw.same s1, bad, fun H2 s2 => q H2 (s1.trans s2)⟩⟩⟩⟩
    refine ⟨_, rfl, .inl ⟨_, t, rfl, hv, good, fun H1 s1 => ?_⟩⟩
    refine ⟨_, rfl, .inl ⟨_, u, rfl, hw.same s1, good2, fun H2 s2 => ?_⟩⟩
    have s := s1.trans s2
    refine ⟨_, rfl, a, _, _, .ref b0, rfl, rfl, same_sqt s S, atI_nat (j := 0) h0, b0, ys, rfl, .inr (same_sqt s S0), _, rfl, b, ws, rfl, .inr (same_sqt s Sb), rfl, _, rfl, ?_⟩
    refine ifT ?_ (q _ s)
    show (!decide (V.int (ys.length : Int) = V.int (ws.length : Int))) = true
    rw [dInt, decide_eq_false (by omega)]
    rfl
end
end K03


set_option Elab.async false
set_option linter.all false
set_option maxRecDepth 100000
set_option maxHeartbeats 2000000
namespace K03
open PySem PySem.Spec PyProof.Rows L2 MM LamX
/-! own words for the readings: a step, its side -/
local macro_rules | `(tactic| walk_at "side") => `(tactic| first
  | omega
  | exact ⟨by omega, by omega⟩
  | exact Or.inl ⟨by omega, by omega⟩
  | exact Or.inr ⟨by omega, by omega⟩
  | (show CPw _ _; decide +kernel)
  | (show (0 : Int) < _; decide +kernel)
  | (show CDivW _ _; first | assumption | exact ⟨by decide, by decide +kernel⟩))
local macro_rules | `(tactic| walk_at "here") => `(tactic| first
  | assumption
  | exact upd_same
  | exact Or.inl (Or.inl upd_same)
  | exact Or.inl upd_same)
local macro_rules | `(tactic| walk_at "one") => `(tactic| first
  | refine ⟨_, rfl, ?_⟩
  | refine Or.inl ⟨_, rfl, ?_⟩
  | refine Or.inr ⟨_, rfl, ?_⟩
  | refine ⟨_, _, rfl, rfl, (by walk_at "side"), ?_⟩
  | refine ⟨_, _, rfl, rfl, ?_⟩
  | refine ⟨_, _, rfl, Or.inl (by walk_at "here"), ?_⟩
  | refine ⟨_, _, rfl, Or.inr (by walk_at "here"), ?_⟩
  | refine ⟨_, _, rfl, (by walk_at "here"), ?_⟩
  | refine ⟨_, _, _, _, rfl, rfl, (by walk_at "here"), rfl, ?_⟩
  | refine ⟨_, _, rfl, ?_⟩
  | refine ifT (by rfl) ?_
  | refine ifF (by rfl) ?_
  | refine ifT (decide_eq_true (by omega)) ?_
  | refine ifF (decide_eq_false (by omega)) ?_)
local macro_rules | `(tactic| walk_at "st") => `(tactic| repeat (walk_at "one"))

section
variable {P : Program} {w : World} {K : PySem.W.Frag} {mg : Str → Option Value} {base : Heap}
/-! heaps in which tables of code objects grow -/
theorem sqtE {H H' : Hp} {a : Addr} {xs : List V} (h : SqT K H a xs) (e : ExtN H H') : SqT K H' a xs := by
  rcases h with (h | ⟨o, h⟩) | h
  · exact .inl (.inl (e _ _ h (fun ps z => by cases z)))
  · exact .inl (.inr ⟨o, e _ _ h (fun ps z => by cases z)⟩)
  · exact .inr h
theorem sqlE {H H' : Hp} {a : Addr} {xs : List V} (h : SqL K H a xs) (e : ExtN H H') : SqL K H' a xs := by
  rcases h with (h | ⟨o, h⟩) | h
  · exact .inl (.inl (e _ _ h (fun ps z => by cases z)))
  · exact .inl (.inr ⟨o, e _ _ h (fun ps z => by cases z)⟩)
  · exact .inr h
theorem kdE {H H' : Hp} {x : V} {n : Kn} (h : Kd K H x n) (e : ExtN H H') : Kd K H' x n := by
  cases h with
  | non => exact .non
  | bl b => exact .bl b
  | int i => exact .int i
  | str z => exact .str z
  | lst h => exact .lst (sqlE h e)
  | tup h => exact .tup (sqtE h e)
  | dct h => exact .dct (e _ _ h (fun ps z => by cases z))
theorem rvE {H H' : Hp} {x : V} {o : Option (List V)} (h : Rv K H x o) (e : ExtN H H') : Rv K H' x o := by
  cases h with
  | no hk ne => exact .no (kdE hk e) ne
  | yes S m => exact .yes (sqtE S e) fun y hy => let ⟨n, hk⟩ := m y hy; ⟨n, kdE hk e⟩
theorem pairedI {α β : Type} {R S : α → β → Prop} : ∀ {us : List α} {os : List β}, Paired R us os → (∀ a b, R a b → S a b) → Paired S us os
  | _, _, .nil, _ => .nil
  | _, _, .cons r t, f => .cons (f _ _ r) (pairedI t f)
theorem tvE {H H' : Hp} {x : V} {t : Option (List (Option (List V)))} (h : Tv K H x t) (e : ExtN H H') : Tv K H' x t := by
  cases h with
  | no hk ne => exact .no (kdE hk e) ne
  | yes S m => exact .yes (sqtE S e) (pairedI m fun _ _ r => rvE r e)
theorem ext_same {H H' : Hp} (s : Same H H') : ExtN H H' := fun b o h _ => s b o h
mutual
theorem dpE {H H' : Hp} (e : ExtN H H') : ∀ (d : PyData) (v : V), Dp K H v d → Dp K H' v d
  | .none, _, h => by cases h; exact .non
  | .bool b, _, h => by cases h; exact .bl b
  | .int i, _, h => by cases h; exact .int i
  | .str z, _, h => by cases h; exact .str z
  | .list ds, _, h => by
    cases h with
    | lst h1 h2 => exact .lst (sqlE h1 e) (dpsE e ds _ h2)
  | .tuple ds, _, h => by
    cases h with
    | tup h1 h2 => exact .tup (sqtE h1 e) (dpsE e ds _ h2)
  | .dict _, _, h => nomatch h
theorem dpsE {H H' : Hp} (e : ExtN H H') : ∀ (ds : List PyData) (vs : List V), DpAll K H vs ds → DpAll K H' vs ds
  | [], _, h => by cases h; exact .nil
  | d :: ds, _, h => by
    cases h with
    | cons h1 h2 => exact .cons (dpE e d _ h1) (dpsE e ds _ h2)
end
theorem dps_app {H : Hp} : ∀ {vs : List V} {ds : List PyData} {z : V} {d : PyData}, DpAll K H vs ds → Dp K H z d → DpAll K H (vs ++ [z]) (ds ++ [d])
  | _, _, _, _, .nil, h => .cons h .nil
  | _, _, _, _, .cons h1 h2, h => .cons h1 (dps_app h2 h)
theorem dps_len {H : Hp} : ∀ {vs : List V} {ds : List PyData}, DpAll K H vs ds → vs.length = ds.length
  | _, _, .nil => rfl
  | _, _, .cons _ h => congrArg (· + 1) (dps_len h)
/-! the word for the error of a call -/
/-- what a word is: fine, or a tuple of texts -/
def dI : Option (List Str) → PyData
  | none => .str "fine"
  | some ws => .tuple (ws.map PyData.str)
/-- without p -/
def wo (H : Hp) (p : Addr) : Hp := fun b => if b = p then none else H b
theorem wo_ne {H : Hp} {p b : Addr} (h : b ≠ p) : wo H p b = H b := if_neg h
theorem wo_some {H : Hp} {g b : Addr} {o : HO} (h : wo H g b = some o) : b ≠ g ∧ H b = some o := by
  by_cases e : b = g
  · have : wo H g b = none := if_pos e
    rw [this] at h
    cases h
  · rw [wo_ne e] at h
    exact ⟨e, h⟩
theorem dp_strs {H : Hp} : ∀ ws : List Str, DpAll K H (ws.map V.str) (ws.map PyData.str)
  | [] => .nil
  | z :: r => .cons (.str z) (dp_strs r)
/-- a value whose text can be told -/
def Shows (K : PySem.W.Frag) (H : Hp) (v : V) (t : Str) : Prop := ∃ d, Dq K H v d ∧ d.showable = true ∧ d.shown.length ≤ 900 ∧ d.shown = t
/-- a new tuple of texts -/
def rTx (ws : List Str) (H : Hp) (Q : VK) : Prop := ∀ t, H t = none → Q (.ref t) (upd H t (.tup (ws.map V.str)))
/-- what the clauses make of an error -/
def Caught (K : PySem.W.Frag) (Q : VK) : XK := fun cls d H' =>
  (cls = .ref (ga K "InvalidTable") ∧ rTx ["refused", "table"] H' Q) ∨ (cls = .ref (ga K "InvalidOperation") ∧ rTx ["refused", "operation"] H' Q) ∨
  (cls = .ref (ga K "InvalidNumber") ∧ ∃ dd v t, d = some dd ∧ H' dd = some (.xd [("given", v)]) ∧ Shows K H' v t ∧ rTx ["refused", "number", t] H' Q)
def TTW (K : PySem.W.Frag) : (XK → Hp → VK → Prop) → Hp → VK → Prop := fun tl H Q => tl (Caught K Q) H (fun _ H' => Q (.str "fine") H')
theorem scWord : FnScope ["_law_call", "error"] ["_law_call"] (defScope sWordL) :=
  ⟨rfl, rfl, rfl, by decide +kernel, rfl, by decide +kernel, by decide +kernel⟩
theorem word_gives {X : Cx} {k : Nat} {q : Str} {g : Addr} {cd : Value} (T : Tx X.K X.mg) (Y : Ex X.K X.mg) (hr : Rm (k + 1) X.A) :
    GivesTo X ["_law_call", "error"] "_law_word" (defScope sWordL) g cd (defBody sWordL) "_law_call" q (TTW X.K) := by
  intro f c' s H Q tl act hc h
  have hrd : Rm k (X.A.deeper (envOfC "_law_word" (defScope sWordL) s.heap.objs.size g cd)) := hr.down
  refine ⟨_, pss_cons (ME.ps_try_cl (X := (cxOf C8.CX0 X.prog X.w X.K X.mg X.base ["_law_call", "error"] "_law_word" (defScope sWordL) g cd X.A X.stack s H C8.E0).nox)
    (Wout := fun _ _ _ _ => False)
    (tb := fun W D σ H => ∃ Ech : XK, (∀ cls d σ' H', Ech cls d H' → W cls d σ' H') ∧ σ[0]? = some (some (.ref f)) ∧ H c' = some (CodeO c' q) ∧ tl Ech H (fun _ H1 => D.nx σ H1))
    rfl rfl takes0
    (.as_ (i := 1) (c := .ref (ga X.K "InvalidNumber")) ⟨rfl, by decide, .inl Y.num.glo⟩ scWord.nd rfl rfl
      (fun a oe cls d pn hz hf => pss_one (ps_ret (pe_tup (pa_cons pe_str (pa_cons pe_str (pa_cons (pe_callB (show CallR _ _ (rReprO X.K) from cr_reprO (hrd).still (hrd).hu66) rfl T.f_repr (by decide +kernel) (pa_cons (pe_xf Y.num.field Y.num.none_ hz hf (pv 1)) pa_nil)) pa_nil))))))
      (.no (c := .ref (ga X.K "InvalidTable")) ⟨rfl, by decide, .inl Y.tb.glo⟩ (fun _ _ _ _ _ _ _ => pss_one (ps_ret (pe_tup (pa_cons pe_str (pa_cons pe_str pa_nil)))))
        (.no (c := .ref (ga X.K "InvalidOperation")) ⟨rfl, by decide, .inl Y.op.glo⟩ (fun _ _ _ _ _ _ _ => pss_one (ps_ret (pe_tup (pa_cons pe_str (pa_cons pe_str pa_nil)))))
          .nil)))
    (fun W pn xe tk _ => ?_)) (pss_one (ps_ret pe_str)), ?_⟩
  · refine ⟨fun pins s' σ H' D I h' => ?_⟩
    obtain ⟨Ech, hW, h1, h2, h3⟩ := h'
    exact (pss_one (ps_expr (act W pn xe Ech _ _ tk hW))).run pins s' σ H' D I ⟨h1, h2, h3⟩
  · refine ⟨Caught X.K Q, ?_, rfl, hc, h⟩
    rintro cls d σ' H' (⟨rfl, z⟩ | ⟨rfl, z⟩ | ⟨rfl, dd, v, t, rfl, ed, ⟨dt, h1, h2, h3, rfl⟩, z⟩)
    · exact ⟨false, Y.e21, (fun n => nomatch n), fun _ => ⟨true, Y.e22, fun _ _ _ => ⟨by show 2 ≤ sizeLine; decide, z⟩, fun n => nomatch n⟩⟩
    · exact ⟨false, Y.e31, (fun n => nomatch n), fun _ => ⟨false, Y.e32, (fun n => nomatch n), fun _ => ⟨true, Y.e33, fun _ _ _ => ⟨by show 2 ≤ sizeLine; decide, z⟩, fun n => nomatch n⟩⟩⟩
    · refine ⟨true, Y.e11, fun _ a na len => ?_, fun n => nomatch n⟩
      have e1 : (σ'.set 1 (some (V.ref a)))[1]? = some (some (V.ref a)) := by
        have l2 : σ'.length = 2 := len
        rw [List.getElem?_set_self (by omega)]
      exact ⟨_, e1, rfl, rfl, dd, _, v, rfl, ed, rfl, _, dt, rfl, h1, h2, Nat.le_trans h3 (by decide), by show 3 ≤ sizeLine; decide, z⟩
section
variable {CX : CXT} {k : Nat} {x : Str} {ps : List Str} {sp : Sp} {st : Stmt}
/-- a def whose body makes lambdas: its code object is known -/
theorem defC {N : List Str} (T : At K mg x st) (S : FnScope N ps (defScope st))
    (hb : ∀ (kV doc pm : Value) (an : Option Addr) (cd ct : Value) (us : List Value), us.length = ps.length →
      bindArgs (PySem.W.fnOf x x (defArgs st) (defBody st) (defScope st) .none kV doc pm an cd ct) ⟨us, []⟩ = pure (ps.zip us))
    (arity : ∀ vs H Q E, sp vs H Q E → vs.length = ps.length)
    (body : ∀ (f : Addr) (cd : Value) (A : Around) (out : List Env) (s : Shared) (H : Hp) (vs : List V) (Q : VK) (E : XK),
      cd = .ref (He.codeOf K (x, none)) → Rm k (A.deeper (envOfC x (defScope st) s.heap.objs.size f cd)) → sp vs H Q E →
      ∃ t, PSs (cxOf CX P w K mg base N x (defScope st) f cd A out s H E).nox (defBody st) t ∧
        t { nx := fun _ H' => Q .non H', rt := Q } (start N vs) H) : Def P w K mg base CX (k + 1) x ps sp := by
  obtain ⟨fd, F⟩ := T.fn
  have F' := F
  have bnd := F.bindsN hb
  obtain ⟨oc, od, dV, kV, doc, pm, an, cd, ct, osl, rfl, lk, hcd, _, _⟩ := F.ex
  have ec : cd = .ref (He.codeOf K (x, none)) := by
    obtain ⟨c, rfl⟩ := He.codeIn_ref hcd
    rw [He.codeOf_eq (p := (x, none)) lk rfl]
  refine ⟨_, _, ⟨fun h => arity _ _ _ _ h, ?_⟩, T.glo, F'.kp, bnd, oc, od, osl, lk⟩
  intro A out s H ar us vs Q E hr e0 hbd hv h
  have nv := arity _ _ _ _ h
  have inK : K.In s.heap := e0.mod.kin.keeps (fun b o e => (e0.bs b o e).1)
  have nl : s.heap.NoLimit := e0.mod.nolimit.keeps (fun b o e => (e0.bs b o e).1)
  have kd : ∀ y ∈ ps.zip us, (defScope st).names.lookup y.1 = some .local ∨
      ((defScope st).names.lookup y.1 = some .cell ∧ ((cellsFrom (s.heap.objs.size + 1) (defScope st).names []).lookup y.1).isSome = true) := by
    rintro ⟨n, v⟩ hy
    cases S.par n (List.of_mem_zip hy).1 with
    | inl q => exact .inl q
    | inr q => exact .inr ⟨q, PySem.W.cellsFrom_some _ _ _ (.inl q)⟩
  refine codeAny_call_function hr.room.depth (inK _ _ lk) rfl S.co S.gen rfl (PySem.W.codeRec_of inK hcd) (hbd _ _ _ _ ?_)
  refine wpAny_newFunctionEnv_cells S.kind kd (fun env he s1 xc => ?_)
  subst he
  refine ⟨nl.keeps xc.toInCall.keep, codeAny_func ?_⟩
  obtain ⟨t, ht, hq⟩ := body _ cd A out s H vs Q E ec hr.down h
  have I := inv_start (CX := CX) (P := P) (w := w) (qual := x) (cd := cd) (f := He.ga K x) (E := E) S hr.room.hd e0 nv hv xc
  refine wpAny_mono (ht.nox.run [] s1 (start N vs) H _ I hq) (fun fl s' hs => ?_) (fun e s' hs => hs)
  cases fl with
  | ret u =>
    obtain ⟨v, σ', H', J, rv, q⟩ := hs
    exact ⟨v, H', J.os, J.bare, J.base, J.hok, rv, q⟩
  | next =>
    obtain ⟨σ', H', J, q⟩ := hs
    exact ⟨.non, H', J.os, J.bare, J.base, J.hok, rfl, q⟩
  | brk =>
    obtain ⟨_, _, _, q⟩ := hs
    exact q.elim
  | cont =>
    obtain ⟨_, _, _, q⟩ := hs
    exact q.elim
end
abbrev sNr : Str := "_law_numbers_right"
abbrev sTr : Str := "_law_tables_right"
abbrev sLw : Str := "law"
/-- where lambdas are made: code object and table -/
abbrev cd1 (K : PySem.W.Frag) : Addr × Addr := He.cT K (sNr, none)
abbrev cd2 (K : PySem.W.Frag) : Addr × Addr := He.cT K (sTr, none)
abbrev cd3 (K : PySem.W.Frag) : Addr × Addr := He.cT K (sLw, none)
abbrev q1 : Str := (envOfC sNr (defScope sNumbersRightL) 0 0 .none).qual ++ "<lambda>"
abbrev q2 : Str := (envOfC sTr (defScope sTablesRightL) 0 0 .none).qual ++ "<lambda>"
abbrev q3 : Str := (envOfC sLw (defScope sLaw) 0 0 .none).qual ++ "<lambda>"
abbrev TL (K : PySem.W.Frag) : List (Addr × Str) := [((cd1 K).2, q1), ((cd2 K).2, q2), ((cd3 K).2, q3)]
structure Tb (K : PySem.W.Frag) (mg : Str → Option Value) (base : Heap) : Prop where
  t1 : TabB base mg (cd1 K).1 (cd1 K).2
  t2 : TabB base mg (cd2 K).1 (cd2 K).2
  t3 : TabB base mg (cd3 K).1 (cd3 K).2
  n12 : (cd1 K).2 ≠ (cd2 K).2
  n13 : (cd1 K).2 ≠ (cd3 K).2
  n23 : (cd2 K).2 ≠ (cd3 K).2
theorem tl_mem {p : Addr × Str} (h : p ∈ TL K) : p = ((cd1 K).2, q1) ∨ p = ((cd2 K).2, q2) ∨ p = ((cd3 K).2, q3) := by
  simpa only [List.mem_cons, List.not_mem_nil, or_false] using h
theorem Tb.u1 (h : Tb K mg base) : ∀ p ∈ TL K, p.1 = (cd1 K).2 → p.2 = q1 := by
  intro p hp e
  rcases tl_mem hp with rfl | rfl | rfl
  · rfl
  · exact absurd e.symm h.n12
  · exact absurd e.symm h.n13
theorem Tb.u2 (h : Tb K mg base) : ∀ p ∈ TL K, p.1 = (cd2 K).2 → p.2 = q2 := by
  intro p hp e
  rcases tl_mem hp with rfl | rfl | rfl
  · exact absurd e h.n12
  · rfl
  · exact absurd e.symm h.n23
theorem Tb.u3 (h : Tb K mg base) : ∀ p ∈ TL K, p.1 = (cd3 K).2 → p.2 = q3 := by
  intro p hp e
  rcases tl_mem hp with rfl | rfl | rfl
  · exact absurd e h.n13
  · exact absurd e h.n23
  · rfl
theorem m1 : ((cd1 K).2, q1) ∈ TL K := List.mem_cons_self
theorem m2 : ((cd2 K).2, q2) ∈ TL K := List.mem_cons_of_mem _ List.mem_cons_self
theorem m3 : ((cd3 K).2, q3) ∈ TL K := List.mem_cons_of_mem _ (List.mem_cons_of_mem _ List.mem_cons_self)
/-! lists of words -/
/-- the list at p holds these words, and what they are made of stands elsewhere -/
def Wd (K : PySem.W.Frag) (H : Hp) (p : Addr) (os : List (Option (List Str))) : Prop := ∃ vs, H p = some (.lst vs) ∧ DpAll K (wo H p) vs (os.map dI)
/-- a heap behind H0, in which tables and the list at p have grown -/
structure On (K : PySem.W.Frag) (H0 : Hp) (p : Addr) (os : List (Option (List Str))) (H : Hp) : Prop where
  ext : ExtN H0 H
  new : H0 p = none
  wd : Wd K H p os
  tab : Tabs (TL K) H
theorem wo_ext1 {H H' : Hp} {g : Addr} (s : ExtN H H') : ExtN (wo H g) (wo H' g) := by
  intro b o h nt
  obtain ⟨n, e⟩ := wo_some h
  rw [wo_ne n]
  exact s _ _ e nt
theorem On.same {H0 H H1 : Hp} {p : Addr} {os : List (Option (List Str))} (h : On K H0 p os H) (s : Same H H1) : On K H0 p os H1 := by
  obtain ⟨vs, e, d⟩ := h.wd
  exact ⟨fun b o e n => s _ _ (h.ext b o e n), h.new, ⟨vs, s _ _ e, dpsE (wo_ext1 (ext_same s)) _ _ d⟩, h.tab.ext s⟩
/-- what a word's value promises, wherever the list stands -/
def Ret (K : PySem.W.Frag) (H1 : Hp) (Q : VK) (o : Option (List Str)) : Prop := ∀ (H2 : Hp) (z : V), Same H1 H2 → (∀ p, H1 p ≠ none → Dp K (wo H2 p) z (dI o)) → Dp K H2 z (dI o) → Q z H2
theorem On.step {H0 H H1 H2 : Hp} {p : Addr} {os : List (Option (List Str))} {z : V} {o : Option (List Str)} (h : On K H0 p os H) (e : ExtN H H1) (t : Tabs (TL K) H1) (s : Same H1 H2) (hz : ∀ p, H1 p ≠ none → Dp K (wo H2 p) z (dI o)) :
    ∃ vs, H2 p = some (.lst vs) ∧ vs.length = os.length ∧ On K H0 p (os ++ [o]) (upd H2 p (.lst (vs ++ [z]))) := by
  obtain ⟨vs, e0, d0⟩ := h.wd
  have e1 : H1 p = some (.lst vs) := e _ _ e0 (by nofun)
  have w2 : H2 p = some (.lst vs) := s _ _ e1
  have same : ∀ u, wo (upd H2 p u) p = wo H2 p := by
    intro u
    funext b
    by_cases c : b = p
    · rw [c]
      show (if p = p then none else _) = (if p = p then none else _)
      rw [if_pos rfl, if_pos rfl]
    · rw [wo_ne c, wo_ne c, upd_ne c]
  refine ⟨vs, w2, (dps_len d0).trans (List.length_map _), fun b o hb nt => ?_, h.new, ⟨_, upd_same, ?_⟩, ?_⟩
  · have nb : b ≠ p := by
      rintro rfl
      rw [h.new] at hb
      cases hb
    rw [upd_ne nb]
    exact s _ _ (e _ _ (h.ext _ _ hb nt) nt)
  · rw [same, List.map_append]
    exact dps_app (dpsE ((wo_ext1 e).trans (wo_ext1 (ext_same s))) _ _ d0) (hz p (by rw [e1]; nofun))
  · have t2 := t.ext s
    intro q hq
    obtain ⟨ps, h1, h2, h3⟩ := t2 q hq
    have nq : q.1 ≠ p := by
      intro z
      rw [z, w2] at h1
      cases h1
    refine ⟨ps, by rw [upd_ne nq]; exact h1, h2, fun pos cv hc => ?_⟩
    obtain ⟨c, e1, e2⟩ := h3 pos cv hc
    have nc : c ≠ p := by
      rintro rfl
      rw [w2] at e2
      unfold CodeO at e2
      cases e2
    exact ⟨c, e1, by rw [upd_ne nc]; exact e2⟩
/-- the first word of a list -/
theorem On.first {H2 : Hp} {p : Addr} {z : V} {o : Option (List Str)} (t : Tabs (TL K) H2) (zs : Dp K H2 z (dI o)) (fp : H2 p = none) : On K H2 p [o] (upd H2 p (.lst [z])) := by
  have same : wo (upd H2 p (.lst [z])) p = H2 := by
    funext b
    by_cases c : b = p
    · rw [c, fp]
      exact if_pos rfl
    · rw [wo_ne c, upd_ne c]
  refine ⟨ext_same (same_new fp), fp, ⟨_, upd_same, ?_⟩, t.ext (same_new fp)⟩
  rw [same]
  exact .cons zs .nil
/-! what a call tells -/
theorem ret_tx {H1 H' : Hp} {Q : VK} {ws : List Str} (q : Ret K H1 Q (some ws)) (s : Same H1 H') : rTx ws H' Q := by
  intro t ft
  refine q _ _ (s.trans (same_new ft)) (fun p hp => .tup (.inl (.inl ?_)) (dp_strs ws)) (.tup (.inl (.inl upd_same)) (dp_strs ws))
  have n : t ≠ p := by
    rintro rfl
    cases e : H1 t with
    | none => exact hp e
    | some o =>
      rw [s _ _ e] at ft
      cases ft
  rw [wo_ne n]
  exact upd_same
theorem ret_fine {H1 H' : Hp} {Q : VK} (q : Ret K H1 Q none) (s : Same H1 H') : Q (.str "fine") H' := q _ _ s (fun _ _ => .str _) (.str _)
theorem ret_tb {H1 : Hp} {Q : VK} (q : Ret K H1 Q (some ["refused", "table"])) : rTb K H1 (Caught K Q) := fun _ s => .inl ⟨rfl, ret_tx q s⟩
theorem ret_op {H1 : Hp} {Q : VK} (q : Ret K H1 Q (some ["refused", "operation"])) : rOp K H1 (Caught K Q) := fun _ s => .inr (.inl ⟨rfl, ret_tx q s⟩)
theorem ret_num {H1 : Hp} {Q : VK} {v : V} {t : Str} (h : ∀ H', Same H1 H' → Shows K H' v t) (q : Ret K H1 Q (some ["refused", "number", t])) : rNum K H1 v (Caught K Q) :=
  fun H' d s fd ed => .inr (.inr ⟨rfl, d, v, t, rfl, ed, h H' s, ret_tx q s⟩)
/-- told.append(word(lambda: ..)) -/
theorem stepW {H0 H : Hp} {p : Addr} {os : List (Option (List Str))} {o : Option (List Str)} {σ : L2.St} {i : Nat} {t : XK → TE} {D : Ends} (h : On K H0 p os H)
    (hi : σ[i]? = some (some (.ref p))) (sz : os.length < 100)
    (call : ∀ (H1 : Hp), ExtN H H1 → ∀ Q : VK, Ret K H1 Q o → TTW K (fun E H' Q' => t E σ H' Q') H1 Q)
    (next : ∀ H', On K H0 p (os ++ [o]) H' → D.nx σ H') :
    tDrop (tBM K "list" rAppend (tVar i) (tCons (tLam (TL K) (TTW K) t) tNil)) D σ H := by
  obtain ⟨vs, e0, _⟩ := h.wd
  refine ⟨_, hi, .inl ⟨rfl, _, .inl (.inl e0)⟩, ?_⟩
  refine ⟨h.tab, fun H1 e1 t1 => call H1 e1 _ fun H2 z s2 hz _ => ?_⟩
  obtain ⟨vs, w2, lv, o2⟩ := h.step e1 t1 s2 hz
  refine ⟨p, _, _, rfl, rfl, w2, ?_, next _ o2⟩
  rw [lv]
  exact Nat.lt_of_lt_of_le sz (by decide)
/-! lists of words against one another -/
def dW (os : List (Option (List Str))) : PyData := .list (os.map dI)
theorem On.dp {H0 H : Hp} {p : Addr} {os : List (Option (List Str))} (h : On K H0 p os H) : Dp K H (.ref p) (dW os) := by
  obtain ⟨vs, e, d⟩ := h.wd
  exact .lst (.inl (.inl e)) (dpsE (fun b o h _ => (wo_some h).2) _ _ d)
def okI : Option (List Str) → Prop
  | none => True
  | some ws => ∀ z ∈ ws, PyData.strOk z = true
theorem lay_strs : ∀ ws : List Str, (∀ z ∈ ws, PyData.strOk z = true) → PyData.canLayAll0 (ws.map PyData.str) = true
  | [], _ => rfl
  | n :: r, h => by
    show (PyData.canLay0 (.str n) && PyData.canLayAll0 (r.map PyData.str)) = true
    rw [lay_strs r (fun z hz => h z (List.mem_cons_of_mem _ hz)), Bool.and_true]
    unfold PyData.canLay0
    exact h n List.mem_cons_self
theorem dep_strs : ∀ ws : List Str, PyData.depthAll (ws.map PyData.str) ≤ 1
  | [] => by decide
  | n :: r => by
    have := dep_strs r
    simp only [List.map_cons, PyData.depthAll, PyData.depth]
    omega
theorem lay_its : ∀ os : List (Option (List Str)), (∀ o ∈ os, okI o) → PyData.canLayAll0 (os.map dI) = true
  | [], _ => rfl
  | o :: r, h => by
    show (PyData.canLay0 (dI o) && PyData.canLayAll0 (r.map dI)) = true
    rw [lay_its r (fun z hz => h z (List.mem_cons_of_mem _ hz)), Bool.and_true]
    have ho := h o List.mem_cons_self
    cases o with
    | none => decide +kernel
    | some ws => exact lay_strs ws ho
theorem dep_its : ∀ os : List (Option (List Str)), PyData.depthAll (os.map dI) ≤ 2
  | [] => by decide
  | o :: r => by
    have := dep_its r
    have h0 : PyData.depth (dI o) ≤ 2 := by
      cases o with
      | none => decide +kernel
      | some ws =>
        have := dep_strs ws
        show PyData.depth (.tuple _) ≤ 2
        simp only [PyData.depth]
        omega
    simp only [List.map_cons, PyData.depthAll]
    omega
theorem shapedW (os : List (Option (List Str))) (ok : ∀ o ∈ os, okI o) : SeqAt.shaped (dW os) = true := by
  unfold SeqAt.shaped dW
  have h := dep_its os
  rw [show PyData.canLay0 (.list (os.map dI)) = true from lay_its os ok, Bool.true_and]
  refine decide_eq_true ?_
  simp only [PyData.depth]
  omega
theorem eqvS : ∀ ws : List Str, PyData.eqvAll (ws.map PyData.str) (ws.map PyData.str) = true
  | [] => rfl
  | n :: r => by
    show (PyData.eqv (.str n) (.str n) && PyData.eqvAll (r.map PyData.str) (r.map PyData.str)) = true
    rw [eqvS r, Bool.and_true]
    show (n == n) = true
    exact beq_self_eq_true n
theorem eqvW : ∀ os : List (Option (List Str)), PyData.eqvAll (os.map dI) (os.map dI) = true
  | [] => rfl
  | o :: r => by
    show (PyData.eqv (dI o) (dI o) && PyData.eqvAll (r.map dI) (r.map dI)) = true
    rw [eqvW r, Bool.and_true]
    cases o with
    | none => decide +kernel
    | some ws => exact eqvS ws
theorem dp_list {H : Hp} {p : Addr} {vs : List V} {os : List (Option (List Str))} (e : H p = some (.lst vs)) (d : DpAll K H vs (os.map dI)) : Dp K H (.ref p) (dW os) := .lst (.inl (.inl e)) d
/-! values drawn -/
theorem new_obj {J : Hp} {u g : Addr} {o x : HO} (eg : J g = some x) (f : J u = none) : u ≠ g ∧ Same J (upd J u o) ∧ (upd J u o) u = some o ∧ (upd J u o) g = some x := by
  have n : u ≠ g := by
    rintro rfl
    rw [eg] at f
    cases f
  exact ⟨n, same_new f, upd_same, (upd_ne (Ne.symm n)).trans eg⟩
theorem wo_upd {J : Hp} {g : Addr} {o : HO} : wo (upd J g o) g = wo J g := by
  funext b
  by_cases c : b = g
  · rw [c]
    show (if g = g then none else _) = (if g = g then none else _)
    rw [if_pos rfl, if_pos rfl]
  · rw [wo_ne c, wo_ne c, upd_ne c]
theorem low_ext {H H' : Hp} {g : Addr} (e : ExtN H H') : ExtN (wo H g) H' := fun b o h nt => e _ _ (wo_some h).2 nt
theorem dqE {H H' : Hp} {v : V} {d : PyData} (h : Dq K H v d) (e : ExtN H H') : Dq K H' v d := by
  rcases h with ⟨h, s⟩ | ⟨a, rfl, h, rfl⟩
  · exact .inl ⟨dpE e _ _ h, s⟩
  · exact .inr ⟨a, rfl, e _ _ h (by nofun), rfl⟩
/-- a value that p does not hold of, and its text -/
def NV (K : PySem.W.Frag) (H : Hp) (v : V) (p : V → Bool) (t : Str) : Prop :=
  ∃ kn d, Kd K H v kn ∧ p v = false ∧ Dq K H v d ∧ d.showable = true ∧ d.shown.length ≤ 900 ∧ PyData.strOk d.shown = true ∧ d.shown = t
theorem nvE {H H' : Hp} {v : V} {p : V → Bool} {t : Str} (h : NV K H v p t) (e : ExtN H H') : NV K H' v p t :=
  let ⟨kn, d, a, b, c, r⟩ := h
  ⟨kn, d, kdE a e, b, dqE c e, r⟩
theorem NV.shows {H : Hp} {v : V} {p : V → Bool} {t : Str} (h : NV K H v p t) : ∀ H', Same H H' → Shows K H' v t := fun H' s =>
  let ⟨_, d, _, _, c, r1, r2, _, r3⟩ := h
  ⟨d, dqE c (ext_same s), r1, r2, r3⟩
theorem NV.kd {H : Hp} {v : V} {p : V → Bool} {t : Str} (h : NV K H v p t) : ∃ n, Kd K H v n := let ⟨kn, _, a, _⟩ := h; ⟨kn, a⟩
theorem NV.no {H : Hp} {v : V} {p : V → Bool} {t : Str} (h : NV K H v p t) : p v = false := let ⟨_, _, _, a, _⟩ := h; a
theorem NV.ok {H : Hp} {v : V} {p : V → Bool} {t : Str} (h : NV K H v p t) : PyData.strOk t = true := let ⟨_, _, _, _, _, _, _, a, b⟩ := h; b ▸ a
theorem isD_no {v : V} (h : isI v = false) : isD v = false := by
  cases v with
  | int i =>
    show (isI (.int i) && _) = false
    rw [h, Bool.false_and]
  | _ => rfl
/-- no tuple of integers -/
def BV (K : PySem.W.Frag) (H : Hp) (v : V) : Prop := ∃ o, Rv K H v o ∧ okN o = false
theorem bvE {H H' : Hp} {v : V} (h : BV K H v) (e : ExtN H H') : BV K H' v := let ⟨o, a, b⟩ := h; ⟨o, rvE a e, b⟩
/-- a tuple of integers, not all above 0 -/
def UV (K : PySem.W.Frag) (H : Hp) (v : V) : Prop := ∃ a ns, v = .ref a ∧ Ints K H a ns ∧ (ns.map fun n => decide (0 < n)).all id = false
theorem uvE {H H' : Hp} {v : V} (h : UV K H v) (e : ExtN H H') : UV K H' v := let ⟨a, ns, r, ⟨i, j, k⟩, b⟩ := h; ⟨a, ns, r, ⟨sqtE i e, j, k⟩, b⟩
structure Upto (p : Addr) (H H' : Hp) : Prop where
  same : ∀ b o, b ≠ p → H b = some o → H' b = some o
  bag : BagAt H' p
theorem Upto.refl {p : Addr} {H : Hp} (h : BagAt H p) : Upto p H H := ⟨fun _ _ _ e => e, h⟩
theorem Upto.draw {p : Addr} {H H' : Hp} {a b c : Int} (h : Upto p H H') : Upto p H (upd H' p (.lst [.int a, .int b, .int c])) :=
  ⟨fun x o n e => by rw [upd_ne n]; exact h.same x o n e, ⟨a, b, c, upd_same⟩⟩
theorem Upto.new {p t : Addr} {H H' : Hp} {o : HO} (h : Upto p H H') (f : H' t = none) : Upto p H (upd H' t o) := by
  obtain ⟨a, b, c, e⟩ := h.bag
  exact ⟨fun x y n e => by rw [upd_ne (ne_of_none (h.same x y n e) f)]; exact h.same x y n e, ⟨a, b, c, by rw [upd_ne (ne_of_none e f)]; exact e⟩⟩
theorem Upto.trans {p : Addr} {H H' H2 : Hp} (h : Upto p H H') (k : Upto p H' H2) : Upto p H H2 := ⟨fun x o n e => k.same x o n (h.same x o n e), k.bag⟩
theorem Upto.keep {p : Addr} {H H' H2 : Hp} (h : Upto p H H') (k : Same H' H2) : Upto p H H2 := by
  obtain ⟨a, b, c, e⟩ := h.bag
  exact ⟨fun x o n e => k x o (h.same x o n e), ⟨a, b, c, k _ _ e⟩⟩
theorem tab_upto {g : Addr} {H1 H2 : Hp} (t : Tabs (TL K) H1) (b : BagAt H1 g) (u : Upto g H1 H2) : Tabs (TL K) H2 := by
  obtain ⟨x, y, z, eb⟩ := b
  intro q hq
  obtain ⟨ps, h1, h2, h3⟩ := t q hq
  have nq : q.1 ≠ g := by
    intro z
    rw [z, eb] at h1
    cases h1
  refine ⟨ps, u.same _ _ nq h1, h2, fun pos cv hc => ?_⟩
  obtain ⟨c, e1, e2⟩ := h3 pos cv hc
  have nc : c ≠ g := by
    rintro rfl
    rw [eb] at e2
    unfold CodeO at e2
    cases e2
  exact ⟨c, e1, u.same _ _ nc e2⟩
theorem bag_ext {g : Addr} {H H1 : Hp} (b : BagAt H g) (e : ExtN H H1) : BagAt H1 g :=
  let ⟨x, y, z, h⟩ := b
  ⟨x, y, z, e _ _ h (fun ps z => by cases z)⟩
theorem up_ext {H H' : Hp} {g : Addr} (u : Upto g H H') : ExtN (wo H g) (wo H' g) := by
  intro b o h _
  obtain ⟨n, e⟩ := wo_some h
  rw [wo_ne n]
  exact u.same _ _ n e
/-- a draw behind what is laid for it -/
theorem draw_up {H J : Hp} {g : Addr} {a b c : Int} (s : Same H J) (bag : BagAt H g) : Upto g H (upd J g (.lst [.int a, .int b, .int c])) := ⟨fun x o n e => by rw [upd_ne n]; exact s _ _ e, ⟨a, b, c, upd_same⟩⟩
end
end K03


set_option Elab.async false
set_option linter.all false
set_option maxRecDepth 100000
set_option maxHeartbeats 4000000
namespace K03
open PySem PySem.Spec PyProof.Rows L2 MM LamX
/-! own words for the readings: a step, its side -/
local macro_rules | `(tactic| walk_at "side") => `(tactic| first
  | omega
  | exact ⟨by omega, by omega⟩
  | exact Or.inl ⟨by omega, by omega⟩
  | exact Or.inr ⟨by omega, by omega⟩
  | (show CPw _ _; decide +kernel)
  | (show (0 : Int) < _; decide +kernel)
  | (show CDivW _ _; first | assumption | exact ⟨by decide, by decide +kernel⟩))
local macro_rules | `(tactic| walk_at "here") => `(tactic| first
  | assumption
  | exact upd_same
  | exact Or.inl (Or.inl upd_same)
  | exact Or.inl upd_same)
local macro_rules | `(tactic| walk_at "one") => `(tactic| first
  | refine ⟨_, rfl, ?_⟩
  | refine Or.inl ⟨_, rfl, ?_⟩
  | refine Or.inr ⟨_, rfl, ?_⟩
  | refine ⟨_, _, rfl, rfl, (by walk_at "side"), ?_⟩
  | refine ⟨_, _, rfl, rfl, ?_⟩
  | refine ⟨_, _, rfl, Or.inl (by walk_at "here"), ?_⟩
  | refine ⟨_, _, rfl, Or.inr (by walk_at "here"), ?_⟩
  | refine ⟨_, _, rfl, (by walk_at "here"), ?_⟩
  | refine ⟨_, _, _, _, rfl, rfl, (by walk_at "here"), rfl, ?_⟩
  | refine ⟨_, _, rfl, ?_⟩
  | refine ifT (by rfl) ?_
  | refine ifF (by rfl) ?_
  | refine ifT (decide_eq_true (by omega)) ?_
  | refine ifF (decide_eq_false (by omega)) ?_)
local macro_rules | `(tactic| walk_at "st") => `(tactic| repeat (walk_at "one"))

section
variable {P : Program} {w : World} {K : PySem.W.Frag} {mg : Str → Option Value} {base : Heap}
theorem rep_mem {x y : V} {k : Nat} (h : y ∈ (List.replicate k [x]).flatten) : y = x := by
  obtain ⟨l, hl, hy⟩ := List.mem_flatten.mp h
  rw [List.eq_of_mem_replicate hl, List.mem_singleton] at hy
  exact hy
theorem oddV {H : Hp} {au1 au2 au3 : Addr} {v : V} (h : v ∈ [.non, .bl true, .str "1", .ref au1, .int (10 ^ 60), .int (-(10 ^ 60)), .ref au2, .ref au3]) (e_au1 : H au1 = some (.tup [.int 1])) (e_au2 : H au2 = some (.lst [])) (e_au3 : H au3 = some (.dK [])) : ∃ t, NV K H v isI t := by
  simp only [List.mem_cons, List.not_mem_nil, or_false] at h
  rcases h with rfl | rfl | rfl | rfl | rfl | rfl | rfl | rfl
  · exact ⟨_, _, _, .non, rfl, .inl ⟨.non, by decide +kernel⟩, by decide +kernel, by decide +kernel, by decide +kernel, rfl⟩
  · exact ⟨_, _, _, .bl _, rfl, .inl ⟨.bl _, by decide +kernel⟩, by decide +kernel, by decide +kernel, by decide +kernel, rfl⟩
  · exact ⟨_, _, _, .str _, rfl, .inl ⟨.str _, by decide +kernel⟩, by decide +kernel, by decide +kernel, by decide +kernel, rfl⟩
  · exact ⟨_, _, _, .tup (.inl (.inl e_au1)), rfl, .inl ⟨.tup (.inl (.inl e_au1)) (.cons (.int _) .nil), by decide +kernel⟩, by decide +kernel, by decide +kernel, by decide +kernel, rfl⟩
  · exact ⟨_, _, _, .int _, by decide +kernel, .inl ⟨.int _, by decide +kernel⟩, by decide +kernel, by decide +kernel, by decide +kernel, rfl⟩
  · exact ⟨_, _, _, .int _, by decide +kernel, .inl ⟨.int _, by decide +kernel⟩, by decide +kernel, by decide +kernel, by decide +kernel, rfl⟩
  · exact ⟨_, _, _, .lst (.inl (.inl e_au2)), rfl, .inl ⟨.lst (.inl (.inl e_au2)) .nil, by decide +kernel⟩, by decide +kernel, by decide +kernel, by decide +kernel, rfl⟩
  · exact ⟨_, _, _, .dct e_au3, rfl, .inr ⟨_, rfl, e_au3, rfl⟩, by decide +kernel, by decide +kernel, by decide +kernel, rfl⟩
theorem lowV {H : Hp} {v : V} (h : v ∈ [.int 0, .int (-1), .int (10 ^ 9 + 1), .non, .bl false, .str "2", .int (10 ^ 60)])  : ∃ t, NV K H v (fun x => isB x 1 (10 ^ 9)) t := by
  simp only [List.mem_cons, List.not_mem_nil, or_false] at h
  rcases h with rfl | rfl | rfl | rfl | rfl | rfl | rfl
  · exact ⟨_, _, _, .int _, by decide +kernel, .inl ⟨.int _, by decide +kernel⟩, by decide +kernel, by decide +kernel, by decide +kernel, rfl⟩
  · exact ⟨_, _, _, .int _, by decide +kernel, .inl ⟨.int _, by decide +kernel⟩, by decide +kernel, by decide +kernel, by decide +kernel, rfl⟩
  · exact ⟨_, _, _, .int _, by decide +kernel, .inl ⟨.int _, by decide +kernel⟩, by decide +kernel, by decide +kernel, by decide +kernel, rfl⟩
  · exact ⟨_, _, _, .non, rfl, .inl ⟨.non, by decide +kernel⟩, by decide +kernel, by decide +kernel, by decide +kernel, rfl⟩
  · exact ⟨_, _, _, .bl _, rfl, .inl ⟨.bl _, by decide +kernel⟩, by decide +kernel, by decide +kernel, by decide +kernel, rfl⟩
  · exact ⟨_, _, _, .str _, rfl, .inl ⟨.str _, by decide +kernel⟩, by decide +kernel, by decide +kernel, by decide +kernel, rfl⟩
  · exact ⟨_, _, _, .int _, by decide +kernel, .inl ⟨.int _, by decide +kernel⟩, by decide +kernel, by decide +kernel, by decide +kernel, rfl⟩
theorem primeV {H : Hp} {cu1 : Addr} {v : V} (h : v ∈ [.int 0, .int 1, .int 4, .int (-3), .int 101, .int 100, .bl true, .non, .str "2", .ref cu1, .int (10 ^ 60)]) (e_cu1 : H cu1 = some (.tup [.int 2])) : ∃ t, NV K H v isP t := by
  simp only [List.mem_cons, List.not_mem_nil, or_false] at h
  rcases h with rfl | rfl | rfl | rfl | rfl | rfl | rfl | rfl | rfl | rfl | rfl
  · exact ⟨_, _, _, .int _, by decide +kernel, .inl ⟨.int _, by decide +kernel⟩, by decide +kernel, by decide +kernel, by decide +kernel, rfl⟩
  · exact ⟨_, _, _, .int _, by decide +kernel, .inl ⟨.int _, by decide +kernel⟩, by decide +kernel, by decide +kernel, by decide +kernel, rfl⟩
  · exact ⟨_, _, _, .int _, by decide +kernel, .inl ⟨.int _, by decide +kernel⟩, by decide +kernel, by decide +kernel, by decide +kernel, rfl⟩
  · exact ⟨_, _, _, .int _, by decide +kernel, .inl ⟨.int _, by decide +kernel⟩, by decide +kernel, by decide +kernel, by decide +kernel, rfl⟩
  · exact ⟨_, _, _, .int _, by decide +kernel, .inl ⟨.int _, by decide +kernel⟩, by decide +kernel, by decide +kernel, by decide +kernel, rfl⟩
  · exact ⟨_, _, _, .int _, by decide +kernel, .inl ⟨.int _, by decide +kernel⟩, by decide +kernel, by decide +kernel, by decide +kernel, rfl⟩
  · exact ⟨_, _, _, .bl _, rfl, .inl ⟨.bl _, by decide +kernel⟩, by decide +kernel, by decide +kernel, by decide +kernel, rfl⟩
  · exact ⟨_, _, _, .non, rfl, .inl ⟨.non, by decide +kernel⟩, by decide +kernel, by decide +kernel, by decide +kernel, rfl⟩
  · exact ⟨_, _, _, .str _, rfl, .inl ⟨.str _, by decide +kernel⟩, by decide +kernel, by decide +kernel, by decide +kernel, rfl⟩
  · exact ⟨_, _, _, .tup (.inl (.inl e_cu1)), rfl, .inl ⟨.tup (.inl (.inl e_cu1)) (.cons (.int _) .nil), by decide +kernel⟩, by decide +kernel, by decide +kernel, by decide +kernel, rfl⟩
  · exact ⟨_, _, _, .int _, by decide +kernel, .inl ⟨.int _, by decide +kernel⟩, by decide +kernel, by decide +kernel, by decide +kernel, rfl⟩
theorem badV {H : Hp} {du1 du2 du3 du4 du5 du6 du7 du8 : Addr} {v : V} (h : v ∈ [.non, .ref du1, .int 4, .ref du2, .ref du3, .ref du5, .ref du6, .ref du7, .ref du8, .str "12"]) (e_du1 : H du1 = some (.lst [.int 2])) (e_du2 : H du2 = some (.tup [.int 1, .bl true])) (e_du3 : H du3 = some (.tup [.int (10 ^ 60)])) (e_du4 : H du4 = some (.tup [.int 1])) (e_du5 : H du5 = some (.tup (List.replicate (Int.toNat 1001) [.int 1]).flatten)) (e_du6 : H du6 = some (.tup [.str "2"])) (e_du7 : H du7 = some (.dK [])) (e_du8 : H du8 = some (.tup [.int 1, .non])) : BV K H v := by
  simp only [List.mem_cons, List.not_mem_nil, or_false] at h
  rcases h with rfl | rfl | rfl | rfl | rfl | rfl | rfl | rfl | rfl | rfl
  · exact ⟨none, .no (.non) rfl, rfl⟩
  · exact ⟨none, .no (.lst (.inl (.inl e_du1))) rfl, rfl⟩
  · exact ⟨none, .no (.int _) rfl, rfl⟩
  · exact ⟨_, .yes (.inl (.inl e_du2)) (fun y hy => by
      simp only [List.mem_cons, List.not_mem_nil, or_false] at hy
      rcases hy with rfl | rfl
      · exact ⟨_, .int _⟩
      · exact ⟨_, .bl _⟩), by decide +kernel⟩
  · exact ⟨_, .yes (.inl (.inl e_du3)) (fun y hy => by
      simp only [List.mem_cons, List.not_mem_nil, or_false] at hy
      rcases hy with rfl
      · exact ⟨_, .int _⟩), by decide +kernel⟩
  · exact ⟨_, .yes (.inl (.inl e_du5)) (fun y hy => ⟨.int, by rw [rep_mem hy]; exact .int _⟩), by decide +kernel⟩
  · exact ⟨_, .yes (.inl (.inl e_du6)) (fun y hy => by
      simp only [List.mem_cons, List.not_mem_nil, or_false] at hy
      rcases hy with rfl
      · exact ⟨_, .str _⟩), by decide +kernel⟩
  · exact ⟨none, .no (.dct e_du7) rfl, rfl⟩
  · exact ⟨_, .yes (.inl (.inl e_du8)) (fun y hy => by
      simp only [List.mem_cons, List.not_mem_nil, or_false] at hy
      rcases hy with rfl | rfl
      · exact ⟨_, .int _⟩
      · exact ⟨_, .non⟩), by decide +kernel⟩
  · exact ⟨none, .no (.str _) rfl, rfl⟩
theorem underV {H : Hp} {eu1 eu2 eu3 eu4 : Addr} {v : V} (h : v ∈ [.ref eu1, .ref eu2, .ref eu3, .ref eu4]) (e_eu1 : H eu1 = some (.tup [.int 1, .int 0])) (e_eu2 : H eu2 = some (.tup [.int 0])) (e_eu3 : H eu3 = some (.tup [.int 2, .int (-3)])) (e_eu4 : H eu4 = some (.tup [.int (-1)])) : UV K H v := by
  simp only [List.mem_cons, List.not_mem_nil, or_false] at h
  rcases h with rfl | rfl | rfl | rfl
  · exact ⟨eu1, [1, 0], rfl, ⟨.inl (.inl e_eu1), by show 2 ≤ 1000; decide, by decide +kernel⟩, by decide +kernel⟩
  · exact ⟨eu2, [0], rfl, ⟨.inl (.inl e_eu2), by show 1 ≤ 1000; decide, by decide +kernel⟩, by decide +kernel⟩
  · exact ⟨eu3, [2, (-3)], rfl, ⟨.inl (.inl e_eu3), by show 2 ≤ 1000; decide, by decide +kernel⟩, by decide +kernel⟩
  · exact ⟨eu4, [(-1)], rfl, ⟨.inl (.inl e_eu4), by show 1 ≤ 1000; decide, by decide +kernel⟩, by decide +kernel⟩
def spNumbersR (K : PySem.W.Frag) : Sp := fun vs H Q _ => ∃ (g : Addr), vs = [.ref g] ∧ BagAt H g ∧ Tabs (TL K) H ∧ ∀ H', ExtN (wo H g) H' → BagAt H' g → Tabs (TL K) H' → Q (.bl true) H'
theorem scNumbersRightL : FnScope ["_law_bag_here", "_law_odd", "_law_low", "_law_prime", "_law_bad", "_law_under", "_law_told", "_law_one"] ["_law_bag_here"] (defScope sNumbersRightL) :=
  ⟨rfl, rfl, rfl, by decide +kernel, rfl, by decide +kernel, by decide +kernel⟩
theorem dNumbersRightL (T : Tx K mg) (Y : Ex K mg) (TB : Tb K mg base) (DOneOfL : Def P w K mg base CX0 2 "_law_one_of" ["_law_bag_here", "_law_items"] (spOneOf K)) (CPrimeFactors : Def P w K mg base (L2.CX P w) 5 "prime_factors" ["number"] (orS spFacs (spFacX K))) (CPartAt : Def P w K mg base (L2.CX P w) 6 "part_at" ["prime", "number"] (orS spPartAt (spPartX K))) (CLowest : Def P w K mg base (L2.CX P w) 5 "lowest" ["top", "bottom"] (orS (spLowest K) (spLowX K))) (CCommonDivisor : Def P w K mg base (L2.CX P w) 5 "common_divisor" ["numbers"] (orS (spCommonDivisor K) (spNumsX K))) (CCommonMultiple : Def P w K mg base (L2.CX P w) 5 "common_multiple" ["numbers"] (orS (spCommonMultiple K) (spCommX K))) : Def P w K mg base CX0 9 "_law_numbers_right" ["_law_bag_here"] (spNumbersR K) := by
  refine defC T.t_law_numbers_right (N := ["_law_bag_here", "_law_odd", "_law_low", "_law_prime", "_law_bad", "_law_under", "_law_told", "_law_one"]) scNumbersRightL (fun _ _ _ _ _ _ us hl => match us, hl with | [_], _ => rfl) ?_ ?_
  · intro vs H Q E h
    obtain ⟨g, rfl, _⟩ := h
    rfl
  · intro f cd A out s H vs Q E ec hr h
    subst ec
    have hr1 : Rm 2 _ := hr.le (by decide)
    obtain ⟨g, rfl, bag, hT, q⟩ := h
    refine ⟨_, (pss_cons (ps_set (i := 1) scNumbersRightL.nd rfl (Or.inr rfl) (pe_d DOneOfL (hr1.le (by decide)) pass0 (pa_cons (pv 0) (pa_cons (pe_lst (pa_cons pe_non (pa_cons pe_bl (pa_cons pe_str (pa_cons (pe_tup (pa_cons pe_int pa_nil)) (pa_cons (pe_op op_pw pe_int pe_int) (pa_cons (pe_un un_neg (pe_op op_pw pe_int pe_int)) (pa_cons (pe_lst pa_nil) (pa_cons pe_dnewK pa_nil))))))))) pa_nil))))
      (pss_cons (ps_set (i := 2) scNumbersRightL.nd rfl (Or.inr rfl) (pe_d DOneOfL (hr1.le (by decide)) pass0 (pa_cons (pv 0) (pa_cons (pe_lst (pa_cons pe_int (pa_cons (pe_un un_neg pe_int) (pa_cons (pe_op op_add (pe_op op_pw pe_int pe_int) pe_int) (pa_cons pe_non (pa_cons pe_bl (pa_cons pe_str (pa_cons (pe_op op_pw pe_int pe_int) pa_nil)))))))) pa_nil))))
      (pss_cons (ps_set (i := 3) scNumbersRightL.nd rfl (Or.inr rfl) (pe_d DOneOfL (hr1.le (by decide)) pass0 (pa_cons (pv 0) (pa_cons (pe_lst (pa_cons pe_int (pa_cons pe_int (pa_cons pe_int (pa_cons (pe_un un_neg pe_int) (pa_cons pe_int (pa_cons pe_int (pa_cons pe_bl (pa_cons pe_non (pa_cons pe_str (pa_cons (pe_tup (pa_cons pe_int pa_nil)) (pa_cons (pe_op op_pw pe_int pe_int) pa_nil)))))))))))) pa_nil))))
      (pss_cons (ps_set (i := 4) scNumbersRightL.nd rfl (Or.inr rfl) (pe_d DOneOfL (hr1.le (by decide)) pass0 (pa_cons (pv 0) (pa_cons (pe_lst (pa_cons pe_non (pa_cons (pe_lst (pa_cons pe_int pa_nil)) (pa_cons pe_int (pa_cons (pe_tup (pa_cons pe_int (pa_cons pe_bl pa_nil))) (pa_cons (pe_tup (pa_cons (pe_op op_pw pe_int pe_int) pa_nil)) (pa_cons (pe_op op_repW (pe_tup (pa_cons pe_int pa_nil)) pe_int) (pa_cons (pe_tup (pa_cons pe_str pa_nil)) (pa_cons pe_dnewK (pa_cons (pe_tup (pa_cons pe_int (pa_cons pe_non pa_nil))) (pa_cons pe_str pa_nil))))))))))) pa_nil))))
      (pss_cons (ps_set (i := 5) scNumbersRightL.nd rfl (Or.inr rfl) (pe_d DOneOfL (hr1.le (by decide)) pass0 (pa_cons (pv 0) (pa_cons (pe_lst (pa_cons (pe_tup (pa_cons pe_int (pa_cons pe_int pa_nil))) (pa_cons (pe_tup (pa_cons pe_int pa_nil)) (pa_cons (pe_tup (pa_cons pe_int (pa_cons (pe_un un_neg pe_int) pa_nil))) (pa_cons (pe_tup (pa_cons (pe_un un_neg pe_int) pa_nil)) pa_nil))))) pa_nil))))
      (pss_cons (ps_set (i := 6) scNumbersRightL.nd rfl (Or.inl rfl) (pe_lst (pa_cons (ME.pe_lam (T := TL K) (TT := TTW K) (k := 6) (t := fun E1 => (ME.tDS (orS spFacs (spFacX K)) (fun _ => E1) (tCons (tVar 2) tNil))) T.t_law_word (fun _ _ _ _ _ _ us hl => match us, hl with | [_], _ => rfl) scWord rfl (Or.inl rfl) (fun g cd => word_gives (k := 1) T Y (hr.le (by decide))) TB.t1 rfl m1 TB.u1 (hr.le (by decide)) (show LamS _ _ from lamS_by (sc := defScope sNumbersRightL) (by decide +kernel)) rfl (fun _ _ _ _ _ => rfl) (fun A1 o1 s1 H1 E1 f1 c1 hr9 => (show PE _ _ (ME.tDS (orS spFacs (spFacX K)) (fun _ => E1) (tCons (tVar 2) tNil)) from ME.pe_dS CPrimeFactors (hr9.le (by decide)) (passAt (takes_of rfl rfl rfl rfl)) (pa_cons (pv 2) pa_nil)))) pa_nil)))
      (pss_cons (ps_expr (pe_bm PySem.F.plainAttrs_list PySem.F.slot_list_append PySem.F.type_list_append mt_append (pv 6) (pa_cons (ME.pe_lam (T := TL K) (TT := TTW K) (k := 6) (t := fun E1 => (ME.tDS (orS spPartAt (spPartX K)) (fun _ => E1) (tCons (tVar 3) (tCons (tVar 1) tNil)))) T.t_law_word (fun _ _ _ _ _ _ us hl => match us, hl with | [_], _ => rfl) scWord rfl (Or.inl rfl) (fun g cd => word_gives (k := 1) T Y (hr.le (by decide))) TB.t1 rfl m1 TB.u1 (hr.le (by decide)) (show LamS _ _ from lamS_by (sc := defScope sNumbersRightL) (by decide +kernel)) rfl (fun _ _ _ _ _ => rfl) (fun A1 o1 s1 H1 E1 f1 c1 hr9 => (show PE _ _ (ME.tDS (orS spPartAt (spPartX K)) (fun _ => E1) (tCons (tVar 3) (tCons (tVar 1) tNil))) from ME.pe_dS CPartAt (hr9.le (by decide)) (passAt (takes_of rfl rfl rfl rfl)) (pa_cons (pv 3) (pa_cons (pv 1) pa_nil))))) pa_nil)))
      (pss_cons (ps_expr (pe_bm PySem.F.plainAttrs_list PySem.F.slot_list_append PySem.F.type_list_append mt_append (pv 6) (pa_cons (ME.pe_lam (T := TL K) (TT := TTW K) (k := 6) (t := fun E1 => (ME.tDS (orS spPartAt (spPartX K)) (fun _ => E1) (tCons (tC (.int 3)) (tCons (tVar 1) tNil)))) T.t_law_word (fun _ _ _ _ _ _ us hl => match us, hl with | [_], _ => rfl) scWord rfl (Or.inl rfl) (fun g cd => word_gives (k := 1) T Y (hr.le (by decide))) TB.t1 rfl m1 TB.u1 (hr.le (by decide)) (show LamS _ _ from lamS_by (sc := defScope sNumbersRightL) (by decide +kernel)) rfl (fun _ _ _ _ _ => rfl) (fun A1 o1 s1 H1 E1 f1 c1 hr9 => (show PE _ _ (ME.tDS (orS spPartAt (spPartX K)) (fun _ => E1) (tCons (tC (.int 3)) (tCons (tVar 1) tNil))) from ME.pe_dS CPartAt (hr9.le (by decide)) (passAt (takes_of rfl rfl rfl rfl)) (pa_cons pe_int (pa_cons (pv 1) pa_nil))))) pa_nil)))
      (pss_cons (ps_expr (pe_bm PySem.F.plainAttrs_list PySem.F.slot_list_append PySem.F.type_list_append mt_append (pv 6) (pa_cons (ME.pe_lam (T := TL K) (TT := TTW K) (k := 6) (t := fun E1 => (ME.tDS (orS spPartAt (spPartX K)) (fun _ => E1) (tCons (tVar 3) (tCons (tC (.int 0)) tNil)))) T.t_law_word (fun _ _ _ _ _ _ us hl => match us, hl with | [_], _ => rfl) scWord rfl (Or.inl rfl) (fun g cd => word_gives (k := 1) T Y (hr.le (by decide))) TB.t1 rfl m1 TB.u1 (hr.le (by decide)) (show LamS _ _ from lamS_by (sc := defScope sNumbersRightL) (by decide +kernel)) rfl (fun _ _ _ _ _ => rfl) (fun A1 o1 s1 H1 E1 f1 c1 hr9 => (show PE _ _ (ME.tDS (orS spPartAt (spPartX K)) (fun _ => E1) (tCons (tVar 3) (tCons (tC (.int 0)) tNil))) from ME.pe_dS CPartAt (hr9.le (by decide)) (passAt (takes_of rfl rfl rfl rfl)) (pa_cons (pv 3) (pa_cons pe_int pa_nil))))) pa_nil)))
      (pss_cons (ps_expr (pe_bm PySem.F.plainAttrs_list PySem.F.slot_list_append PySem.F.type_list_append mt_append (pv 6) (pa_cons (ME.pe_lam (T := TL K) (TT := TTW K) (k := 6) (t := fun E1 => (ME.tDS (orS spPartAt (spPartX K)) (fun _ => E1) (tCons (tC (.int 2)) (tCons (tC (.int 0)) tNil)))) T.t_law_word (fun _ _ _ _ _ _ us hl => match us, hl with | [_], _ => rfl) scWord rfl (Or.inl rfl) (fun g cd => word_gives (k := 1) T Y (hr.le (by decide))) TB.t1 rfl m1 TB.u1 (hr.le (by decide)) (show LamS _ _ from lamS_by (sc := defScope sNumbersRightL) (by decide +kernel)) rfl (fun _ _ _ _ _ => rfl) (fun A1 o1 s1 H1 E1 f1 c1 hr9 => (show PE _ _ (ME.tDS (orS spPartAt (spPartX K)) (fun _ => E1) (tCons (tC (.int 2)) (tCons (tC (.int 0)) tNil))) from ME.pe_dS CPartAt (hr9.le (by decide)) (passAt (takes_of rfl rfl rfl rfl)) (pa_cons pe_int (pa_cons pe_int pa_nil))))) pa_nil)))
      (pss_cons (ps_expr (pe_bm PySem.F.plainAttrs_list PySem.F.slot_list_append PySem.F.type_list_append mt_append (pv 6) (pa_cons (ME.pe_lam (T := TL K) (TT := TTW K) (k := 6) (t := fun E1 => (ME.tDS (orS (spLowest K) (spLowX K)) (fun _ => E1) (tCons (tVar 1) (tCons (tC (.int 0)) tNil)))) T.t_law_word (fun _ _ _ _ _ _ us hl => match us, hl with | [_], _ => rfl) scWord rfl (Or.inl rfl) (fun g cd => word_gives (k := 1) T Y (hr.le (by decide))) TB.t1 rfl m1 TB.u1 (hr.le (by decide)) (show LamS _ _ from lamS_by (sc := defScope sNumbersRightL) (by decide +kernel)) rfl (fun _ _ _ _ _ => rfl) (fun A1 o1 s1 H1 E1 f1 c1 hr9 => (show PE _ _ (ME.tDS (orS (spLowest K) (spLowX K)) (fun _ => E1) (tCons (tVar 1) (tCons (tC (.int 0)) tNil))) from ME.pe_dS CLowest (hr9.le (by decide)) (passAt (takes_of rfl rfl rfl rfl)) (pa_cons (pv 1) (pa_cons pe_int pa_nil))))) pa_nil)))
      (pss_cons (ps_expr (pe_bm PySem.F.plainAttrs_list PySem.F.slot_list_append PySem.F.type_list_append mt_append (pv 6) (pa_cons (ME.pe_lam (T := TL K) (TT := TTW K) (k := 6) (t := fun E1 => (ME.tDS (orS (spLowest K) (spLowX K)) (fun _ => E1) (tCons (tC (.int 1)) (tCons (tVar 1) tNil)))) T.t_law_word (fun _ _ _ _ _ _ us hl => match us, hl with | [_], _ => rfl) scWord rfl (Or.inl rfl) (fun g cd => word_gives (k := 1) T Y (hr.le (by decide))) TB.t1 rfl m1 TB.u1 (hr.le (by decide)) (show LamS _ _ from lamS_by (sc := defScope sNumbersRightL) (by decide +kernel)) rfl (fun _ _ _ _ _ => rfl) (fun A1 o1 s1 H1 E1 f1 c1 hr9 => (show PE _ _ (ME.tDS (orS (spLowest K) (spLowX K)) (fun _ => E1) (tCons (tC (.int 1)) (tCons (tVar 1) tNil))) from ME.pe_dS CLowest (hr9.le (by decide)) (passAt (takes_of rfl rfl rfl rfl)) (pa_cons pe_int (pa_cons (pv 1) pa_nil))))) pa_nil)))
      (pss_cons (ps_expr (pe_bm PySem.F.plainAttrs_list PySem.F.slot_list_append PySem.F.type_list_append mt_append (pv 6) (pa_cons (ME.pe_lam (T := TL K) (TT := TTW K) (k := 6) (t := fun E1 => (ME.tDS (orS (spLowest K) (spLowX K)) (fun _ => E1) (tCons (tC (.int 1)) (tCons (tC (.int 0)) tNil)))) T.t_law_word (fun _ _ _ _ _ _ us hl => match us, hl with | [_], _ => rfl) scWord rfl (Or.inl rfl) (fun g cd => word_gives (k := 1) T Y (hr.le (by decide))) TB.t1 rfl m1 TB.u1 (hr.le (by decide)) (show LamS _ _ from lamS_by (sc := defScope sNumbersRightL) (by decide +kernel)) rfl (fun _ _ _ _ _ => rfl) (fun A1 o1 s1 H1 E1 f1 c1 hr9 => (show PE _ _ (ME.tDS (orS (spLowest K) (spLowX K)) (fun _ => E1) (tCons (tC (.int 1)) (tCons (tC (.int 0)) tNil))) from ME.pe_dS CLowest (hr9.le (by decide)) (passAt (takes_of rfl rfl rfl rfl)) (pa_cons pe_int (pa_cons pe_int pa_nil))))) pa_nil)))
      (pss_cons (ps_if (pt_cmpR (op_neD hr.hu) (pv 6) (pe_lc (own := [("_law_one", 7)]) (g := gName 7) (tt := tYes) rfl scNumbersRightL.nd (pi_list (pe_lst (pa_cons (pv 2) (pa_cons (pv 3) (pa_cons (pv 1) (pa_cons (pv 3) (pa_cons pe_int (pa_cons (pv 1) (pa_cons (pv 1) (pa_cons pe_int pa_nil)))))))))) (blkOk_by (N := ["_law_bag_here", "_law_odd", "_law_low", "_law_prime", "_law_bad", "_law_under", "_law_told", "_law_one"]) (sc := defScope sNumbersRightL) (by decide +kernel)) (fun _ _ _ _ _ => pg_name (i := 7) scNumbersRightL.nd rfl (Or.inl rfl)) (fun _ _ _ _ _ => pts_nil) (fun _ _ _ _ _ => (pe_tup (pa_cons pe_str (pa_cons pe_str (pa_cons (pe_callB (show CallR _ _ (rReprO K) from cr_reprO hr.still hr.hu66) rfl T.f_repr (by decide +kernel) (pa_cons (pv 7) pa_nil)) pa_nil)))))) (nomark _)) (pss_one (ps_ret pe_bl)) pss_nil)
      (pss_cons (ps_set (i := 6) scNumbersRightL.nd rfl (Or.inl rfl) (pe_lst (pa_cons (ME.pe_lam (T := TL K) (TT := TTW K) (k := 6) (t := fun E1 => (ME.tDS (orS (spCommonDivisor K) (spNumsX K)) (fun _ => E1) (tCons (tVar 4) tNil))) T.t_law_word (fun _ _ _ _ _ _ us hl => match us, hl with | [_], _ => rfl) scWord rfl (Or.inl rfl) (fun g cd => word_gives (k := 1) T Y (hr.le (by decide))) TB.t1 rfl m1 TB.u1 (hr.le (by decide)) (show LamS _ _ from lamS_by (sc := defScope sNumbersRightL) (by decide +kernel)) rfl (fun _ _ _ _ _ => rfl) (fun A1 o1 s1 H1 E1 f1 c1 hr9 => (show PE _ _ (ME.tDS (orS (spCommonDivisor K) (spNumsX K)) (fun _ => E1) (tCons (tVar 4) tNil)) from ME.pe_dS CCommonDivisor (hr9.le (by decide)) (passAt (takes_of rfl rfl rfl rfl)) (pa_cons (pv 4) pa_nil)))) pa_nil)))
      (pss_cons (ps_expr (pe_bm PySem.F.plainAttrs_list PySem.F.slot_list_append PySem.F.type_list_append mt_append (pv 6) (pa_cons (ME.pe_lam (T := TL K) (TT := TTW K) (k := 6) (t := fun E1 => (ME.tDS (orS (spCommonMultiple K) (spCommX K)) (fun _ => E1) (tCons (tVar 4) tNil))) T.t_law_word (fun _ _ _ _ _ _ us hl => match us, hl with | [_], _ => rfl) scWord rfl (Or.inl rfl) (fun g cd => word_gives (k := 1) T Y (hr.le (by decide))) TB.t1 rfl m1 TB.u1 (hr.le (by decide)) (show LamS _ _ from lamS_by (sc := defScope sNumbersRightL) (by decide +kernel)) rfl (fun _ _ _ _ _ => rfl) (fun A1 o1 s1 H1 E1 f1 c1 hr9 => (show PE _ _ (ME.tDS (orS (spCommonMultiple K) (spCommX K)) (fun _ => E1) (tCons (tVar 4) tNil)) from ME.pe_dS CCommonMultiple (hr9.le (by decide)) (passAt (takes_of rfl rfl rfl rfl)) (pa_cons (pv 4) pa_nil)))) pa_nil)))
      (pss_cons (ps_expr (pe_bm PySem.F.plainAttrs_list PySem.F.slot_list_append PySem.F.type_list_append mt_append (pv 6) (pa_cons (ME.pe_lam (T := TL K) (TT := TTW K) (k := 6) (t := fun E1 => (ME.tDS (orS (spCommonMultiple K) (spCommX K)) (fun _ => E1) (tCons (tVar 5) tNil))) T.t_law_word (fun _ _ _ _ _ _ us hl => match us, hl with | [_], _ => rfl) scWord rfl (Or.inl rfl) (fun g cd => word_gives (k := 1) T Y (hr.le (by decide))) TB.t1 rfl m1 TB.u1 (hr.le (by decide)) (show LamS _ _ from lamS_by (sc := defScope sNumbersRightL) (by decide +kernel)) rfl (fun _ _ _ _ _ => rfl) (fun A1 o1 s1 H1 E1 f1 c1 hr9 => (show PE _ _ (ME.tDS (orS (spCommonMultiple K) (spCommX K)) (fun _ => E1) (tCons (tVar 5) tNil)) from ME.pe_dS CCommonMultiple (hr9.le (by decide)) (passAt (takes_of rfl rfl rfl rfl)) (pa_cons (pv 5) pa_nil)))) pa_nil)))
      (pss_cons (ps_expr (pe_bm PySem.F.plainAttrs_list PySem.F.slot_list_append PySem.F.type_list_append mt_append (pv 6) (pa_cons (ME.pe_lam (T := TL K) (TT := TTW K) (k := 6) (t := fun E1 => (ME.tDS (orS (spCommonDivisor K) (spNumsX K)) (fun _ => E1) (tCons (tVar 5) tNil))) T.t_law_word (fun _ _ _ _ _ _ us hl => match us, hl with | [_], _ => rfl) scWord rfl (Or.inl rfl) (fun g cd => word_gives (k := 1) T Y (hr.le (by decide))) TB.t1 rfl m1 TB.u1 (hr.le (by decide)) (show LamS _ _ from lamS_by (sc := defScope sNumbersRightL) (by decide +kernel)) rfl (fun _ _ _ _ _ => rfl) (fun A1 o1 s1 H1 E1 f1 c1 hr9 => (show PE _ _ (ME.tDS (orS (spCommonDivisor K) (spNumsX K)) (fun _ => E1) (tCons (tVar 5) tNil)) from ME.pe_dS CCommonDivisor (hr9.le (by decide)) (passAt (takes_of rfl rfl rfl rfl)) (pa_cons (pv 5) pa_nil)))) pa_nil)))
      (pss_one (ps_ret (pe_cmpR (op_eqD hr.hu) (pv 6) (pe_op op_cat (pe_op op_rep (pe_lst (pa_cons (pe_tup (pa_cons pe_str (pa_cons pe_str pa_nil))) pa_nil)) pe_int) (pe_lst (pa_cons pe_str pa_nil))) (nomark _)))))))))))))))))))))), ?_⟩
    obtain ⟨b0, b1, b2, eg⟩ := id bag
    refine ⟨_, rfl, ?_⟩
    refine ⟨by show 1 ≤ sizeLine; decide, fun au1 f_au1 => ?_⟩
    generalize eH : upd H au1 _ = aJ1
    obtain ⟨n_au1, S_au1, e_au1, eg⟩ : au1 ≠ g ∧ Same H aJ1 ∧ aJ1 au1 = some (.tup [.int 1]) ∧ aJ1 g = some (.lst [.int b0, .int b1, .int b2]) := by
      rw [← eH]
      exact new_obj eg f_au1
    clear eH
    refine ⟨10, 60, rfl, rfl, (by show CPw _ _; decide +kernel), ?_⟩
    refine ⟨10, 60, rfl, rfl, (by show CPw _ _; decide +kernel), ?_⟩
    refine ⟨_, rfl, ?_⟩
    refine ⟨by show 0 ≤ sizeLine; decide, fun au2 f_au2 => ?_⟩
    generalize eH : upd aJ1 au2 _ = aJ2
    obtain ⟨n_au2, S_au2, e_au2, eg⟩ : au2 ≠ g ∧ Same aJ1 aJ2 ∧ aJ2 au2 = some (.lst []) ∧ aJ2 g = some (.lst [.int b0, .int b1, .int b2]) := by
      rw [← eH]
      exact new_obj eg f_au2
    clear eH
    intro au3 f_au3
    generalize eH : upd aJ2 au3 _ = aJ3
    obtain ⟨n_au3, S_au3, e_au3, eg⟩ : au3 ≠ g ∧ Same aJ2 aJ3 ∧ aJ3 au3 = some (.dK []) ∧ aJ3 g = some (.lst [.int b0, .int b1, .int b2]) := by
      rw [← eH]
      exact new_obj eg f_au3
    clear eH
    refine ⟨by show 8 ≤ sizeLine; decide, fun au4 f_au4 => ?_⟩
    generalize eH : upd aJ3 au4 _ = aJ4
    obtain ⟨n_au4, S_au4, e_au4, eg⟩ : au4 ≠ g ∧ Same aJ3 aJ4 ∧ aJ4 au4 = some (.lst [.non, .bl true, .str "1", .ref au1, .int (10 ^ 60), .int (-(10 ^ 60)), .ref au2, .ref au3]) ∧ aJ4 g = some (.lst [.int b0, .int b1, .int b2]) := by
      rw [← eH]
      exact new_obj eg f_au4
    clear eH
    have T_au4 := Same.refl aJ4
    have T_au3 := S_au4.trans T_au4
    have T_au2 := S_au3.trans T_au3
    have T_au1 := S_au2.trans T_au2
    have aall := S_au1.trans T_au1
    have w_au1 := (wo_ne n_au1).trans (T_au1 _ _ e_au1)
    have w_au2 := (wo_ne n_au2).trans (T_au2 _ _ e_au2)
    have w_au3 := (wo_ne n_au3).trans (T_au3 _ _ e_au3)
    have w_au4 := (wo_ne n_au4).trans (T_au4 _ _ e_au4)
    refine ⟨g, au4, b0, b1, b2, [.non, .bl true, .str "1", .ref au1, .int (10 ^ 60), .int (-(10 ^ 60)), .ref au2, .ref au3], rfl, eg, .inl (.inl e_au4), n_au4, Nat.succ_pos _, by show 8 ≤ 1000; decide, fun vo h0 h1 h2 hv => ?_⟩
    have U : Upto g H (upd aJ4 g (.lst [.int h0, .int h1, .int h2])) := draw_up aall bag
    obtain ⟨to, Fo⟩ := oddV (K := K) (H := wo aJ4 g) hv w_au1 w_au2 w_au3
    rw [← wo_upd (o := .lst [.int h0, .int h1, .int h2])] at Fo
    generalize upd aJ4 g _ = H1 at U Fo ⊢
    replace hT := tab_upto hT bag U
    have extH1 := up_ext U
    have bagH1 := U.bag
    clear n_au1 e_au1 S_au1 T_au1 w_au1 f_au1 n_au2 e_au2 S_au2 T_au2 w_au2 f_au2 n_au3 e_au3 S_au3 T_au3 w_au3 f_au3 n_au4 e_au4 S_au4 T_au4 w_au4 f_au4 aall U hv
    obtain ⟨b0, b1, b2, eg⟩ := id bagH1
    refine ⟨_, rfl, ?_⟩
    refine ⟨_, rfl, ?_⟩
    refine ⟨10, 9, rfl, rfl, (by show CPw _ _; decide +kernel), ?_⟩
    refine ⟨_, _, rfl, rfl, ?_⟩
    refine ⟨10, 60, rfl, rfl, (by show CPw _ _; decide +kernel), ?_⟩
    refine ⟨by show 7 ≤ sizeLine; decide, fun bu1 f_bu1 => ?_⟩
    generalize eH : upd H1 bu1 _ = bJ1
    obtain ⟨n_bu1, S_bu1, e_bu1, eg⟩ : bu1 ≠ g ∧ Same H1 bJ1 ∧ bJ1 bu1 = some (.lst [.int 0, .int (-1), .int (10 ^ 9 + 1), .non, .bl false, .str "2", .int (10 ^ 60)]) ∧ bJ1 g = some (.lst [.int b0, .int b1, .int b2]) := by
      rw [← eH]
      exact new_obj eg f_bu1
    clear eH
    have T_bu1 := Same.refl bJ1
    have ball := S_bu1.trans T_bu1
    have w_bu1 := (wo_ne n_bu1).trans (T_bu1 _ _ e_bu1)
    refine ⟨g, bu1, b0, b1, b2, [.int 0, .int (-1), .int (10 ^ 9 + 1), .non, .bl false, .str "2", .int (10 ^ 60)], rfl, eg, .inl (.inl e_bu1), n_bu1, Nat.succ_pos _, by show 7 ≤ 1000; decide, fun vl h0 h1 h2 hv => ?_⟩
    have U : Upto g H1 (upd bJ1 g (.lst [.int h0, .int h1, .int h2])) := draw_up ball bagH1
    obtain ⟨tl, Fl⟩ := lowV (K := K) (H := wo bJ1 g) hv 
    rw [← wo_upd (o := .lst [.int h0, .int h1, .int h2])] at Fl
    generalize upd bJ1 g _ = H2 at U Fl ⊢
    replace Fo := nvE Fo (up_ext U)
    replace hT := tab_upto hT bagH1 U
    have extH2 := up_ext U
    have bagH2 := U.bag
    clear n_bu1 e_bu1 S_bu1 T_bu1 w_bu1 f_bu1 ball U hv
    obtain ⟨b0, b1, b2, eg⟩ := id bagH2
    refine ⟨_, rfl, ?_⟩
    refine ⟨_, rfl, ?_⟩
    refine ⟨by show 1 ≤ sizeLine; decide, fun cu1 f_cu1 => ?_⟩
    generalize eH : upd H2 cu1 _ = cJ1
    obtain ⟨n_cu1, S_cu1, e_cu1, eg⟩ : cu1 ≠ g ∧ Same H2 cJ1 ∧ cJ1 cu1 = some (.tup [.int 2]) ∧ cJ1 g = some (.lst [.int b0, .int b1, .int b2]) := by
      rw [← eH]
      exact new_obj eg f_cu1
    clear eH
    refine ⟨10, 60, rfl, rfl, (by show CPw _ _; decide +kernel), ?_⟩
    refine ⟨by show 11 ≤ sizeLine; decide, fun cu2 f_cu2 => ?_⟩
    generalize eH : upd cJ1 cu2 _ = cJ2
    obtain ⟨n_cu2, S_cu2, e_cu2, eg⟩ : cu2 ≠ g ∧ Same cJ1 cJ2 ∧ cJ2 cu2 = some (.lst [.int 0, .int 1, .int 4, .int (-3), .int 101, .int 100, .bl true, .non, .str "2", .ref cu1, .int (10 ^ 60)]) ∧ cJ2 g = some (.lst [.int b0, .int b1, .int b2]) := by
      rw [← eH]
      exact new_obj eg f_cu2
    clear eH
    have T_cu2 := Same.refl cJ2
    have T_cu1 := S_cu2.trans T_cu2
    have call := S_cu1.trans T_cu1
    have w_cu1 := (wo_ne n_cu1).trans (T_cu1 _ _ e_cu1)
    have w_cu2 := (wo_ne n_cu2).trans (T_cu2 _ _ e_cu2)
    refine ⟨g, cu2, b0, b1, b2, [.int 0, .int 1, .int 4, .int (-3), .int 101, .int 100, .bl true, .non, .str "2", .ref cu1, .int (10 ^ 60)], rfl, eg, .inl (.inl e_cu2), n_cu2, Nat.succ_pos _, by show 11 ≤ 1000; decide, fun vp h0 h1 h2 hv => ?_⟩
    have U : Upto g H2 (upd cJ2 g (.lst [.int h0, .int h1, .int h2])) := draw_up call bagH2
    obtain ⟨tp, Fp⟩ := primeV (K := K) (H := wo cJ2 g) hv w_cu1
    rw [← wo_upd (o := .lst [.int h0, .int h1, .int h2])] at Fp
    generalize upd cJ2 g _ = H3 at U Fp ⊢
    replace Fo := nvE Fo (up_ext U)
    replace Fl := nvE Fl (up_ext U)
    replace hT := tab_upto hT bagH2 U
    have extH3 := up_ext U
    have bagH3 := U.bag
    clear n_cu1 e_cu1 S_cu1 T_cu1 w_cu1 f_cu1 n_cu2 e_cu2 S_cu2 T_cu2 w_cu2 f_cu2 call U hv
    obtain ⟨b0, b1, b2, eg⟩ := id bagH3
    refine ⟨_, rfl, ?_⟩
    refine ⟨by show 1 ≤ sizeLine; decide, fun du1 f_du1 => ?_⟩
    generalize eH : upd H3 du1 _ = dJ1
    obtain ⟨n_du1, S_du1, e_du1, eg⟩ : du1 ≠ g ∧ Same H3 dJ1 ∧ dJ1 du1 = some (.lst [.int 2]) ∧ dJ1 g = some (.lst [.int b0, .int b1, .int b2]) := by
      rw [← eH]
      exact new_obj eg f_du1
    clear eH
    refine ⟨by show 2 ≤ sizeLine; decide, fun du2 f_du2 => ?_⟩
    generalize eH : upd dJ1 du2 _ = dJ2
    obtain ⟨n_du2, S_du2, e_du2, eg⟩ : du2 ≠ g ∧ Same dJ1 dJ2 ∧ dJ2 du2 = some (.tup [.int 1, .bl true]) ∧ dJ2 g = some (.lst [.int b0, .int b1, .int b2]) := by
      rw [← eH]
      exact new_obj eg f_du2
    clear eH
    refine ⟨10, 60, rfl, rfl, (by show CPw _ _; decide +kernel), ?_⟩
    refine ⟨by show 1 ≤ sizeLine; decide, fun du3 f_du3 => ?_⟩
    generalize eH : upd dJ2 du3 _ = dJ3
    obtain ⟨n_du3, S_du3, e_du3, eg⟩ : du3 ≠ g ∧ Same dJ2 dJ3 ∧ dJ3 du3 = some (.tup [.int (10 ^ 60)]) ∧ dJ3 g = some (.lst [.int b0, .int b1, .int b2]) := by
      rw [← eH]
      exact new_obj eg f_du3
    clear eH
    refine ⟨by show 1 ≤ sizeLine; decide, fun du4 f_du4 => ?_⟩
    generalize eH : upd dJ3 du4 _ = dJ4
    obtain ⟨n_du4, S_du4, e_du4, eg⟩ : du4 ≠ g ∧ Same dJ3 dJ4 ∧ dJ4 du4 = some (.tup [.int 1]) ∧ dJ4 g = some (.lst [.int b0, .int b1, .int b2]) := by
      rw [← eH]
      exact new_obj eg f_du4
    clear eH
    refine ⟨du4, 1001, [.int 1], rfl, rfl, .inl (.inl e_du4), by nofun, by decide, by decide, by show 1 ≤ 100; decide, ?_⟩
    intro du5 f_du5
    generalize eH : upd dJ4 du5 _ = dJ5
    obtain ⟨n_du5, S_du5, e_du5, eg⟩ : du5 ≠ g ∧ Same dJ4 dJ5 ∧ dJ5 du5 = some (.tup (List.replicate (Int.toNat 1001) [.int 1]).flatten) ∧ dJ5 g = some (.lst [.int b0, .int b1, .int b2]) := by
      rw [← eH]
      exact new_obj eg f_du5
    clear eH
    refine ⟨by show 1 ≤ sizeLine; decide, fun du6 f_du6 => ?_⟩
    generalize eH : upd dJ5 du6 _ = dJ6
    obtain ⟨n_du6, S_du6, e_du6, eg⟩ : du6 ≠ g ∧ Same dJ5 dJ6 ∧ dJ6 du6 = some (.tup [.str "2"]) ∧ dJ6 g = some (.lst [.int b0, .int b1, .int b2]) := by
      rw [← eH]
      exact new_obj eg f_du6
    clear eH
    intro du7 f_du7
    generalize eH : upd dJ6 du7 _ = dJ7
    obtain ⟨n_du7, S_du7, e_du7, eg⟩ : du7 ≠ g ∧ Same dJ6 dJ7 ∧ dJ7 du7 = some (.dK []) ∧ dJ7 g = some (.lst [.int b0, .int b1, .int b2]) := by
      rw [← eH]
      exact new_obj eg f_du7
    clear eH
    refine ⟨by show 2 ≤ sizeLine; decide, fun du8 f_du8 => ?_⟩
    generalize eH : upd dJ7 du8 _ = dJ8
    obtain ⟨n_du8, S_du8, e_du8, eg⟩ : du8 ≠ g ∧ Same dJ7 dJ8 ∧ dJ8 du8 = some (.tup [.int 1, .non]) ∧ dJ8 g = some (.lst [.int b0, .int b1, .int b2]) := by
      rw [← eH]
      exact new_obj eg f_du8
    clear eH
    refine ⟨by show 10 ≤ sizeLine; decide, fun du9 f_du9 => ?_⟩
    generalize eH : upd dJ8 du9 _ = dJ9
    obtain ⟨n_du9, S_du9, e_du9, eg⟩ : du9 ≠ g ∧ Same dJ8 dJ9 ∧ dJ9 du9 = some (.lst [.non, .ref du1, .int 4, .ref du2, .ref du3, .ref du5, .ref du6, .ref du7, .ref du8, .str "12"]) ∧ dJ9 g = some (.lst [.int b0, .int b1, .int b2]) := by
      rw [← eH]
      exact new_obj eg f_du9
    clear eH
    have T_du9 := Same.refl dJ9
    have T_du8 := S_du9.trans T_du9
    have T_du7 := S_du8.trans T_du8
    have T_du6 := S_du7.trans T_du7
    have T_du5 := S_du6.trans T_du6
    have T_du4 := S_du5.trans T_du5
    have T_du3 := S_du4.trans T_du4
    have T_du2 := S_du3.trans T_du3
    have T_du1 := S_du2.trans T_du2
    have dall := S_du1.trans T_du1
    have w_du1 := (wo_ne n_du1).trans (T_du1 _ _ e_du1)
    have w_du2 := (wo_ne n_du2).trans (T_du2 _ _ e_du2)
    have w_du3 := (wo_ne n_du3).trans (T_du3 _ _ e_du3)
    have w_du4 := (wo_ne n_du4).trans (T_du4 _ _ e_du4)
    have w_du5 := (wo_ne n_du5).trans (T_du5 _ _ e_du5)
    have w_du6 := (wo_ne n_du6).trans (T_du6 _ _ e_du6)
    have w_du7 := (wo_ne n_du7).trans (T_du7 _ _ e_du7)
    have w_du8 := (wo_ne n_du8).trans (T_du8 _ _ e_du8)
    have w_du9 := (wo_ne n_du9).trans (T_du9 _ _ e_du9)
    refine ⟨g, du9, b0, b1, b2, [.non, .ref du1, .int 4, .ref du2, .ref du3, .ref du5, .ref du6, .ref du7, .ref du8, .str "12"], rfl, eg, .inl (.inl e_du9), n_du9, Nat.succ_pos _, by show 10 ≤ 1000; decide, fun vb h0 h1 h2 hv => ?_⟩
    have U : Upto g H3 (upd dJ9 g (.lst [.int h0, .int h1, .int h2])) := draw_up dall bagH3
    have Fb := badV (K := K) (H := wo dJ9 g) hv w_du1 w_du2 w_du3 w_du4 w_du5 w_du6 w_du7 w_du8
    rw [← wo_upd (o := .lst [.int h0, .int h1, .int h2])] at Fb
    generalize upd dJ9 g _ = H4 at U Fb ⊢
    replace Fo := nvE Fo (up_ext U)
    replace Fl := nvE Fl (up_ext U)
    replace Fp := nvE Fp (up_ext U)
    replace hT := tab_upto hT bagH3 U
    have extH4 := up_ext U
    have bagH4 := U.bag
    clear n_du1 e_du1 S_du1 T_du1 w_du1 f_du1 n_du2 e_du2 S_du2 T_du2 w_du2 f_du2 n_du3 e_du3 S_du3 T_du3 w_du3 f_du3 n_du4 e_du4 S_du4 T_du4 w_du4 f_du4 n_du5 e_du5 S_du5 T_du5 w_du5 f_du5 n_du6 e_du6 S_du6 T_du6 w_du6 f_du6 n_du7 e_du7 S_du7 T_du7 w_du7 f_du7 n_du8 e_du8 S_du8 T_du8 w_du8 f_du8 n_du9 e_du9 S_du9 T_du9 w_du9 f_du9 dall U hv
    obtain ⟨b0, b1, b2, eg⟩ := id bagH4
    refine ⟨_, rfl, ?_⟩
    refine ⟨by show 2 ≤ sizeLine; decide, fun eu1 f_eu1 => ?_⟩
    generalize eH : upd H4 eu1 _ = eJ1
    obtain ⟨n_eu1, S_eu1, e_eu1, eg⟩ : eu1 ≠ g ∧ Same H4 eJ1 ∧ eJ1 eu1 = some (.tup [.int 1, .int 0]) ∧ eJ1 g = some (.lst [.int b0, .int b1, .int b2]) := by
      rw [← eH]
      exact new_obj eg f_eu1
    clear eH
    refine ⟨by show 1 ≤ sizeLine; decide, fun eu2 f_eu2 => ?_⟩
    generalize eH : upd eJ1 eu2 _ = eJ2
    obtain ⟨n_eu2, S_eu2, e_eu2, eg⟩ : eu2 ≠ g ∧ Same eJ1 eJ2 ∧ eJ2 eu2 = some (.tup [.int 0]) ∧ eJ2 g = some (.lst [.int b0, .int b1, .int b2]) := by
      rw [← eH]
      exact new_obj eg f_eu2
    clear eH
    refine ⟨_, rfl, ?_⟩
    refine ⟨by show 2 ≤ sizeLine; decide, fun eu3 f_eu3 => ?_⟩
    generalize eH : upd eJ2 eu3 _ = eJ3
    obtain ⟨n_eu3, S_eu3, e_eu3, eg⟩ : eu3 ≠ g ∧ Same eJ2 eJ3 ∧ eJ3 eu3 = some (.tup [.int 2, .int (-3)]) ∧ eJ3 g = some (.lst [.int b0, .int b1, .int b2]) := by
      rw [← eH]
      exact new_obj eg f_eu3
    clear eH
    refine ⟨_, rfl, ?_⟩
    refine ⟨by show 1 ≤ sizeLine; decide, fun eu4 f_eu4 => ?_⟩
    generalize eH : upd eJ3 eu4 _ = eJ4
    obtain ⟨n_eu4, S_eu4, e_eu4, eg⟩ : eu4 ≠ g ∧ Same eJ3 eJ4 ∧ eJ4 eu4 = some (.tup [.int (-1)]) ∧ eJ4 g = some (.lst [.int b0, .int b1, .int b2]) := by
      rw [← eH]
      exact new_obj eg f_eu4
    clear eH
    refine ⟨by show 4 ≤ sizeLine; decide, fun eu5 f_eu5 => ?_⟩
    generalize eH : upd eJ4 eu5 _ = eJ5
    obtain ⟨n_eu5, S_eu5, e_eu5, eg⟩ : eu5 ≠ g ∧ Same eJ4 eJ5 ∧ eJ5 eu5 = some (.lst [.ref eu1, .ref eu2, .ref eu3, .ref eu4]) ∧ eJ5 g = some (.lst [.int b0, .int b1, .int b2]) := by
      rw [← eH]
      exact new_obj eg f_eu5
    clear eH
    have T_eu5 := Same.refl eJ5
    have T_eu4 := S_eu5.trans T_eu5
    have T_eu3 := S_eu4.trans T_eu4
    have T_eu2 := S_eu3.trans T_eu3
    have T_eu1 := S_eu2.trans T_eu2
    have eall := S_eu1.trans T_eu1
    have w_eu1 := (wo_ne n_eu1).trans (T_eu1 _ _ e_eu1)
    have w_eu2 := (wo_ne n_eu2).trans (T_eu2 _ _ e_eu2)
    have w_eu3 := (wo_ne n_eu3).trans (T_eu3 _ _ e_eu3)
    have w_eu4 := (wo_ne n_eu4).trans (T_eu4 _ _ e_eu4)
    have w_eu5 := (wo_ne n_eu5).trans (T_eu5 _ _ e_eu5)
    refine ⟨g, eu5, b0, b1, b2, [.ref eu1, .ref eu2, .ref eu3, .ref eu4], rfl, eg, .inl (.inl e_eu5), n_eu5, Nat.succ_pos _, by show 4 ≤ 1000; decide, fun vu h0 h1 h2 hv => ?_⟩
    have U : Upto g H4 (upd eJ5 g (.lst [.int h0, .int h1, .int h2])) := draw_up eall bagH4
    have Fu := underV (K := K) (H := wo eJ5 g) hv w_eu1 w_eu2 w_eu3 w_eu4
    rw [← wo_upd (o := .lst [.int h0, .int h1, .int h2])] at Fu
    generalize upd eJ5 g _ = H5 at U Fu ⊢
    replace Fo := nvE Fo (up_ext U)
    replace Fl := nvE Fl (up_ext U)
    replace Fp := nvE Fp (up_ext U)
    replace Fb := bvE Fb (up_ext U)
    replace hT := tab_upto hT bagH4 U
    have extH5 := up_ext U
    have bagH5 := U.bag
    clear n_eu1 e_eu1 S_eu1 T_eu1 w_eu1 f_eu1 n_eu2 e_eu2 S_eu2 T_eu2 w_eu2 f_eu2 n_eu3 e_eu3 S_eu3 T_eu3 w_eu3 f_eu3 n_eu4 e_eu4 S_eu4 T_eu4 w_eu4 f_eu4 n_eu5 e_eu5 S_eu5 T_eu5 w_eu5 f_eu5 eall U hv
    have X5 : ExtN (wo H g) (wo H5 g) := (((extH1.trans extH2).trans extH3).trans extH4).trans extH5
    clear extH1 extH2 extH3 extH4 extH5 bagH1 bagH2 bagH3 bagH4 bag
    refine ⟨hT, fun H6 e6 t6 => ?_⟩
    replace Fo := nvE Fo (low_ext e6)
    replace Fl := nvE Fl (low_ext e6)
    replace Fp := nvE Fp (low_ext e6)
    replace Fb := bvE Fb (low_ext e6)
    replace Fu := uvE Fu (low_ext e6)
    have X6 : ExtN (wo H g) H6 := X5.trans (low_ext e6)
    replace bag := bag_ext bagH5 e6
    clear e6 hT bagH5 X5
    obtain ⟨kl, hkl⟩ := Fl.kd
    refine ⟨_, rfl, .inr ⟨_, kl, rfl, hkl, Fl.no, ret_num Fl.shows fun H7 z s7 _ hz => ⟨by show 1 ≤ sizeLine; decide, fun p fp => ?_⟩⟩⟩
    clear hkl
    have o1 := On.first (t6.ext s7) hz fp
    replace Fo := nvE Fo (ext_same s7)
    replace Fl := nvE Fl (ext_same s7)
    replace Fp := nvE Fp (ext_same s7)
    replace Fb := bvE Fb (ext_same s7)
    replace Fu := uvE Fu (ext_same s7)
    replace X6 := X6.trans (ext_same s7)
    replace bag := bag_ext bag (ext_same s7)
    generalize upd H7 p _ = H8 at o1 ⊢
    clear s7 t6 hz fp
    have zero : ∀ H' : Hp, Shows K H' (.int 0) "0" := fun H' => ⟨_, .inl ⟨.int 0, by decide +kernel⟩, by decide +kernel, by decide +kernel, by decide +kernel⟩
    refine stepW (o := some ["refused", "number", tp]) o1 rfl (by show 1 < 100; decide) (fun H4 e4 Q' q' => ?_) (fun H9 o2 => ?_)
    · have E := o1.ext.trans e4
      exact let ⟨n1, h1⟩ := (nvE Fp E).kd; let ⟨n2, h2⟩ := (nvE Fo E).kd; ⟨_, rfl, _, rfl, .inr ⟨_, n1, _, n2, rfl, h1, h2, .inl ⟨Fp.no, ret_num (nvE Fp E).shows q'⟩⟩⟩
    refine stepW (o := some ["refused", "number", to]) o2 rfl (by show 2 < 100; decide) (fun H4 e4 Q' q' => ?_) (fun H10 o3 => ?_)
    · have E := o2.ext.trans e4
      exact let ⟨n2, h2⟩ := (nvE Fo E).kd; ⟨_, rfl, .inr ⟨_, _, _, n2, rfl, .int 3, h2, .inr ⟨by decide +kernel, isD_no Fo.no, ret_num (nvE Fo E).shows q'⟩⟩⟩
    refine stepW (o := some ["refused", "number", tp]) o3 rfl (by show 3 < 100; decide) (fun H4 e4 Q' q' => ?_) (fun H11 o4 => ?_)
    · have E := o3.ext.trans e4
      exact let ⟨n1, h1⟩ := (nvE Fp E).kd; ⟨_, rfl, .inr ⟨_, n1, _, _, rfl, h1, .int 0, .inl ⟨Fp.no, ret_num (nvE Fp E).shows q'⟩⟩⟩
    refine stepW (o := some ["refused", "number", "0"]) o4 rfl (by show 4 < 100; decide) (fun H4 e4 Q' q' => ?_) (fun H12 o5 => ?_)
    · have E := o4.ext.trans e4
      exact .inr ⟨_, _, _, _, rfl, .int 2, .int 0, .inr ⟨by decide +kernel, by decide +kernel, ret_num (fun H' _ => zero H') q'⟩⟩
    refine stepW (o := some ["refused", "number", to]) o5 rfl (by show 5 < 100; decide) (fun H4 e4 Q' q' => ?_) (fun H13 o6 => ?_)
    · have E := o5.ext.trans e4
      exact let ⟨n2, h2⟩ := (nvE Fo E).kd; ⟨_, rfl, .inr ⟨_, n2, _, _, rfl, h2, .int 0, .inl ⟨Fo.no, ret_num (nvE Fo E).shows q'⟩⟩⟩
    refine stepW (o := some ["refused", "number", to]) o6 rfl (by show 6 < 100; decide) (fun H4 e4 Q' q' => ?_) (fun H14 o7 => ?_)
    · have E := o6.ext.trans e4
      exact let ⟨n2, h2⟩ := (nvE Fo E).kd; ⟨_, rfl, .inr ⟨_, _, _, n2, rfl, .int 1, h2, .inr ⟨by decide +kernel, isD_no Fo.no, ret_num (nvE Fo E).shows q'⟩⟩⟩
    refine stepW (o := some ["refused", "number", "0"]) o7 rfl (by show 7 < 100; decide) (fun H4 e4 Q' q' => ?_) (fun H15 o8 => ?_)
    · have E := o7.ext.trans e4
      exact .inr ⟨_, _, _, _, rfl, .int 1, .int 0, .inr ⟨by decide +kernel, by decide +kernel, ret_num (fun H' _ => zero H') q'⟩⟩
    have ok8 : ∀ o ∈ ([some ["refused", "number", tl], some ["refused", "number", tp], some ["refused", "number", to], some ["refused", "number", tp], some ["refused", "number", "0"], some ["refused", "number", to], some ["refused", "number", to], some ["refused", "number", "0"]] : List (Option (List Str))), okI o := by
      intro o ho
      simp only [List.mem_cons, List.not_mem_nil, or_false] at ho
      have w1 : PyData.strOk "refused" = true := by decide +kernel
      have w2 : PyData.strOk "number" = true := by decide +kernel
      have w3 : PyData.strOk "0" = true := by decide +kernel
      rcases ho with rfl | rfl | rfl | rfl | rfl | rfl | rfl | rfl <;>
      · intro z hz
        simp only [List.mem_cons, List.not_mem_nil, or_false] at hz
        rcases hz with rfl | rfl | rfl <;> first | exact w1 | exact w2 | exact w3 | exact Fo.ok | exact Fl.ok | exact Fp.ok
    refine ⟨_, rfl, ?_⟩
    refine ⟨_, rfl, _, rfl, _, rfl, _, rfl, _, rfl, _, rfl, ?_⟩
    refine ⟨by show 8 ≤ sizeLine; decide, fun l fl => ?_⟩
    have o9 := o8.same (same_new fl (o := .lst [vl, vp, vo, vp, .int 0, vo, vo, .int 0]))
    have el : (upd H15 l (.lst [vl, vp, vo, vp, .int 0, vo, vo, .int 0])) l = some (.lst [vl, vp, vo, vp, .int 0, vo, vo, .int 0]) := upd_same
    generalize upd H15 l _ = HL at o9 el ⊢
    have texts : ∀ (H' : Hp), Same HL H' → ∀ (i : Nat) (x : V), [vl, vp, vo, vp, .int 0, vo, vo, .int 0][i]? = some x → ∃ t, ([tl, tp, to, tp, "0", to, to, "0"] : List Str)[i]? = some t ∧ ∃ d, Dq K H' x d ∧ d.showable = true ∧ d.shown.length ≤ 900 ∧ d.shown = t := by
      intro H' s' i x hx
      have E := o9.ext.trans (ext_same s')
      have fo := (nvE Fo E).shows H' (Same.refl _)
      have fl := (nvE Fl E).shows H' (Same.refl _)
      have fp := (nvE Fp E).shows H' (Same.refl _)
      have f0 := zero H'
      match i, hx with
      | 0, hx => cases hx; exact ⟨_, rfl, fl⟩
      | 1, hx => cases hx; exact ⟨_, rfl, fp⟩
      | 2, hx => cases hx; exact ⟨_, rfl, fo⟩
      | 3, hx => cases hx; exact ⟨_, rfl, fp⟩
      | 4, hx => cases hx; exact ⟨_, rfl, f0⟩
      | 5, hx => cases hx; exact ⟨_, rfl, fo⟩
      | 6, hx => cases hx; exact ⟨_, rfl, fo⟩
      | 7, hx => cases hx; exact ⟨_, rfl, f0⟩
    refine ⟨l, rfl, ⟨_, .inl (.inl el)⟩, fun D nD => ?_⟩
    refine lc_list (K := K) (a := l) (xs := [vl, vp, vo, vp, .int 0, vo, vo, .int 0]) (Pv := fun i H' => Same HL H' ∧ ∃ vs, H' D = some (.lst vs) ∧ DpAll K (wo H' D) vs (((([tl, tp, to, tp, "0", to, to, "0"] : List Str).map fun t => (some ["refused", "number", t] : Option (List Str))).take i).map dI))
      ⟨same_new nD, [], upd_same, .nil⟩ (fun i H' _ e => .inl (.inl (e.1 _ _ el))) ?_ ?_
    · rintro i x H' hx ⟨s', vs, hD, hd⟩
      obtain ⟨t, ht, d, dq, sh, sz, rfl⟩ := texts H' s' i x hx
      refine ⟨wipe_one, yes_ ?_⟩
      refine ⟨_, rfl, x, d, rfl, dq, sh, Nat.le_trans sz (by decide), by show 3 ≤ sizeLine; decide, fun u fu => ?_⟩
      have uD : u ≠ D := by
        rintro rfl
        rw [hD] at fu
        cases fu
      have s2 := same_new fu (o := .tup [.str "refused", .str "number", .str d.shown])
      have i8 : i < 8 := (List.getElem?_eq_some_iff.mp hx).1
      refine ⟨vs, s2 _ _ hD, ?_, ?_, vs ++ [.ref u], upd_same, ?_⟩
      · rw [dps_len hd, List.length_map, List.length_take, sizeLine_eq]
        omega
      · intro b o e
        rw [upd_ne (ne_of_none e nD)]
        exact s2 _ _ (s' _ _ e)
      · rw [wo_upd, List.take_add_one, List.getElem?_map, ht, List.map_append]
        refine dps_app (dpsE (wo_ext1 (ext_same s2)) _ _ hd) (.tup (.inl (.inl ?_)) (dp_strs ["refused", "number", d.shown]))
        rw [wo_ne uD]
        exact upd_same
    rintro H' ⟨s', vs, hD, hd⟩
    have oA := o9.same s'
    refine ⟨dW [some ["refused", "number", tl], some ["refused", "number", tp], some ["refused", "number", to], some ["refused", "number", tp], some ["refused", "number", "0"], some ["refused", "number", to], some ["refused", "number", to], some ["refused", "number", "0"]], dW [some ["refused", "number", tl], some ["refused", "number", tp], some ["refused", "number", to], some ["refused", "number", tp], some ["refused", "number", "0"], some ["refused", "number", to], some ["refused", "number", to], some ["refused", "number", "0"]], oA.dp, dp_list hD (dpsE (fun b o h _ => (wo_some h).2) _ _ hd), shapedW _ ok8, shapedW _ ok8, ?_⟩
    refine ⟨_, rfl, ?_⟩
    refine ifF ?_ ?_
    · rw [show PyData.eqv (dW [some ["refused", "number", tl], some ["refused", "number", tp], some ["refused", "number", to], some ["refused", "number", tp], some ["refused", "number", "0"], some ["refused", "number", to], some ["refused", "number", to], some ["refused", "number", "0"]]) (dW [some ["refused", "number", tl], some ["refused", "number", tp], some ["refused", "number", to], some ["refused", "number", tp], some ["refused", "number", "0"], some ["refused", "number", to], some ["refused", "number", to], some ["refused", "number", "0"]]) = true from eqvW _]
      rfl
    have EA := oA.ext
    have TA := oA.tab
    replace Fb := bvE Fb EA
    replace Fu := uvE Fu EA
    replace X6 := X6.trans EA
    replace bag := bag_ext bag EA
    clear EA oA o9 hD hd s' nD texts el fl o8 o7 o6 o5 o4 o3 o2 o1 ok8 zero Fo Fl Fp
    refine ⟨TA, fun I6 e6 t6 => ?_⟩
    replace Fb := bvE Fb e6
    replace Fu := uvE Fu e6
    replace X6 := X6.trans e6
    replace bag := bag_ext bag e6
    clear e6 TA
    obtain ⟨ob, rvb, nob⟩ := id Fb
    refine ⟨_, rfl, .inr ⟨_, ob, rfl, rvb, nob, ret_op fun I7 z s7 _ hz => ⟨by show 1 ≤ sizeLine; decide, fun p2 fp => ?_⟩⟩⟩
    clear rvb
    have o1 := On.first (t6.ext s7) hz fp
    replace Fb := bvE Fb (ext_same s7)
    replace Fu := uvE Fu (ext_same s7)
    replace X6 := X6.trans (ext_same s7)
    replace bag := bag_ext bag (ext_same s7)
    generalize upd I7 p2 _ = I8 at o1 ⊢
    clear s7 t6 hz fp
    refine stepW (o := some ["refused", "operation"]) o1 rfl (by show 1 < 100; decide) (fun H4 e4 Q' q' => ?_) (fun I9 o2 => ?_)
    · have E := o1.ext.trans e4
      exact let ⟨ob, rvb, nob⟩ := bvE Fb E; ⟨_, rfl, .inr ⟨_, rfl, ret_op q', .inl ⟨ob, rvb, nob⟩⟩⟩
    refine stepW (o := some ["refused", "operation"]) o2 rfl (by show 2 < 100; decide) (fun H4 e4 Q' q' => ?_) (fun I10 o3 => ?_)
    · have E := o2.ext.trans e4
      exact let ⟨a, ns, ea, iv, no⟩ := uvE Fu E; ⟨_, rfl, .inr ⟨_, rfl, ret_op q', .inr ⟨a, ns, ea, iv, no⟩⟩⟩
    refine stepW (o := none) o3 rfl (by show 3 < 100; decide) (fun H4 e4 Q' q' => ?_) (fun I11 o4 => ?_)
    · have E := o3.ext.trans e4
      exact let ⟨a, ns, ea, iv, no⟩ := uvE Fu E; ⟨_, rfl, .inl ⟨a, ns, by rw [ea], iv, fun H' s => ret_fine q' s⟩⟩
    refine ⟨_, rfl, ?_⟩
    refine ⟨by show 2 ≤ sizeLine; decide, fun t0 f0 => ?_⟩
    have o5 := o4.same (same_new f0 (o := .tup [.str "refused", .str "operation"]))
    have et : (upd I11 t0 (.tup [.str "refused", .str "operation"])) t0 = some (.tup [.str "refused", .str "operation"]) := upd_same
    generalize upd I11 t0 _ = J1 at o5 et ⊢
    refine ⟨by show 1 ≤ sizeLine; decide, fun r0 f1 => ?_⟩
    refine ⟨r0, 3, _, rfl, rfl, upd_same, by decide, by decide, by show 1 * 3 ≤ sizeLine; decide, fun r1 f2 => ?_⟩
    have s2 := (same_new f1 (o := .lst [.ref t0])).trans (same_new f2 (o := .lst (List.replicate (Int.toNat 3) [V.ref t0]).flatten))
    have e1 : (upd (upd J1 r0 (.lst [.ref t0])) r1 (.lst (List.replicate (Int.toNat 3) [V.ref t0]).flatten)) r1 = some (.lst [.ref t0, .ref t0, .ref t0]) := upd_same
    generalize upd (upd J1 r0 _) r1 _ = J2 at s2 e1 ⊢
    refine ⟨by show 1 ≤ sizeLine; decide, fun r2 f3 => ?_⟩
    have s3 := same_new f3 (o := .lst [.str "fine"])
    refine ⟨r1, r2, _, _, rfl, rfl, s3 _ _ e1, upd_same, by show 3 + 1 ≤ sizeLine; decide, fun r3 f4 => ?_⟩
    have s4 := (s2.trans s3).trans (same_new f4 (o := .lst ([.ref t0, .ref t0, .ref t0] ++ [.str "fine"])))
    have e4 : (upd (upd J2 r2 (.lst [.str "fine"])) r3 (.lst ([.ref t0, .ref t0, .ref t0] ++ [.str "fine"]))) r3 = some (.lst [.ref t0, .ref t0, .ref t0, .str "fine"]) := upd_same
    generalize upd (upd J2 r2 _) r3 _ = J3 at s4 e4 ⊢
    have o6 := o5.same s4
    have dt : Dp K J3 (.ref t0) (dI (some ["refused", "operation"])) := .tup (.inl (.inl (s4 _ _ et))) (dp_strs ["refused", "operation"])
    refine ⟨dW [some ["refused", "operation"], some ["refused", "operation"], some ["refused", "operation"], none], dW [some ["refused", "operation"], some ["refused", "operation"], some ["refused", "operation"], none], o6.dp, dp_list e4 (.cons dt (.cons dt (.cons dt (.cons (.str _) .nil)))), by decide +kernel, by decide +kernel, ?_⟩
    rw [show PyData.eqv (dW [some ["refused", "operation"], some ["refused", "operation"], some ["refused", "operation"], none]) (dW [some ["refused", "operation"], some ["refused", "operation"], some ["refused", "operation"], none]) = true from eqvW _]
    exact q _ (X6.trans o6.ext) (bag_ext bag o6.ext) o6.tab
end
end K03


set_option Elab.async false
set_option linter.all false
set_option maxRecDepth 100000
set_option maxHeartbeats 4000000
namespace K03
open PySem PySem.Spec PyProof.Rows L2 MM LamX
/-! own words for the readings: a step, its side -/
local macro_rules | `(tactic| walk_at "side") => `(tactic| first
  | omega
  | exact ⟨by omega, by omega⟩
  | exact Or.inl ⟨by omega, by omega⟩
  | exact Or.inr ⟨by omega, by omega⟩
  | (show CPw _ _; decide +kernel)
  | (show (0 : Int) < _; decide +kernel)
  | (show CDivW _ _; first | assumption | exact ⟨by decide, by decide +kernel⟩))
local macro_rules | `(tactic| walk_at "here") => `(tactic| first
  | assumption
  | exact upd_same
  | exact Or.inl (Or.inl upd_same)
  | exact Or.inl upd_same)
local macro_rules | `(tactic| walk_at "one") => `(tactic| first
  | refine ⟨_, rfl, ?_⟩
  | refine Or.inl ⟨_, rfl, ?_⟩
  | refine Or.inr ⟨_, rfl, ?_⟩
  | refine ⟨_, _, rfl, rfl, (by walk_at "side"), ?_⟩
  | refine ⟨_, _, rfl, rfl, ?_⟩
  | refine ⟨_, _, rfl, Or.inl (by walk_at "here"), ?_⟩
  | refine ⟨_, _, rfl, Or.inr (by walk_at "here"), ?_⟩
  | refine ⟨_, _, rfl, (by walk_at "here"), ?_⟩
  | refine ⟨_, _, _, _, rfl, rfl, (by walk_at "here"), rfl, ?_⟩
  | refine ⟨_, _, rfl, ?_⟩
  | refine ifT (by rfl) ?_
  | refine ifF (by rfl) ?_
  | refine ifT (decide_eq_true (by omega)) ?_
  | refine ifF (decide_eq_false (by omega)) ?_)
local macro_rules | `(tactic| walk_at "st") => `(tactic| repeat (walk_at "one"))

section
variable {P : Program} {w : World} {K : PySem.W.Frag} {mg : Str → Option Value} {base : Heap}
/-- no table -/
def XV (K : PySem.W.Frag) (H : Hp) (v : V) : Prop := ∃ t, Tv K H v t ∧ isTab t = false
theorem xvE {H H' : Hp} {v : V} (h : XV K H v) (e : ExtN H H') : XV K H' v := let ⟨t, a, b⟩ := h; ⟨t, tvE a e, b⟩
/-- a table -/
theorem goodE {H H' : Hp} {v : V} (h : GoodT K H v) (e : ExtN H H') : GoodT K H' v := let ⟨t, a, b⟩ := h; ⟨t, tvE a e, b⟩
theorem rep_rv {H : Hp} {x : V} {o : Option (List V)} (h : Rv K H x o) : ∀ k : Nat, Paired (fun u o => Rv K H u o) (List.replicate k [x]).flatten (List.replicate k o)
  | 0 => .nil
  | k + 1 => .cons h (rep_rv h k)
theorem noneV {H : Hp} {au1 au2 au3 au4 au5 au6 au7 au8 au9 au10 au11 au12 au13 au14 au15 au16 au17 au18 au19 au20 au21 au22 au23 au24 : Addr} {v : V} (h : v ∈ [.non, .int 0, .ref au1, .ref au3, .ref au5, .ref au8, .ref au10, .ref au12, .ref au15, .ref au17, .ref au20, .ref au23, .ref au24]) (e_au1 : H au1 = some (.tup [])) (e_au2 : H au2 = some (.tup [])) (e_au3 : H au3 = some (.tup [.ref au2])) (e_au4 : H au4 = some (.lst [.int 1])) (e_au5 : H au5 = some (.lst [.ref au4])) (e_au6 : H au6 = some (.tup [.int 1, .int 2])) (e_au7 : H au7 = some (.tup [.int 3])) (e_au8 : H au8 = some (.tup [.ref au6, .ref au7])) (e_au9 : H au9 = some (.tup [.bl true])) (e_au10 : H au10 = some (.tup [.ref au9])) (e_au11 : H au11 = some (.tup [.str "1"])) (e_au12 : H au12 = some (.tup [.ref au11])) (e_au13 : H au13 = some (.tup [.int 1])) (e_au14 : H au14 = some (.lst [.int 1])) (e_au15 : H au15 = some (.tup [.ref au13, .ref au14])) (e_au16 : H au16 = some (.tup [.int (10 ^ 60)])) (e_au17 : H au17 = some (.tup [.ref au16])) (e_au18 : H au18 = some (.tup [.int 1])) (e_au19 : H au19 = some (.tup (List.replicate (Int.toNat 61) [.int 1]).flatten)) (e_au20 : H au20 = some (.tup [.ref au19])) (e_au21 : H au21 = some (.tup [.int 1])) (e_au22 : H au22 = some (.tup [.ref au21])) (e_au23 : H au23 = some (.tup (List.replicate (Int.toNat 61) [.ref au21]).flatten)) (e_au24 : H au24 = some (.dK [])) : XV K H v := by
  simp only [List.mem_cons, List.not_mem_nil, or_false] at h
  rcases h with rfl | rfl | rfl | rfl | rfl | rfl | rfl | rfl | rfl | rfl | rfl | rfl | rfl
  · exact ⟨none, .no (.non) rfl, rfl⟩
  · exact ⟨none, .no (.int _) rfl, rfl⟩
  · exact ⟨_, .yes (.inl (.inl e_au1)) .nil, by decide +kernel⟩
  · exact ⟨_, .yes (.inl (.inl e_au3)) (.cons (.yes (.inl (.inl e_au2)) (fun y hy => nomatch hy)) .nil), by decide +kernel⟩
  · exact ⟨none, .no (.lst (.inl (.inl e_au5))) rfl, rfl⟩
  · exact ⟨_, .yes (.inl (.inl e_au8)) (.cons (.yes (.inl (.inl e_au6)) (fun y hy => by
      simp only [List.mem_cons, List.not_mem_nil, or_false] at hy
      rcases hy with rfl | rfl
      · exact ⟨_, .int _⟩
      · exact ⟨_, .int _⟩)) (.cons (.yes (.inl (.inl e_au7)) (fun y hy => by
      simp only [List.mem_cons, List.not_mem_nil, or_false] at hy
      rcases hy with rfl
      · exact ⟨_, .int _⟩)) .nil)), by decide +kernel⟩
  · exact ⟨_, .yes (.inl (.inl e_au10)) (.cons (.yes (.inl (.inl e_au9)) (fun y hy => by
      simp only [List.mem_cons, List.not_mem_nil, or_false] at hy
      rcases hy with rfl
      · exact ⟨_, .bl _⟩)) .nil), by decide +kernel⟩
  · exact ⟨_, .yes (.inl (.inl e_au12)) (.cons (.yes (.inl (.inl e_au11)) (fun y hy => by
      simp only [List.mem_cons, List.not_mem_nil, or_false] at hy
      rcases hy with rfl
      · exact ⟨_, .str _⟩)) .nil), by decide +kernel⟩
  · exact ⟨_, .yes (.inl (.inl e_au15)) (.cons (.yes (.inl (.inl e_au13)) (fun y hy => by
      simp only [List.mem_cons, List.not_mem_nil, or_false] at hy
      rcases hy with rfl
      · exact ⟨_, .int _⟩)) (.cons (.no (.lst (.inl (.inl e_au14))) rfl) .nil)), by decide +kernel⟩
  · exact ⟨_, .yes (.inl (.inl e_au17)) (.cons (.yes (.inl (.inl e_au16)) (fun y hy => by
      simp only [List.mem_cons, List.not_mem_nil, or_false] at hy
      rcases hy with rfl
      · exact ⟨_, .int _⟩)) .nil), by decide +kernel⟩
  · exact ⟨_, .yes (.inl (.inl e_au20)) (.cons (.yes (.inl (.inl e_au19)) (fun y hy => ⟨.int, by rw [rep_mem hy]; exact .int _⟩)) .nil), by decide +kernel⟩
  · exact ⟨_, .yes (.inl (.inl e_au23)) (rep_rv (.yes (.inl (.inl e_au21)) (fun y hy => by
      simp only [List.mem_cons, List.not_mem_nil, or_false] at hy
      rcases hy with rfl
      · exact ⟨_, .int _⟩)) 61), by decide +kernel⟩
  · exact ⟨none, .no (.dct e_au24) rfl, rfl⟩
def spTablesR (K : PySem.W.Frag) : Sp := fun vs H Q _ => ∃ (g : Addr), vs = [.ref g] ∧ BagAt H g ∧ Tabs (TL K) H ∧ ∀ H', ExtN (wo H g) H' → BagAt H' g → Tabs (TL K) H' → Q (.bl true) H'
/-- two rows of integers -/
structure Two (K : PySem.W.Frag) (H : Hp) (a b c : Addr) (xs ys : List Int) : Prop where
  top : SqT K H a [.ref b, .ref c]
  one : SqT K H b (xs.map V.int)
  two : SqT K H c (ys.map V.int)
theorem twoE {H H' : Hp} {a b c : Addr} {xs ys : List Int} (h : Two K H a b c xs ys) (e : ExtN H H') : Two K H' a b c xs ys := ⟨sqtE h.top e, sqtE h.one e, sqtE h.two e⟩
theorem Two.good {H : Hp} {a b c : Addr} {xs ys : List Int} (h : Two K H a b c xs ys) (ok : isTab (some [some (xs.map V.int), some (ys.map V.int)]) = true) : GoodT K H (.ref a) := by
  have row : ∀ {d : Addr} {zs : List Int}, SqT K H d (zs.map V.int) → Rv K H (.ref d) (some (zs.map V.int)) := fun S => .yes S fun y hy => by
    obtain ⟨i, _, rfl⟩ := List.mem_map.mp hy
    exact ⟨_, .int i⟩
  exact ⟨_, .yes h.top (.cons (row h.one) (.cons (row h.two) .nil)), ok⟩
theorem Two.rows {H : Hp} {a b c : Addr} {xs ys : List Int} {m : Nat} (h : Two K H a b c xs ys) (l1 : xs.length = m) (l2 : ys.length = m) (s1 : Sm xs) (s2 : Sm ys) : RowsT K H [.ref b, .ref c] m := by
  intro v hv
  simp only [List.mem_cons, List.not_mem_nil, or_false] at hv
  rcases hv with rfl | rfl
  · exact ⟨b, xs, rfl, h.one, l1, s1⟩
  · exact ⟨c, ys, rfl, h.two, l2, s2⟩
theorem scTablesRightL : FnScope ["_law_bag_here", "_law_none", "_law_wide", "_law_square", "_law_told"] ["_law_bag_here"] (defScope sTablesRightL) :=
  ⟨rfl, rfl, rfl, by decide +kernel, rfl, by decide +kernel, by decide +kernel⟩
theorem dTablesRightL (T : Tx K mg) (Y : Ex K mg) (TB : Tb K mg base) (DOneOfL : Def P w K mg base CX0 2 "_law_one_of" ["_law_bag_here", "_law_items"] (spOneOf K)) (CDeterminant : Def P w K mg base (L2.CX P w) 6 "determinant" ["table"] (spDetX K)) (CRank : Def P w K mg base (L2.CX P w) 6 "rank" ["table"] (spTabX K)) (CKernel : Def P w K mg base (L2.CX P w) 6 "kernel" ["table"] (spTabX K)) (CElementaryDivisors : Def P w K mg base (L2.CX P w) 6 "elementary_divisors" ["table"] (spTabX K)) (CTableProduct : Def P w K mg base (L2.CX P w) 6 "table_product" ["one", "other"] (orS (spProd0 K) (spProdX K))) : Def P w K mg base CX0 9 "_law_tables_right" ["_law_bag_here"] (spTablesR K) := by
  refine defC T.t_law_tables_right (N := ["_law_bag_here", "_law_none", "_law_wide", "_law_square", "_law_told"]) scTablesRightL (fun _ _ _ _ _ _ us hl => match us, hl with | [_], _ => rfl) ?_ ?_
  · intro vs H Q E h
    obtain ⟨g, rfl, _⟩ := h
    rfl
  · intro f cd A out s H vs Q E ec hr h
    subst ec
    have hr1 : Rm 2 _ := hr.le (by decide)
    obtain ⟨g, rfl, bag, hT, q⟩ := h
    refine ⟨_, (pss_cons (ps_set (i := 1) scTablesRightL.nd rfl (Or.inr rfl) (pe_d DOneOfL (hr1.le (by decide)) pass0 (pa_cons (pv 0) (pa_cons (pe_lst (pa_cons pe_non (pa_cons pe_int (pa_cons (pe_tup pa_nil) (pa_cons (pe_tup (pa_cons (pe_tup pa_nil) pa_nil)) (pa_cons (pe_lst (pa_cons (pe_lst (pa_cons pe_int pa_nil)) pa_nil)) (pa_cons (pe_tup (pa_cons (pe_tup (pa_cons pe_int (pa_cons pe_int pa_nil))) (pa_cons (pe_tup (pa_cons pe_int pa_nil)) pa_nil))) (pa_cons (pe_tup (pa_cons (pe_tup (pa_cons pe_bl pa_nil)) pa_nil)) (pa_cons (pe_tup (pa_cons (pe_tup (pa_cons pe_str pa_nil)) pa_nil)) (pa_cons (pe_tup (pa_cons (pe_tup (pa_cons pe_int pa_nil)) (pa_cons (pe_lst (pa_cons pe_int pa_nil)) pa_nil))) (pa_cons (pe_tup (pa_cons (pe_tup (pa_cons (pe_op op_pw pe_int pe_int) pa_nil)) pa_nil)) (pa_cons (pe_tup (pa_cons (pe_op op_repW (pe_tup (pa_cons pe_int pa_nil)) pe_int) pa_nil)) (pa_cons (pe_op op_repW (pe_tup (pa_cons (pe_tup (pa_cons pe_int pa_nil)) pa_nil)) pe_int) (pa_cons pe_dnewK pa_nil)))))))))))))) pa_nil))))
      (pss_cons (ps_asg (pe_tup (pa_cons (pe_tup (pa_cons (pe_tup (pa_cons pe_int (pa_cons pe_int (pa_cons pe_int pa_nil)))) (pa_cons (pe_tup (pa_cons pe_int (pa_cons pe_int (pa_cons pe_int pa_nil)))) pa_nil))) (pa_cons (pe_tup (pa_cons (pe_tup (pa_cons pe_int (pa_cons pe_int pa_nil))) (pa_cons (pe_tup (pa_cons pe_int (pa_cons pe_int pa_nil))) pa_nil))) pa_nil))) (pg_tup rfl (pgs_cons (pg_name (i := 2) scTablesRightL.nd rfl (Or.inr rfl)) (pgs_cons (pg_name (i := 3) scTablesRightL.nd rfl (Or.inr rfl)) pgs_nil))))
      (pss_cons (ps_set (i := 4) scTablesRightL.nd rfl (Or.inl rfl) (pe_lst (pa_cons (ME.pe_lam (T := TL K) (TT := TTW K) (k := 6) (t := fun E1 => (ME.tDS (spDetX K) (fun _ => E1) (tCons (tVar 1) tNil))) T.t_law_word (fun _ _ _ _ _ _ us hl => match us, hl with | [_], _ => rfl) scWord rfl (Or.inl rfl) (fun g cd => word_gives (k := 1) T Y (hr.le (by decide))) TB.t2 rfl m2 TB.u2 (hr.le (by decide)) (show LamS _ _ from lamS_by (sc := defScope sTablesRightL) (by decide +kernel)) rfl (fun _ _ _ _ _ => rfl) (fun A1 o1 s1 H1 E1 f1 c1 hr9 => (show PE _ _ (ME.tDS (spDetX K) (fun _ => E1) (tCons (tVar 1) tNil)) from ME.pe_dS CDeterminant (hr9.le (by decide)) (passAt (takes_of rfl rfl rfl rfl)) (pa_cons (pv 1) pa_nil)))) pa_nil)))
      (pss_cons (ps_expr (pe_bm PySem.F.plainAttrs_list PySem.F.slot_list_append PySem.F.type_list_append mt_append (pv 4) (pa_cons (ME.pe_lam (T := TL K) (TT := TTW K) (k := 6) (t := fun E1 => (ME.tDS (spTabX K) (fun _ => E1) (tCons (tVar 1) tNil))) T.t_law_word (fun _ _ _ _ _ _ us hl => match us, hl with | [_], _ => rfl) scWord rfl (Or.inl rfl) (fun g cd => word_gives (k := 1) T Y (hr.le (by decide))) TB.t2 rfl m2 TB.u2 (hr.le (by decide)) (show LamS _ _ from lamS_by (sc := defScope sTablesRightL) (by decide +kernel)) rfl (fun _ _ _ _ _ => rfl) (fun A1 o1 s1 H1 E1 f1 c1 hr9 => (show PE _ _ (ME.tDS (spTabX K) (fun _ => E1) (tCons (tVar 1) tNil)) from ME.pe_dS CRank (hr9.le (by decide)) (passAt (takes_of rfl rfl rfl rfl)) (pa_cons (pv 1) pa_nil)))) pa_nil)))
      (pss_cons (ps_expr (pe_bm PySem.F.plainAttrs_list PySem.F.slot_list_append PySem.F.type_list_append mt_append (pv 4) (pa_cons (ME.pe_lam (T := TL K) (TT := TTW K) (k := 6) (t := fun E1 => (ME.tDS (spTabX K) (fun _ => E1) (tCons (tVar 1) tNil))) T.t_law_word (fun _ _ _ _ _ _ us hl => match us, hl with | [_], _ => rfl) scWord rfl (Or.inl rfl) (fun g cd => word_gives (k := 1) T Y (hr.le (by decide))) TB.t2 rfl m2 TB.u2 (hr.le (by decide)) (show LamS _ _ from lamS_by (sc := defScope sTablesRightL) (by decide +kernel)) rfl (fun _ _ _ _ _ => rfl) (fun A1 o1 s1 H1 E1 f1 c1 hr9 => (show PE _ _ (ME.tDS (spTabX K) (fun _ => E1) (tCons (tVar 1) tNil)) from ME.pe_dS CKernel (hr9.le (by decide)) (passAt (takes_of rfl rfl rfl rfl)) (pa_cons (pv 1) pa_nil)))) pa_nil)))
      (pss_cons (ps_expr (pe_bm PySem.F.plainAttrs_list PySem.F.slot_list_append PySem.F.type_list_append mt_append (pv 4) (pa_cons (ME.pe_lam (T := TL K) (TT := TTW K) (k := 6) (t := fun E1 => (ME.tDS (spTabX K) (fun _ => E1) (tCons (tVar 1) tNil))) T.t_law_word (fun _ _ _ _ _ _ us hl => match us, hl with | [_], _ => rfl) scWord rfl (Or.inl rfl) (fun g cd => word_gives (k := 1) T Y (hr.le (by decide))) TB.t2 rfl m2 TB.u2 (hr.le (by decide)) (show LamS _ _ from lamS_by (sc := defScope sTablesRightL) (by decide +kernel)) rfl (fun _ _ _ _ _ => rfl) (fun A1 o1 s1 H1 E1 f1 c1 hr9 => (show PE _ _ (ME.tDS (spTabX K) (fun _ => E1) (tCons (tVar 1) tNil)) from ME.pe_dS CElementaryDivisors (hr9.le (by decide)) (passAt (takes_of rfl rfl rfl rfl)) (pa_cons (pv 1) pa_nil)))) pa_nil)))
      (pss_cons (ps_expr (pe_bm PySem.F.plainAttrs_list PySem.F.slot_list_append PySem.F.type_list_append mt_append (pv 4) (pa_cons (ME.pe_lam (T := TL K) (TT := TTW K) (k := 6) (t := fun E1 => (ME.tDS (orS (spProd0 K) (spProdX K)) (fun _ => E1) (tCons (tVar 1) (tCons (tVar 1) tNil)))) T.t_law_word (fun _ _ _ _ _ _ us hl => match us, hl with | [_], _ => rfl) scWord rfl (Or.inl rfl) (fun g cd => word_gives (k := 1) T Y (hr.le (by decide))) TB.t2 rfl m2 TB.u2 (hr.le (by decide)) (show LamS _ _ from lamS_by (sc := defScope sTablesRightL) (by decide +kernel)) rfl (fun _ _ _ _ _ => rfl) (fun A1 o1 s1 H1 E1 f1 c1 hr9 => (show PE _ _ (ME.tDS (orS (spProd0 K) (spProdX K)) (fun _ => E1) (tCons (tVar 1) (tCons (tVar 1) tNil))) from ME.pe_dS CTableProduct (hr9.le (by decide)) (passAt (takes_of rfl rfl rfl rfl)) (pa_cons (pv 1) (pa_cons (pv 1) pa_nil))))) pa_nil)))
      (pss_cons (ps_expr (pe_bm PySem.F.plainAttrs_list PySem.F.slot_list_append PySem.F.type_list_append mt_append (pv 4) (pa_cons (ME.pe_lam (T := TL K) (TT := TTW K) (k := 6) (t := fun E1 => (ME.tDS (orS (spProd0 K) (spProdX K)) (fun _ => E1) (tCons (tVar 2) (tCons (tVar 1) tNil)))) T.t_law_word (fun _ _ _ _ _ _ us hl => match us, hl with | [_], _ => rfl) scWord rfl (Or.inl rfl) (fun g cd => word_gives (k := 1) T Y (hr.le (by decide))) TB.t2 rfl m2 TB.u2 (hr.le (by decide)) (show LamS _ _ from lamS_by (sc := defScope sTablesRightL) (by decide +kernel)) rfl (fun _ _ _ _ _ => rfl) (fun A1 o1 s1 H1 E1 f1 c1 hr9 => (show PE _ _ (ME.tDS (orS (spProd0 K) (spProdX K)) (fun _ => E1) (tCons (tVar 2) (tCons (tVar 1) tNil))) from ME.pe_dS CTableProduct (hr9.le (by decide)) (passAt (takes_of rfl rfl rfl rfl)) (pa_cons (pv 2) (pa_cons (pv 1) pa_nil))))) pa_nil)))
      (pss_cons (ps_expr (pe_bm PySem.F.plainAttrs_list PySem.F.slot_list_append PySem.F.type_list_append mt_append (pv 4) (pa_cons (ME.pe_lam (T := TL K) (TT := TTW K) (k := 6) (t := fun E1 => (ME.tDS (orS (spProd0 K) (spProdX K)) (fun _ => E1) (tCons (tVar 1) (tCons (tVar 2) tNil)))) T.t_law_word (fun _ _ _ _ _ _ us hl => match us, hl with | [_], _ => rfl) scWord rfl (Or.inl rfl) (fun g cd => word_gives (k := 1) T Y (hr.le (by decide))) TB.t2 rfl m2 TB.u2 (hr.le (by decide)) (show LamS _ _ from lamS_by (sc := defScope sTablesRightL) (by decide +kernel)) rfl (fun _ _ _ _ _ => rfl) (fun A1 o1 s1 H1 E1 f1 c1 hr9 => (show PE _ _ (ME.tDS (orS (spProd0 K) (spProdX K)) (fun _ => E1) (tCons (tVar 1) (tCons (tVar 2) tNil))) from ME.pe_dS CTableProduct (hr9.le (by decide)) (passAt (takes_of rfl rfl rfl rfl)) (pa_cons (pv 1) (pa_cons (pv 2) pa_nil))))) pa_nil)))
      (pss_cons (ps_expr (pe_bm PySem.F.plainAttrs_list PySem.F.slot_list_append PySem.F.type_list_append mt_append (pv 4) (pa_cons (ME.pe_lam (T := TL K) (TT := TTW K) (k := 6) (t := fun E1 => (ME.tDS (spDetX K) (fun _ => E1) (tCons (tVar 2) tNil))) T.t_law_word (fun _ _ _ _ _ _ us hl => match us, hl with | [_], _ => rfl) scWord rfl (Or.inl rfl) (fun g cd => word_gives (k := 1) T Y (hr.le (by decide))) TB.t2 rfl m2 TB.u2 (hr.le (by decide)) (show LamS _ _ from lamS_by (sc := defScope sTablesRightL) (by decide +kernel)) rfl (fun _ _ _ _ _ => rfl) (fun A1 o1 s1 H1 E1 f1 c1 hr9 => (show PE _ _ (ME.tDS (spDetX K) (fun _ => E1) (tCons (tVar 2) tNil)) from ME.pe_dS CDeterminant (hr9.le (by decide)) (passAt (takes_of rfl rfl rfl rfl)) (pa_cons (pv 2) pa_nil)))) pa_nil)))
      (pss_cons (ps_expr (pe_bm PySem.F.plainAttrs_list PySem.F.slot_list_append PySem.F.type_list_append mt_append (pv 4) (pa_cons (ME.pe_lam (T := TL K) (TT := TTW K) (k := 6) (t := fun E1 => (ME.tDS (orS (spProd0 K) (spProdX K)) (fun _ => E1) (tCons (tVar 2) (tCons (tVar 3) tNil)))) T.t_law_word (fun _ _ _ _ _ _ us hl => match us, hl with | [_], _ => rfl) scWord rfl (Or.inl rfl) (fun g cd => word_gives (k := 1) T Y (hr.le (by decide))) TB.t2 rfl m2 TB.u2 (hr.le (by decide)) (show LamS _ _ from lamS_by (sc := defScope sTablesRightL) (by decide +kernel)) rfl (fun _ _ _ _ _ => rfl) (fun A1 o1 s1 H1 E1 f1 c1 hr9 => (show PE _ _ (ME.tDS (orS (spProd0 K) (spProdX K)) (fun _ => E1) (tCons (tVar 2) (tCons (tVar 3) tNil))) from ME.pe_dS CTableProduct (hr9.le (by decide)) (passAt (takes_of rfl rfl rfl rfl)) (pa_cons (pv 2) (pa_cons (pv 3) pa_nil))))) pa_nil)))
      (pss_cons (ps_expr (pe_bm PySem.F.plainAttrs_list PySem.F.slot_list_append PySem.F.type_list_append mt_append (pv 4) (pa_cons (ME.pe_lam (T := TL K) (TT := TTW K) (k := 6) (t := fun E1 => (ME.tDS (orS (spProd0 K) (spProdX K)) (fun _ => E1) (tCons (tVar 3) (tCons (tVar 2) tNil)))) T.t_law_word (fun _ _ _ _ _ _ us hl => match us, hl with | [_], _ => rfl) scWord rfl (Or.inl rfl) (fun g cd => word_gives (k := 1) T Y (hr.le (by decide))) TB.t2 rfl m2 TB.u2 (hr.le (by decide)) (show LamS _ _ from lamS_by (sc := defScope sTablesRightL) (by decide +kernel)) rfl (fun _ _ _ _ _ => rfl) (fun A1 o1 s1 H1 E1 f1 c1 hr9 => (show PE _ _ (ME.tDS (orS (spProd0 K) (spProdX K)) (fun _ => E1) (tCons (tVar 3) (tCons (tVar 2) tNil))) from ME.pe_dS CTableProduct (hr9.le (by decide)) (passAt (takes_of rfl rfl rfl rfl)) (pa_cons (pv 3) (pa_cons (pv 2) pa_nil))))) pa_nil)))
      (pss_one (ps_ret (pe_cmpR (op_eqD hr.hu) (pv 4) (pe_op op_cat (pe_op op_cat (pe_op op_rep (pe_lst (pa_cons (pe_tup (pa_cons pe_str (pa_cons pe_str pa_nil))) pa_nil)) pe_int) (pe_op op_rep (pe_lst (pa_cons (pe_tup (pa_cons pe_str (pa_cons pe_str pa_nil))) pa_nil)) pe_int)) (pe_lst (pa_cons pe_str pa_nil))) (nomark _)))))))))))))))), ?_⟩
    obtain ⟨b0, b1, b2, eg⟩ := id bag
    refine ⟨_, rfl, ?_⟩
    refine ⟨by show 0 ≤ sizeLine; decide, fun au1 f_au1 => ?_⟩
    generalize eH : upd H au1 _ = aJ1
    obtain ⟨n_au1, S_au1, e_au1, eg⟩ : au1 ≠ g ∧ Same H aJ1 ∧ aJ1 au1 = some (.tup []) ∧ aJ1 g = some (.lst [.int b0, .int b1, .int b2]) := by
      rw [← eH]
      exact new_obj eg f_au1
    clear eH
    refine ⟨by show 0 ≤ sizeLine; decide, fun au2 f_au2 => ?_⟩
    generalize eH : upd aJ1 au2 _ = aJ2
    obtain ⟨n_au2, S_au2, e_au2, eg⟩ : au2 ≠ g ∧ Same aJ1 aJ2 ∧ aJ2 au2 = some (.tup []) ∧ aJ2 g = some (.lst [.int b0, .int b1, .int b2]) := by
      rw [← eH]
      exact new_obj eg f_au2
    clear eH
    refine ⟨by show 1 ≤ sizeLine; decide, fun au3 f_au3 => ?_⟩
    generalize eH : upd aJ2 au3 _ = aJ3
    obtain ⟨n_au3, S_au3, e_au3, eg⟩ : au3 ≠ g ∧ Same aJ2 aJ3 ∧ aJ3 au3 = some (.tup [.ref au2]) ∧ aJ3 g = some (.lst [.int b0, .int b1, .int b2]) := by
      rw [← eH]
      exact new_obj eg f_au3
    clear eH
    refine ⟨by show 1 ≤ sizeLine; decide, fun au4 f_au4 => ?_⟩
    generalize eH : upd aJ3 au4 _ = aJ4
    obtain ⟨n_au4, S_au4, e_au4, eg⟩ : au4 ≠ g ∧ Same aJ3 aJ4 ∧ aJ4 au4 = some (.lst [.int 1]) ∧ aJ4 g = some (.lst [.int b0, .int b1, .int b2]) := by
      rw [← eH]
      exact new_obj eg f_au4
    clear eH
    refine ⟨by show 1 ≤ sizeLine; decide, fun au5 f_au5 => ?_⟩
    generalize eH : upd aJ4 au5 _ = aJ5
    obtain ⟨n_au5, S_au5, e_au5, eg⟩ : au5 ≠ g ∧ Same aJ4 aJ5 ∧ aJ5 au5 = some (.lst [.ref au4]) ∧ aJ5 g = some (.lst [.int b0, .int b1, .int b2]) := by
      rw [← eH]
      exact new_obj eg f_au5
    clear eH
    refine ⟨by show 2 ≤ sizeLine; decide, fun au6 f_au6 => ?_⟩
    generalize eH : upd aJ5 au6 _ = aJ6
    obtain ⟨n_au6, S_au6, e_au6, eg⟩ : au6 ≠ g ∧ Same aJ5 aJ6 ∧ aJ6 au6 = some (.tup [.int 1, .int 2]) ∧ aJ6 g = some (.lst [.int b0, .int b1, .int b2]) := by
      rw [← eH]
      exact new_obj eg f_au6
    clear eH
    refine ⟨by show 1 ≤ sizeLine; decide, fun au7 f_au7 => ?_⟩
    generalize eH : upd aJ6 au7 _ = aJ7
    obtain ⟨n_au7, S_au7, e_au7, eg⟩ : au7 ≠ g ∧ Same aJ6 aJ7 ∧ aJ7 au7 = some (.tup [.int 3]) ∧ aJ7 g = some (.lst [.int b0, .int b1, .int b2]) := by
      rw [← eH]
      exact new_obj eg f_au7
    clear eH
    refine ⟨by show 2 ≤ sizeLine; decide, fun au8 f_au8 => ?_⟩
    generalize eH : upd aJ7 au8 _ = aJ8
    obtain ⟨n_au8, S_au8, e_au8, eg⟩ : au8 ≠ g ∧ Same aJ7 aJ8 ∧ aJ8 au8 = some (.tup [.ref au6, .ref au7]) ∧ aJ8 g = some (.lst [.int b0, .int b1, .int b2]) := by
      rw [← eH]
      exact new_obj eg f_au8
    clear eH
    refine ⟨by show 1 ≤ sizeLine; decide, fun au9 f_au9 => ?_⟩
    generalize eH : upd aJ8 au9 _ = aJ9
    obtain ⟨n_au9, S_au9, e_au9, eg⟩ : au9 ≠ g ∧ Same aJ8 aJ9 ∧ aJ9 au9 = some (.tup [.bl true]) ∧ aJ9 g = some (.lst [.int b0, .int b1, .int b2]) := by
      rw [← eH]
      exact new_obj eg f_au9
    clear eH
    refine ⟨by show 1 ≤ sizeLine; decide, fun au10 f_au10 => ?_⟩
    generalize eH : upd aJ9 au10 _ = aJ10
    obtain ⟨n_au10, S_au10, e_au10, eg⟩ : au10 ≠ g ∧ Same aJ9 aJ10 ∧ aJ10 au10 = some (.tup [.ref au9]) ∧ aJ10 g = some (.lst [.int b0, .int b1, .int b2]) := by
      rw [← eH]
      exact new_obj eg f_au10
    clear eH
    refine ⟨by show 1 ≤ sizeLine; decide, fun au11 f_au11 => ?_⟩
    generalize eH : upd aJ10 au11 _ = aJ11
    obtain ⟨n_au11, S_au11, e_au11, eg⟩ : au11 ≠ g ∧ Same aJ10 aJ11 ∧ aJ11 au11 = some (.tup [.str "1"]) ∧ aJ11 g = some (.lst [.int b0, .int b1, .int b2]) := by
      rw [← eH]
      exact new_obj eg f_au11
    clear eH
    refine ⟨by show 1 ≤ sizeLine; decide, fun au12 f_au12 => ?_⟩
    generalize eH : upd aJ11 au12 _ = aJ12
    obtain ⟨n_au12, S_au12, e_au12, eg⟩ : au12 ≠ g ∧ Same aJ11 aJ12 ∧ aJ12 au12 = some (.tup [.ref au11]) ∧ aJ12 g = some (.lst [.int b0, .int b1, .int b2]) := by
      rw [← eH]
      exact new_obj eg f_au12
    clear eH
    refine ⟨by show 1 ≤ sizeLine; decide, fun au13 f_au13 => ?_⟩
    generalize eH : upd aJ12 au13 _ = aJ13
    obtain ⟨n_au13, S_au13, e_au13, eg⟩ : au13 ≠ g ∧ Same aJ12 aJ13 ∧ aJ13 au13 = some (.tup [.int 1]) ∧ aJ13 g = some (.lst [.int b0, .int b1, .int b2]) := by
      rw [← eH]
      exact new_obj eg f_au13
    clear eH
    refine ⟨by show 1 ≤ sizeLine; decide, fun au14 f_au14 => ?_⟩
    generalize eH : upd aJ13 au14 _ = aJ14
    obtain ⟨n_au14, S_au14, e_au14, eg⟩ : au14 ≠ g ∧ Same aJ13 aJ14 ∧ aJ14 au14 = some (.lst [.int 1]) ∧ aJ14 g = some (.lst [.int b0, .int b1, .int b2]) := by
      rw [← eH]
      exact new_obj eg f_au14
    clear eH
    refine ⟨by show 2 ≤ sizeLine; decide, fun au15 f_au15 => ?_⟩
    generalize eH : upd aJ14 au15 _ = aJ15
    obtain ⟨n_au15, S_au15, e_au15, eg⟩ : au15 ≠ g ∧ Same aJ14 aJ15 ∧ aJ15 au15 = some (.tup [.ref au13, .ref au14]) ∧ aJ15 g = some (.lst [.int b0, .int b1, .int b2]) := by
      rw [← eH]
      exact new_obj eg f_au15
    clear eH
    refine ⟨10, 60, rfl, rfl, (by show CPw _ _; decide +kernel), ?_⟩
    refine ⟨by show 1 ≤ sizeLine; decide, fun au16 f_au16 => ?_⟩
    generalize eH : upd aJ15 au16 _ = aJ16
    obtain ⟨n_au16, S_au16, e_au16, eg⟩ : au16 ≠ g ∧ Same aJ15 aJ16 ∧ aJ16 au16 = some (.tup [.int (10 ^ 60)]) ∧ aJ16 g = some (.lst [.int b0, .int b1, .int b2]) := by
      rw [← eH]
      exact new_obj eg f_au16
    clear eH
    refine ⟨by show 1 ≤ sizeLine; decide, fun au17 f_au17 => ?_⟩
    generalize eH : upd aJ16 au17 _ = aJ17
    obtain ⟨n_au17, S_au17, e_au17, eg⟩ : au17 ≠ g ∧ Same aJ16 aJ17 ∧ aJ17 au17 = some (.tup [.ref au16]) ∧ aJ17 g = some (.lst [.int b0, .int b1, .int b2]) := by
      rw [← eH]
      exact new_obj eg f_au17
    clear eH
    refine ⟨by show 1 ≤ sizeLine; decide, fun au18 f_au18 => ?_⟩
    generalize eH : upd aJ17 au18 _ = aJ18
    obtain ⟨n_au18, S_au18, e_au18, eg⟩ : au18 ≠ g ∧ Same aJ17 aJ18 ∧ aJ18 au18 = some (.tup [.int 1]) ∧ aJ18 g = some (.lst [.int b0, .int b1, .int b2]) := by
      rw [← eH]
      exact new_obj eg f_au18
    clear eH
    refine ⟨au18, 61, [.int 1], rfl, rfl, .inl (.inl e_au18), by nofun, by decide, by decide, by show 1 ≤ 100; decide, ?_⟩
    intro au19 f_au19
    generalize eH : upd aJ18 au19 _ = aJ19
    obtain ⟨n_au19, S_au19, e_au19, eg⟩ : au19 ≠ g ∧ Same aJ18 aJ19 ∧ aJ19 au19 = some (.tup (List.replicate (Int.toNat 61) [.int 1]).flatten) ∧ aJ19 g = some (.lst [.int b0, .int b1, .int b2]) := by
      rw [← eH]
      exact new_obj eg f_au19
    clear eH
    refine ⟨by show 1 ≤ sizeLine; decide, fun au20 f_au20 => ?_⟩
    generalize eH : upd aJ19 au20 _ = aJ20
    obtain ⟨n_au20, S_au20, e_au20, eg⟩ : au20 ≠ g ∧ Same aJ19 aJ20 ∧ aJ20 au20 = some (.tup [.ref au19]) ∧ aJ20 g = some (.lst [.int b0, .int b1, .int b2]) := by
      rw [← eH]
      exact new_obj eg f_au20
    clear eH
    refine ⟨by show 1 ≤ sizeLine; decide, fun au21 f_au21 => ?_⟩
    generalize eH : upd aJ20 au21 _ = aJ21
    obtain ⟨n_au21, S_au21, e_au21, eg⟩ : au21 ≠ g ∧ Same aJ20 aJ21 ∧ aJ21 au21 = some (.tup [.int 1]) ∧ aJ21 g = some (.lst [.int b0, .int b1, .int b2]) := by
      rw [← eH]
      exact new_obj eg f_au21
    clear eH
    refine ⟨by show 1 ≤ sizeLine; decide, fun au22 f_au22 => ?_⟩
    generalize eH : upd aJ21 au22 _ = aJ22
    obtain ⟨n_au22, S_au22, e_au22, eg⟩ : au22 ≠ g ∧ Same aJ21 aJ22 ∧ aJ22 au22 = some (.tup [.ref au21]) ∧ aJ22 g = some (.lst [.int b0, .int b1, .int b2]) := by
      rw [← eH]
      exact new_obj eg f_au22
    clear eH
    refine ⟨au22, 61, [.ref au21], rfl, rfl, .inl (.inl e_au22), by nofun, by decide, by decide, by show 1 ≤ 100; decide, ?_⟩
    intro au23 f_au23
    generalize eH : upd aJ22 au23 _ = aJ23
    obtain ⟨n_au23, S_au23, e_au23, eg⟩ : au23 ≠ g ∧ Same aJ22 aJ23 ∧ aJ23 au23 = some (.tup (List.replicate (Int.toNat 61) [.ref au21]).flatten) ∧ aJ23 g = some (.lst [.int b0, .int b1, .int b2]) := by
      rw [← eH]
      exact new_obj eg f_au23
    clear eH
    intro au24 f_au24
    generalize eH : upd aJ23 au24 _ = aJ24
    obtain ⟨n_au24, S_au24, e_au24, eg⟩ : au24 ≠ g ∧ Same aJ23 aJ24 ∧ aJ24 au24 = some (.dK []) ∧ aJ24 g = some (.lst [.int b0, .int b1, .int b2]) := by
      rw [← eH]
      exact new_obj eg f_au24
    clear eH
    refine ⟨by show 13 ≤ sizeLine; decide, fun au25 f_au25 => ?_⟩
    generalize eH : upd aJ24 au25 _ = aJ25
    obtain ⟨n_au25, S_au25, e_au25, eg⟩ : au25 ≠ g ∧ Same aJ24 aJ25 ∧ aJ25 au25 = some (.lst [.non, .int 0, .ref au1, .ref au3, .ref au5, .ref au8, .ref au10, .ref au12, .ref au15, .ref au17, .ref au20, .ref au23, .ref au24]) ∧ aJ25 g = some (.lst [.int b0, .int b1, .int b2]) := by
      rw [← eH]
      exact new_obj eg f_au25
    clear eH
    have T_au25 := Same.refl aJ25
    have T_au24 := S_au25.trans T_au25
    have T_au23 := S_au24.trans T_au24
    have T_au22 := S_au23.trans T_au23
    have T_au21 := S_au22.trans T_au22
    have T_au20 := S_au21.trans T_au21
    have T_au19 := S_au20.trans T_au20
    have T_au18 := S_au19.trans T_au19
    have T_au17 := S_au18.trans T_au18
    have T_au16 := S_au17.trans T_au17
    have T_au15 := S_au16.trans T_au16
    have T_au14 := S_au15.trans T_au15
    have T_au13 := S_au14.trans T_au14
    have T_au12 := S_au13.trans T_au13
    have T_au11 := S_au12.trans T_au12
    have T_au10 := S_au11.trans T_au11
    have T_au9 := S_au10.trans T_au10
    have T_au8 := S_au9.trans T_au9
    have T_au7 := S_au8.trans T_au8
    have T_au6 := S_au7.trans T_au7
    have T_au5 := S_au6.trans T_au6
    have T_au4 := S_au5.trans T_au5
    have T_au3 := S_au4.trans T_au4
    have T_au2 := S_au3.trans T_au3
    have T_au1 := S_au2.trans T_au2
    have aall := S_au1.trans T_au1
    have w_au1 := (wo_ne n_au1).trans (T_au1 _ _ e_au1)
    have w_au2 := (wo_ne n_au2).trans (T_au2 _ _ e_au2)
    have w_au3 := (wo_ne n_au3).trans (T_au3 _ _ e_au3)
    have w_au4 := (wo_ne n_au4).trans (T_au4 _ _ e_au4)
    have w_au5 := (wo_ne n_au5).trans (T_au5 _ _ e_au5)
    have w_au6 := (wo_ne n_au6).trans (T_au6 _ _ e_au6)
    have w_au7 := (wo_ne n_au7).trans (T_au7 _ _ e_au7)
    have w_au8 := (wo_ne n_au8).trans (T_au8 _ _ e_au8)
    have w_au9 := (wo_ne n_au9).trans (T_au9 _ _ e_au9)
    have w_au10 := (wo_ne n_au10).trans (T_au10 _ _ e_au10)
    have w_au11 := (wo_ne n_au11).trans (T_au11 _ _ e_au11)
    have w_au12 := (wo_ne n_au12).trans (T_au12 _ _ e_au12)
    have w_au13 := (wo_ne n_au13).trans (T_au13 _ _ e_au13)
    have w_au14 := (wo_ne n_au14).trans (T_au14 _ _ e_au14)
    have w_au15 := (wo_ne n_au15).trans (T_au15 _ _ e_au15)
    have w_au16 := (wo_ne n_au16).trans (T_au16 _ _ e_au16)
    have w_au17 := (wo_ne n_au17).trans (T_au17 _ _ e_au17)
    have w_au18 := (wo_ne n_au18).trans (T_au18 _ _ e_au18)
    have w_au19 := (wo_ne n_au19).trans (T_au19 _ _ e_au19)
    have w_au20 := (wo_ne n_au20).trans (T_au20 _ _ e_au20)
    have w_au21 := (wo_ne n_au21).trans (T_au21 _ _ e_au21)
    have w_au22 := (wo_ne n_au22).trans (T_au22 _ _ e_au22)
    have w_au23 := (wo_ne n_au23).trans (T_au23 _ _ e_au23)
    have w_au24 := (wo_ne n_au24).trans (T_au24 _ _ e_au24)
    have w_au25 := (wo_ne n_au25).trans (T_au25 _ _ e_au25)
    refine ⟨g, au25, b0, b1, b2, [.non, .int 0, .ref au1, .ref au3, .ref au5, .ref au8, .ref au10, .ref au12, .ref au15, .ref au17, .ref au20, .ref au23, .ref au24], rfl, eg, .inl (.inl e_au25), n_au25, Nat.succ_pos _, by show 13 ≤ 1000; decide, fun vx h0 h1 h2 hv => ?_⟩
    have U : Upto g H (upd aJ25 g (.lst [.int h0, .int h1, .int h2])) := draw_up aall bag
    have Fx := noneV (K := K) (H := wo aJ25 g) hv w_au1 w_au2 w_au3 w_au4 w_au5 w_au6 w_au7 w_au8 w_au9 w_au10 w_au11 w_au12 w_au13 w_au14 w_au15 w_au16 w_au17 w_au18 w_au19 w_au20 w_au21 w_au22 w_au23 w_au24
    rw [← wo_upd (o := .lst [.int h0, .int h1, .int h2])] at Fx
    generalize upd aJ25 g _ = H1 at U Fx ⊢
    replace hT := tab_upto hT bag U
    have extH1 := up_ext U
    have bagH1 := U.bag
    clear n_au1 e_au1 S_au1 T_au1 w_au1 f_au1 n_au2 e_au2 S_au2 T_au2 w_au2 f_au2 n_au3 e_au3 S_au3 T_au3 w_au3 f_au3 n_au4 e_au4 S_au4 T_au4 w_au4 f_au4 n_au5 e_au5 S_au5 T_au5 w_au5 f_au5 n_au6 e_au6 S_au6 T_au6 w_au6 f_au6 n_au7 e_au7 S_au7 T_au7 w_au7 f_au7 n_au8 e_au8 S_au8 T_au8 w_au8 f_au8 n_au9 e_au9 S_au9 T_au9 w_au9 f_au9 n_au10 e_au10 S_au10 T_au10 w_au10 f_au10 n_au11 e_au11 S_au11 T_au11 w_au11 f_au11 n_au12 e_au12 S_au12 T_au12 w_au12 f_au12 n_au13 e_au13 S_au13 T_au13 w_au13 f_au13 n_au14 e_au14 S_au14 T_au14 w_au14 f_au14 n_au15 e_au15 S_au15 T_au15 w_au15 f_au15 n_au16 e_au16 S_au16 T_au16 w_au16 f_au16 n_au17 e_au17 S_au17 T_au17 w_au17 f_au17 n_au18 e_au18 S_au18 T_au18 w_au18 f_au18 n_au19 e_au19 S_au19 T_au19 w_au19 f_au19 n_au20 e_au20 S_au20 T_au20 w_au20 f_au20 n_au21 e_au21 S_au21 T_au21 w_au21 f_au21 n_au22 e_au22 S_au22 T_au22 w_au22 f_au22 n_au23 e_au23 S_au23 T_au23 w_au23 f_au23 n_au24 e_au24 S_au24 T_au24 w_au24 f_au24 n_au25 e_au25 S_au25 T_au25 w_au25 f_au25 aall U hv
    obtain ⟨b0, b1, b2, eg⟩ := id bagH1
    refine ⟨by show 3 ≤ sizeLine; decide, fun wu1 f_wu1 => ?_⟩
    generalize eH : upd H1 wu1 _ = wJ1
    obtain ⟨n_wu1, S_wu1, e_wu1, eg⟩ : wu1 ≠ g ∧ Same H1 wJ1 ∧ wJ1 wu1 = some (.tup [.int 1, .int 2, .int 3]) ∧ wJ1 g = some (.lst [.int b0, .int b1, .int b2]) := by
      rw [← eH]
      exact new_obj eg f_wu1
    clear eH
    refine ⟨by show 3 ≤ sizeLine; decide, fun wu2 f_wu2 => ?_⟩
    generalize eH : upd wJ1 wu2 _ = wJ2
    obtain ⟨n_wu2, S_wu2, e_wu2, eg⟩ : wu2 ≠ g ∧ Same wJ1 wJ2 ∧ wJ2 wu2 = some (.tup [.int 4, .int 5, .int 6]) ∧ wJ2 g = some (.lst [.int b0, .int b1, .int b2]) := by
      rw [← eH]
      exact new_obj eg f_wu2
    clear eH
    refine ⟨by show 2 ≤ sizeLine; decide, fun wu3 f_wu3 => ?_⟩
    generalize eH : upd wJ2 wu3 _ = wJ3
    obtain ⟨n_wu3, S_wu3, e_wu3, eg⟩ : wu3 ≠ g ∧ Same wJ2 wJ3 ∧ wJ3 wu3 = some (.tup [.ref wu1, .ref wu2]) ∧ wJ3 g = some (.lst [.int b0, .int b1, .int b2]) := by
      rw [← eH]
      exact new_obj eg f_wu3
    clear eH
    refine ⟨by show 2 ≤ sizeLine; decide, fun wu4 f_wu4 => ?_⟩
    generalize eH : upd wJ3 wu4 _ = wJ4
    obtain ⟨n_wu4, S_wu4, e_wu4, eg⟩ : wu4 ≠ g ∧ Same wJ3 wJ4 ∧ wJ4 wu4 = some (.tup [.int 1, .int 2]) ∧ wJ4 g = some (.lst [.int b0, .int b1, .int b2]) := by
      rw [← eH]
      exact new_obj eg f_wu4
    clear eH
    refine ⟨by show 2 ≤ sizeLine; decide, fun wu5 f_wu5 => ?_⟩
    generalize eH : upd wJ4 wu5 _ = wJ5
    obtain ⟨n_wu5, S_wu5, e_wu5, eg⟩ : wu5 ≠ g ∧ Same wJ4 wJ5 ∧ wJ5 wu5 = some (.tup [.int 3, .int 4]) ∧ wJ5 g = some (.lst [.int b0, .int b1, .int b2]) := by
      rw [← eH]
      exact new_obj eg f_wu5
    clear eH
    refine ⟨by show 2 ≤ sizeLine; decide, fun wu6 f_wu6 => ?_⟩
    generalize eH : upd wJ5 wu6 _ = wJ6
    obtain ⟨n_wu6, S_wu6, e_wu6, eg⟩ : wu6 ≠ g ∧ Same wJ5 wJ6 ∧ wJ6 wu6 = some (.tup [.ref wu4, .ref wu5]) ∧ wJ6 g = some (.lst [.int b0, .int b1, .int b2]) := by
      rw [← eH]
      exact new_obj eg f_wu6
    clear eH
    refine ⟨by show 2 ≤ sizeLine; decide, fun wu7 f_wu7 => ?_⟩
    generalize eH : upd wJ6 wu7 _ = wJ7
    obtain ⟨n_wu7, S_wu7, e_wu7, eg⟩ : wu7 ≠ g ∧ Same wJ6 wJ7 ∧ wJ7 wu7 = some (.tup [.ref wu3, .ref wu6]) ∧ wJ7 g = some (.lst [.int b0, .int b1, .int b2]) := by
      rw [← eH]
      exact new_obj eg f_wu7
    clear eH
    have T_wu7 := Same.refl wJ7
    have T_wu6 := S_wu7.trans T_wu7
    have T_wu5 := S_wu6.trans T_wu6
    have T_wu4 := S_wu5.trans T_wu5
    have T_wu3 := S_wu4.trans T_wu4
    have T_wu2 := S_wu3.trans T_wu3
    have T_wu1 := S_wu2.trans T_wu2
    have wall := S_wu1.trans T_wu1
    have w_wu1 := (wo_ne n_wu1).trans (T_wu1 _ _ e_wu1)
    have w_wu2 := (wo_ne n_wu2).trans (T_wu2 _ _ e_wu2)
    have w_wu3 := (wo_ne n_wu3).trans (T_wu3 _ _ e_wu3)
    have w_wu4 := (wo_ne n_wu4).trans (T_wu4 _ _ e_wu4)
    have w_wu5 := (wo_ne n_wu5).trans (T_wu5 _ _ e_wu5)
    have w_wu6 := (wo_ne n_wu6).trans (T_wu6 _ _ e_wu6)
    have w_wu7 := (wo_ne n_wu7).trans (T_wu7 _ _ e_wu7)
    refine ⟨wu7, _, rfl, .inl (.inl e_wu7), rfl, _, _, rfl, ?_⟩
    refine ⟨_, _, rfl, rfl, ?_⟩
    have Fw : Two K (wo wJ7 g) wu3 wu1 wu2 [1, 2, 3] [4, 5, 6] := ⟨.inl (.inl w_wu3), .inl (.inl w_wu1), .inl (.inl w_wu2)⟩
    have Fs : Two K (wo wJ7 g) wu6 wu4 wu5 [1, 2] [3, 4] := ⟨.inl (.inl w_wu6), .inl (.inl w_wu4), .inl (.inl w_wu5)⟩
    replace Fx := xvE Fx (wo_ext1 (ext_same wall))
    have X5 : ExtN (wo H g) (wo wJ7 g) := extH1.trans (wo_ext1 (ext_same wall))
    replace hT := hT.ext wall
    have bagJ := bag_ext bagH1 (ext_same wall)
    clear extH1 bagH1 bag n_wu1 e_wu1 S_wu1 T_wu1 w_wu1 f_wu1 n_wu2 e_wu2 S_wu2 T_wu2 w_wu2 f_wu2 n_wu3 e_wu3 S_wu3 T_wu3 w_wu3 f_wu3 n_wu4 e_wu4 S_wu4 T_wu4 w_wu4 f_wu4 n_wu5 e_wu5 S_wu5 T_wu5 w_wu5 f_wu5 n_wu6 e_wu6 S_wu6 T_wu6 w_wu6 f_wu6 n_wu7 e_wu7 S_wu7 T_wu7 w_wu7 f_wu7 wall
    have sm1 : Sm [1, 2] := by unfold Sm; decide
    have sm2 : Sm [3, 4] := by unfold Sm; decide
    have okw : isTab (some [some (([1, 2, 3] : List Int).map V.int), some (([4, 5, 6] : List Int).map V.int)]) = true := by decide +kernel
    have oks : isTab (some [some (([1, 2] : List Int).map V.int), some (([3, 4] : List Int).map V.int)]) = true := by decide +kernel
    refine ⟨hT, fun H6 e6 t6 => ?_⟩
    replace Fx := xvE Fx (low_ext e6)
    replace Fw := twoE Fw (low_ext e6)
    replace Fs := twoE Fs (low_ext e6)
    have X6 : ExtN (wo H g) H6 := X5.trans (low_ext e6)
    replace bag := bag_ext bagJ e6
    clear e6 hT bagJ X5
    obtain ⟨tx, hx, nx⟩ := id Fx
    refine ⟨_, rfl, _, tx, rfl, hx, .inl ⟨nx, ret_tb fun H7 z s7 _ hz => ⟨by show 1 ≤ sizeLine; decide, fun p fp => ?_⟩⟩⟩
    clear hx
    have o1 := On.first (t6.ext s7) hz fp
    replace Fx := xvE Fx (ext_same s7)
    replace Fw := twoE Fw (ext_same s7)
    replace Fs := twoE Fs (ext_same s7)
    replace X6 := X6.trans (ext_same s7)
    replace bag := bag_ext bag (ext_same s7)
    generalize upd H7 p _ = H8 at o1 ⊢
    clear s7 t6 hz fp
    refine stepW (o := some ["refused", "table"]) o1 rfl (by show 1 < 100; decide) (fun H4 e4 Q' q' => ?_) (fun H9 o2 => ?_)
    · have E := o1.ext.trans e4
      exact let ⟨tx, hx, nx⟩ := xvE Fx E; ⟨_, rfl, _, tx, rfl, hx, nx, ret_tb q'⟩
    refine stepW (o := some ["refused", "table"]) o2 rfl (by show 2 < 100; decide) (fun H4 e4 Q' q' => ?_) (fun H10 o3 => ?_)
    · have E := o2.ext.trans e4
      exact let ⟨tx, hx, nx⟩ := xvE Fx E; ⟨_, rfl, _, tx, rfl, hx, nx, ret_tb q'⟩
    refine stepW (o := some ["refused", "table"]) o3 rfl (by show 3 < 100; decide) (fun H4 e4 Q' q' => ?_) (fun H11 o4 => ?_)
    · have E := o3.ext.trans e4
      exact let ⟨tx, hx, nx⟩ := xvE Fx E; ⟨_, rfl, _, tx, rfl, hx, nx, ret_tb q'⟩
    refine stepW (o := some ["refused", "table"]) o4 rfl (by show 4 < 100; decide) (fun H4 e4 Q' q' => ?_) (fun H12 o5 => ?_)
    · have E := o4.ext.trans e4
      exact let ⟨tx, hx, nx⟩ := xvE Fx E; ⟨_, rfl, _, rfl, .inr ⟨_, tx, _, tx, rfl, hx, hx, .inl ⟨nx, ret_tb q'⟩⟩⟩
    refine stepW (o := some ["refused", "table"]) o5 rfl (by show 5 < 100; decide) (fun H4 e4 Q' q' => ?_) (fun H13 o6 => ?_)
    · have E := o5.ext.trans e4
      exact let ⟨tx, hx, nx⟩ := xvE Fx E; let ⟨tw, hw, gw⟩ := (twoE Fw E).good okw; ⟨_, rfl, _, rfl, .inr ⟨_, tw, _, tx, rfl, hw, hx, .inr (.inl ⟨gw, nx, ret_tb q'⟩)⟩⟩
    refine stepW (o := some ["refused", "table"]) o6 rfl (by show 6 < 100; decide) (fun H4 e4 Q' q' => ?_) (fun H14 o7 => ?_)
    · have E := o6.ext.trans e4
      exact let ⟨tx, hx, nx⟩ := xvE Fx E; let ⟨tw, hw, gw⟩ := (twoE Fw E).good okw; ⟨_, rfl, _, rfl, .inr ⟨_, tx, _, tw, rfl, hx, hw, .inl ⟨nx, ret_tb q'⟩⟩⟩
    refine stepW (o := some ["refused", "operation"]) o7 rfl (by show 7 < 100; decide) (fun H4 e4 Q' q' => ?_) (fun H15 o8 => ?_)
    · have E := o7.ext.trans e4
      exact let ⟨tw, hw, gw⟩ := (twoE Fw E).good okw; ⟨_, rfl, _, tw, rfl, hw, .inr ⟨gw, ⟨_, _, _, _, rfl, (twoE Fw E).top, rfl, (twoE Fw E).one, by show 2 ≠ 3; decide⟩, ret_op q'⟩⟩
    refine stepW (o := some ["refused", "operation"]) o8 rfl (by show 8 < 100; decide) (fun H4 e4 Q' q' => ?_) (fun H16 o9 => ?_)
    · have E := o8.ext.trans e4
      exact let ⟨tw, hw, gw⟩ := (twoE Fw E).good okw; let ⟨ts, hs, gs⟩ := (twoE Fs E).good oks; ⟨_, rfl, _, rfl, .inr ⟨_, tw, _, ts, rfl, hw, hs, .inr (.inr ⟨gw, gs, ⟨_, _, _, _, _, _, rfl, rfl, (twoE Fw E).top, rfl, (twoE Fw E).one, (twoE Fs E).top, by show 3 ≠ 2; decide⟩, ret_op q'⟩)⟩⟩
    refine stepW (o := none) o9 rfl (by show 9 < 100; decide) (fun H4 e4 Q' q' => ?_) (fun H17 o10 => ?_)
    · have E := o9.ext.trans e4
      exact ⟨_, rfl, _, rfl, .inl ⟨_, _, _, _, 3, rfl, (twoE Fs E).good oks, (twoE Fw E).good okw, (twoE Fs E).top, (twoE Fs E).rows rfl rfl sm1 sm2, (twoE Fw E).top, (twoE Fw E).rows rfl rfl (by unfold Sm; decide) (by unfold Sm; decide), by show 1 ≤ 2; decide, by show 2 ≤ 60; decide, by show 1 ≤ 2; decide, by show 2 ≤ 60; decide, by decide, fun H' v s => ret_fine q' s⟩⟩
    refine ⟨_, rfl, ?_⟩
    refine ⟨by show 2 ≤ sizeLine; decide, fun t0 f0 => ?_⟩
    have o11 := o10.same (same_new f0 (o := .tup [.str "refused", .str "table"]))
    have et : (upd H17 t0 (.tup [.str "refused", .str "table"])) t0 = some (.tup [.str "refused", .str "table"]) := upd_same
    generalize upd H17 t0 _ = J1 at o11 et ⊢
    refine ⟨by show 1 ≤ sizeLine; decide, fun r0 f1 => ?_⟩
    refine ⟨r0, 7, _, rfl, rfl, upd_same, by decide, by decide, by show 1 * 7 ≤ sizeLine; decide, fun r1 f2 => ?_⟩
    have s2 := (same_new f1 (o := .lst [.ref t0])).trans (same_new f2 (o := .lst (List.replicate (Int.toNat 7) [V.ref t0]).flatten))
    have e1 : (upd (upd J1 r0 (.lst [.ref t0])) r1 (.lst (List.replicate (Int.toNat 7) [V.ref t0]).flatten)) r1 = some (.lst (List.replicate 7 (V.ref t0))) := upd_same
    generalize upd (upd J1 r0 _) r1 _ = J2 at s2 e1 ⊢
    refine ⟨by show 2 ≤ sizeLine; decide, fun t1 f3 => ?_⟩
    have s3 := same_new f3 (o := .tup [.str "refused", .str "operation"])
    have et1 : (upd J2 t1 (.tup [.str "refused", .str "operation"])) t1 = some (.tup [.str "refused", .str "operation"]) := upd_same
    generalize upd J2 t1 _ = J3 at s3 et1 ⊢
    refine ⟨by show 1 ≤ sizeLine; decide, fun r2 f4 => ?_⟩
    refine ⟨r2, 2, _, rfl, rfl, upd_same, by decide, by decide, by show 1 * 2 ≤ sizeLine; decide, fun r3 f5 => ?_⟩
    have s4 := (same_new f4 (o := .lst [.ref t1])).trans (same_new f5 (o := .lst (List.replicate (Int.toNat 2) [V.ref t1]).flatten))
    have e3 : (upd (upd J3 r2 (.lst [.ref t1])) r3 (.lst (List.replicate (Int.toNat 2) [V.ref t1]).flatten)) r3 = some (.lst [.ref t1, .ref t1]) := upd_same
    generalize upd (upd J3 r2 _) r3 _ = J4 at s4 e3 ⊢
    refine ⟨r1, r3, _, _, rfl, rfl, s4 _ _ (s3 _ _ e1), e3, by show 7 + 2 ≤ sizeLine; decide, fun r4 f6 => ?_⟩
    have s5 := same_new f6 (o := .lst (List.replicate 7 (V.ref t0) ++ [.ref t1, .ref t1]))
    have e4 : (upd J4 r4 (.lst (List.replicate 7 (V.ref t0) ++ [.ref t1, .ref t1]))) r4 = some (.lst (List.replicate 7 (V.ref t0) ++ [.ref t1, .ref t1])) := upd_same
    generalize upd J4 r4 _ = J5 at s5 e4 ⊢
    refine ⟨by show 1 ≤ sizeLine; decide, fun r5 f7 => ?_⟩
    have s6 := same_new f7 (o := .lst [.str "fine"])
    refine ⟨r4, r5, _, _, rfl, rfl, s6 _ _ e4, upd_same, by show 9 + 1 ≤ sizeLine; decide, fun r6 f8 => ?_⟩
    have s7 := s6.trans (same_new f8 (o := .lst ((List.replicate 7 (V.ref t0) ++ [.ref t1, .ref t1]) ++ [.str "fine"])))
    have e5 : (upd (upd J5 r5 (.lst [.str "fine"])) r6 (.lst ((List.replicate 7 (V.ref t0) ++ [.ref t1, .ref t1]) ++ [.str "fine"]))) r6 = some (.lst [.ref t0, .ref t0, .ref t0, .ref t0, .ref t0, .ref t0, .ref t0, .ref t1, .ref t1, .str "fine"]) := upd_same
    generalize upd (upd J5 r5 _) r6 _ = J6 at s7 e5 ⊢
    have sA := (((s2.trans s3).trans s4).trans s5).trans s7
    have oF := o11.same sA
    have dt : Dp K J6 (.ref t0) (dI (some ["refused", "table"])) := .tup (.inl (.inl (sA _ _ et))) (dp_strs ["refused", "table"])
    have dop : Dp K J6 (.ref t1) (dI (some ["refused", "operation"])) := .tup (.inl (.inl (((s4.trans s5).trans s7) _ _ et1))) (dp_strs ["refused", "operation"])
    refine ⟨dW [some ["refused", "table"], some ["refused", "table"], some ["refused", "table"], some ["refused", "table"], some ["refused", "table"], some ["refused", "table"], some ["refused", "table"], some ["refused", "operation"], some ["refused", "operation"], none], dW [some ["refused", "table"], some ["refused", "table"], some ["refused", "table"], some ["refused", "table"], some ["refused", "table"], some ["refused", "table"], some ["refused", "table"], some ["refused", "operation"], some ["refused", "operation"], none], oF.dp, dp_list e5 (.cons dt (.cons dt (.cons dt (.cons dt (.cons dt (.cons dt (.cons dt (.cons dop (.cons dop (.cons (.str _) .nil)))))))))), by decide +kernel, by decide +kernel, ?_⟩
    rw [show PyData.eqv (dW [some ["refused", "table"], some ["refused", "table"], some ["refused", "table"], some ["refused", "table"], some ["refused", "table"], some ["refused", "table"], some ["refused", "table"], some ["refused", "operation"], some ["refused", "operation"], none]) (dW [some ["refused", "table"], some ["refused", "table"], some ["refused", "table"], some ["refused", "table"], some ["refused", "table"], some ["refused", "table"], some ["refused", "table"], some ["refused", "operation"], some ["refused", "operation"], none]) = true from eqvW _]
    exact q _ (X6.trans oF.ext) (bag_ext bag oF.ext) oF.tab
end
end K03


set_option Elab.async false
set_option linter.all false
set_option maxRecDepth 100000
set_option maxHeartbeats 4000000
namespace K03
open PySem PySem.Spec PyProof.Rows L2 MM LamX
/-! own words for the readings: a step, its side -/
local macro_rules | `(tactic| walk_at "side") => `(tactic| first
  | omega
  | exact ⟨by omega, by omega⟩
  | exact Or.inl ⟨by omega, by omega⟩
  | exact Or.inr ⟨by omega, by omega⟩
  | (show CPw _ _; decide +kernel)
  | (show (0 : Int) < _; decide +kernel)
  | (show CDivW _ _; first | assumption | exact ⟨by decide, by decide +kernel⟩))
local macro_rules | `(tactic| walk_at "here") => `(tactic| first
  | assumption
  | exact upd_same
  | exact Or.inl (Or.inl upd_same)
  | exact Or.inl upd_same)
local macro_rules | `(tactic| walk_at "one") => `(tactic| first
  | refine ⟨_, rfl, ?_⟩
  | refine Or.inl ⟨_, rfl, ?_⟩
  | refine Or.inr ⟨_, rfl, ?_⟩
  | refine ⟨_, _, rfl, rfl, (by walk_at "side"), ?_⟩
  | refine ⟨_, _, rfl, rfl, ?_⟩
  | refine ⟨_, _, rfl, Or.inl (by walk_at "here"), ?_⟩
  | refine ⟨_, _, rfl, Or.inr (by walk_at "here"), ?_⟩
  | refine ⟨_, _, rfl, (by walk_at "here"), ?_⟩
  | refine ⟨_, _, _, _, rfl, rfl, (by walk_at "here"), rfl, ?_⟩
  | refine ⟨_, _, rfl, ?_⟩
  | refine ifT (by rfl) ?_
  | refine ifF (by rfl) ?_
  | refine ifT (decide_eq_true (by omega)) ?_
  | refine ifF (decide_eq_false (by omega)) ?_)
local macro_rules | `(tactic| walk_at "st") => `(tactic| repeat (walk_at "one"))

section
variable {P : Program} {w : World} {K : PySem.W.Frag} {mg : Str → Option Value} {base : Heap}
theorem wo_ext2 {H H' : Hp} {g : Addr} (e : ExtN (wo H g) H') : ExtN (wo H g) (wo H' g) := by
  intro b o h nt
  have n := (wo_some h).1
  rw [wo_ne n]
  exact e _ _ h nt
theorem flat_rep {x : V} (k : Nat) : (List.replicate k [x]).flatten = List.replicate k x := by
  induction k with
  | zero => rfl
  | succ k ih => rw [List.replicate_succ, List.flatten_cons, ih]; rfl
def spLawT (K : PySem.W.Frag) : Sp := fun vs H Q _ => ∃ (a : Addr) (ns : List Int), vs = [.ref a] ∧ SqL K H a (ns.map V.int) ∧ ns.length ≤ 1000 ∧ Tabs (TL K) H ∧ ∀ H', Q (.bl true) H'
theorem scLaw : FnScope ["_law_script", "_law_spot", "_law_bag_here", "_law_told"] ["_law_script"] (defScope sLaw) :=
  ⟨rfl, rfl, rfl, by decide +kernel, rfl, by decide +kernel, by decide +kernel⟩
theorem dLaw (T : Tx K mg) (Y : Ex K mg) (TB : Tb K mg base) (DBagL : Def P w K mg base CX0 1 "_law_bag" ["_law_script", "_law_spot"] (spBag K)) (DTablesRightL : Def P w K mg base CX0 9 "_law_tables_right" ["_law_bag_here"] (spTablesR K)) (DNumbersRightL : Def P w K mg base CX0 9 "_law_numbers_right" ["_law_bag_here"] (spNumbersR K)) (CPrimeFactors : Def P w K mg base (L2.CX P w) 5 "prime_factors" ["number"] (orS spFacs (spFacX K))) (CPartAt : Def P w K mg base (L2.CX P w) 6 "part_at" ["prime", "number"] (orS spPartAt (spPartX K))) (CCommonDivisor : Def P w K mg base (L2.CX P w) 5 "common_divisor" ["numbers"] (orS (spCommonDivisor K) (spNumsX K))) (CRank : Def P w K mg base (L2.CX P w) 6 "rank" ["table"] (orS (spRank0 K) (spTabX K))) (CLowest : Def P w K mg base (L2.CX P w) 5 "lowest" ["top", "bottom"] (orS (spLowest K) (spLowX K))) : Def P w K mg base CX0 10 "law" ["_law_script"] (spLawT K) := by
  refine defC T.t_law (N := ["_law_script", "_law_spot", "_law_bag_here", "_law_told"]) scLaw (fun _ _ _ _ _ _ us hl => match us, hl with | [_], _ => rfl) ?_ ?_
  · intro vs H Q E h
    obtain ⟨a, ns, rfl, _⟩ := h
    rfl
  · intro f cd A out s H vs Q E ec hr h
    subst ec
    have hr1 : Rm 9 _ := hr.le (by decide)
    obtain ⟨a, ns, rfl, hS, hl, hT, q⟩ := h
    refine ⟨_, (pss_cons (ps_for PassesOwn.never rfl (pi_range1 rfl T.f_range (pa_cons (pe_callB (call_max2 rfl) rfl T.f_max (by decide +kernel) (pa_cons pe_int (pa_cons (pe_callB (call_min2 rfl) rfl T.f_min (by decide +kernel) (pa_cons pe_int (pa_cons (pe_callB call_len_seq rfl T.f_len (by decide +kernel) (pa_cons (pv 0) pa_nil)) pa_nil))) pa_nil))) pa_nil)) (pg_name (i := 1) scLaw.nd rfl (Or.inl rfl))
        (pss_cons (ps_set (i := 2) scLaw.nd rfl (Or.inl rfl) (pe_d DBagL (hr1.le (by decide)) pass0 (pa_cons (pv 0) (pa_cons (pv 1) pa_nil))))
        (pss_one (ps_if (PW.pt (pw_or (pt_not (pt_val (pe_d DNumbersRightL (hr1.le (by decide)) pass0 (pa_cons (pv 2) pa_nil)))) (pw_or1 (pt_not (pt_val (pe_d DTablesRightL (hr1.le (by decide)) pass0 (pa_cons (pv 2) pa_nil))))))) (pss_one (ps_ret pe_bl)) pss_nil))))
      (pss_cons (ps_set (i := 3) scLaw.nd rfl (Or.inl rfl) (pe_lst (pa_cons (ME.pe_lam (T := TL K) (TT := TTW K) (k := 6) (t := fun E1 => (ME.tDS (orS spFacs (spFacX K)) (fun _ => E1) (tCons (tOp (rI CPw fun i j => .int (i ^ j.toNat)) (tC (.int 10)) (tC (.int 9))) tNil))) T.t_law_word (fun _ _ _ _ _ _ us hl => match us, hl with | [_], _ => rfl) scWord rfl (Or.inl rfl) (fun g cd => word_gives (k := 1) T Y (hr.le (by decide))) TB.t3 rfl m3 TB.u3 (hr.le (by decide)) (show LamS _ _ from lamS_by (sc := defScope sLaw) (by decide +kernel)) rfl (fun _ _ _ _ _ => rfl) (fun A1 o1 s1 H1 E1 f1 c1 hr9 => (show PE _ _ (ME.tDS (orS spFacs (spFacX K)) (fun _ => E1) (tCons (tOp (rI CPw fun i j => .int (i ^ j.toNat)) (tC (.int 10)) (tC (.int 9))) tNil)) from ME.pe_dS CPrimeFactors (hr9.le (by decide)) (passAt (takes_of rfl rfl rfl rfl)) (pa_cons (pe_op op_pw pe_int pe_int) pa_nil)))) pa_nil)))
      (pss_cons (ps_expr (pe_bm PySem.F.plainAttrs_list PySem.F.slot_list_append PySem.F.type_list_append mt_append (pv 3) (pa_cons (ME.pe_lam (T := TL K) (TT := TTW K) (k := 6) (t := fun E1 => (ME.tDS (orS spPartAt (spPartX K)) (fun _ => E1) (tCons (tC (.int 97)) (tCons (tOp (rI0 fun i j => .int (i - j)) (tOp (rI CPw fun i j => .int (i ^ j.toNat)) (tC (.int 10)) (tC (.int 60))) (tC (.int 1))) tNil)))) T.t_law_word (fun _ _ _ _ _ _ us hl => match us, hl with | [_], _ => rfl) scWord rfl (Or.inl rfl) (fun g cd => word_gives (k := 1) T Y (hr.le (by decide))) TB.t3 rfl m3 TB.u3 (hr.le (by decide)) (show LamS _ _ from lamS_by (sc := defScope sLaw) (by decide +kernel)) rfl (fun _ _ _ _ _ => rfl) (fun A1 o1 s1 H1 E1 f1 c1 hr9 => (show PE _ _ (ME.tDS (orS spPartAt (spPartX K)) (fun _ => E1) (tCons (tC (.int 97)) (tCons (tOp (rI0 fun i j => .int (i - j)) (tOp (rI CPw fun i j => .int (i ^ j.toNat)) (tC (.int 10)) (tC (.int 60))) (tC (.int 1))) tNil))) from ME.pe_dS CPartAt (hr9.le (by decide)) (passAt (takes_of rfl rfl rfl rfl)) (pa_cons pe_int (pa_cons (pe_op op_sub (pe_op op_pw pe_int pe_int) pe_int) pa_nil))))) pa_nil)))
      (pss_cons (ps_expr (pe_bm PySem.F.plainAttrs_list PySem.F.slot_list_append PySem.F.type_list_append mt_append (pv 3) (pa_cons (ME.pe_lam (T := TL K) (TT := TTW K) (k := 6) (t := fun E1 => (ME.tDS (orS (spCommonDivisor K) (spNumsX K)) (fun _ => E1) (tCons (tOp (rRepW K) (tTup (tCons (tC (.int 1)) tNil)) (tC (.int 1000))) tNil))) T.t_law_word (fun _ _ _ _ _ _ us hl => match us, hl with | [_], _ => rfl) scWord rfl (Or.inl rfl) (fun g cd => word_gives (k := 1) T Y (hr.le (by decide))) TB.t3 rfl m3 TB.u3 (hr.le (by decide)) (show LamS _ _ from lamS_by (sc := defScope sLaw) (by decide +kernel)) rfl (fun _ _ _ _ _ => rfl) (fun A1 o1 s1 H1 E1 f1 c1 hr9 => (show PE _ _ (ME.tDS (orS (spCommonDivisor K) (spNumsX K)) (fun _ => E1) (tCons (tOp (rRepW K) (tTup (tCons (tC (.int 1)) tNil)) (tC (.int 1000))) tNil)) from ME.pe_dS CCommonDivisor (hr9.le (by decide)) (passAt (takes_of rfl rfl rfl rfl)) (pa_cons (pe_op op_repW (pe_tup (pa_cons pe_int pa_nil)) pe_int) pa_nil)))) pa_nil)))
      (pss_cons (ps_expr (pe_bm PySem.F.plainAttrs_list PySem.F.slot_list_append PySem.F.type_list_append mt_append (pv 3) (pa_cons (ME.pe_lam (T := TL K) (TT := TTW K) (k := 6) (t := fun E1 => (ME.tDS (orS (spRank0 K) (spTabX K)) (fun _ => E1) (tCons (tOp (rRepW K) (tTup (tCons (tOp (rRepW K) (tTup (tCons (tC (.int 0)) tNil)) (tC (.int 60))) tNil)) (tC (.int 60))) tNil))) T.t_law_word (fun _ _ _ _ _ _ us hl => match us, hl with | [_], _ => rfl) scWord rfl (Or.inl rfl) (fun g cd => word_gives (k := 1) T Y (hr.le (by decide))) TB.t3 rfl m3 TB.u3 (hr.le (by decide)) (show LamS _ _ from lamS_by (sc := defScope sLaw) (by decide +kernel)) rfl (fun _ _ _ _ _ => rfl) (fun A1 o1 s1 H1 E1 f1 c1 hr9 => (show PE _ _ (ME.tDS (orS (spRank0 K) (spTabX K)) (fun _ => E1) (tCons (tOp (rRepW K) (tTup (tCons (tOp (rRepW K) (tTup (tCons (tC (.int 0)) tNil)) (tC (.int 60))) tNil)) (tC (.int 60))) tNil)) from ME.pe_dS CRank (hr9.le (by decide)) (passAt (takes_of rfl rfl rfl rfl)) (pa_cons (pe_op op_repW (pe_tup (pa_cons (pe_op op_repW (pe_tup (pa_cons pe_int pa_nil)) pe_int) pa_nil)) pe_int) pa_nil)))) pa_nil)))
      (pss_cons (ps_expr (pe_bm PySem.F.plainAttrs_list PySem.F.slot_list_append PySem.F.type_list_append mt_append (pv 3) (pa_cons (ME.pe_lam (T := TL K) (TT := TTW K) (k := 6) (t := fun E1 => (ME.tDS (orS (spLowest K) (spLowX K)) (fun _ => E1) (tCons (tOp (rI0 fun i j => .int (i - j)) (tOp (rI CPw fun i j => .int (i ^ j.toNat)) (tC (.int 10)) (tC (.int 60))) (tC (.int 1))) (tCons (tOp (rI0 fun i j => .int (i - j)) (tC (.int 1)) (tOp (rI CPw fun i j => .int (i ^ j.toNat)) (tC (.int 10)) (tC (.int 60)))) tNil)))) T.t_law_word (fun _ _ _ _ _ _ us hl => match us, hl with | [_], _ => rfl) scWord rfl (Or.inl rfl) (fun g cd => word_gives (k := 1) T Y (hr.le (by decide))) TB.t3 rfl m3 TB.u3 (hr.le (by decide)) (show LamS _ _ from lamS_by (sc := defScope sLaw) (by decide +kernel)) rfl (fun _ _ _ _ _ => rfl) (fun A1 o1 s1 H1 E1 f1 c1 hr9 => (show PE _ _ (ME.tDS (orS (spLowest K) (spLowX K)) (fun _ => E1) (tCons (tOp (rI0 fun i j => .int (i - j)) (tOp (rI CPw fun i j => .int (i ^ j.toNat)) (tC (.int 10)) (tC (.int 60))) (tC (.int 1))) (tCons (tOp (rI0 fun i j => .int (i - j)) (tC (.int 1)) (tOp (rI CPw fun i j => .int (i ^ j.toNat)) (tC (.int 10)) (tC (.int 60)))) tNil))) from ME.pe_dS CLowest (hr9.le (by decide)) (passAt (takes_of rfl rfl rfl rfl)) (pa_cons (pe_op op_sub (pe_op op_pw pe_int pe_int) pe_int) (pa_cons (pe_op op_sub pe_int (pe_op op_pw pe_int pe_int)) pa_nil))))) pa_nil)))
      (pss_one (ps_ret (pe_and (pe_cmpR (op_eqD hr.hu) (pv 3) (pe_op op_rep (pe_lst (pa_cons pe_str pa_nil)) pe_int) (nomark _)) (pe_one (pe_cmpR (op_eqD hr.hu) (pe_lst (pa_cons (C8.pe_gc rfl T.c_MAX_PRIME) (pa_cons (C8.pe_gc rfl T.c_MAX_FACTORED) (pa_cons (C8.pe_gc rfl T.c_MOST_NUMBERS) (pa_cons (C8.pe_gc rfl T.c_MAX_SIZE) pa_nil))))) (pe_lst (pa_cons pe_int (pa_cons (pe_op op_pw pe_int pe_int) (pa_cons pe_int (pa_cons pe_int pa_nil))))) (nomark _)))))))))))), ?_⟩
    refine ⟨_, rfl, a, _, rfl, .inl hS, _, _, rfl, _, _, rfl, ?_⟩
    obtain ⟨j, ej, j1, j2⟩ : ∃ j : Int, j = (if (if ((ns.map V.int).length : Int) < 3 then ((ns.map V.int).length : Int) else 3) > 1 then (if ((ns.map V.int).length : Int) < 3 then ((ns.map V.int).length : Int) else 3) else 1) ∧ 1 ≤ j ∧ j ≤ 3 := by
      refine ⟨_, rfl, ?_, ?_⟩
      all_goals
        split
        · split <;> omega
        · omega
    refine ⟨j, by rw [ej], by omega, by omega, for_range (fun i σ H' => SqL K H' a (ns.map V.int) ∧ Tabs (TL K) H' ∧ ∃ x1 x2 x3, σ = [some (.ref a), x1, x2, x3]) ⟨hS, hT, none, none, none, rfl⟩ ?_ ?_⟩
    · rintro i σ H0 hi ⟨hS, hT, x1, x2, x3, rfl⟩
      refine ⟨_, rfl, _, rfl, a, i, ns, ?_, hS, by omega, fun H1 p sm np hb => ?_⟩
      · show [V.ref a, V.int (0 + (i : Int))] = _
        rw [Int.zero_add]
      have E0 : ExtN H0 (wo H1 p) := by
        intro b o h _
        have nb : b ≠ p := ne_of_none h np
        rw [wo_ne nb]
        exact sm _ _ h
      refine ⟨_, rfl, p, rfl, hb, hT.ext sm, fun HB eB bB TB' => ?_⟩
      refine ⟨_, rfl, ?_⟩
      refine ifF rfl ?_
      refine ⟨_, rfl, p, rfl, bB, TB', fun HC eC bC TC => ?_⟩
      refine ⟨_, rfl, ?_⟩
      refine ifF rfl ?_
      exact ⟨sqlE hS ((E0.trans (wo_ext2 eB)).trans eC), TC, _, _, _, rfl⟩
    · rintro σ H' ⟨hS, hT, x1, x2, x3, rfl⟩
      refine ⟨hT, fun H6 e6 t6 => ?_⟩
      refine ⟨10, 9, rfl, rfl, (by show CPw _ _; decide +kernel), .inl ⟨10 ^ 9, by rfl, by decide, by decide, fun u fu => ?_⟩⟩
      refine ⟨by show 1 ≤ sizeLine; decide, fun p fp => ?_⟩
      have o1 := On.first (K := K) (z := .str "fine") (o := none) (t6.ext (same_new fu)) (.str _) fp
      generalize upd (upd H6 u _) p _ = H8 at o1 ⊢
      generalize upd H6 u _ = H7 at o1
      clear t6 fp e6 hT hS
      refine stepW (o := none) o1 rfl (by show 1 < 100; decide) (fun H4 e4 Q' q' => ?_) (fun H9 o2 => ?_)
      · exact ⟨10, 60, rfl, rfl, (by show CPw _ _; decide +kernel), _, _, rfl, rfl, .inl ⟨97, 10 ^ 60 - 1, rfl, by decide +kernel, by decide +kernel, by decide, fun H' s => ret_fine q' s⟩⟩
      refine stepW (o := none) o2 rfl (by show 2 < 100; decide) (fun H4 e4 Q' q' => ?_) (fun H10 o3 => ?_)
      · refine ⟨by show 1 ≤ sizeLine; decide, fun u f => ⟨u, 1000, [.int 1], rfl, rfl, .inl (.inl upd_same), by nofun, by decide, by decide, by decide, fun u2 f2 => ?_⟩⟩
        refine .inl ⟨u2, List.replicate 1000 1, rfl, ⟨.inl (.inl ?_), by rw [List.length_replicate]; decide, ?_⟩, fun H' s => ret_fine q' (((same_new f).trans (same_new f2)).trans s)⟩
        · rw [upd_same, flat_rep, List.map_replicate]
          rfl
        · intro n hn
          rw [List.eq_of_mem_replicate hn]
          decide +kernel
      refine stepW (o := none) o3 rfl (by show 3 < 100; decide) (fun H4 e4 Q' q' => ?_) (fun H11 o4 => ?_)
      · refine ⟨by show 1 ≤ sizeLine; decide, fun u f => ⟨u, 60, [.int 0], rfl, rfl, .inl (.inl upd_same), by nofun, by decide, by decide, by decide, fun u2 f2 => ?_⟩⟩
        refine ⟨by show 1 ≤ sizeLine; decide, fun u3 f3 => ⟨u3, 60, [.ref u2], rfl, rfl, .inl (.inl upd_same), by nofun, by decide, by decide, by show 1 ≤ 100; decide, fun u4 f4 => ?_⟩⟩
        have s4 := (same_new f3 (o := .tup [.ref u2])).trans (same_new f4 (o := .tup (List.replicate (Int.toNat 60) [V.ref u2]).flatten))
        refine .inl ⟨u4, List.replicate 60 (.ref u2), 60, rfl, .inl (.inl ?_), ?_, by rw [List.length_replicate]; decide, by rw [List.length_replicate]; decide, by decide, by decide, fun H' v s => ret_fine q' ((((same_new f).trans (same_new f2)).trans s4).trans s)⟩
        · rw [upd_same, flat_rep]
          rfl
        · intro v hv
          rw [List.eq_of_mem_replicate hv]
          refine ⟨u2, rfl, .inl (.inl (s4 _ _ ?_))⟩
          rw [upd_same, flat_rep]
          rfl
      refine stepW (o := none) o4 rfl (by show 4 < 100; decide) (fun H4 e4 Q' q' => ?_) (fun H12 o5 => ?_)
      · exact ⟨10, 60, rfl, rfl, (by show CPw _ _; decide +kernel), _, _, rfl, rfl, 10, 60, rfl, rfl, (by show CPw _ _; decide +kernel), _, _, rfl, rfl,
          .inl ⟨10 ^ 60 - 1, 1 - 10 ^ 60, rfl, by decide +kernel, by decide +kernel, by decide, fun u f => ret_fine q' (same_new f)⟩⟩
      refine ⟨_, rfl, ?_⟩
      refine ⟨by show 1 ≤ sizeLine; decide, fun r0 f1 => ?_⟩
      refine ⟨r0, 5, _, rfl, rfl, upd_same, by decide, by decide, by decide, fun r1 f2 => ?_⟩
      have s2 := (same_new f1 (o := .lst [.str "fine"])).trans (same_new f2 (o := .lst (List.replicate (Int.toNat 5) [V.str "fine"]).flatten))
      have e1 : (upd (upd H12 r0 (.lst [.str "fine"])) r1 (.lst (List.replicate (Int.toNat 5) [V.str "fine"]).flatten)) r1 = some (.lst [.str "fine", .str "fine", .str "fine", .str "fine", .str "fine"]) := upd_same
      generalize upd (upd H12 r0 _) r1 _ = J2 at s2 e1 ⊢
      refine ⟨dW [none, none, none, none, none], dW [none, none, none, none, none], (o5.same s2).dp, dp_list e1 (.cons (.str _) (.cons (.str _) (.cons (.str _) (.cons (.str _) (.cons (.str _) .nil))))), by decide +kernel, by decide +kernel, ?_⟩
      refine ⟨_, rfl, ?_⟩
      refine ifT (eqvW _) ?_
      refine ⟨by show 4 ≤ sizeLine; decide, fun r2 f3 => ?_⟩
      refine ⟨10, 9, rfl, rfl, (by show CPw _ _; decide +kernel), ?_⟩
      refine ⟨by show 4 ≤ sizeLine; decide, fun r3 f4 => ?_⟩
      refine ⟨.list [.int 100, .int (10 ^ 9), .int 1000, .int 60], .list [.int 100, .int (10 ^ 9), .int 1000, .int 60], .lst (.inl (.inl (same_new f4 _ _ upd_same))) ?_, .lst (.inl (.inl upd_same)) ?_, by decide +kernel, by decide +kernel, ?_⟩
      · exact .cons (.int 100) (.cons (.int (10 ^ 9)) (.cons (.int 1000) (.cons (.int 60) .nil)))
      · exact .cons (.int 100) (.cons (.int (10 ^ 9)) (.cons (.int 1000) (.cons (.int 60) .nil)))
      rw [show PyData.eqv (.list [.int 100, .int (10 ^ 9), .int 1000, .int 60]) (.list [.int 100, .int (10 ^ 9), .int 1000, .int 60]) = true by decide +kernel]
      exact q _
end
end K03


set_option Elab.async false
set_option linter.all false
set_option maxRecDepth 100000
set_option maxHeartbeats 2000000
namespace K03
open PySem PySem.Spec PyProof.Rows L2 MM LamX
/-- the row of the class of wrong numbers, asked -/
def numRow (K : PySem.W.Frag) (C : Addr) : Bool :=
  match K.lookup C with
  | some ⟨.type "type", _, .cls cd, sl⟩ =>
    (match cd.mro with
     | .ref C' :: bm => decide (C' = C) && PySem.W.excTail ieTop bm
     | _ => false) && (match sl.toList with
     | [_, _, _, _, some (.builtin n), _] => decide (n = "IndexError.__new__")
     | _ => false) && !cd.hasDel && cd.hasDict
  | _ => false
theorem numRow_ok {K : PySem.W.Frag} {C : Addr} (h : numRow K C = true) : ∃ nm q N bs bm sn sub ab col dd k0 k1 k2 k3 k5,
    K.lookup C = some (excClassObj nm q C N bs bm true sn sub ab col dd k0 k1 k2 k3 k5 "IndexError.__new__") ∧ PySem.W.excTail ieTop bm = true := by
  unfold numRow at h
  split at h
  · rename_i dd cd sl lk
    obtain ⟨nm, bs, mro, ns, qn, hd, sn, sub, ab, col, del⟩ := cd
    simp only [Bool.and_eq_true, Bool.not_eq_true'] at h
    obtain ⟨⟨⟨h1, h2⟩, h3⟩, h4⟩ := h
    subst h3 h4
    split at h1
    · rename_i C' bm
      rw [Bool.and_eq_true, decide_eq_true_eq] at h1
      obtain ⟨rfl, ht⟩ := h1
      split at h2
      · rename_i k0 k1 k2 k3 n k5 e2
        have e3 : n = "IndexError.__new__" := of_decide_eq_true h2
        subst e3
        have e4 : sl = #[k0, k1, k2, k3, some (.builtin "IndexError.__new__"), k5] := by
          obtain ⟨l⟩ := sl
          simp only at e2
          rw [e2]
        subst e4
        exact ⟨nm, qn, ns, bs, bm, sn, sub, ab, col, dd, k0, k1, k2, k3, k5, lk, ht⟩
      · cases h2
    · cases h1
  · cases h
def exB (K : PySem.W.Frag) (x y : Str) (b : Bool) : Bool := decide (PySem.W.exmOne K (.ref (ga K x)) (.ref (ga K y)) = some b)
def numB (K : PySem.W.Frag) : Bool :=
  numRow K (ga K "InvalidNumber") && decide (PySem.W.findIn K (.ref (ga K "InvalidNumber")) "__setattr__" = some (some (.builtin "object.__setattr__"))) &&
    decide (PySem.W.subIn K (.ref (ga K "InvalidNumber")) (.type "BaseException") = some true) &&
    decide (PySem.W.typeIn K (.ref (ga K "InvalidNumber")) = some (.type "type")) && PySem.W.keepIn K (.ref (ga K "InvalidNumber")) &&
    decide (PySem.W.findIn K (.ref (ga K "InvalidNumber")) "given" = some none) && xfB K (ga K "InvalidNumber") &&
    decide (PySem.W.findIn K (.ref (ga K "InvalidNumber")) "__init__" = some (some (.ref (He.ma K (ga K "InvalidNumber") "__init__")))) &&
    decide (PySem.W.typeIn K (.ref (He.ma K (ga K "InvalidNumber") "__init__")) = some (.type "function"))
def allB (K : PySem.W.Frag) : Bool :=
  plainB K "InvalidTable" && plainB K "InvalidOperation" && numB K && exB K "InvalidNumber" "InvalidNumber" true && exB K "InvalidTable" "InvalidNumber" false &&
    exB K "InvalidTable" "InvalidTable" true && exB K "InvalidOperation" "InvalidNumber" false && exB K "InvalidOperation" "InvalidTable" false &&
    exB K "InvalidOperation" "InvalidOperation" true && decide ((cd1 K).2 ≠ (cd2 K).2) && decide ((cd1 K).2 ≠ (cd3 K).2) && decide ((cd2 K).2 ≠ (cd3 K).2)
theorem ex_ok {K : PySem.W.Frag} {mg : Str → Option Value} (h : allB K = true) (g1 : mg "InvalidTable" = some (.ref (ga K "InvalidTable")))
    (g2 : mg "InvalidOperation" = some (.ref (ga K "InvalidOperation"))) (g3 : mg "InvalidNumber" = some (.ref (ga K "InvalidNumber")))
    (ie : mg "IndexError" = none)
    (F : ∃ fd, FunD K "__init__" "InvalidNumber.__init__" (defArgs sInit) (defBody sInit) (defScope sInit) [] [] (He.ma K (ga K "InvalidNumber") "__init__") fd) :
    Ex K mg ∧ (cd1 K).2 ≠ (cd2 K).2 ∧ (cd1 K).2 ≠ (cd3 K).2 ∧ (cd2 K).2 ≠ (cd3 K).2 := by
  unfold allB at h
  simp only [Bool.and_eq_true, decide_eq_true_eq] at h
  obtain ⟨⟨⟨⟨⟨⟨⟨⟨⟨⟨⟨m, o⟩, n⟩, a1⟩, a2⟩, a3⟩, a4⟩, a5⟩, a6⟩, d1⟩, d2⟩, d3⟩ := h
  unfold numB at n
  simp only [Bool.and_eq_true, decide_eq_true_eq] at n
  obtain ⟨⟨⟨⟨⟨⟨⟨⟨r1, r2⟩, r3⟩, r4⟩, r5⟩, r6⟩, r7⟩, r8⟩, r9⟩ := n
  obtain ⟨fd, F⟩ := F
  exact ⟨⟨plain_ok g1 m, plain_ok g2 o, ⟨g3, ⟨PySem.F.excBase_IndexError, PySem.F.store_IndexError, numRow_ok r1, r2, r3, r4, r5⟩, r6, xfB_ok r7, ⟨_, fd, r8, r9, F⟩⟩, ie,
    of_decide_eq_true a1, of_decide_eq_true a2, of_decide_eq_true a3, of_decide_eq_true a4, of_decide_eq_true a5, of_decide_eq_true a6⟩, d1, d2, d3⟩
end K03

set_option Elab.async false
set_option linter.all false
set_option maxRecDepth 100000
set_option maxHeartbeats 0
namespace K03
open PySem PySem.Spec PyProof.Rows L2 MM LamX
theorem law_def {P : Program} {w : World} {K : PySem.W.Frag} {mg : Str → Option Value} {base : Heap} (T : Tx K mg) (Y : Ex K mg) (TB : Tb K mg base) : Def P w K mg base CX0 10 "law" ["_law_script"] (spLawT K) := by
  have DBagL := dBagL (P := P) (w := w) (base := base) T 
  have DGrabL := dGrabL (P := P) (w := w) (base := base) T 
  have DOneOfL := dOneOfL (P := P) (w := w) (base := base) T DGrabL
  have DIsWhole := dIsWhole (P := P) (w := w) (base := base) T 
  have DIsInteger := dIsInteger (P := P) (w := w) (base := base) T DIsWhole
  have DIsBetween := dIsBetween (P := P) (w := w) (base := base) T DIsWhole
  have DNeedBetween := dNeedBetween (P := P) (w := w) (base := base) T DIsBetween
  have DIsPrime := dIsPrime (P := P) (w := w) (base := base) T DIsBetween
  have DNeedPrime := dNeedPrime (P := P) (w := w) (base := base) T DIsPrime
  have DPrimeFactors := dPrimeFactors (P := P) (w := w) (base := base) T DNeedBetween
  have DNeedDivided := dNeedDivided (P := P) (w := w) (base := base) T DIsInteger
  have DPartAt := dPartAt (P := P) (w := w) (base := base) T DNeedPrime DNeedDivided
  have DNeedNumbers := dNeedNumbers (P := P) (w := w) (base := base) T DIsInteger
  have DCommonDivisor := dCommonDivisor (P := P) (w := w) (base := base) T DNeedNumbers
  have DCommonMultiple := dCommonMultiple (P := P) (w := w) (base := base) T DNeedNumbers
  have DReduced := dReduced (P := P) (w := w) (base := base) T 
  have DLowest := dLowest (P := P) (w := w) (base := base) T DIsInteger DNeedDivided DReduced
  have DIsLine := dIsLine (P := P) (w := w) (base := base) T DIsInteger
  have DIsTable := dIsTable (P := P) (w := w) (base := base) T DIsLine
  have DNeedTable := dNeedTable (P := P) (w := w) (base := base) T DIsTable
  have DLeadRow := dLeadRow (P := P) (w := w) (base := base) T 
  have DStairs := dStairs (P := P) (w := w) (base := base) T DLeadRow
  have DRank := dRank (P := P) (w := w) (base := base) T DNeedTable DStairs
  have DColumns := dColumns (P := P) (w := w) (base := base) T 
  have DLineProduct := dLineProduct (P := P) (w := w) (base := base) T 
  have DTableProduct := dTableProduct (P := P) (w := w) (base := base) T DNeedTable DColumns DLineProduct
  have BNeedBetween := bNeedBetween (P := P) (w := w) (base := base) T Y DIsBetween
  have BPrimeFactors := bPrimeFactors (P := P) (w := w) (base := base) T Y BNeedBetween
  have CPrimeFactors := def_or DPrimeFactors BPrimeFactors (l := 5) (by decide) (by decide)
  have BNeedPrime := bNeedPrime (P := P) (w := w) (base := base) T Y DIsPrime
  have CNeedPrime := def_or DNeedPrime BNeedPrime (l := 4) (by decide) (by decide)
  have BNeedDivided := bNeedDivided (P := P) (w := w) (base := base) T Y DIsInteger
  have BPartAt := bPartAt (P := P) (w := w) (base := base) T Y CNeedPrime BNeedDivided
  have CPartAt := def_or DPartAt BPartAt (l := 6) (by decide) (by decide)
  have BNeedNumbers := bNeedNumbers (P := P) (w := w) (base := base) T Y DIsInteger
  have CNeedNumbers := def_or DNeedNumbers BNeedNumbers (l := 3) (by decide) (by decide)
  have BCommonDivisor := bCommonDivisor (P := P) (w := w) (base := base) T Y CNeedNumbers
  have CCommonDivisor := def_or DCommonDivisor BCommonDivisor (l := 5) (by decide) (by decide)
  have BCommonMultiple := bCommonMultiple (P := P) (w := w) (base := base) T Y CNeedNumbers
  have CCommonMultiple := def_or DCommonMultiple BCommonMultiple (l := 5) (by decide) (by decide)
  have BLowest := bLowest (P := P) (w := w) (base := base) T Y DIsInteger BNeedDivided
  have CLowest := def_or DLowest BLowest (l := 5) (by decide) (by decide)
  have BNeedTable := bNeedTable (P := P) (w := w) (base := base) T Y DIsTable
  have CNeedTable := def_or DNeedTable BNeedTable (l := 5) (by decide) (by decide)
  have BKernel := bKernel (P := P) (w := w) (base := base) T Y CNeedTable
  have BElementaryDivisors := bElementaryDivisors (P := P) (w := w) (base := base) T Y CNeedTable
  have BDeterminant := bDeterminant (P := P) (w := w) (base := base) T Y CNeedTable
  have BRank := bRank (P := P) (w := w) (base := base) T Y CNeedTable
  have CRank := def_or DRank BRank (l := 6) (by decide) (by decide)
  have BTableProduct := bTableProduct (P := P) (w := w) (base := base) T Y CNeedTable
  have CTableProduct := def_or DTableProduct BTableProduct (l := 6) (by decide) (by decide)
  have DNumbersRightL := dNumbersRightL (P := P) (w := w) (base := base) T Y TB DOneOfL CPrimeFactors CPartAt CLowest CCommonDivisor CCommonMultiple
  have DTablesRightL := dTablesRightL (P := P) (w := w) (base := base) T Y TB DOneOfL BDeterminant BRank BKernel BElementaryDivisors CTableProduct
  exact dLaw T Y TB DBagL DTablesRightL DNumbersRightL CPrimeFactors CPartAt CCommonDivisor CRank CLowest
def dd (x : Str) (st : Stmt) : He.DefD := ⟨(x, none), x, x, defArgs st, defBody st, defScope st, [], []⟩
def fn : List He.DefD := [dd "is_whole" sIsWhole, dd "is_integer" sIsInteger, dd "is_between" sIsBetween, dd "need_between" sNeedBetween, dd "is_prime" sIsPrime, dd "need_prime" sNeedPrime, dd "prime_factors" sPrimeFactors, dd "_need_divided" sNeedDivided, dd "part_at" sPartAt, dd "_need_numbers" sNeedNumbers, dd "common_divisor" sCommonDivisor, dd "common_multiple" sCommonMultiple, dd "reduced" sReduced, dd "lowest" sLowest, dd "_is_line" sIsLine, dd "is_table" sIsTable, dd "_need_table" sNeedTable, dd "_columns" sColumns, dd "table_product" sTableProduct, dd "_line_product" sLineProduct, dd "_lead_row" sLeadRow, dd "_stepped" sStepped, dd "_stairs" sStairs, dd "_begun_with" sBegunWith, dd "determinant" sDeterminant, dd "rank" sRank, dd "_kernel_row" sKernelRow, dd "_without_divisor" sWithoutDivisor, dd "kernel" sKernel, dd "bezout" sBezout, dd "mixed" sMixed, dd "_column_cleared" sColumnCleared, dd "_corner_cleared" sCornerCleared, dd "_lead_place" sLeadPlace, dd "_diagonal" sDiagonal, dd "_as_chain" sAsChain, dd "_divisors_within" sDivisorsWithin, dd "_square_divisors" sSquareDivisors, dd "elementary_divisors" sElementaryDivisors, dd "_law_bag" sBagL, dd "_law_grab" sGrabL, dd "_law_one_of" sOneOfL, dd "_law_word" sWordL, dd "_law_numbers_right" sNumbersRightL, dd "_law_tables_right" sTablesRightL, dd "law" sLaw, ⟨("InvalidNumber", some "__init__"), "__init__", "InvalidNumber.__init__", defArgs sInit, defBody sInit, defScope sInit, [], []⟩]
def fa : List He.Fa := [.glo "is_whole", .glo "is_integer", .glo "is_between", .glo "need_between", .glo "is_prime", .glo "need_prime", .glo "prime_factors", .glo "_need_divided", .glo "part_at", .glo "_need_numbers", .glo "common_divisor", .glo "common_multiple", .glo "reduced", .glo "lowest", .glo "_is_line", .glo "is_table", .glo "_need_table", .glo "_columns", .glo "table_product", .glo "_line_product", .glo "_lead_row", .glo "_stepped", .glo "_stairs", .glo "_begun_with", .glo "determinant", .glo "rank", .glo "_kernel_row", .glo "_without_divisor", .glo "kernel", .glo "bezout", .glo "mixed", .glo "_column_cleared", .glo "_corner_cleared", .glo "_lead_place", .glo "_diagonal", .glo "_as_chain", .glo "_divisors_within", .glo "_square_divisors", .glo "elementary_divisors", .glo "_law_bag", .glo "_law_grab", .glo "_law_one_of", .glo "_law_word", .glo "_law_numbers_right", .glo "_law_tables_right", .glo "law", .free "IndexError", .free "abs", .free "all", .free "any", .free "bool", .free "enumerate", .free "int", .free "isinstance", .free "len", .free "list", .free "max", .free "min", .free "range", .free "repr", .free "sum", .free "tuple", .free "zip", .int "MAX_PRIME" (100), .int "MAX_FACTORED" (10 ^ 9), .int "MOST_NUMBERS" (1000), .int "_TOO_LONG" (10 ^ 60), .int "MAX_SIZE" (60), .glo "InvalidTable", .glo "InvalidOperation", .glo "InvalidNumber"]
def ex (K : PySem.W.Frag) : Bool := allB K && (He.eqO (PySem.W.nsIn K mainGlobals "gcd") (some (some (.builtin "math.gcd"))) && He.eqO (PySem.W.nsIn K mainGlobals "lcm") (some (some (.builtin "math.lcm"))))
theorem tx {K : PySem.W.Frag} {h : Heap} {mg : Str → Option Value} (X : K.In h) (G : h.Ns mainGlobals mg) (c : He.SaysD fa fn K) (ez : ex K = true) : Tx K mg := by
  have e := (He.ba ez).2
  obtain ⟨e0, e1⟩ := He.ba e
  exact {
    t_is_whole := ⟨c.def_ 0 rfl, He.glo_ok X G (c.fact 0 rfl)⟩
    t_is_integer := ⟨c.def_ 1 rfl, He.glo_ok X G (c.fact 1 rfl)⟩
    t_is_between := ⟨c.def_ 2 rfl, He.glo_ok X G (c.fact 2 rfl)⟩
    t_need_between := ⟨c.def_ 3 rfl, He.glo_ok X G (c.fact 3 rfl)⟩
    t_is_prime := ⟨c.def_ 4 rfl, He.glo_ok X G (c.fact 4 rfl)⟩
    t_need_prime := ⟨c.def_ 5 rfl, He.glo_ok X G (c.fact 5 rfl)⟩
    t_prime_factors := ⟨c.def_ 6 rfl, He.glo_ok X G (c.fact 6 rfl)⟩
    t_need_divided := ⟨c.def_ 7 rfl, He.glo_ok X G (c.fact 7 rfl)⟩
    t_part_at := ⟨c.def_ 8 rfl, He.glo_ok X G (c.fact 8 rfl)⟩
    t_need_numbers := ⟨c.def_ 9 rfl, He.glo_ok X G (c.fact 9 rfl)⟩
    t_common_divisor := ⟨c.def_ 10 rfl, He.glo_ok X G (c.fact 10 rfl)⟩
    t_common_multiple := ⟨c.def_ 11 rfl, He.glo_ok X G (c.fact 11 rfl)⟩
    t_reduced := ⟨c.def_ 12 rfl, He.glo_ok X G (c.fact 12 rfl)⟩
    t_lowest := ⟨c.def_ 13 rfl, He.glo_ok X G (c.fact 13 rfl)⟩
    t_is_line := ⟨c.def_ 14 rfl, He.glo_ok X G (c.fact 14 rfl)⟩
    t_is_table := ⟨c.def_ 15 rfl, He.glo_ok X G (c.fact 15 rfl)⟩
    t_need_table := ⟨c.def_ 16 rfl, He.glo_ok X G (c.fact 16 rfl)⟩
    t_columns := ⟨c.def_ 17 rfl, He.glo_ok X G (c.fact 17 rfl)⟩
    t_table_product := ⟨c.def_ 18 rfl, He.glo_ok X G (c.fact 18 rfl)⟩
    t_line_product := ⟨c.def_ 19 rfl, He.glo_ok X G (c.fact 19 rfl)⟩
    t_lead_row := ⟨c.def_ 20 rfl, He.glo_ok X G (c.fact 20 rfl)⟩
    t_stepped := ⟨c.def_ 21 rfl, He.glo_ok X G (c.fact 21 rfl)⟩
    t_stairs := ⟨c.def_ 22 rfl, He.glo_ok X G (c.fact 22 rfl)⟩
    t_begun_with := ⟨c.def_ 23 rfl, He.glo_ok X G (c.fact 23 rfl)⟩
    t_determinant := ⟨c.def_ 24 rfl, He.glo_ok X G (c.fact 24 rfl)⟩
    t_rank := ⟨c.def_ 25 rfl, He.glo_ok X G (c.fact 25 rfl)⟩
    t_kernel_row := ⟨c.def_ 26 rfl, He.glo_ok X G (c.fact 26 rfl)⟩
    t_without_divisor := ⟨c.def_ 27 rfl, He.glo_ok X G (c.fact 27 rfl)⟩
    t_kernel := ⟨c.def_ 28 rfl, He.glo_ok X G (c.fact 28 rfl)⟩
    t_bezout := ⟨c.def_ 29 rfl, He.glo_ok X G (c.fact 29 rfl)⟩
    t_mixed := ⟨c.def_ 30 rfl, He.glo_ok X G (c.fact 30 rfl)⟩
    t_column_cleared := ⟨c.def_ 31 rfl, He.glo_ok X G (c.fact 31 rfl)⟩
    t_corner_cleared := ⟨c.def_ 32 rfl, He.glo_ok X G (c.fact 32 rfl)⟩
    t_lead_place := ⟨c.def_ 33 rfl, He.glo_ok X G (c.fact 33 rfl)⟩
    t_diagonal := ⟨c.def_ 34 rfl, He.glo_ok X G (c.fact 34 rfl)⟩
    t_as_chain := ⟨c.def_ 35 rfl, He.glo_ok X G (c.fact 35 rfl)⟩
    t_divisors_within := ⟨c.def_ 36 rfl, He.glo_ok X G (c.fact 36 rfl)⟩
    t_square_divisors := ⟨c.def_ 37 rfl, He.glo_ok X G (c.fact 37 rfl)⟩
    t_elementary_divisors := ⟨c.def_ 38 rfl, He.glo_ok X G (c.fact 38 rfl)⟩
    t_law_bag := ⟨c.def_ 39 rfl, He.glo_ok X G (c.fact 39 rfl)⟩
    t_law_grab := ⟨c.def_ 40 rfl, He.glo_ok X G (c.fact 40 rfl)⟩
    t_law_one_of := ⟨c.def_ 41 rfl, He.glo_ok X G (c.fact 41 rfl)⟩
    t_law_word := ⟨c.def_ 42 rfl, He.glo_ok X G (c.fact 42 rfl)⟩
    t_law_numbers_right := ⟨c.def_ 43 rfl, He.glo_ok X G (c.fact 43 rfl)⟩
    t_law_tables_right := ⟨c.def_ 44 rfl, He.glo_ok X G (c.fact 44 rfl)⟩
    t_law := ⟨c.def_ 45 rfl, He.glo_ok X G (c.fact 45 rfl)⟩
    f_IndexError := He.free_ok X G (c.fact 46 rfl)
    f_abs := He.free_ok X G (c.fact 47 rfl)
    f_all := He.free_ok X G (c.fact 48 rfl)
    f_any := He.free_ok X G (c.fact 49 rfl)
    f_bool := He.free_ok X G (c.fact 50 rfl)
    f_enumerate := He.free_ok X G (c.fact 51 rfl)
    f_int := He.free_ok X G (c.fact 52 rfl)
    f_isinstance := He.free_ok X G (c.fact 53 rfl)
    f_len := He.free_ok X G (c.fact 54 rfl)
    f_list := He.free_ok X G (c.fact 55 rfl)
    f_max := He.free_ok X G (c.fact 56 rfl)
    f_min := He.free_ok X G (c.fact 57 rfl)
    f_range := He.free_ok X G (c.fact 58 rfl)
    f_repr := He.free_ok X G (c.fact 59 rfl)
    f_sum := He.free_ok X G (c.fact 60 rfl)
    f_tuple := He.free_ok X G (c.fact 61 rfl)
    f_zip := He.free_ok X G (c.fact 62 rfl)
    c_MAX_PRIME := by
      obtain ⟨t, e⟩ := He.int_ok X G (c.fact 63 rfl)
      exact ⟨_, e, t, rfl⟩
    c_MAX_FACTORED := by
      obtain ⟨t, e⟩ := He.int_ok X G (c.fact 64 rfl)
      exact ⟨_, e, t, rfl⟩
    c_MOST_NUMBERS := by
      obtain ⟨t, e⟩ := He.int_ok X G (c.fact 65 rfl)
      exact ⟨_, e, t, rfl⟩
    c_TOO_LONG := by
      obtain ⟨t, e⟩ := He.int_ok X G (c.fact 66 rfl)
      exact ⟨_, e, t, rfl⟩
    c_MAX_SIZE := by
      obtain ⟨t, e⟩ := He.int_ok X G (c.fact 67 rfl)
      exact ⟨_, e, t, rfl⟩
    b_gcd := PySem.W.mg_of X G (He.eqO_ok e0)
    b_lcm := PySem.W.mg_of X G (He.eqO_ok e1)
    }
theorem exs {K : PySem.W.Frag} {h : Heap} {mg : Str → Option Value} (X : K.In h) (G : h.Ns mainGlobals mg) (c : He.SaysD fa fn K) (e : ex K = true) : Ex K mg ∧ (cd1 K).2 ≠ (cd2 K).2 ∧ (cd1 K).2 ≠ (cd3 K).2 ∧ (cd2 K).2 ≠ (cd3 K).2 :=
  ex_ok (He.ba e).1 (He.glo_ok X G (c.fact 68 rfl)) (He.glo_ok X G (c.fact 69 rfl)) (He.glo_ok X G (c.fact 70 rfl)) (tx X G c e).f_IndexError (c.def_ 46 rfl)
abbrev tf : List He.Defn := [(sNr, none), (sTr, none), (sLw, none)]
abbrev cs (K : PySem.W.Frag) : List (Addr × Addr) := [cd1 K, cd2 K, cd3 K]
abbrev R : PySem.W.OpenRow := PySem.W.OpenLaw.row PySem.Challenge.rw_movemarks_k03_errors_of_integers_and_tab
theorem law_ends {P : Program} {w : World} {K : PySem.W.Frag} {h : Heap} {mg : Str → Option Value} {f : Addr} (X : K.In h) (G : h.Ns mainGlobals mg) (hfa : mg ("law" : Str) = some (.ref f)) (c : He.SaysD fa fn K) (e : ex K = true) :
    ∃ fd : FuncData, (∀ (s : Shared) (v : Value), BindsTo s fd ⟨[v], []⟩ [("_law_script", v)]) ∧ ∀ base : Heap, K.In base → base.Ns mainGlobals mg → (∀ p ∈ cs K, TabB base mg p.1 p.2) → FnG P w K mg base CX0 10 f fd ["_law_script"] (spLawT K) := by
  have T : Tx K mg := tx X G c e
  obtain ⟨Y, n12, n13, n23⟩ := exs X G c e
  obtain ⟨fd, F⟩ := T.t_law.fn
  have b := FunD.bindsA (ps := ["_law_script"]) F fun _ _ _ _ _ _ us hl => match us, hl with | [_], _ => rfl
  refine ⟨fd, fun s v => b s [v] rfl, fun base _ _ tb => ?_⟩
  have TB : Tb K mg base := ⟨tb (cd1 K) List.mem_cons_self, tb (cd2 K) (List.mem_cons_of_mem _ List.mem_cons_self), tb (cd3 K) (List.mem_cons_of_mem _ (List.mem_cons_of_mem _ List.mem_cons_self)), n12, n13, n23⟩
  obtain ⟨oc, od, _, _, _, _, _, _, _, osl, _, lk, _⟩ := F.ex
  obtain ⟨f2, fd2, F2, hm, _, _, oc2, od2, sl2, lk2⟩ := law_def (P := P) (w := w) (base := base) T Y TB
  have e1 : f2 = f := by
    rw [hfa] at hm
    injection hm with hm
    injection hm with hm
    exact hm.symm
  have e2 : He.ga K "law" = f := by
    have g := T.t_law.glo
    rw [hfa] at g
    injection g with g
    injection g with g
    exact g.symm
  subst e1
  rw [e2] at lk
  rw [lk] at lk2
  injection lk2 with lk2
  injection lk2 with z1 z2 z3 z4
  injection z3 with z3
  subst z3
  exact F2
abbrev hk : PySem.W.Hook := He.hookX 4 fa fn [] tf ex
def ob (s : PySem.W.SharedT) : He.AlX := He.obsX 4 fa fn [] tf ex (HandSHeadRun.getT s)
theorem ob_eq (s : PySem.W.SharedT) : ob s = hk.obs s.abs := He.obsX_eq (HandSHeadRun.getT_eq s)
def names : List PySem.Str := (["MarkError", "InvalidTable", "InvalidOperation", "InvalidNumber", "MAX_PRIME", "MAX_FACTORED", "MOST_NUMBERS", "_TOO_LONG", "is_whole", "is_integer", "is_between", "need_between", "is_prime", "need_prime", "prime_factors", "_need_divided", "part_at", "_need_numbers", "common_divisor", "common_multiple", "reduced", "lowest", "MAX_SIZE", "_is_line", "is_table", "_need_table", "_columns", "table_product", "_line_product", "_lead_row", "_stepped", "_stairs", "_begun_with", "determinant", "rank", "_kernel_row", "_without_divisor", "kernel", "bezout", "mixed", "_column_cleared", "_corner_cleared", "_lead_place", "_diagonal", "_as_chain", "_divisors_within", "_square_divisors", "elementary_divisors", "_law_bag", "_law_grab", "_law_one_of", "_law_word", "_law_numbers_right", "_law_tables_right"] : List String).map PySem.Str.ofString
end K03

set_option Elab.async false
set_option linter.all false
set_option maxRecDepth 100000
set_option maxHeartbeats 0
namespace K03
open PySem PySem.Spec PyProof.Rows L2 MM
theorem run (w : World) : HandSHeadRun.RunEqI R (PySem.W.view R.prog [0, 59]) hk ob 3000 names w := by
  unfold HandSHeadRun.RunEqI
  kernel_rfl
end K03
open PySem PySem.W PySem.Calls PyProof.Rows
theorem PySem.Challenge.cw_movemarks_k03_errors_of_integers_and_tab_holds : PySem.Challenge.rw_movemarks_k03_errors_of_integers_and_tab.Holds := by
  w_on; o_law
  refine HandSHeadRun.head_imp (r := OpenLaw.row PySem.Challenge.rw_movemarks_k03_errors_of_integers_and_tab) (q := view (OpenLaw.row PySem.Challenge.rw_movemarks_k03_errors_of_integers_and_tab).prog [0, 59]) (H := K03.hk) (ob := K03.ob) (M := 3000) (loose := K03.names)
    (d := HandSHeadRun.topDef (OpenLaw.row PySem.Challenge.rw_movemarks_k03_errors_of_integers_and_tab).prog 59) (kwd := []) K03.ob_eq K03.run (by kernel_rfl) (by kernel_rfl) (by kernel_rfl) (by rfl) (by first | assumption | decide +kernel) (by decide +kernel) ⟨rfl, rfl, rfl, rfl, rfl, by decide +kernel⟩ ?hw ?hc
  case hw => w_witness2
  case hc =>
    refine ME.walk_tab (l := PySem.Challenge.rw_movemarks_k03_errors_of_integers_and_tab) (n := 63) (k := 10) (x := "_law_script") (CX := fun _ => L2.CX0) rfl (by decide) (by kernel_rfl) ⟨⟨rfl, by decide, by decide⟩, rfl⟩ ?F (fun _ _ _ _ _ z => z)
    intro w mg fa h Y G hmg0
    obtain ⟨K, KX, c⟩ := Y
    have hmg : mg ("law" : PySem.Str) = some (.ref fa) := by
      have e : (HandSHeadRun.topDef (OpenLaw.row PySem.Challenge.rw_movemarks_k03_errors_of_integers_and_tab).prog 59).name = ("law" : PySem.Str) := by kernel_rfl
      rw [← e]
      exact hmg0
    obtain ⟨fd, hb, hF⟩ := K03.law_ends (P := (PySem.Challenge.rw_movemarks_k03_errors_of_integers_and_tab).prog) (w := w) KX G hmg c.t.d c.more
    have m1 : ((K03.sNr, none) : He.Defn) ∈ K03.tf := List.mem_cons_self
    have m2 : ((K03.sTr, none) : He.Defn) ∈ K03.tf := List.mem_cons_of_mem _ List.mem_cons_self
    have m3 : ((K03.sLw, none) : He.Defn) ∈ K03.tf := List.mem_cons_of_mem _ (List.mem_cons_of_mem _ List.mem_cons_self)
    have all3 : ∀ (φ : PySem.Addr × PySem.Addr → Prop), φ (K03.cd1 K) → φ (K03.cd2 K) → φ (K03.cd3 K) → ∀ p ∈ K03.cs K, φ p := by
      intro φ a b c p hp
      have hp2 : p = K03.cd1 K ∨ p = K03.cd2 K ∨ p = K03.cd3 K := by simpa only [List.mem_cons, List.not_mem_nil, or_false] using hp
      rcases hp2 with rfl | rfl | rfl
      · exact a
      · exact b
      · exact c
    refine ⟨K, fd, K03.spLawT K, K03.cs K, KX, all3 _ (c.empty _ m1) (c.empty _ m2) (c.empty _ m3), all3 _ (c.out _ m1) (c.out _ m2) (c.out _ m3),
      all3 _ (PySem.W.codeHd_of_K KX (c.hd _ m1)) (PySem.W.codeHd_of_K KX (c.hd _ m2)) (PySem.W.codeHd_of_K KX (c.hd _ m3)), hb, fun H a ns hl ht hS => ?_, hF⟩
    refine ⟨a, ns, rfl, hS, by omega, ?_, fun _ => rfl⟩
    intro p hp
    rcases K03.tl_mem hp with rfl | rfl | rfl
    · exact LamX.TabS.nil (ht (K03.cd1 K) List.mem_cons_self)
    · exact LamX.TabS.nil (ht (K03.cd2 K) (List.mem_cons_of_mem _ List.mem_cons_self))
    · exact LamX.TabS.nil (ht (K03.cd3 K) (List.mem_cons_of_mem _ (List.mem_cons_of_mem _ List.mem_cons_self)))
