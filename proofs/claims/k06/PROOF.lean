import PyProof.Rows.All
import Wide.All
import OpenK.AllK
import Wide.FinOn
import HandS.ForMost
import HandS.Exc
import HandS.Defaults
import HandS.More
import HandS.Flow
import HandS.Wide
import HandS.IsInst
import HandS.Codes
import HandS.Conv
import HandS.SortInts
import HandS.TupAny
import HandS.TupMul
import HandS.DictComp
import HandS.Style
import HandS.Small
import PyProof.ReprRoads
import HandS.HeadHook1
import HandS.HeadHook2
import HandS.HeadHook3
import HandS.HeadHook4
import HandS.Gcd
import PyProof.Rows.RuleB_pow
import KE.GoesEnum
import HandS.Iter
import HandS.Set
import HandS.SetFor
import HandS.Strs
import KE.SortKeyHeap
import HandS.SortKw
import HandS.Zip
import KE.KExcInit
import HandS.ExcInit
import HandS.TryMany
import HandS.ExcField
import HandS.Lambda
import HandS.EndTab
import HandS.ExcBuiltin
import HandS.Head0
import HandS.Head1
import HandS.Head2
import HandS.Head3
import HandS.Head4
import HandS.HeadEnd
import KE.KStateDown
import KE.KNestM
import PySem.Challenge.RW_movemarks_k06_errors_of_moves
set_option Elab.async false
set_option maxRecDepth 100000
set_option maxHeartbeats 2000000
set_option linter.all false
namespace MM
open PySem PySem.Spec PyProof.Rows L2

/-! room, with nothing under way that is being shown -/
structure Rm (k : Nat) (A : Around) : Prop where
  room : Room k A
  still : A.guards = some []
theorem Rm.le {j k : Nat} {A : Around} (h : Rm k A) (le : j ≤ k) : Rm j A := ⟨h.room.mono le, h.still⟩
theorem Rm.down {k : Nat} {A : Around} {v : Env} (h : Rm (k + 1) A) : Rm k (A.deeper v) := ⟨h.room.deeper v, h.still⟩
theorem Rm.hu {k : Nat} {A : Around} (h : Rm k A) : A.units + 64 < cLine := h.room.units
theorem Rm.hu66 {k : Nat} {A : Around} (h : Rm k A) : A.units + 66 < cLine := by have := h.room.un; omega
theorem Rm.hu1 {k : Nat} {A : Around} (h : Rm k A) : A.units + 1 < cLine := by have := h.room.un; omega

/-- a def keeps its promise wherever nothing is being shown -/
structure FnG (P : Program) (w : World) (K : PySem.W.Frag) (mg : Str → Option Value) (base : Heap)
    (CX : CXT) (k : Nat) (f : Addr) (fd : FuncData) (ps : List Str) (sp : Sp) : Prop where
  arity : ∀ {vs H Q E}, sp vs H Q E → vs.length = ps.length
  runs : ∀ {A : Around} {out : List Env} {s : Shared} {H : Hp} {ar : Args} {us : List Value} {vs : List V} {Q : VK} {E : XK},
    Rm k A → Env0 P w K mg base A out s H → BindsTo s fd ar (ps.zip us) → Vals vs us → sp vs H Q E →
      codeAny (model P w) A (.call (.ref f) ar) (CR CX out P w H s Q E) s

section
variable {P : Program} {w : World} {K : PySem.W.Frag} {mg : Str → Option Value} {base : Heap} {CX : CXT}
  {j k : Nat} {f : Addr} {fd : FuncData} {ps : List Str} {sp : Sp}
theorem FnG.le (F : FnG P w K mg base CX j f fd ps sp) (h : j ≤ k) : FnG P w K mg base CX k f fd ps sp :=
  ⟨F.arity, fun r => F.runs (r.le h)⟩
theorem FnG.of (F : FnOk P w K mg base CX k f fd ps sp) : FnG P w K mg base CX k f fd ps sp :=
  ⟨fun h => F.len _ _ _ _ h, fun r e b v h => F.run _ _ _ _ _ _ _ _ _ r.room e b v h⟩

/-- by its body -/
theorem FnG.body {x qual : Str} {pa : Arguments} {bd : List Stmt} {sc : Scope} {N : List Str}
    (F : FunD K x qual pa bd sc [] [] f fd) (S : FnScope N ps sc)
    (arity : ∀ vs H Q E, sp vs H Q E → vs.length = ps.length)
    (hb : ∀ (cd : Value) (A : Around) (out : List Env) (s : Shared) (H : Hp) (vs : List V) (Q : VK) (E : XK),
      Rm k (A.deeper (envOfC qual sc s.heap.objs.size f cd)) → sp vs H Q E →
      ∃ t, PSs (cxOf CX P w K mg base N qual sc f cd A out s H E) bd t ∧
        t { nx := fun _ H' => Q .non H', rt := Q } (start N vs) H) :
    FnG P w K mg base CX (k + 1) f fd ps sp := by
  obtain ⟨oc, od, dV, kV, doc, pm, an, cd, ct, osl, rfl, lk, hcd, _, _⟩ := F.ex
  refine ⟨fun h => arity _ _ _ _ h, ?_⟩
  intro A out s H ar us vs Q E hr e0 hbd hv h
  have nv := arity _ _ _ _ h
  have inK : K.In s.heap := e0.mod.kin.keeps (fun b o e => (e0.bs b o e).1)
  have nl : s.heap.NoLimit := e0.mod.nolimit.keeps (fun b o e => (e0.bs b o e).1)
  have kd : ∀ y ∈ ps.zip us, sc.names.lookup y.1 = some .local ∨
      (sc.names.lookup y.1 = some .cell ∧ ((cellsFrom (s.heap.objs.size + 1) sc.names []).lookup y.1).isSome = true) := by
    rintro ⟨n, v⟩ hy
    cases S.par n (List.of_mem_zip hy).1 with
    | inl q => exact .inl q
    | inr q => exact .inr ⟨q, PySem.W.cellsFrom_some _ _ _ (.inl q)⟩
  refine codeAny_call_function hr.room.depth (inK _ _ lk) rfl S.co S.gen rfl (PySem.W.codeRec_of inK hcd) (hbd _ _ _ _ ?_)
  refine wpAny_newFunctionEnv_cells S.kind kd (fun env he s1 xc => ?_)
  subst he
  refine ⟨nl.keeps xc.toInCall.keep, codeAny_func ?_⟩
  obtain ⟨t, ht, hq⟩ := hb cd A out s H vs Q E hr.down h
  have I := inv_start (CX := CX) (P := P) (w := w) (qual := qual) (cd := cd) (f := f) (E := E) S hr.room.hd e0 nv hv xc
  refine wpAny_mono (ht.run [] s1 (start N vs) H _ I hq) (fun fl s' hs => ?_) (fun e s' hs => hs)
  cases fl with
  | ret u =>
    obtain ⟨v, σ', H', J, rv, q⟩ := hs
    exact ⟨v, H', J.os, J.bare, J.base, J.hok, rv, q⟩
  | next =>
    obtain ⟨σ', H', J, q⟩ := hs
    exact ⟨.non, H', J.os, J.bare, J.base, J.hok, rfl, q⟩
  | brk =>
    obtain ⟨_, _, _, q⟩ := hs
    exact q.elim
  | cont =>
    obtain ⟨_, _, _, q⟩ := hs
    exact q.elim
end

section
variable {X : Cx} {CX : CXT} {k : Nat} {f : Addr} {fd : FuncData} {ps : List Str} {sp : Sp} {E : XK}
  {x : Str} {p pos : Pos} {e : Expr} {es : List Expr} {t : TA}
theorem call_g {pins : List (Addr × Obj)} {σ : L2.St} {H : Hp} {s : Shared} {Q : VK} {us : List Value} {vs : List V}
    (F : FnG X.prog X.w X.K X.mg X.base CX k f fd ps sp) (hr : Rm k X.A) (hb : Binds X.K fd ps [])
    (hx : Passes CX X E) (I : Inv X pins σ H s) (r : Vals vs us) (h : sp vs H Q E) :
    wpAny (model X.prog X.w) X.A (call (.ref f) us) (EP X pins σ Q) X.xe s := by
  have nl : (us ++ []).length = ps.length := by
    rw [List.append_nil, ← r.length]
    exact F.arity h
  have bd := hb s us I.kIn nl
  rw [List.append_nil] at bd
  refine wpAny_call (codeAny_mono (F.runs hr I.env0 bd r h) ?_)
  intro res s' hq
  cases res with
  | error e => exact hx pins σ H s e s' I hq
  | ok fl =>
    cases fl with
    | ret u => exact I.after hq
    | next => exact hq.elim
    | brk => exact hq.elim
    | cont => exact hq.elim
/-- f(e, ..), f a def of the text -/
theorem pe_g (F : FnG X.prog X.w X.K X.mg X.base CX k f fd ps sp) (hr : Rm k X.A) (hm : X.mg x = some (.ref f))
    (hk : PySem.W.keepIn X.K (.ref f) = true) (hb : Binds X.K fd ps []) (hx : Passes CX X E) (ha : PA X (e :: es) t) (hg : Gl X x := by rfl)
    (hdb : (x == ("__debug__" : Str)) = false := by decide)
    (he : starEach (e :: es) X.env = (false, eval e X.env) :: starEach es X.env := by rfl)
    (hpl : (backTo pos (starEach es X.env)).any (·.1) = false := by rfl) :
    PE X (.Call (.Name x p) (e :: es) [] pos) (fun σ H Q => t σ H fun vs H1 => sp vs H1 Q E) := by
  constructor
  intro pins s σ H Q I h
  refine wpAny_Call_Name_kw (ld_glob I hg hm ?_ hdb)
  refine PySem.W.callWith_K (h₀ := X.base) I.ok.mod.kin hk ?_ he hpl
  exact thn (ha.run pos pins s σ H _ I h) fun us s1 ⟨vs, H1, I1, r, q⟩ => ⟨I1.kIn, call_g F hr hb hx I1 r q⟩
end

/-! the law's own end: its def is called where nothing is under way -/
section
variable {P : Program} {w : World} {K : PySem.W.Frag} {mg mb : Str → Option Value} {CX : CXT} {k : Nat} {fa a : Addr}
  {fd : FuncData} {x : Str} {sp : Sp} {s : Shared} {vs : List Value} {ns : List Int}
/-- the goal behind the call -/
def LawEnd (s : Shared) (r : Result) (t : Shared) : Prop :=
  r = .ok (.ret (.bool true)) ∧ OldK s.heap t.heap ∧ t.os = s.os ∧ AllBare t.gens
theorem law_core {H : Hp}
    (KX : K.In s.heap) (hns : s.heap.Ns mainGlobals mg) (hb : s.heap.Ns builtinsNs mb)
    (hbb : ∀ y : Str, y ≠ "__name__" → mb y = bootBuiltins y) (nl : s.heap.NoLimit) (hg : s.gens = #[])
    (ha : s.heap.get? a = some { cls := .type "list", data := .seq vs.toArray }) (hr : Rm k callerA)
    (F : ∀ base : Heap, K.In base → base.Ns mainGlobals mg → FnG P w K mg base CX k fa fd [x] sp)
    (hbind : ∀ (s : Shared) (u : Value), BindsTo s fd ⟨[u], []⟩ [(x, u)])
    (hsp : sp [.ref a] H (fun v _ => v = .bl true) fun _ _ _ => False)
    (hCX : ∀ e s', CX [] H s (fun _ _ _ => False) e s' → False)
    (only : Only H) (ok : HOk P w H s.heap) (at_a : ∀ b, H b ≠ none → b = a) (out : H a ≠ none → K.lookup a = none) :
    codeAny (model P w) callerA (.call (.ref fa) ⟨[.ref a], []⟩) (LawEnd s) s := by
  have ne_a : ∀ {b : Addr} {o : Obj}, s.heap.get? b = some o → (∀ y n, o.data ≠ .seq y n) → H b = none := by
    intro b o e no
    by_cases hb : H b = none
    · exact hb
    · rw [at_a b hb, ha] at e
      exact absurd (congrArg Obj.data (Option.some.inj e)).symm (no _ _)
  have sees : ∀ {b : Addr} {m : Str → Option Value}, s.heap.Ns b m → (hidT s.heap H).Ns b m := by
    rintro b m ⟨o, es, ep, e, d, r⟩
    refine ⟨o, es, ep, hidT_get e (ne_a e ?_), d, r⟩
    intro y n z
    rw [d] at z
    cases z
  have inB : K.In (hidT s.heap H) := by
    intro b o e
    refine hidT_get (KX b o e) ?_
    by_cases hb : H b = none
    · exact hb
    · have eb := at_a b hb
      subst eb
      rw [out hb] at e
      cases e
  obtain ⟨mc, l1, l2⟩ := nl
  have md : Mod K mg (hidT s.heap H) := ⟨inB, sees hns, ⟨mb, sees hb, hbb⟩, ⟨mc, sees l1, l2⟩⟩
  have e0 : Env0 P w K mg (hidT s.heap H) callerA [] s H := by
    refine ⟨rfl, md, fun b o e => of_hidT e, Nat.le_of_eq (hidT_size _ _), trivial, ?_, ok, .of_eq hg⟩
    intro b z
    cases z
  have vv : Vals [V.ref a] [Value.ref a] := .cons rfl .nil
  refine codeAny_mono ((F _ inB (sees hns)).runs (us := [.ref a]) hr e0 (hbind s (.ref a)) vv hsp) ?_
  intro r t h
  cases r with
  | error e => exact (hCX e t h).elim
  | ok fl =>
    cases fl with
    | next => exact h.elim
    | brk => exact h.elim
    | cont => exact h.elim
    | ret u =>
      obtain ⟨v, H', os, bare, un, ok', rv, q⟩ := h
      have q2 : v = .bl true := q
      subst q2
      have eu : u = Value.bool true := rv
      subst eu
      refine ⟨rfl, OldK.of_keep ?_, os, bare⟩
      intro b o e
      cases hb : H b with
      | none => exact un.keep b o e hb (by intro z; cases z) (by intro z; cases z)
      | some y =>
        cases only b with
        | inl z => exact absurd (hb.symm.trans z) (by intro z; cases z)
        | inr z =>
          obtain ⟨ob, xs, z⟩ := z
          have e1 := (ok b _ z).1
          have e2 := (ok' b _ (un.frzs b ob _ z)).1
          rw [e] at e1
          cases e1
          exact e2
theorem law_g
    (KX : K.In s.heap) (hns : s.heap.Ns mainGlobals mg) (hb : s.heap.Ns builtinsNs mb)
    (hbb : ∀ y : Str, y ≠ "__name__" → mb y = bootBuiltins y) (nl : s.heap.NoLimit) (hg : s.gens = #[])
    (ha : s.heap.get? a = some { cls := .type "list", data := .seq vs.toArray }) (hi : IntsAre vs ns) (hl : ns.length ≤ sizeLine)
    (hr : Rm k callerA)
    (F : ∀ base : Heap, K.In base → base.Ns mainGlobals mg → FnG P w K mg base CX k fa fd [x] sp)
    (hbind : ∀ (s : Shared) (u : Value), BindsTo s fd ⟨[u], []⟩ [(x, u)])
    (hsp : ∀ H : Hp, Only H → SqL K H a (ns.map V.int) → sp [.ref a] H (fun v _ => v = .bl true) fun _ _ _ => False)
    (hCX : ∀ H e s', CX [] H s (fun _ _ _ => False) e s' → False) :
    codeAny (model P w) callerA (.call (.ref fa) ⟨[.ref a], []⟩) (LawEnd s) s := by
  have rv := vals_ints hi
  have nv := hi.length
  cases free : K.lookup a with
  | some o =>
    have e := KX a o free
    rw [ha] at e
    cases e
    have only : Only (fun _ => none) := fun _ => .inl rfl
    refine law_core KX hns hb hbb nl hg ha hr F hbind (hsp _ only (.inr ⟨_, vs.toArray, _, free, rfl, rfl, rfl, ?_, by simpa using rv⟩))
      (hCX _) only (fun b u z => nomatch (show (none : Option HO) = some u from z)) (fun b z => absurd rfl z) (fun z => absurd rfl z)
    rw [List.size_toArray, nv]
    exact hl
  | none =>
    have only : Only (fun b => if b = a then some (.frz { cls := .type "list", data := .seq vs.toArray } (.lst (ns.map V.int))) else none) := by
      intro b
      by_cases e : b = a
      · exact .inr ⟨_, _, if_pos e⟩
      · exact .inl (if_neg e)
    refine law_core KX hns hb hbb nl hg ha hr F hbind (hsp _ only (.inl (.inr ⟨_, if_pos rfl⟩))) (hCX _) only ?_ ?_ (fun _ => free)
    · intro b u z
      by_cases e : b = a
      · have z1 := (if_pos e).symm.trans z
        cases z1
        subst e
        refine ⟨ha, ?_, vs, _, rv, ha⟩
        rw [List.length_map]
        exact hl
      · have z1 := (if_neg e).symm.trans z
        cases z1
    · intro b z
      by_cases e : b = a
      · exact e
      · exact absurd (if_neg e) z
end
/-- the head's end: what is known behind the top gives the law's promise -/
theorem walk_g {l : PySem.W.OpenLaw} {n k : Nat} {q : Program} {loose : List Str} {XP : (Str → Option Value) → Heap → Prop}
    {YP : World → Heap → Prop} {d : DefRec} {CX : CXT} {x : Str}
    (hn : l.most = some n) (hn2 : n ≤ sizeLine) (hdf : d.params.defaults = []) (hr : Rm k callerA)
    (F : ∀ (w : World) (mg : Str → Option Value) (fa : Addr) (h : Heap), YP w h → h.Ns mainGlobals mg → mg d.name = some (.ref fa) →
      ∃ (K : PySem.W.Frag) (fd : FuncData) (sp : Sp), K.In h ∧ (∀ (s : Shared) (u : Value), BindsTo s fd ⟨[u], []⟩ [(x, u)]) ∧
        (∀ (H : Hp) (a : Addr) (ns : List Int), ns.length ≤ n → SqL K H a (ns.map V.int) →
          sp [.ref a] H (fun v _ => v = .bl true) fun _ _ _ => False) ∧
        ∀ base : Heap, K.In base → base.Ns mainGlobals mg → FnG l.prog w K mg base CX k fa fd [x] sp)
    (hCX : ∀ (H : Hp) (s : Shared) (e : Value) (s' : Shared), CX [] H s (fun _ _ _ => False) e s' → False) :
    PySem.W.WalkO q loose XP YP l.row.toRowW d [] (fun f vs => PySem.call f vs) := by
  refine Att.attach_call hn hdf ?_
  intro w s0 s1 mg mb fa o pm cd doc a vs ns G Y ho hd hcd hmg hobj hints hlen hg
  obtain ⟨K, fd, sp, KX, hb, hsp, hF⟩ := F w mg fa _ Y G.T.g hmg
  exact law_g KX G.T.g G.T.b G.T.builtins G.T.nolimit hg hobj hints (Nat.le_trans hlen hn2) hr hF hb
    (fun H _ hS => hsp H a ns hlen hS) (fun H e s' => hCX H s1 e s')
end MM

set_option Elab.async false
set_option maxRecDepth 100000
set_option maxHeartbeats 2000000
set_option linter.all false
namespace MM
open PySem PySem.Spec PyProof.Rows L2

/-! a def of the text under its name -/
def Def (P : Program) (w : World) (K : PySem.W.Frag) (mg : Str → Option Value) (base : Heap) (CX : CXT) (k : Nat) (x : Str) (ps : List Str) (sp : Sp) : Prop :=
  ∃ f fd, FnG P w K mg base CX k f fd ps sp ∧ mg x = some (.ref f) ∧ PySem.W.keepIn K (.ref f) = true ∧ L2.Binds K fd ps [] ∧ ∃ oc od sl, K.lookup f = some ⟨oc, od, .func fd, sl⟩
/-- a def of the text as it stands behind the top -/
structure At (K : PySem.W.Frag) (mg : Str → Option Value) (x : Str) (st : Stmt) : Prop where
  fn : ∃ fd, FunD K x x (defArgs st) (defBody st) (defScope st) [] [] (He.ga K x) fd
  glo : mg x = some (.ref (He.ga K x))
section
variable {P : Program} {w : World} {K : PySem.W.Frag} {mg : Str → Option Value} {base : Heap} {CX : CXT} {j k : Nat} {x : Str} {ps : List Str} {sp : Sp} {st : Stmt}
theorem Def.le (D : Def P w K mg base CX j x ps sp) (h : j ≤ k) : Def P w K mg base CX k x ps sp :=
  let ⟨f, fd, F, r⟩ := D
  ⟨f, fd, F.le h, r⟩
theorem At.defX {N : List Str} (T : At K mg x st) (S : FnScope N ps (defScope st))
    (hb : ∀ (kV doc pm : Value) (an : Option Addr) (cd ct : Value) (us : List Value), us.length = ps.length →
      bindArgs (PySem.W.fnOf x x (defArgs st) (defBody st) (defScope st) .none kV doc pm an cd ct) ⟨us, []⟩ = pure (ps.zip us))
    (arity : ∀ vs H Q E, sp vs H Q E → vs.length = ps.length)
    (body : ∀ (f : Addr) (cd : Value) (A : Around) (out : List Env) (s : Shared) (H : Hp) (vs : List V) (Q : VK) (E : XK),
      Rm k (A.deeper (envOfC x (defScope st) s.heap.objs.size f cd)) → sp vs H Q E →
      ∃ t, PSs (cxOf CX P w K mg base N x (defScope st) f cd A out s H E) (defBody st) t ∧
        t { nx := fun _ H' => Q .non H', rt := Q } (start N vs) H) : Def P w K mg base CX (k + 1) x ps sp := by
  obtain ⟨fd, F⟩ := T.fn
  obtain ⟨oc, od, _, _, _, _, _, _, _, osl, _, lk, _⟩ := F.ex
  exact ⟨_, fd, FnG.body F S arity (body _), T.glo, F.kp, F.bindsN hb, oc, od, osl, lk⟩
/-- the same for a def that nothing leaves -/
theorem At.def_ {N : List Str} (T : At K mg x st) (S : FnScope N ps (defScope st))
    (hb : ∀ (kV doc pm : Value) (an : Option Addr) (cd ct : Value) (us : List Value), us.length = ps.length →
      bindArgs (PySem.W.fnOf x x (defArgs st) (defBody st) (defScope st) .none kV doc pm an cd ct) ⟨us, []⟩ = pure (ps.zip us))
    (arity : ∀ vs H Q E, sp vs H Q E → vs.length = ps.length)
    (body : ∀ (f : Addr) (cd : Value) (A : Around) (out : List Env) (s : Shared) (H : Hp) (vs : List V) (Q : VK) (E : XK),
      Rm k (A.deeper (envOfC x (defScope st) s.heap.objs.size f cd)) → sp vs H Q E →
      ∃ t, PSs (cxOf CX P w K mg base N x (defScope st) f cd A out s H E).nox (defBody st) t ∧
        t { nx := fun _ H' => Q .non H', rt := Q } (start N vs) H) : Def P w K mg base CX (k + 1) x ps sp := by
  refine T.defX S hb arity (fun f cd A out s H vs Q E hr h => ?_)
  obtain ⟨t, d, q⟩ := body f cd A out s H vs Q E hr h
  exact ⟨t, d.nox, q⟩
end
section
variable {X : Cx} {CX : CXT} {k : Nat} {ps : List Str} {sp : Sp} {E : XK} {x : Str} {p pos : Pos} {e : Expr} {es : List Expr} {t : TA}
/-- f(e, ..) -/
def tD (sp : Sp) (E : XK) (t : TA) : TE := fun σ H Q => t σ H fun vs H1 => sp vs H1 Q E
theorem pe_d (D : Def X.prog X.w X.K X.mg X.base CX k x ps sp) (hr : Rm k X.A) (hx : Passes CX X E) (ha : PA X (e :: es) t) (hg : Gl X x := by rfl)
    (hdb : (x == ("__debug__" : Str)) = false := by decide)
    (he : starEach (e :: es) X.env = (false, eval e X.env) :: starEach es X.env := by rfl)
    (hpl : (backTo pos (starEach es X.env)).any (·.1) = false := by rfl) : PE X (.Call (.Name x p) (e :: es) [] pos) (tD sp E t) := by
  obtain ⟨f, fd, F, hm, hk, hb, _⟩ := D
  exact pe_g F hr hm hk hb hx ha hg hdb he hpl
end

/-! tests whose answer is known -/
theorem ifT {c : Bool} {A B : Prop} (h : c = true) (a : A) : if c = true then A else B := by
  rw [if_pos h]
  exact a
theorem ifF {c : Bool} {A B : Prop} (h : c = false) (b : B) : if c = true then A else B := by
  rw [h, if_neg Bool.false_ne_true]
  exact b
theorem dInt (a b : Int) : decide (V.int a = V.int b) = decide (a = b) := by
  by_cases e : a = b
  · rw [e, decide_eq_true rfl, decide_eq_true rfl]
  · rw [decide_eq_false e, decide_eq_false (fun z => e (V.int.inj z))]
/-! more rules by values -/
section
variable {X : Cx}
/-- ** of great numbers -/
def CPw (i j : Int) : Prop := 0 ≤ j ∧ (Builtin.Int.intBits i : Int) * j ≤ 2 ^ 27
instance (i j : Int) : Decidable (CPw i j) := inferInstanceAs (Decidable (_ ∧ _))
instance (i j : Int) : Decidable (CDivW i j) := inferInstanceAs (Decidable (_ ∧ _))
theorem op_pw : OpR X (binaryOp .Pow) (rI CPw fun i j => .int (i ^ j.toNat)) := opI fun _ _ _ _ _ _ _ hc q => pow_int hc.1 hc.2 q
/-- repr of data -/
def rRepr (K : PySem.W.Frag) : List V → Hp → VK → Prop := fun xs H Q =>
  ∃ x d, xs = [x] ∧ Dp K H x d ∧ SeqAt.shaped d = true ∧ d.showable = true ∧ d.shown.length ≤ sizeLine ∧ Q (.str d.shown) H
theorem cr_repr (hg : X.A.guards = some []) (hu : X.A.units + 66 < cLine) : CallR X (.builtin "repr") (rRepr X.K) := by
  intro pins s σ H xs us Q I r h
  obtain ⟨x, d, rfl, hd, hs, hw, hz, q⟩ := h
  obtain ⟨u, rfl, ru⟩ := vals1 r
  have hdep := SeqAt.depth_of_shaped hs
  have hno := PyData.hasDict_of_canLay d (SeqAt.canLay_of_shaped hs)
  obtain ⟨as, rd⟩ := Dp.reads I d x u hd ru
  have fin : ∀ (h' : Heap) (z : Tok) (tk : Nat), (∀ b o, s.heap.get? b = some o → h'.get? b = some o) →
      EP X pins σ Q (.str d.shown z) { s with heap := h', toks := tk } := fun h' z tk hk => ⟨.str _, H, I.kept hk, ⟨_, rfl⟩, q⟩
  cases hd with
  | non =>
    cases ru
    exact PySem.P.repr_of_none (fin s.heap _ _ fun _ _ e => e)
  | bl b =>
    cases ru
    exact PySem.P.repr_of_bool (fin s.heap _ _ fun _ _ e => e)
  | int i =>
    obtain ⟨t, rfl⟩ := ru
    exact PySem.P.repr_of_int (of_decide_eq_true hw) (fin s.heap _ _ fun _ _ e => e)
  | str z =>
    obtain ⟨t, rfl⟩ := ru
    exact PySem.P.repr_of_str (fin s.heap _ _ fun _ _ e => e) hz
  | lst h1 h2 =>
    cases ru
    exact repr_of_reads' rd hw (PyData.noDict_hsm hno) hg (by omega) (fun _ _ e => e) (fun h' z tk hk => fin h' z tk hk) hz
  | tup h1 h2 =>
    cases ru
    exact repr_of_reads' rd hw (PyData.noDict_hsm hno) hg (by omega) (fun _ _ e => e) (fun h' z tk hk => fin h' z tk hk) hz
end
end MM

set_option Elab.async false
set_option maxRecDepth 100000
set_option maxHeartbeats 2000000
set_option linter.all false
namespace MM
open PySem PySem.Spec PyProof.Rows L2
/-! what kind a value is of -/
inductive Kn where
  | non | bl | int | str | lst | tup | dct
def Kn.name : Kn → String
  | .non => "NoneType"
  | .bl => "bool"
  | .int => "int"
  | .str => "str"
  | .lst => "list"
  | .tup => "tuple"
  | .dct => "dict"
def Kn.isa : Kn → Kn → Bool
  | .bl, .int => true
  | .non, .non => true
  | .bl, .bl => true
  | .int, .int => true
  | .str, .str => true
  | .lst, .lst => true
  | .tup, .tup => true
  | .dct, .dct => true
  | _, _ => false
theorem Kn.isa_ok (n m : Kn) : kitB n.name m.name = some (n.isa m) := by cases n <;> cases m <;> decide +kernel
inductive Kd (K : PySem.W.Frag) (H : Hp) : V → Kn → Prop where
  | non : Kd K H .non .non
  | bl (b : Bool) : Kd K H (.bl b) .bl
  | int (i : Int) : Kd K H (.int i) .int
  | str (z : Str) : Kd K H (.str z) .str
  | lst {a : Addr} {xs : List V} (h : SqL K H a xs) : Kd K H (.ref a) .lst
  | tup {a : Addr} {xs : List V} (h : SqT K H a xs) : Kd K H (.ref a) .tup
  | dct {a : Addr} {kvs : List (Key × V)} (h : H a = some (.dK kvs)) : Kd K H (.ref a) .dct
theorem Kd.ty {K : PySem.W.Frag} {H : Hp} {x : V} {n : Kn} (h : Kd K H x n) : TyX K H x (.type n.name) := by
  cases h with
  | non => exact .base .non
  | bl b => exact .base (.bl b)
  | int i => exact .base (.int i)
  | str z => exact .base (.str z)
  | lst h =>
    rcases h with (h | ⟨o, h⟩) | ⟨o, its, k, h, c, _⟩
    · exact .base (.lst h)
    · exact .base (.frz h)
    · exact .kList h c
  | tup h =>
    rcases h with h | h
    · rcases h with h | ⟨o, h⟩
      · exact .base (.tup h)
      · exact .fTuple h
    · obtain ⟨o, its, k, h, c, _⟩ := h
      exact .kTuple h c
  | dct h => exact .base (.dK h)
/-- an int, and no bool -/
def isW : V → Bool
  | .int _ => true
  | _ => false
section
variable {X : Cx}
def rIs (K : PySem.W.Frag) (m : Kn) : List V → Hp → VK → Prop := fun xs H Q => ∃ x n, xs = [x, .ty m.name] ∧ Kd K H x n ∧ Q (.bl (n.isa m)) H
theorem cr_is (m : Kn) : CallR X (.builtin "isinstance") (rIs X.K m) := by
  intro pins s σ H xs us Q I r h
  obtain ⟨x, n, rfl, hk, q⟩ := h
  exact call_isi pins s σ H _ us Q I r ⟨x, .ty m.name, .type n.name, .type m.name, n.isa m, rfl, .ty _, hk.ty, kit_ty (n.isa_ok m), q⟩
/-- a built-in class by its name -/
theorem pe_ty (m : Kn) {x : Str} {pos : Pos} (hm : X.mg x = none) (hv : bootBuiltins x = some (.type m.name)) (hg : Gl X x := by rfl) (hn : x ≠ "__name__" := by decide)
    (hdb : (x == ("__debug__" : Str)) = false := by decide) : PE X (.Name x pos) (tC (.ty m.name)) := pe_bltn hg hm hv rfl hn hdb
end
/-! heaps -/
theorem same_new {H : Hp} {p : Addr} {o : HO} (h : H p = none) : Same H (upd H p o) := fun b x e => by
  rw [upd_ne (ne_of_none e h)]
  exact e
theorem sql_new {K : PySem.W.Frag} {H : Hp} {p l : Addr} {xs : List V} {o : HO} (h : SqL K H l xs) (n : H p = none) : SqL K (upd H p o) l xs := (same_new n).seq h
theorem same_sqt {K : PySem.W.Frag} {H H' : Hp} {a : Addr} {xs : List V} (e : Same H H') (h : SqT K H a xs) : SqT K H' a xs := by
  rcases h with (h | ⟨o, h⟩) | h
  · exact .inl (.inl (e _ _ h))
  · exact .inl (.inr ⟨o, e _ _ h⟩)
  · exact .inr h
theorem sqt_new {K : PySem.W.Frag} {H : Hp} {p l : Addr} {xs : List V} {o : HO} (h : SqT K H l xs) (n : H p = none) : SqT K (upd H p o) l xs := same_sqt (same_new n) h
theorem sql_upd {K : PySem.W.Frag} {H : Hp} {p l : Addr} {xs : List V} {o : HO} (h : SqL K H l xs) (ne : l ≠ p) : SqL K (upd H p o) l xs := by
  rcases h with (h | ⟨u, h⟩) | h
  · exact .inl (.inl (by rw [upd_ne ne]; exact h))
  · exact .inl (.inr ⟨u, by rw [upd_ne ne]; exact h⟩)
  · exact .inr h
theorem sqt_upd {K : PySem.W.Frag} {H : Hp} {p l : Addr} {xs : List V} {o : HO} (h : SqT K H l xs) (ne : l ≠ p) : SqT K (upd H p o) l xs := by
  rcases h with (h | ⟨u, h⟩) | h
  · exact .inl (.inl (by rw [upd_ne ne]; exact h))
  · exact .inl (.inr ⟨u, by rw [upd_ne ne]; exact h⟩)
  · exact .inr h
theorem Kd.same {K : PySem.W.Frag} {H H' : Hp} {x : V} {n : Kn} (e : Same H H') (h : Kd K H x n) : Kd K H' x n := by
  cases h with
  | non => exact .non
  | bl b => exact .bl b
  | int i => exact .int i
  | str z => exact .str z
  | lst h => exact .lst (e.seq h)
  | tup h => exact .tup (same_sqt e h)
  | dct h => exact .dct (e _ _ h)
/-! a list comprehension whose elements are reckoned without a new object -/
section
variable {K : PySem.W.Frag} {v : Nat} {te : TE} {σ : L2.St} {H1 : Hp} {D : Addr} {Qd : Hp → Prop} {n : Nat}
/-- what tLc asks of its walk -/
def LcW (J : It) (g : TG) (tt : TT) (te : TE) (vs : List Nat) (σ : L2.St) (H1 : Hp) (D : Addr) (Qd : Hp → Prop) : Prop :=
  ∃ W : Nat → Nat → Hp → Prop, (∃ m, W 0 m (upd H1 D (.lst []))) ∧ ∀ i m H, W i m H →
    (J.stop i H ∧ Qd H) ∨ (J.go i H ∧ ∃ Nx : Hp → Prop, (∀ H', Nx H' → ∃ m', m' < m ∧ W (i + 1) m' H') ∧
      ∀ x H', J.yld i H x H' → g x (wipe σ vs) H' fun σ2 H2 => wipe σ2 vs = wipe σ vs ∧ tt σ2 H2 fun b H3 =>
        if b = true then te σ2 H3 fun y H4 => ∃ acc, H4 D = some (.lst acc) ∧ acc.length < sizeLine ∧ Nx (upd H4 D (.lst (acc ++ [y]))) else Nx H3)
theorem yes_ {H : Hp} {A B : Hp → Prop} (h : A H) : tYes σ H fun b H3 => if b = true then A H3 else B H3 := by
  show (if true = true then A H else B H)
  rw [if_pos rfl]
  exact h
theorem wipe_one {x : Option V} : wipe ((wipe σ [v]).set v x) [v] = wipe σ [v] := by
  show ((σ.set v none).set v x).set v none = σ.set v none
  rw [List.set_set, List.set_set]
theorem lc_rng {lo : Int} (f : Nat → V) (hn : n ≤ sizeLine)
    (hs : ∀ i acc, i < n → ∀ Q : VK, Q (f i) (upd H1 D (.lst acc)) → te ((wipe σ [v]).set v (some (.int (lo + i)))) (upd H1 D (.lst acc)) Q)
    (hd : Qd (upd H1 D (.lst ((List.range n).map f)))) : LcW (Itr lo n) (gName v) tYes te [v] σ H1 D Qd := by
  refine lc_range (Pv := fun i H => H = upd H1 D (.lst ((List.range i).map f))) rfl ?_ (fun H e => by rw [e]; exact hd)
  intro i H hi e
  subst e
  refine ⟨wipe_one, yes_ ?_⟩
  refine hs i _ hi _ ⟨_, upd_same, ?_, ?_⟩
  · rw [List.length_map, List.length_range]
    exact Nat.lt_of_lt_of_le hi hn
  · rw [upd_upd, List.range_succ, List.map_append]
    rfl
theorem lc_seq {a : Addr} {xs : List V} (f : V → V) (hx : SqL K H1 a xs) (nD : H1 D = none) (hn : xs.length ≤ sizeLine)
    (hs : ∀ x acc, x ∈ xs → ∀ Q : VK, Q (f x) (upd H1 D (.lst acc)) → te ((wipe σ [v]).set v (some x)) (upd H1 D (.lst acc)) Q)
    (hd : Qd (upd H1 D (.lst (xs.map f)))) : LcW (Itl K a) (gName v) tYes te [v] σ H1 D Qd := by
  refine lc_list (xs := xs) (Pv := fun i H => H = upd H1 D (.lst ((xs.take i).map f))) rfl (fun i H _ e => by rw [e]; exact sql_new hx nD) ?_ (fun H e => by rw [e, List.take_length]; exact hd)
  intro i x H hi e
  subst e
  have lt : i < xs.length := (List.getElem?_eq_some_iff.mp hi).1
  refine ⟨wipe_one, yes_ ?_⟩
  refine hs x _ (List.mem_of_getElem? hi) _ ⟨_, upd_same, ?_, ?_⟩
  · rw [List.length_map, List.length_take]
    omega
  · rw [upd_upd, List.take_add_one, hi, List.map_append]
    rfl
theorem lc_tpl {a : Addr} {xs : List V} (f : V → V) (hx : SqT K H1 a xs) (nD : H1 D = none) (hn : xs.length ≤ sizeLine)
    (hs : ∀ x acc, x ∈ xs → ∀ Q : VK, Q (f x) (upd H1 D (.lst acc)) → te ((wipe σ [v]).set v (some x)) (upd H1 D (.lst acc)) Q)
    (hd : Qd (upd H1 D (.lst (xs.map f)))) : LcW (Itt K a) (gName v) tYes te [v] σ H1 D Qd := by
  refine lc_tup (xs := xs) (Pv := fun i H => H = upd H1 D (.lst ((xs.take i).map f))) rfl (fun i H _ e => by rw [e]; exact sqt_new hx nD) ?_ (fun H e => by rw [e, List.take_length]; exact hd)
  intro i x H hi e
  subst e
  have lt : i < xs.length := (List.getElem?_eq_some_iff.mp hi).1
  refine ⟨wipe_one, yes_ ?_⟩
  refine hs x _ (List.mem_of_getElem? hi) _ ⟨_, upd_same, ?_, ?_⟩
  · rw [List.length_map, List.length_take]
    omega
  · rw [upd_upd, List.take_add_one, hi, List.map_append]
    rfl
/-- with a test -/
theorem lc_rngF {tt : TT} {lo : Int} (p : Nat → Bool) (f : Nat → V) (hn : n ≤ sizeLine)
    (ht : ∀ i acc, i < n → ∀ Q : Bool → Hp → Prop, Q (p i) (upd H1 D (.lst acc)) → tt ((wipe σ [v]).set v (some (.int (lo + i)))) (upd H1 D (.lst acc)) Q)
    (hs : ∀ i acc, i < n → p i = true → ∀ Q : VK, Q (f i) (upd H1 D (.lst acc)) → te ((wipe σ [v]).set v (some (.int (lo + i)))) (upd H1 D (.lst acc)) Q)
    (hd : Qd (upd H1 D (.lst (((List.range n).filter p).map f)))) : LcW (Itr lo n) (gName v) tt te [v] σ H1 D Qd := by
  refine lc_range (Pv := fun i H => H = upd H1 D (.lst (((List.range i).filter p).map f))) rfl ?_ (fun H e => by rw [e]; exact hd)
  intro i H hi e
  subst e
  have le : (((List.range i).filter p).map f).length ≤ i := by
    rw [List.length_map]
    exact Nat.le_trans (List.length_filter_le _ _) (Nat.le_of_eq List.length_range)
  refine ⟨wipe_one, ht i _ hi _ ?_⟩
  cases e : p i with
  | true =>
    rw [if_pos rfl]
    refine hs i _ hi e _ ⟨_, upd_same, Nat.lt_of_le_of_lt le (Nat.lt_of_lt_of_le hi hn), ?_⟩
    rw [upd_upd, List.range_succ, List.filter_append, List.map_append]
    simp [e]
  | false =>
    rw [if_neg Bool.false_ne_true, List.range_succ, List.filter_append, List.map_append]
    simp [e]
end
/-! data: ints and bools in lists and tuples -/
section
variable {K : PySem.W.Frag} {H : Hp}
theorem dp_ints : ∀ ns : List Int, DpAll K H (ns.map V.int) (ns.map PyData.int)
  | [] => .nil
  | n :: r => .cons (.int n) (dp_ints r)
theorem dp_bools : ∀ bs : List Bool, DpAll K H (bs.map V.bl) (bs.map PyData.bool)
  | [] => .nil
  | b :: r => .cons (.bl b) (dp_bools r)
end
theorem lay_ints : ∀ ns : List Int, PyData.canLayAll0 (ns.map PyData.int) = true
  | [] => rfl
  | n :: r => by
    show (PyData.canLay0 (.int n) && PyData.canLayAll0 (r.map PyData.int)) = true
    rw [lay_ints r]
    rfl
theorem dep_ints : ∀ ns : List Int, PyData.depthAll (ns.map PyData.int) ≤ 1
  | [] => by decide
  | n :: r => by
    have := dep_ints r
    simp only [List.map_cons, PyData.depthAll, PyData.depth]
    omega
theorem shaped_ints (ns : List Int) : SeqAt.shaped (.list (ns.map PyData.int)) = true := by
  unfold SeqAt.shaped
  have h := dep_ints ns
  rw [show PyData.canLay0 (.list (ns.map PyData.int)) = true from lay_ints ns, Bool.true_and]
  refine decide_eq_true ?_
  simp only [PyData.depth]
  omega
theorem lay_bools : ∀ bs : List Bool, PyData.canLayAll0 (bs.map PyData.bool) = true
  | [] => rfl
  | b :: r => by
    show (PyData.canLay0 (.bool b) && PyData.canLayAll0 (r.map PyData.bool)) = true
    rw [lay_bools r]
    rfl
theorem dep_bools : ∀ bs : List Bool, PyData.depthAll (bs.map PyData.bool) ≤ 1
  | [] => by decide
  | n :: r => by
    have := dep_bools r
    simp only [List.map_cons, PyData.depthAll, PyData.depth]
    omega
theorem shaped_bools (bs : List Bool) : SeqAt.shaped (.list (bs.map PyData.bool)) = true := by
  unfold SeqAt.shaped
  have h := dep_bools bs
  rw [show PyData.canLay0 (.list (bs.map PyData.bool)) = true from lay_bools bs, Bool.true_and]
  refine decide_eq_true ?_
  simp only [PyData.depth]
  omega
theorem shapedT_ints (ns : List Int) : SeqAt.shaped (.tuple (ns.map PyData.int)) = true := by
  unfold SeqAt.shaped
  have h := dep_ints ns
  rw [show PyData.canLay0 (.tuple (ns.map PyData.int)) = true from lay_ints ns, Bool.true_and]
  refine decide_eq_true ?_
  simp only [PyData.depth]
  omega
theorem eqvAll_ints : ∀ ns ms : List Int, PyData.eqvAll (ns.map PyData.int) (ms.map PyData.int) = decide (ns = ms)
  | [], [] => rfl
  | [], _ :: _ => rfl
  | _ :: _, [] => rfl
  | n :: r, m :: q => by
    show (PyData.eqv (.int n) (.int m) && PyData.eqvAll (r.map PyData.int) (q.map PyData.int)) = _
    rw [eqvAll_ints r q]
    show ((n == m) && decide (r = q)) = _
    by_cases e : n = m
    · subst e
      by_cases f : r = q
      · subst f
        simp
      · simp [f]
    · simp [e]
end MM

set_option Elab.async false
set_option linter.all false
set_option maxRecDepth 100000
set_option maxHeartbeats 2000000
/-! enumerate over a tuple -/
namespace MM
open PySem PySem.Spec PyProof.Rows L2
theorem made_enum {v : Value} {o : Obj} {G : Heap → Prop} (B : Begins v o G) :
    Meets (Builtin.«enumerate.__new__» ⟨[.type "enumerate", v], []⟩) (fun _ R t => G t.heap ∧
      R (.ok (.ret (.ref (t.heap.push o).objs.size))) { t with heap := (t.heap.push o).push { cls := .type "enumerate", data := .fields #[.none, .bool false, .ref t.heap.objs.size, rawInt 0, .none, .none] } }) :=
  .of_wp fun prog w A R t both => by
    obtain ⟨h0, g0, d0, k0, o0⟩ := t
    obtain ⟨at_v, out⟩ := both
    have sub := sub_enumerate
    have road : ∀ {A' : Around} {E : Value → Shared → Prop} {Q : Value → Shared → Prop}, Q (.ref h0.objs.size) ⟨h0.push o, g0, d0, k0, o0⟩ → wpAny (model prog w) A' (pyIter v) Q E ⟨h0, g0, d0, k0, o0⟩ :=
      fun q => B.iter prog w _ _ ⟨h0, g0, d0, k0, o0⟩ _ at_v q
    wp_walk using road
    refine wpAny_stack_any fun st => wpAny_pure ?_
    split
    · rename_i c _ _ _ _ _
      cases (c == Value.type "enumerate")
      all_goals
        wp_walk using road
        exact ⟨_, rfl, out⟩
    · wp_walk using road
      exact ⟨_, rfl, out⟩
theorem call_enumT {prog : Program} {w : World} {A : Around} {E : Value → Shared → Prop} {s : Shared} {a : Addr} {its : Array Value} {Q : Value → Shared → Prop} (ht : s.heap.IsTuple a its)
    (q : ∀ h', IsEnum h' (s.heap.objs.size + 1) s.heap.objs.size 0 .none → h'.IsTupleIter s.heap.objs.size a 0 → (∀ b o, s.heap.get? b = some o → h'.get? b = some o) →
      Q (.ref (s.heap.objs.size + 1)) { s with heap := h' }) : wpAny (model prog w) A (call (.type "enumerate") [.ref a]) Q E s := by
  have B := begins_tuple a its
  refine callType_new F.called_enumerate (by decide) (F.typeCall_enumerate_1 _) (F.newCall_enumerate_1 _) (fun obj => F.args_object_init_2 obj _) F.entry_enumerate_new (made_enum B) ⟨ht, ?_⟩
  have z : (s.heap.push { cls := .type "tuple_iterator", data := .fields #[.ref a, .int 0 0] }).objs.size = s.heap.objs.size + 1 := Heap.size_push ..
  show _ ∧ _
  rw [z]
  have at_e : IsEnum ((s.heap.push { cls := .type "tuple_iterator", data := .fields #[.ref a, .int 0 0] }).push { cls := .type "enumerate", data := .fields #[.none, .bool false, .ref s.heap.objs.size, rawInt 0, .none, .none] }) (s.heap.objs.size + 1) s.heap.objs.size 0 .none := by
    rw [← z]
    exact Heap.get?_push_size _ rfl
  exact ⟨⟨_, at_e, rfl⟩, q _ at_e ⟨_, Heap.get?_push_of_some _ (Heap.get?_push_size _ rfl), rfl, rfl⟩ fun b o k => Heap.get?_push_of_some _ (Heap.get?_push_of_some _ k)⟩
/-- the tuple at a, each item in a new pair -/
def Itu (K : PySem.W.Frag) (a : Addr) : It :=
  ⟨fun i H => ∃ xs x, SqT K H a xs ∧ xs[i]? = some x, fun i H v H' => ∃ T x, v = .ref T ∧ H T = none ∧ H' = upd H T (.tup [.int (i : Nat), x]) ∧ ∀ xs, SqT K H a xs → xs[i]? = some x, fun i H => ∃ xs, SqT K H a xs ∧ xs.length ≤ i⟩
theorem turn_enumT {P : Program} {w : World} {K : PySem.W.Frag} {elts : List Expr} {kk : Nat} {tpos : Pos} (a e it : Addr) :
    Turn P w K (.Tuple elts kk tpos) (Itu K a) [e, it] e (fun i h => (∃ old, IsEnum h e it ((i : Nat) : Int) old) ∧ h.IsTupleIter it a i ∧ e ≠ it) where
  mem := by simp
  obj := fun i h st b hb => by
    obtain ⟨⟨old, he⟩, ⟨o, ho, hc, hd⟩, _⟩ := st
    have two : b = e ∨ b = it := by simpa using hb
    rcases two with z | z
    · subst z
      exact ⟨_, he, fun v q => nomatch q⟩
    · subst z
      exact ⟨o, ho, fun v q => by rw [hd] at q; cases q⟩
  keep := fun i h h' st k => let ⟨⟨old, he⟩, hi, hne⟩ := st; ⟨⟨old, k e (by simp) _ he⟩, hi.at fun o q => k it (by simp) o q, hne⟩
  item := by
    intro X hP hw hK hc i pins s σ H E I hf st hg
    subst hP hw hK
    obtain ⟨⟨old, he⟩, hit, hne⟩ := st
    obtain ⟨xs, x, hq, hx⟩ := hg
    obtain ⟨its, rv, p, hz⟩ := I.tuple hq
    obtain ⟨u, hu, ru⟩ := rv.get hx
    have el : e < s.heap.objs.size := Heap.lt_size he
    have il : it < s.heap.objs.size := by obtain ⟨_, q, _⟩ := hit; exact Heap.lt_size q
    have pt : s.heap.IsTuple a its.toArray := p
    have ait : a ≠ it := fun z => by
      obtain ⟨o1, g1, c1, _⟩ := id pt
      obtain ⟨o2, g2, c2, _⟩ := id hit
      rw [z, g2] at g1
      cases g1
      rw [c2] at c1
      exact absurd (Value.type.inj c1) (by decide)
    have ae : a ≠ e := fun z => by
      obtain ⟨o1, g1, c1, _⟩ := id pt
      rw [z, show s.heap.get? e = some _ from he] at g1
      cases g1
      exact absurd (Value.type.inj c1) (by decide)
    have D := Draws.tuple (prog := X.prog) (w := X.w) (A := X.A.in1) (I.ok.hd hc) it a ait its.toArray
    have lt : i < its.toArray.size := by
      have := (List.getElem?_eq_some_iff.mp hu).1
      rw [List.size_toArray]
      exact this
    refine wpAny_pyNext_enum_itemC D he ⟨hit, pt⟩ lt hne (by simp [hne, ae.symm]) fun y h' tk hy ho st' hT hsz hk => ?_
    have ey : y = u := by
      have hy' : its.toArray[i]? = some y := hy
      rw [List.getElem?_toArray, hu] at hy'
      exact (Option.some.inj hy').symm
    subst ey
    refine ⟨_, rfl, wpAny_letOwnedTupleGo_enum (s := { s with heap := h', toks := tk + 1 }) ho fun h'' he' sb => ?_⟩
    have hT2 : h''.get? s.heap.objs.size = some { cls := .type "tuple", data := .seq #[.int i tk, y] } := (sb.2 _ (Nat.ne_of_gt el)).trans hT
    have new : ObjOk X.prog X.w (upd H s.heap.objs.size (.tup [.int (i : Nat), x])) h'' s.heap.objs.size (.tup [.int (i : Nat), x]) :=
      ⟨(by decide : 2 ≤ sizeLine), [.int i tk, y], .cons ⟨_, rfl⟩ (.cons ru .nil), ⟨_, hT2, rfl, _, rfl⟩⟩
    have I1 : Inv X pins σ (upd H s.heap.objs.size (.tup [.int (i : Nat), x])) { s with heap := h'', toks := tk + 1 } :=
      I.turnedNew (ch := [e, it]) (fun b ob hb q => (sb.2 b fun z => hb (by simp [z])).trans (hk b ob (fun z => hb (by simp [z])) (fun z => hb (by simp [z])) q)) hf (Nat.le_refl _) new
    have it2 : h''.IsTupleIter it a (i + 1) := st'.1.at fun o q => (sb.2 it (Ne.symm hne)).trans q
    refine ⟨.ref s.heap.objs.size, _, I1, rfl, ⟨_, x, rfl, I.hok.fresh (Nat.le_refl _), rfl, fun ys hy => by rw [I.tuple_inj hy hq]; exact hx⟩, ⟨⟨y, he'⟩, it2, hne⟩, fun b hb => ?_⟩
    have bl : b < s.heap.objs.size := by
      have two : b = e ∨ b = it := by simpa using hb
      rcases two with z | z <;> subst z <;> assumption
    rw [upd_ne (Nat.ne_of_lt bl)]
    exact (hf b hb).1
  done := by
    intro X hP hw hK hc i pins s σ H E I hf st hg
    subst hP hw hK
    obtain ⟨⟨old, he⟩, hit, hne⟩ := st
    obtain ⟨xs, hq, hx⟩ := hg
    obtain ⟨its, rv, p, hz⟩ := I.tuple hq
    have pt : s.heap.IsTuple a its.toArray := p
    obtain ⟨f0, f1, f2, f3, f4, f5⟩ := hf it (by simp)
    have over : its.toArray[i]? = none := by
      have := rv.length
      rw [List.getElem?_toArray]
      exact List.getElem?_eq_none (by omega)
    have D : Draws X.prog X.w X.A.in1 it [it, a] i (fun _ _ => True) (fun j h => j = i ∧ h.IsTupleIter it a j ∧ h.IsTuple a its.toArray) :=
      { live := fun _ _ st => let ⟨o, ho, _⟩ := st.2.1; ⟨o, ho⟩
        frame := fun _ _ _ st k => ⟨st.1, st.2.1.at fun o e => k it (by simp) o e, st.2.2.at fun o e => k a (by simp) o e⟩
        item := fun j s Q E lt st _ => absurd st.1 (Nat.ne_of_lt lt)
        done := fun s Q E st out => wpAny_nextOf_tuple_end (I.ok.hd hc) st.2.1 st.2.2 (by rw [st.1]; exact over) out }
    exact wpAny_pyNext_enum_endD D he ⟨rfl, hit, pt⟩ fun h' eb => ⟨rfl, I.turned (t' := s.toks) (fun b o hb q => eb b o hb q) f0 f1 f3 f4 f5⟩
  self := fun A i s Q E st h => let ⟨⟨_, he⟩, _⟩ := st; wpAny_pyIter_enum he h
def iEnumT (K : PySem.W.Frag) (ta : TA) : TI := fun σ H R => ta σ H fun vs H1 => ∃ a xs, vs = [.ref a] ∧ SqT K H1 a xs ∧ R (Itu K a) H1
theorem pi_enumT {X : Cx} {e : Expr} {ta : TA} {p pos tpos : Pos} {elts : List Expr} {kk : Nat} (hg : Gl X "enumerate") (hm : X.mg "enumerate" = none) (ha : PA X [e] ta)
    (hs : starEach [e] X.env = [(false, eval e X.env)] := by rfl) : PI X (.Tuple elts kk tpos) (.Call (.Name "enumerate" p) [e] [] pos) (iEnumT X.K ta) := by
  refine ⟨fun pins s σ H R I h => ?_⟩
  refine Call_ (ld_blt I hg hm boot_enumerate (PyProof.Rows.callWith_type1 (thn (ha.run pos pins s σ H _ I h) fun us s1 ⟨vs, H1, I1, r1, a, xs, ex, hq, q⟩ => ?_) hs rfl))
  subst ex
  obtain ⟨u, rfl, ru⟩ := vals1 r1
  cases ru
  obtain ⟨its, rv, p', hz⟩ := I1.tuple hq
  refine call_enumT (its := its.toArray) p' fun h' he hit hk => wpAny_pyIter_enum he ?_
  refine ⟨s1.heap.objs.size + 1, [s1.heap.objs.size + 1, s1.heap.objs.size], _, _, H1, rfl, I1.kept (t' := s1.toks) hk, turn_enumT a (s1.heap.objs.size + 1) s1.heap.objs.size, ⟨⟨.none, he⟩, hit, Nat.succ_ne_self _⟩, fun b hb => ?_, q⟩
  have two : b = s1.heap.objs.size + 1 ∨ b = s1.heap.objs.size := by simpa using hb
  have le : s1.heap.objs.size ≤ b := by
    rcases two with z | z <;> rw [z]
    · exact Nat.le_add_right _ _
    · exact Nat.le_refl _
  exact I1.fpOk le (I1.hok.fresh le)
section
variable {K : PySem.W.Frag} {a : Addr} {xs : List V} {g : TG} {tb : TS} {D : Ends} {σ : L2.St} {H : Hp}
/-- what a for asks of its walk -/
def ForW (J : It) (g : TG) (tb : TS) (D : Ends) (σ : L2.St) (H : Hp) : Prop :=
  ∃ W : Nat → Nat → L2.St → Hp → Prop, (∃ m, W 0 m σ H) ∧ ∀ i m σ H, W i m σ H →
    (J.stop i H ∧ D.nx σ H) ∨ (J.go i H ∧ ∃ N : L2.St → Hp → Prop, (∀ σ' H', N σ' H' → ∃ m', m' < m ∧ W (i + 1) m' σ' H') ∧
      ∀ x H', J.yld i H x H' → g x σ H' fun σ2 H2 => tb { D with nx := N, ct := N, bk := D.nx } σ2 H2)
theorem for_enumT (Pv : Nat → L2.St → Hp → Prop) (h0 : Pv 0 σ H) (at_a : ∀ i σ H, i ≤ xs.length → Pv i σ H → SqT K H a xs)
    (turn : ∀ i x σ H T, xs[i]? = some x → Pv i σ H → H T = none → g (.ref T) σ (upd H T (.tup [.int (i : Nat), x])) fun σ2 H2 => tb { D with nx := Pv (i + 1), ct := Pv (i + 1), bk := D.nx } σ2 H2)
    (fin : ∀ σ H, Pv xs.length σ H → D.nx σ H) : ForW (Itu K a) g tb D σ H := by
  refine ⟨fun i m σ H => m = xs.length - i ∧ i ≤ xs.length ∧ Pv i σ H, ⟨_, rfl, Nat.zero_le _, h0⟩, ?_⟩
  rintro i m σ H ⟨rfl, le, p⟩
  by_cases lt : i < xs.length
  · have ex := List.getElem?_eq_getElem lt
    refine .inr ⟨⟨xs, _, at_a i σ H le p, ex⟩, Pv (i + 1), fun σ' H' p' => ⟨_, by omega, rfl, lt, p'⟩, ?_⟩
    rintro v H' ⟨T, x, rfl, free, rfl, all⟩
    exact turn i x σ H T (all xs (at_a i σ H le p)) p free
  · have e : i = xs.length := by omega
    subst e
    exact .inl ⟨⟨xs, at_a _ σ H le p, Nat.le_refl _⟩, fin σ H p⟩
theorem for_enumL (Pv : Nat → L2.St → Hp → Prop) (h0 : Pv 0 σ H) (at_a : ∀ i σ H, i ≤ xs.length → Pv i σ H → SqL K H a xs)
    (turn : ∀ i x σ H T, xs[i]? = some x → Pv i σ H → H T = none → g (.ref T) σ (upd H T (.tup [.int (i : Nat), x])) fun σ2 H2 => tb { D with nx := Pv (i + 1), ct := Pv (i + 1), bk := D.nx } σ2 H2)
    (fin : ∀ σ H, Pv xs.length σ H → D.nx σ H) : ForW (Ite K a) g tb D σ H := by
  refine ⟨fun i m σ H => m = xs.length - i ∧ i ≤ xs.length ∧ Pv i σ H, ⟨_, rfl, Nat.zero_le _, h0⟩, ?_⟩
  rintro i m σ H ⟨rfl, le, p⟩
  by_cases lt : i < xs.length
  · have ex := List.getElem?_eq_getElem lt
    refine .inr ⟨⟨xs, _, at_a i σ H le p, ex⟩, Pv (i + 1), fun σ' H' p' => ⟨_, by omega, rfl, lt, p'⟩, ?_⟩
    rintro v H' ⟨T, x, rfl, free, rfl, all⟩
    exact turn i x σ H T (all xs (at_a i σ H le p)) p free
  · have e : i = xs.length := by omega
    subst e
    exact .inl ⟨⟨xs, at_a _ σ H le p, Nat.le_refl _⟩, fin σ H p⟩
end
end MM

set_option Elab.async false
set_option linter.all false
set_option maxRecDepth 100000
set_option maxHeartbeats 2000000
/-! set(t) of a tuple of ints; its length -/
namespace MM
open PySem PySem.Spec PyProof.Rows L2
theorem count_keys {ks ns : List Int} (nk : ks.Nodup) (mem : ∀ k, k ∈ ns ↔ k ∈ ks) : ks.length = ns.length ↔ ns.Nodup := by
  constructor
  · intro e
    by_cases h : ns.Nodup
    · exact h
    · exfalso
      rw [List.nodup_iff_count] at h
      obtain ⟨a, ha⟩ := Classical.not_forall.mp h
      have am : a ∈ ns := List.count_pos_iff.mp (by omega)
      have sub : ks ⊆ ns.erase a := by
        intro b hb
        by_cases z : b = a
        · subst z
          refine List.count_pos_iff.mp ?_
          rw [List.count_erase_self]
          omega
        · exact (List.mem_erase_of_ne z).mpr ((mem b).mpr hb)
      have le := List.Nodup.length_le_of_subset nk sub
      rw [List.length_erase_of_mem am] at le
      have pos : 0 < ns.length := List.length_pos_of_mem am
      omega
  · intro nn
    exact ((List.perm_ext_iff_of_nodup nk nn).mpr fun a => (mem a).symm).length_eq
section
variable {X : Cx}
def rSetI (K : PySem.W.Frag) : List V → Hp → VK → Prop := fun xs H Q => ∃ (p : Addr) (ns : List Int), xs = [.ref p] ∧ SqT K H p (ns.map V.int) ∧ ns.length ≤ 1000 ∧
  ∀ t n, H t = none → (n = ns.length ↔ ns.Nodup) → n ≤ ns.length → Q (.ref t) (upd H t (.set (fun j => decide (j ∈ ns)) n))
theorem ints_of : ∀ {ns : List Int} {its : List Value}, Vals (ns.map V.int) its → IntsAre its ns
  | [], _, r => by
    cases r
    exact .nil
  | n :: _, _, r => by
    cases r with
    | cons h t =>
      obtain ⟨k, rfl⟩ := h
      exact .cons n k (ints_of t)
theorem cr_setI (hc : X.calm = true) : CallR X (.type "set") (rSetI X.K) := by
  intro pins s σ H xs us Q I r h
  obtain ⟨p, ns, rfl, hp, hl, q⟩ := h
  obtain ⟨u, rfl, ru⟩ := vals1 r
  cases ru
  obtain ⟨its, rv, ht, hz⟩ := I.tuple hp
  have pt : s.heap.IsTuple p its.toArray := ht
  refine call_set_tupI (P := X.prog) ns (I.ok.hd hc) pt (by simpa using ints_of rv) (by show ns.length + 1 < 4096; omega) fun h' tk c R le keep => ?_
  have cnt : c = ns.length ↔ ns.Nodup := by
    obtain ⟨o, es, ep, t, ho, hx, hd, g, nd, hm, hb, hf, hn, _⟩ := R
    rw [← hn]
    have := count_keys (ks := es.toList.map keyOf) (ns := ns) nd fun k => by
      rw [← hm k]
      exact decide_eq_true_iff.symm
    rw [List.length_map, Array.length_toList] at this
    exact this
  refine ⟨.ref _, _, I.laid (t' := tk) (o := .set (fun j => decide (j ∈ ns)) c) keep (Nat.le_refl _) ?_, rfl, q _ c (I.hok.fresh (Nat.le_refl _)) cnt le⟩
  exact R.setOf
theorem cr_lenSet : CallR X (.builtin "len") (fun xs H Q => ∃ a S n, xs = [V.ref a] ∧ H a = some (.set S n) ∧ Q (.int (n : Nat)) H) := by
  intro pins s σ H xs us Q I r h
  obtain ⟨a, S, n, rfl, ha, q⟩ := h
  obtain ⟨u, rfl, ru⟩ := vals1 r
  cases ru
  obtain ⟨o, es, ep, t, ho, hx, hd, _, _, hb, hf, hn⟩ := (show s.heap.SetOf (intKind X.prog X.w) a S n from I.hok a _ ha)
  subst hn
  have small : es.size < 4096 := hb
  exact PySem.call_len_set ho hx hd hf (by omega) ⟨.int _, H, I.tok _, ⟨_, rfl⟩, q⟩
def rLenK (K : PySem.W.Frag) : List V → Hp → VK → Prop := fun xs H Q => ∃ p ys, xs = [.ref p] ∧ (SqL K H p ys ∨ SqT K H p ys) ∧ Q (.int ys.length) H
theorem cr_lenK {K : PySem.W.Frag} (e : X.K = K) : CallR X (.builtin "len") (rLenK K) := by
  subst e
  exact call_len_seq
end
end MM

set_option Elab.async false
set_option linter.all false
set_option maxRecDepth 100000
set_option maxHeartbeats 2000000
/-! sets of ints that grow: the rules with the world by its name -/
namespace MM
open PySem PySem.Spec PyProof.Rows L2
section
variable {X : Cx} {w : World}
theorem cr_set0W (e : X.w = w) : CallR X (.type "set") (rSet0 w) := by
  subst e
  exact cr_set0
theorem or_sinW (e : X.w = w) : OpR X (compareOp .In) (rSIn w) := by
  subst e
  exact or_sin
theorem or_snotinW (e : X.w = w) : OpR X (compareOp .NotIn) (rSNotIn w) := by
  subst e
  exact or_snotin
variable {o e : Expr} {es : List Expr} {to : TE} {t : TA} {apos cpos : Pos}
theorem pe_saddW (ew : X.w = w) (ho : PE X o to) (ha : PA X (e :: es) t)
    (hbase : attributeBase o "add" X.env (eval o X.env) = eval o X.env := by rfl)
    (hfew : ((backTo cpos (starEach (e :: es) X.env)).all (fun x => !x.1) && (backToKw cpos (keywordEach [] X.env)).all (fun x => x.1.isSome)
      && decide ((e :: es).length + ([] : List Keyword).length + (if ([] : List Keyword).isEmpty then 0 else 1) < 30)) = true := by rfl)
    (hline : (apos.endLine == cpos.line) = true := by rfl) (hs : starEach (e :: es) X.env = (false, eval e X.env) :: starEach es X.env := by rfl) (hplain : (backTo cpos (starEach es X.env)).any (·.1) = false := by rfl) :
    PE X (.Call (.Attribute o "add" apos) (e :: es) [] cpos) (tSAdd w to t) := by
  subst ew
  exact pe_sadd ho ha hbase hfew hline hs hplain
end
end MM

set_option Elab.async false
set_option linter.all false
set_option maxRecDepth 100000
set_option maxHeartbeats 2000000
namespace MM
open PySem PySem.Spec PyProof.Rows L2
/-! math.lcm -/
section
variable {X : Cx}
def rLcm : List V → Hp → VK → Prop := fun vs H Q => ∃ a b : Int, vs = [.int a, .int b] ∧ a.natAbs < 2 ^ 13000 ∧ b.natAbs < 2 ^ 13000 ∧ Q (.int ((Nat.lcm a.natAbs b.natAbs : Nat) : Int)) H
theorem log_ok {n : Nat} (h : n < 2 ^ 13000) : ¬ n.log2 / 30 + 1 > 450 := by
  have := PySem.W.mg_log (n := n) (k := 12999) h
  omega
theorem lcm_ok {a b : Nat} (ha : a < 2 ^ 13000) (hb : b < 2 ^ 13000) : (Nat.lcm a b).log2 < bitsLine := by
  have h1 : Nat.lcm a b ≤ a * b := Nat.div_le_self _ _
  have h2 : a * b < 2 ^ 26000 := by
    rw [show (26000 : Nat) = 13000 + 13000 from rfl, Nat.pow_add]
    exact Nat.mul_lt_mul'' ha hb
  have h3 := PySem.W.mg_log (n := Nat.lcm a b) (k := 25999) (Nat.lt_of_le_of_lt h1 h2)
  exact Nat.lt_of_le_of_lt h3 (by decide +kernel)
theorem cr_lcm : CallR X (.builtin "math.lcm") rLcm := by
  intro pins s σ H vs us Q I r h
  obtain ⟨a, b, rfl, ha, hb, q⟩ := h
  obtain ⟨t, u, rfl⟩ := Vals.int2 r
  have e : (Nat.lcm 1 a.natAbs).lcm b.natAbs = Nat.lcm a.natAbs b.natAbs := by rw [Nat.lcm_one_left]
  refine PySem.call_function_meets PySem.W.MGF.kind_lcm PySem.W.MGF.plain_lcm PySem.W.MGF.entry_lcm (PySem.W.MGF.args_lcm _ _) (PySem.W.mg_run_lcm a t b u (log_ok ?_) (log_ok ?_) ?_).meets ?_
  · exact Nat.max_lt.mpr ⟨by exact Nat.one_lt_two_pow (by decide), ha⟩
  · exact Nat.max_lt.mpr ⟨ha, hb⟩
  · rw [e, Int.natAbs_natCast]
    exact lcm_ok ha hb
  · rw [e]
    exact ⟨.int _, H, I.tok _, ⟨_, rfl⟩, q⟩
/-- // by a divisor that is not 0 -/
def CDivG (_ j : Int) : Prop := j ≠ 0 ∧ j.natAbs.log2 < 9000
theorem op_fdivG : OpR X (binaryOp .FloorDiv) (rI CDivG fun i j => .int (i.fdiv j)) := opI fun i j _ _ _ _ _ hc q =>
  floordiv_int hc.1 q (.inl (PyProof.noPylong_of_log2 hc.2))
theorem divG {i j : Int} (h0 : j ≠ 0) (h : j.natAbs < 2 ^ 8999) : CDivG i j := ⟨h0, Nat.lt_of_lt_of_le (PySem.Flt.log2_lt_of (by decide) h) (by decide)⟩
end
end MM

set_option Elab.async false
set_option linter.all false
set_option maxRecDepth 100000
set_option maxHeartbeats 2000000
/-! more comprehensions: over enumerate, with a test -/
namespace MM
open PySem PySem.Spec PyProof.Rows L2
section
variable {K : PySem.W.Frag} {v : Nat} {g : TG} {tt : TT} {te : TE} {vs : List Nat} {σ : L2.St} {H1 : Hp} {D : Addr} {Qd : Hp → Prop} {n : Nat} {a : Addr} {xs : List V}
/-- what a comprehension asks of a turn with the item x -/
def LcT (g : TG) (tt : TT) (te : TE) (vs : List Nat) (σ : L2.St) (D : Addr) (Nx : Hp → Prop) (x : V) (H : Hp) : Prop :=
  g x (wipe σ vs) H fun σ2 H2 => wipe σ2 vs = wipe σ vs ∧ tt σ2 H2 fun b H3 =>
    if b = true then te σ2 H3 fun y H4 => ∃ acc, H4 D = some (.lst acc) ∧ acc.length < sizeLine ∧ Nx (upd H4 D (.lst (acc ++ [y]))) else Nx H3
theorem lc_enumT (Pv : Nat → Hp → Prop) (h0 : Pv 0 (upd H1 D (.lst []))) (at_a : ∀ i H, i ≤ xs.length → Pv i H → SqT K H a xs)
    (hs : ∀ i x H T, xs[i]? = some x → Pv i H → H T = none → LcT g tt te vs σ D (Pv (i + 1)) (.ref T) (upd H T (.tup [.int (i : Nat), x])))
    (hd : ∀ H, Pv xs.length H → Qd H) : LcW (Itu K a) g tt te vs σ H1 D Qd := by
  refine ⟨fun i m H => m = xs.length - i ∧ i ≤ xs.length ∧ Pv i H, ⟨_, rfl, Nat.zero_le _, h0⟩, ?_⟩
  rintro i m H ⟨rfl, le, p⟩
  by_cases lt : i < xs.length
  · have ex := List.getElem?_eq_getElem lt
    refine .inr ⟨⟨xs, _, at_a i H le p, ex⟩, Pv (i + 1), fun H' p' => ⟨_, by omega, rfl, lt, p'⟩, ?_⟩
    rintro v H' ⟨T, x, rfl, free, rfl, all⟩
    exact hs i x H T (all xs (at_a i H le p)) p free
  · have e : i = xs.length := by omega
    subst e
    exact .inl ⟨⟨xs, at_a _ H le p, Nat.le_refl _⟩, hd H p⟩
theorem lc_enumL (Pv : Nat → Hp → Prop) (h0 : Pv 0 (upd H1 D (.lst []))) (at_a : ∀ i H, i ≤ xs.length → Pv i H → SqL K H a xs)
    (hs : ∀ i x H T, xs[i]? = some x → Pv i H → H T = none → LcT g tt te vs σ D (Pv (i + 1)) (.ref T) (upd H T (.tup [.int (i : Nat), x])))
    (hd : ∀ H, Pv xs.length H → Qd H) : LcW (Ite K a) g tt te vs σ H1 D Qd := by
  refine ⟨fun i m H => m = xs.length - i ∧ i ≤ xs.length ∧ Pv i H, ⟨_, rfl, Nat.zero_le _, h0⟩, ?_⟩
  rintro i m H ⟨rfl, le, p⟩
  by_cases lt : i < xs.length
  · have ex := List.getElem?_eq_getElem lt
    refine .inr ⟨⟨xs, _, at_a i H le p, ex⟩, Pv (i + 1), fun H' p' => ⟨_, by omega, rfl, lt, p'⟩, ?_⟩
    rintro v H' ⟨T, x, rfl, free, rfl, all⟩
    exact hs i x H T (all xs (at_a i H le p)) p free
  · have e : i = xs.length := by omega
    subst e
    exact .inl ⟨⟨xs, at_a _ H le p, Nat.le_refl _⟩, hd H p⟩
theorem filt_step {xs : List V} {i : Nat} {x : V} (hi : xs[i]? = some x) (p : V → Bool) (f : V → V) :
    ((xs.take (i + 1)).filter p).map f = ((xs.take i).filter p).map f ++ (if p x = true then [f x] else []) := by
  rw [List.take_add_one, hi, List.filter_append, List.map_append]
  cases e : p x <;> simp [e]
/-- with a test -/
theorem lc_seqF (p : V → Bool) (f : V → V) (hx : SqL K H1 a xs) (nD : H1 D = none) (hn : xs.length ≤ sizeLine)
    (ht : ∀ x acc, x ∈ xs → ∀ Q : Bool → Hp → Prop, Q (p x) (upd H1 D (.lst acc)) → tt ((wipe σ [v]).set v (some x)) (upd H1 D (.lst acc)) Q)
    (hs : ∀ x acc, x ∈ xs → p x = true → ∀ Q : VK, Q (f x) (upd H1 D (.lst acc)) → te ((wipe σ [v]).set v (some x)) (upd H1 D (.lst acc)) Q)
    (hd : Qd (upd H1 D (.lst ((xs.filter p).map f)))) : LcW (Itl K a) (gName v) tt te [v] σ H1 D Qd := by
  refine lc_list (xs := xs) (Pv := fun i H => H = upd H1 D (.lst (((xs.take i).filter p).map f))) rfl (fun i H _ e => by rw [e]; exact sql_new hx nD) ?_ (fun H e => by rw [e, List.take_length]; exact hd)
  intro i x H hi e
  subst e
  have lt : i < xs.length := (List.getElem?_eq_some_iff.mp hi).1
  have le : (((xs.take i).filter p).map f).length ≤ i := by
    rw [List.length_map]
    exact Nat.le_trans (List.length_filter_le _ _) (by rw [List.length_take]; omega)
  refine ⟨wipe_one, ht x _ (List.mem_of_getElem? hi) _ ?_⟩
  have st := filt_step hi p f
  cases e : p x with
  | true =>
    rw [if_pos rfl]
    refine hs x _ (List.mem_of_getElem? hi) e _ ⟨_, upd_same, Nat.lt_of_le_of_lt le (Nat.lt_of_lt_of_le lt hn), ?_⟩
    rw [upd_upd, st, if_pos e]
  | false =>
    rw [if_neg Bool.false_ne_true, st, if_neg (by rw [e]; exact Bool.false_ne_true), List.append_nil]
theorem lc_tplF (p : V → Bool) (f : V → V) (hx : SqT K H1 a xs) (nD : H1 D = none) (hn : xs.length ≤ sizeLine)
    (ht : ∀ x acc, x ∈ xs → ∀ Q : Bool → Hp → Prop, Q (p x) (upd H1 D (.lst acc)) → tt ((wipe σ [v]).set v (some x)) (upd H1 D (.lst acc)) Q)
    (hs : ∀ x acc, x ∈ xs → p x = true → ∀ Q : VK, Q (f x) (upd H1 D (.lst acc)) → te ((wipe σ [v]).set v (some x)) (upd H1 D (.lst acc)) Q)
    (hd : Qd (upd H1 D (.lst ((xs.filter p).map f)))) : LcW (Itt K a) (gName v) tt te [v] σ H1 D Qd := by
  refine lc_tup (xs := xs) (Pv := fun i H => H = upd H1 D (.lst (((xs.take i).filter p).map f))) rfl (fun i H _ e => by rw [e]; exact sqt_new hx nD) ?_ (fun H e => by rw [e, List.take_length]; exact hd)
  intro i x H hi e
  subst e
  have lt : i < xs.length := (List.getElem?_eq_some_iff.mp hi).1
  have le : (((xs.take i).filter p).map f).length ≤ i := by
    rw [List.length_map]
    exact Nat.le_trans (List.length_filter_le _ _) (by rw [List.length_take]; omega)
  refine ⟨wipe_one, ht x _ (List.mem_of_getElem? hi) _ ?_⟩
  have st := filt_step hi p f
  cases e : p x with
  | true =>
    rw [if_pos rfl]
    refine hs x _ (List.mem_of_getElem? hi) e _ ⟨_, upd_same, Nat.lt_of_le_of_lt le (Nat.lt_of_lt_of_le lt hn), ?_⟩
    rw [upd_upd, st, if_pos e]
  | false =>
    rw [if_neg Bool.false_ne_true, st, if_neg (by rw [e]; exact Bool.false_ne_true), List.append_nil]
end
end MM
namespace MM
open PySem PySem.Spec PyProof.Rows L2
section
variable {K : PySem.W.Frag} {H : Hp} {Q : VK}
theorem slA {a : Addr} {xs : List V} {lo hi : Option Int} (S : SqT K H a xs) (q : ∀ H' t, Same H H' → SqT K H' t (cutV xs lo hi) → Q (.ref t) H') : rSlA K (.ref a) lo hi H Q := by
  refine ⟨a, xs, rfl, S, fun h => ?_, fun _ p np => q _ p (same_new np) (.inl (.inl upd_same))⟩
  refine q H a (Same.refl H) ?_
  have : cutV xs lo hi = xs := by
    unfold cutV
    rw [h.1, h.2, List.drop_zero, Nat.sub_zero, List.take_length]
  rw [this]
  exact S
theorem catA {a b : Addr} {xs ys : List V} (S : SqT K H a xs) (S2 : SqT K H b ys) (z : xs.length + ys.length ≤ sizeLine) (q : ∀ H' t, Same H H' → SqT K H' t (xs ++ ys) → Q (.ref t) H') : rCatA K (.ref a) (.ref b) H Q := by
  refine ⟨a, b, xs, ys, rfl, rfl, S, S2, z, fun h => ?_, fun _ h => ?_, fun _ _ p np => q _ p (same_new np) (.inl (.inl upd_same))⟩
  · exact q H b (Same.refl H) (by rw [h]; exact S2)
  · exact q H a (Same.refl H) (by rw [h, List.append_nil]; exact S)
end
end MM
namespace MM
open PySem PySem.Spec PyProof.Rows L2
def rTupOf (K : PySem.W.Frag) : List V → Hp → VK → Prop := fun xs H Q => ∃ p ys, xs = [V.ref p] ∧ ((SqL K H p ys ∧ ∀ (l : Addr), H l = none → Q (.ref l) (upd H l (.tup ys))) ∨ SqT K H p ys ∧ Q (.ref p) H)
end MM

set_option Elab.async false
set_option linter.all false
set_option maxRecDepth 100000
set_option maxHeartbeats 2000000
/-! sorted of tuples of ints, of lists of lists of ints, of tuples of tuples by their lengths; walks over two at once -/
namespace MM
open PySem PySem.Spec PyProof.Rows L2 PySem.Calls PySem.W
section
variable {prog : Program} {w : World} {A : Around} {E : Value → Shared → Prop} {s : Shared}
theorem collect_tuple {l : Addr} {vs : List Value} {Q : List Value → Shared → Prop} (hl : s.heap.IsTuple l vs.toArray)
    (h : Q vs { s with heap := (s.heap.push (seqObj "list" #[] 0)).update s.heap.objs.size (Obj.mapSeq (· ++ vs.toArray)) }) (hsz : vs.length ≤ sizeLine) :
    wpAny (model prog w) A (collect (.ref l)) Q E s := by
  obtain ⟨o, ho, hc, n, hd⟩ := id hl
  unfold collect
  refine wpAny_bind (wpAny_runValue (codeAny_builtin entry_proto_collect' ?_))
  show wpAny _ _ (do again (.builtin "list.__iadd__" ⟨[← newList [], .ref l], []⟩)) _ _ s
  refine wpAny_bind (wpAny_newList (wpAny_pure ⟨Code.quiet_builtin _ (by decide +kernel), codeAny_builtin entry_list_iadd' ?_⟩))
  show wpAny _ _ (Builtin.List.listExtendWith (.ref s.heap.objs.size) (.ref l) (.ref s.heap.objs.size)) _ _ { s with heap := s.heap.push (seqObj "list" #[] 0) }
  unfold Builtin.List.listExtendWith
  have ho' : (s.heap.push (seqObj "list" #[] 0)).get? l = some o := Heap.get?_push_of_some _ ho
  refine wpAny_bind (wpAny_typeOf (T := "tuple") ⟨o, ho', hc⟩ ?_)
  have ht : (Value.type "tuple" == Value.type "tuple") = true := by rfl
  rw [if_pos (by rw [ht]; simp)]
  refine wpAny_bind (listItems_at ho' hd ?_)
  refine wpAny_bind (listItems_at (xs := #[]) (n := 0) (Heap.get?_push_size _ rfl) rfl ?_)
  rw [if_neg (by simp)]
  refine wpAny_bind (listUpdate_at (xs := #[]) (n := 0) (Heap.get?_push_size _ rfl) rfl ?_ (Nat.zero_le _) (by show (#[] ++ vs.toArray).size ≤ sizeLine + 1; simp only [Array.size_append, List.size_toArray, List.length_nil]; omega))
  refine wpAny_pure ?_
  show wpAny (model prog w) A (do
      let o ← load s.heap.objs.size
      match o.data with
      | .seq xs _ => pure xs.toList
      | _ => unsupported "internal:collect") Q E { s with heap := (s.heap.push (seqObj "list" #[] 0)).update s.heap.objs.size (Obj.mapSeq (· ++ vs.toArray)) }
  refine wpAny_bind (wpAny_load (get?_update_seq (Heap.get?_push_size _ rfl) _) ?_)
  show wpAny _ _ (pure ((#[] : Array Value) ++ vs.toArray).toList) Q E _
  rw [show ((#[] : Array Value) ++ vs.toArray).toList = vs by simp]
  exact wpAny_pure h
theorem sorted_of_tup {l : Addr} {vs : List Value} {kw : List (Str × Value)} {Q : Value → Shared → Prop} (hl : s.heap.IsTuple l vs.toArray) (hL : vs.length ≤ sizeLine) (ha1 : argsOk "sorted" ⟨[.ref l], kw⟩) (ha2 : ∀ x, argsOk "list.sort" ⟨[.ref x], kw⟩)
    (body : ∀ E' : Value → Shared → Prop, wpAny (model prog w) A.in1.in1 (Builtin.«list.sort» ⟨[.ref (s.heap.objs.size + 1)], kw⟩) (fun f s' => f = .done (.ret .none) ∧ Q (.ref (s.heap.objs.size + 1)) s') E' { s with heap := copyHeap s.heap vs }) :
    wpAny (model prog w) A (call (.builtin "sorted") [.ref l] kw) Q E s := by
  refine call_function_entry_kw kind_sorted plain_sorted entry_sorted ha1 ?_
  unfold Builtin.«sorted»
  refine wpAny_bind (m := checkCount "sorted" 1 1 _) (wpAny_pure ?_)
  refine wpAny_bind (collect_tuple hl ?_ hL)
  refine wpAny_bind (wpAny_newList ?_ hL)
  have hsz : ((s.heap.push (seqObj "list" #[] 0)).update s.heap.objs.size (Obj.mapSeq (· ++ vs.toArray))).objs.size = s.heap.objs.size + 1 := by
    rw [Heap.size_update, size_push']
  show wpAny _ _ _ _ _ { s with heap := copyHeap s.heap vs }
  rw [hsz]
  refine wpAny_bind (wpAny_holding (wpAny_call_entry_kw slot_list_sort ⟨_, copyHeap_at s.heap vs, rfl⟩ entry_list_sort ?body (ha2 _)))
  case body =>
    show wpAny (model prog w) A.in1.in1 (Builtin.«list.sort» ⟨[.ref (s.heap.objs.size + 1)], kw⟩) _ _ _
    refine wpAny_mono (body _) (fun f s' hf => ?_) fun _ _ e => e
    obtain ⟨rfl, hq⟩ := hf
    exact ⟨_, rfl, wpAny_pure ⟨_, rfl, hq⟩⟩
variable {β : Type} {vs : List Value} {bs : List β} {enc : β → PyData} {R : Value → β → Prop}
theorem sorted_tup_data {l : Addr} {Q : Value → Shared → Prop} (hl : s.heap.IsTuple l vs.toArray) (e : EachIs R vs bs) (er : EachIs (fun v b => ∃ as, Reads s.heap v (enc b) as) vs bs) (hal : AllAlike (bs.map enc)) (hk : Sortable (bs.map enc)) (hL : bs.length ≤ sizeLine)
    (hu : ∀ b, b ∈ bs → A.units + 2 + (enc b).depth < cLine) (h : ∀ out, out.length = bs.length → EachIs R out (bs.mergeSort (dataLe false enc)) → Q (.ref (s.heap.objs.size + 1)) { s with heap := sortedAll s.heap vs (List.toArray out) }) :
    wpAny (model prog w) A (call (.builtin "sorted") [.ref l]) Q E s := by
  have er' : EachIs (fun v b => ∃ as, Reads (sortingHeap (copyHeap s.heap vs) (s.heap.objs.size + 1) vs) v (enc b) as) vs bs := er.mono fun _ _ ⟨as, r⟩ => ⟨as, PyProof.Rows.Reads.keeps (fun _ _ => sorting_copy_old) r⟩
  have hL' : vs.length ≤ sizeLine := by rw [e.length]; exact hL
  exact sorted_of_tup hl hL' (args_sorted1 _) (fun _ => args_list_sort _) fun _ => list_sort_vals (s := { s with heap := copyHeap s.heap vs }) (copyHeap_at s.heap vs)
    (SortsAt.data (s := { s with heap := sortingHeap (copyHeap s.heap vs) (s.heap.objs.size + 1) vs }) (each_map (R := fun v d => ∃ as, Reads (sortingHeap (copyHeap s.heap vs) (s.heap.objs.size + 1) vs) v d as) enc er') hal hk (bound_map hu)) hL' ⟨rfl, h _ (by rw [sortVals_length false rfl]; exact e.length) (sortVals_data false e er' hal)⟩
theorem sorted_tup_key {l : Addr} {f : Value} {kw : List (Str × Value)} {b : Bool} {Q : Value → Shared → Prop} (k : β → PyData) (hl : s.heap.IsTuple l vs.toArray) (e : EachIs R vs bs) (hal : AllAlike (bs.map k)) (hk : Sortable (bs.map k)) (hL : bs.length ≤ sizeLine)
    (hu : ∀ x, x ∈ bs → A.units + 2 + (k x).depth < cLine) (ha1 : argsOk "sorted" ⟨[.ref l], kw⟩) (ha2 : ∀ x, argsOk "list.sort" ⟨[.ref x], kw⟩) (ht : ∀ x, Builtin.«list.sort» ⟨[.ref x], kw⟩ = ksk_tree x f b)
    (turn : ∀ (v : Value) (x : β), R v x → x ∈ bs → ∀ (h : Heap) (tk : Nat), (∀ b o, s.heap.get? b = some o → h.get? b = some o) →
      wpAny (model prog w) A.in1.in1 (call f [v]) (KeyPure (k x) { s with heap := h, toks := tk }) (fun _ _ => False) { s with heap := h, toks := tk })
    (h : ∀ out c h' tk, (∀ b o, s.heap.get? b = some o → h'.get? b = some o) → s.heap.get? (s.heap.objs.size + 1) = none → h'.get? (s.heap.objs.size + 1) = some (seqObj "list" (List.toArray out) c) → out.length = bs.length → EachIs R out (bs.mergeSort (dataLe b k)) →
      Q (.ref (s.heap.objs.size + 1)) { s with heap := h', toks := tk }) :
    wpAny (model prog w) A (call (.builtin "sorted") [.ref l] kw) Q E s := by
  have fresh : s.heap.get? (s.heap.objs.size + 1) = none := Heap.get?_none_of_le (Nat.le_succ _)
  have up : ∀ {g : Heap}, KeepsBut (s.heap.objs.size + 1) (copyHeap s.heap vs) g → ∀ b o, s.heap.get? b = some o → g.get? b = some o := fun {g} kp b o q =>
    kp b o (Nat.ne_of_lt (Nat.lt_succ_of_lt (Heap.lt_size q))) (copyHeap_old q)
  refine sorted_of_tup hl (by rw [e.length]; exact hL) ha1 ha2 fun E' => ?_
  rw [ht]
  refine keyH_tree (kz := bs.map k) (s := { s with heap := copyHeap s.heap vs }) (copyHeap_at s.heap vs) (by rw [List.length_map]; exact e.length.symm) (by rw [e.length]; exact hL) hal hk (bound_map (A := A.in1.in1) hu)
    (keyH_turns (s := { s with heap := copyHeap s.heap vs }) e fun v x hR hx h tk kp => turn v x hR hx h tk (up kp)) fun h' tk out c kp hD ko => ⟨rfl, ?_⟩
  exact h out c h' tk (up kp) fresh hD ((ko.length (by rw [List.length_map]; exact e.length.symm)).trans e.length) (keyedOut_each k ko e)
end
/-! by values -/
section
variable {X : Cx}
theorem each_of {R : V → Value → Prop} : ∀ {xs : List V} {us : List Value}, Paired R xs us → ∀ {β : Type} {bs : List (V × β)}, xs = bs.map Prod.fst → EachIs (fun v b => R b.1 v) us bs
  | _, _, .nil, _, [], _ => .nil
  | _, _, .nil, _, _ :: _, e => by cases e
  | _, _, .cons _ _, _, [], e => by cases e
  | _, _, .cons r t, _, b :: bs, e => by
    rw [List.map_cons] at e
    obtain ⟨e1, e2⟩ := List.cons.inj e
    subst e1
    exact .cons r (each_of t e2)
theorem vals_of_each {β : Type} : ∀ {us : List Value} {bs : List (V × β)}, EachIs (fun v b => RelV b.1 v) us bs → Vals (bs.map Prod.fst) us
  | _, _, .nil => .nil
  | _, _, .cons h t => .cons h (vals_of_each t)
theorem each_and {α β : Type} {R S : α → β → Prop} : ∀ {us : List α} {bs : List β}, EachIs R us bs → (∀ u b, R u b → b ∈ bs → S u b) → EachIs S us bs
  | _, _, .nil, _ => .nil
  | _, _, .cons h t, f => .cons (f _ _ h (by simp)) (each_and t fun u b r m => f u b r (by simp [m]))
/-- sorted(xs), xs a list of lists of ints -/
def rSortedLI (K : PySem.W.Frag) : List V → Hp → VK → Prop := fun vs H Q => ∃ (a : Addr) (bs : List (V × List Int)), vs = [.ref a] ∧ SqL K H a (bs.map Prod.fst) ∧ bs.length ≤ 1000 ∧ (∀ b ∈ bs, ∃ t, b.1 = .ref t ∧ SqL K H t (b.2.map V.int)) ∧
  ∀ (zs : List (V × List Int)) (p : Addr), zs.Perm bs → zs.Pairwise (fun x y => x.2 ≤ y.2) → H p = none → Q (.ref p) (upd H p (.lst (zs.map Prod.fst)))
theorem cr_sortedLI (hu : X.A.units + 64 < cLine) : CallR X (.builtin "sorted") (rSortedLI X.K) := by
  intro pins s σ H vs us Q I r h
  obtain ⟨a, bs, rfl, hs, hl, hb, q⟩ := h
  obtain ⟨its, rv, pl, hz⟩ := I.list hs
  rw [Vals.ref1 r]
  have e := each_of rv rfl
  have sml : ∀ n, n ≤ 1000 → n ≤ sizeLine := fun n h => Nat.le_of_lt (Nat.lt_of_le_of_lt h (by decide))
  refine sorted_data (enc := fun b : V × List Int => .list (b.2.map .int)) pl.isList e (each_and e fun u b ru hm => ?_) (AllAlike.of fun b b' => by rw [alike]; exact alike_ints _ _) (Sortable.others fun b => ⟨by simp, by simp⟩) (sml _ hl) (fun b _ => ?_) fun out lo eo => ?_
  · obtain ⟨t, et, St⟩ := hb b hm
    rw [et] at ru
    obtain ⟨as, rd⟩ := Dp.reads I (.list (b.2.map .int)) (.ref t) u (.lst St (dp_ints _)) ru
    exact ⟨as, rd⟩
  · have := depth_ints b.2
    simp only [PyData.depth]
    omega
  obtain ⟨ep, he'⟩ := PyProof.Rows.sortedAll_at s.heap its out.toArray
  rw [dataLe_rows (fun b : V × List Int => b.2)] at eo
  have pm := List.mergeSort_perm bs (fun p q : V × List Int => decide (p.2 ≤ q.2))
  have pw := List.pairwise_mergeSort (le := fun p q : V × List Int => decide (p.2 ≤ q.2)) (fun a b c h1 h2 => decide_eq_true (List.le_trans (of_decide_eq_true h1) (of_decide_eq_true h2)))
    (fun a b => by
      rcases List.le_total a.2 b.2 with h | h
      · simp [h]
      · simp [h]) bs
  have hlen : ((bs.mergeSort fun p q => decide (p.2 ≤ q.2)).map Prod.fst).length ≤ sizeLine := by
    rw [List.length_map, pm.length_eq]
    exact sml _ hl
  exact ⟨.ref _, upd H (s.heap.objs.size + 1) (.lst ((bs.mergeSort fun p q => decide (p.2 ≤ q.2)).map Prod.fst)), I.laid (t' := s.toks) (fun _ _ => PyProof.Rows.sortedAll_old) (Nat.le_succ _) ⟨hlen, out, ep, vals_of_each eo, he'⟩, rfl,
    q _ _ pm (pw.imp fun h => of_decide_eq_true h) (I.hok.fresh (Nat.le_succ _))⟩
/-- sorted(t), t a tuple of ints -/
def rSortedIT (K : PySem.W.Frag) : List V → Hp → VK → Prop := fun vs H Q => ∃ (a : Addr) (ns : List Int), vs = [.ref a] ∧ SqT K H a (ns.map V.int) ∧ ns.length ≤ 1000 ∧
  ∀ (zs : List Int) (p : Addr), zs.Perm ns → zs.Pairwise (· ≤ ·) → H p = none → Q (.ref p) (upd H p (.lst (zs.map V.int)))
theorem each_ints : ∀ {us : List Value} {ns : List Int}, Vals (ns.map V.int) us → EachIs (fun v n => RelV (.int n) v) us ns
  | _, [], r => by
    cases r
    exact .nil
  | _, n :: ns, r => by
    cases r with
    | cons h t => exact .cons h (each_ints t)
theorem vals_each_ints : ∀ {us : List Value} {ns : List Int}, EachIs (fun v n => RelV (.int n) v) us ns → Vals (ns.map V.int) us
  | _, _, .nil => .nil
  | _, _, .cons h t => .cons h (vals_each_ints t)
theorem cr_sortedIT (hu : X.A.units + 64 < cLine) : CallR X (.builtin "sorted") (rSortedIT X.K) := by
  intro pins s σ H vs us Q I r h
  obtain ⟨a, ns, rfl, hs, hl, q⟩ := h
  obtain ⟨its, rv, pl, hz⟩ := I.tuple hs
  rw [Vals.ref1 r]
  have e := each_ints rv
  have sml : ∀ n, n ≤ 1000 → n ≤ sizeLine := fun n h => Nat.le_of_lt (Nat.lt_of_le_of_lt h (by decide))
  refine sorted_tup_data (enc := fun n : Int => .int n) pl e (each_and e fun u b ru hm => ?_) (AllAlike.of fun b b' => by simp [alike]) (Sortable.others fun b => ⟨by simp, by simp⟩) (sml _ hl) (fun b _ => ?_) fun out lo eo => ?_
  · obtain ⟨t, rfl⟩ := ru
    exact ⟨_, Reads.int b t⟩
  · simp only [PyData.depth]
    omega
  obtain ⟨ep, he'⟩ := PyProof.Rows.sortedAll_at s.heap its out.toArray
  rw [dataLe_int (fun b : Int => b)] at eo
  have pm := List.mergeSort_perm ns (fun p q : Int => decide (p ≤ q))
  have pw := List.pairwise_mergeSort (le := fun p q : Int => decide (p ≤ q)) (fun a b c h1 h2 => decide_eq_true (Int.le_trans (of_decide_eq_true h1) (of_decide_eq_true h2)))
    (fun a b => by
      rcases Int.le_total a b with h | h
      · simp [h]
      · simp [h]) ns
  have hlen : ((ns.mergeSort fun p q => decide (p ≤ q)).map V.int).length ≤ sizeLine := by
    rw [List.length_map, pm.length_eq]
    exact sml _ hl
  exact ⟨.ref _, upd H (s.heap.objs.size + 1) (.lst ((ns.mergeSort fun p q => decide (p ≤ q)).map V.int)), I.laid (t' := s.toks) (fun _ _ => PyProof.Rows.sortedAll_old) (Nat.le_succ _) ⟨hlen, out, ep, vals_each_ints eo, he'⟩, rfl,
    q _ _ pm (pw.imp fun h => of_decide_eq_true h) (I.hok.fresh (Nat.le_succ _))⟩
/-- sorted(t, key=len), t a tuple of tuples -/
def rSortLen (K : PySem.W.Frag) : List V → Hp → VK → Prop := fun vs H Q => ∃ (β : Type) (n : β → Nat) (a : Addr) (bs : List (V × β)), vs = [.ref a] ∧ SqT K H a (bs.map Prod.fst) ∧ bs.length ≤ 1000 ∧ (∀ b ∈ bs, ∃ t ys, b.1 = .ref t ∧ SqT K H t ys ∧ ys.length = n b.2) ∧
  ∀ (zs : List (V × β)) (p : Addr), zs.Perm bs → zs.Pairwise (fun x y => n x.2 ≤ n y.2) → H p = none → Q (.ref p) (upd H p (.lst (zs.map Prod.fst)))
theorem run_sortLen (hu : X.A.units + 64 < cLine) {pins : List (Addr × Obj)} {s : Shared} {σ : L2.St} {H : Hp} {vs : List V} {us : List Value} {Q : VK} (I : Inv X pins σ H s) (r : Vals vs us) (h : rSortLen X.K vs H Q) :
    wpAny (model X.prog X.w) X.A (call (.builtin "sorted") us [(Str.ofString "key", .builtin "len")]) (EP X pins σ Q) X.xe s := by
  obtain ⟨β, n, a, bs, rfl, hs, hl, hb, q⟩ := h
  obtain ⟨its, rv, pl, hz⟩ := I.tuple hs
  rw [Vals.ref1 r]
  have e := each_of rv rfl
  have sml : ∀ n, n ≤ 1000 → n ≤ sizeLine := fun n h => Nat.le_of_lt (Nat.lt_of_le_of_lt h (by decide))
  refine sorted_tup_key (b := false) (fun b : V × β => .int (n b.2 : Int)) pl e (AllAlike.of fun b b' => by simp [alike]) (Sortable.others fun b => ⟨by simp, by simp⟩) (sml _ hl) (fun b _ => ?_) (ksk_s1 _ _) (fun _ => ksk_l1 _ _) (fun _ => ksk_t4 _ _) (fun v x rx hx h tk kp => ?_) fun out c h' tk kp fr hD lo eo => ?_
  · simp only [PyData.depth]
    omega
  · obtain ⟨t, ys, et, St, el⟩ := hb x hx
    rw [et] at rx
    cases rx
    obtain ⟨its2, rv2, p2, hz2⟩ := I.tuple St
    have hlen := rv2.length
    have p3 : h.IsTuple t its2.toArray := by
      obtain ⟨o, ho, hc, hd⟩ := p2
      exact ⟨o, kp _ _ ho, hc, hd⟩
    have hn := line63
    refine len_tuple (s := { s with heap := h, toks := tk }) p3 (by simp only [List.size_toArray] <;> omega) ⟨h, tk + 1 + 1, rfl, fun b o e => e, ?_⟩
    rw [List.size_toArray, ← hlen, el]
    exact Reads.int _ _
  rw [dataLe_int (fun b : V × β => (n b.2 : Int))] at eo
  have pm := List.mergeSort_perm bs (fun p q : V × β => decide ((n p.2 : Int) ≤ (n q.2 : Int)))
  have pw := List.pairwise_mergeSort (le := fun p q : V × β => decide ((n p.2 : Int) ≤ (n q.2 : Int))) (fun a b c h1 h2 => decide_eq_true (Int.le_trans (of_decide_eq_true h1) (of_decide_eq_true h2)))
    (fun a b => by
      rcases Int.le_total (n a.2 : Int) (n b.2 : Int) with h | h
      · simp [h]
      · simp [h]) bs
  have hlen : ((bs.mergeSort fun p q => decide ((n p.2 : Int) ≤ (n q.2 : Int))).map Prod.fst).length ≤ sizeLine := by
    rw [List.length_map, pm.length_eq]
    exact sml _ hl
  exact ⟨.ref _, upd H (s.heap.objs.size + 1) (.lst ((bs.mergeSort fun p q => decide ((n p.2 : Int) ≤ (n q.2 : Int))).map Prod.fst)), I.laid (t' := tk) kp (Nat.le_succ _) ⟨hlen, out, c, vals_of_each eo, hD⟩, rfl,
    q _ _ pm (pw.imp fun h => by have := of_decide_eq_true h; omega) (I.hok.fresh (Nat.le_succ _))⟩
theorem pe_sortLen {e : Expr} {t : TA} {p p2 kpos pos : Pos} (hu : X.A.units + 64 < cLine) (hg : Gl X "sorted") (hm : X.mg "sorted" = none) (hg2 : Gl X "len") (hm2 : X.mg "len" = none) (ha : PA X [e] t)
    (he : backTo pos (starEach [e] X.env) = (false, eval e X.env) :: backTo pos (starEach [] X.env) := by rfl) (hpl : (backTo pos (starEach [e] X.env)).any (·.1) = false := by rfl)
    (hall : (backToKw pos (keywordEach [⟨some (Str.ofString "key"), .Name "len" p2, kpos⟩] X.env)).all (·.1.isSome) = true := by rfl) (hnone : (backToKw pos (keywordEach [⟨some (Str.ofString "key"), .Name "len" p2, kpos⟩] X.env)).any (·.1.isNone) = false := by rfl)
    (hks : (backToKw pos (keywordEach [⟨some (Str.ofString "key"), .Name "len" p2, kpos⟩] X.env)).filterMap (·.1) = [Str.ofString "key"] := by rfl) :
    PE X (.Call (.Name "sorted" p) [e] [⟨some (Str.ofString "key"), .Name "len" p2, kpos⟩] pos) (tCB (rSortLen X.K) t) := by
  refine ⟨fun pins s σ H Q I h => ?_⟩
  refine wpAny_Call_Name_kw (ld_blt I hg hm (u := .builtin "sorted") (by decide +kernel) ?_ (by decide) (by decide))
  refine PyProof.Rows.callWith_kw (thn (ha.run pos pins s σ H _ I h) fun us s1 ⟨vs, H1, I1, r1, q1⟩ => ?_) he hpl hall hnone
  show wpAny _ _ (evalAll [do let v ← eval (.Name "len" p2) X.env; standAt pos; pure v]) _ _ s1
  refine wpAny_evalAll_cons (wpAny_bind (ld_blt I1 hg2 hm2 (u := .builtin "len") (by decide +kernel) (wpAny_bind (wpAny_standAt (wpAny_pure (wpAny_evalAll_nil ?_)))) (by decide) (by decide)))
  rw [hks]
  exact run_sortLen hu I1 r1 q1
end
end MM
namespace MM
open PySem PySem.Spec PyProof.Rows L2
section
variable {K : PySem.W.Frag} {a b : Addr} {xs ys : List V} {g : TG} {tb : TS} {D : Ends} {σ : L2.St} {H : Hp}
theorem for_zipM (Pv : Nat → L2.St → Hp → Prop) (h0 : Pv 0 σ H) (hq : ∀ i σ H, Pv i σ H → SqL K H a xs ∧ SqL K H b ys)
    (hs : ∀ (i : Nat) (x y : V) (T : Addr) (σ : L2.St) (H : Hp), xs[i]? = some x → ys[i]? = some y → Pv i σ H → H T = none → g (.ref T) σ (upd H T (.tup [x, y])) fun σ2 H2 => tb { D with nx := Pv (i + 1), ct := Pv (i + 1), bk := D.nx } σ2 H2)
    (hd : ∀ σ H, Pv (min xs.length ys.length) σ H → D.nx σ H) : ForW (Itz K a b) g tb D σ H := by
  refine ⟨fun i m σ H => m = min xs.length ys.length - i ∧ i ≤ min xs.length ys.length ∧ Pv i σ H, ⟨_, rfl, Nat.zero_le _, h0⟩, ?_⟩
  rintro i m σ H ⟨rfl, le, p⟩
  obtain ⟨q1, q2⟩ := hq i σ H p
  by_cases lt : i < min xs.length ys.length
  · have e1 : xs[i]? = some (xs[i]'(by omega)) := List.getElem?_eq_getElem (by omega)
    have e2 : ys[i]? = some (ys[i]'(by omega)) := List.getElem?_eq_getElem (by omega)
    refine .inr ⟨⟨xs, ys, _, _, q1, q2, e1, e2⟩, Pv (i + 1), fun σ' H' p' => ⟨_, by omega, rfl, lt, p'⟩, ?_⟩
    rintro v H' ⟨T, x, y, rfl, free, rfl, h1, h2⟩
    exact hs i x y T σ H (h1 xs q1) (h2 ys q2) p free
  · have e : i = min xs.length ys.length := by omega
    subst e
    exact .inl ⟨⟨xs, ys, q1, q2, by omega⟩, hd σ H p⟩
end
end MM

set_option Elab.async false
set_option maxRecDepth 100000
set_option maxHeartbeats 2000000
set_option linter.all false
/-! own exceptions over any built-in base, whose own __init__ asks the base's and keeps one field -/
namespace ME
open PySem PySem.Spec PyProof.Rows L2

/-- the class at C stands over B, by own classes between, or none -/
structure Over (K : PySem.W.Frag) (C : Addr) (B newId initId : String) (top : List Value) : Prop where
  base : ExcBaseFacts B newId initId top
  put : StoreFacts B top "object.__setattr__" "object"
  row : ∃ nm q N bs bm sn sub ab col dd k0 k1 k2 k3 k5,
    K.lookup C = some (excClassObj nm q C N bs bm true sn sub ab col dd k0 k1 k2 k3 k5 newId) ∧ PySem.W.excTail top bm = true
  hook : PySem.W.findIn K (.ref C) "__setattr__" = some (some (.builtin "object.__setattr__"))
  isE : PySem.W.subIn K (.ref C) (.type "BaseException") = some true
  meta_ : PySem.W.typeIn K (.ref C) = some (.type "type")
  keep : PySem.W.keepIn K (.ref C) = true

section
open Builtin Builtin.ObjectAttr
variable {prog : Program} {w : World} {A : Around} {R : Result → Shared → Prop} {hp : Heap} {g : Array GenState} {d : Drawn}
  {t : Nat} {os : OsState} {K : PySem.W.Frag} {C x : Addr} {B newId initId : String} {top : List Value}
/-- the first field of an exception lays its dict -/
theorem first_put {name : Str} {tk : Tok} {v : Value} {fv : Array Value} (T : Over K C B newId initId top) (X : K.In hp)
    (hx : hp.get? x = some { cls := .ref C, data := .fields fv })
    (ha : PySem.W.findIn K (.ref C) name = some none)
    (hq : ∀ h' tk' dx, (∀ b o, b ≠ x → hp.get? b = some o → h'.get? b = some o) → hp.objs.size ≤ dx → dx ≠ x →
      h'.get? x = some { cls := .ref C, dict := some dx, data := .fields fv } →
      h'.Ns1 dx (fun y => if y = name then some v else none) → R (.ok (.ret .none)) ⟨h', g, d, tk', os⟩) :
    codeAny (model prog w) A (.call (.builtin "object.__setattr__") ⟨[.ref x, .str name tk, v], []⟩) R ⟨hp, g, d, t, os⟩ := by
  obtain ⟨nm, q, N, bs, bm, sn, sub, ab, col, dd, k0, k1, k2, k3, k5, hC, hbm⟩ := T.row
  have hcd : PySem.W.clsIn K C = some { name := nm, bases := bs, mro := .ref C :: bm, ns := N, qualname := q, hasDict := true, slotNames := sn, subclasses := sub, abstract := ab, collection := col, hasDel := false } := by
    unfold PySem.W.clsIn
    rw [hC] <;> rfl
  have hall : PySem.W.excTail top (.ref C :: bm) = true := hbm
  have inst : PySem.W.InstAt hp x { cls := .ref C, data := .fields fv } C none := ⟨hx, rfl, rfl, trivial⟩
  have S := PySem.F.store_object
  have far : x ≠ hp.objs.size := Nat.ne_of_lt (Heap.lt_size hx)
  have obj : (Value.ref C :: bm).contains (.type "object") = true :=
    (PySem.W.excTail_contains "object" _ hall).trans T.put.hasOwner
  have mro : PySem.W.mroIn K C (.type "object") = some true := by
    unfold PySem.W.mroIn
    rw [hcd, Option.bind_some]
    simp only [List.isEmpty_cons, obj, Bool.false_eq_true, if_false]
  have isObj : PySem.W.Looks (model prog w) hp (isInstance (.ref x) (.type "object")) true :=
    inst.type.andThen (PySem.W.looks_mroIn X mro)
  have rd : PySem.W.Looks (model prog w) hp (classData C) _ := PySem.W.looks_clsIn X hcd
  have rm : PySem.W.Looks (model prog w) hp (mroOf (.ref C)) (.ref C :: bm) := rd.andThen .now
  have none_ : PySem.W.Looks (model prog w) hp (storeTaker? none) none := .now
  refine codeAny_call_builtin S.slot.plain S.entry (@PySem.W.check_slot (model prog w) _ _ ⟨hp, g, d, t, os⟩
    "object.__setattr__" "object" "__setattr__" (.ref x) [.str name tk, v] [] _ S.kind S.split isObj (S.args (.ref x) (.str name tk) v) ?_)
  rw [PySem.W.osa_eq, refuse_eq]
  refine wpAny_bind (wpAny_bind (inst.type.at (wpAny_bind (rm.at ?_))))
  rw [PySem.W.excTail_pass _ (T.put.passes _) _ hall]
  refine wpAny_pure (wpAny_bind (inst.type.at (wpAny_bind ((PySem.W.looks_findIn X ha).at (wpAny_bind (none_.at ?_))))))
  show wpAny _ _ (storeInOwnDict (.ref x) (.ref C) (.str name tk) name v false) _ _ _
  unfold storeInOwnDict ownDictForStores
  repeat (first
    | with_reducible refine PySem.HandSPX.store_in_new ?_ ?_
    | with_reducible refine wpAny_loadPart_at hx ?_
    | with_reducible refine rd.at ?_
    | wp_step)
  · refine ⟨_, #[], _, (Heap.get?_update_ne _ _ _ _ far.symm).trans (Heap.get?_push_at rfl rfl), rfl, ?_, fun _ => rfl⟩
    intro e he
    simp at he
  · intro h' tk' hn' hs
    have there : (hp.push { cls := .type "dict", data := .dict #[] }).get? x = some { cls := .ref C, data := .fields fv } :=
      Heap.get?_push_of_some _ hx
    refine hq h' tk' hp.objs.size ?_ (Nat.le_refl _) far.symm ((hs.2 x far).trans (Heap.get?_update_self _ there rfl)) hn'
    intro b o hb ho
    have nb : b ≠ hp.objs.size := Nat.ne_of_lt (Heap.lt_size ho)
    rw [hs.2 b nb, Heap.get?_update_ne _ _ _ _ hb]
    exact Heap.get?_push_of_some _ ho
end

section
variable {X : Cx} {pins : List (Addr × Obj)} {σ : L2.St} {H : Hp} {s : Shared} {a C : Addr} {f : Str} {y : V} {u : Value}
  {E : Value → Shared → Prop} {A : Around} {B newId initId : String} {top : List Value}
/-- self.f = y, the first field -/
theorem put_new {Q : Unit → Shared → Prop} (T : Over X.K C B newId initId top) (I : Inv X pins σ H s)
    (ea : H a = some (exo a C none)) (no : PySem.W.findIn X.K (.ref C) f = some none) (ry : RelV y u)
    (h : ∀ dx s', H dx = none → dx ≠ a →
      Inv X pins σ (upd (upd H dx (exd dx [(f, y)])) a (exo a C (some dx))) s' → Q () s') :
    wpAny (model X.prog X.w) A (setAttr (.ref a) f u) Q E s := by
  obtain ⟨t1, ho⟩ := exo_at I.hok ea
  obtain ⟨hp, g, d, t, os⟩ := s
  refine PySem.W.set_plain I.kIn (od := none) ⟨ho, rfl, rfl, trivial⟩ T.hook ?_
  refine first_put T I.kIn ho no (fun h' tk' dx kp ge ne hx hn => ?_)
  have free : H dx = none := I.hok.fresh ge
  have old : ∀ {b : Addr} {o : Obj}, hp.get? b = some o → b ≠ dx := by
    intro b o hb
    exact Nat.ne_of_lt (Nat.lt_of_lt_of_le (Heap.lt_size hb) ge)
  have nota : ∀ {b : Addr}, H b = none → b ≠ a := by
    rintro b hb rfl
    rw [ea] at hb
    cases hb
  have same : ∀ {b : Addr} {v : HO}, H b = some v → b ≠ a →
      upd (upd H dx (exd dx [(f, y)])) a (exo a C (some dx)) b = some v := by
    intro b v hb ba
    rw [upd_ne ba, upd_ne (ne_of_none hb free)]
    exact hb
  have un : Un X.fs [] H (upd (upd H dx (exd dx [(f, y)])) a (exo a C (some dx))) hp h' := by
    constructor
    case keep => exact fun b o hb hn _ _ => kp b o (nota hn) hb
    case slot => exact fun b o hb hn _ _ => ⟨o.slots, kp b o (nota hn) hb⟩
    case free =>
      intro b o hb hn _
      rw [upd_ne (nota hn), upd_ne (old hb)]
      exact hn
    case there =>
      intro b o hb _
      by_cases ba : b = a
      · exact ⟨_, ba ▸ hx⟩
      · exact ⟨o, kp b o ba hb⟩
    case tups => exact fun b xs hb => same hb (at_ne ea hb exo_tup)
    case frzs => exact fun b o v hb => same hb (at_ne ea hb exo_frz)
    case tbls =>
      intro b ps hb
      refine ⟨#[], ?_⟩
      rw [same hb (at_ne ea hb exo_tbl)]
      simp
  refine h dx _ free ne (I.un (t' := tk') un fun b o hb => ?_)
  by_cases ba : b = a
  · subst ba
    rw [upd_same] at hb
    cases hb
    exact exo_ok hx
  rw [upd_ne ba] at hb
  by_cases bd : b = dx
  · subst bd
    rw [upd_same] at hb
    cases hb
    exact exd_ok hn (relO_put (fs := []) ry fun _ => True.intro)
  rw [upd_ne bd] at hb
  refine (I.hok b o hb).stay ?_ (fun c hc => same hc (at_ne ea hc exo_own)) (fun c xs hc => same hc (at_ne ea hc exo_tup))
  rintro c v hc z
  refine kp c v ?_ z
  rcases hc with rfl | hc
  · exact ba
  · exact at_ne ea hc exo_own

/-- B.__init__(self, ..) -/
theorem ask_ok {us : List Value} {Q : Value → Shared → Prop} (T : Over X.K C B newId initId top) (I : Inv X pins σ H s)
    (ea : H a = some (exo a C none)) (hl : us.length ≤ sizeLine) (h : ∀ s', Inv X pins σ H s' → Q .none s') :
    wpAny (model X.prog X.w) A (call (.builtin initId) (.ref a :: us)) Q E s := by
  obtain ⟨nm, q, N, bs, bm, sn, sub, ab, col, dd, k0, k1, k2, k3, k5, hC, hbm⟩ := T.row
  obtain ⟨t1, ho⟩ := exo_at I.hok ea
  obtain ⟨hp, g, d, t, os⟩ := s
  refine wpAny_call (PySem.HandSPX.init_base T.base (fun Y => PySem.W.excTail_contains Y bm hbm) (I.kIn _ _ hC) ho hl ?_)
  intro h' t2 kp hx
  have J := I.write (t' := t) (x := a) (e := a) (o := exo a C none) (by rw [ea]; exact True.intro) (.inl rfl) kp ⟨_, hx⟩ (exo_ok hx)
  have same : upd H a (exo a C none) = H := by
    funext b
    by_cases hb : b = a
    · subst hb
      rw [upd_same, ea]
    · rw [upd_ne hb]
  rw [same] at J
  exact h _ J
end

/-- B.__init__(self, ..): nothing of it is told -/
def tAsk (K : PySem.W.Frag) (B newId initId : String) (top : List Value) (ta : TA) : TE := fun σ H Q =>
  ta σ H fun vs H1 => ∃ (a C : Addr) (ws : List V), vs = .ref a :: ws ∧ ws.length ≤ 1000 ∧ Over K C B newId initId top ∧
    H1 a = some (exo a C none) ∧ Q .non H1
/-- self.f = e, the first field -/
def tPut (K : PySem.W.Frag) (B newId initId : String) (top : List Value) (f : Str) (to te : TE) : TS := fun D σ H =>
  te σ H fun y H1 => to σ H1 fun x H2 => ∃ a C : Addr, x = .ref a ∧ Over K C B newId initId top ∧
    PySem.W.findIn K (.ref C) f = some none ∧ H2 a = some (exo a C none) ∧
    ∀ dx, H2 dx = none → dx ≠ a → D.nx σ (upd (upd H2 dx (exd dx [(f, y)])) a (exo a C (some dx)))
section
variable {X : Cx} {o e : Expr} {es : List Expr} {to te : TE} {ta : TA} {f : Str} {p p' p1 p2 pos : Pos}
  {B newId initId : String} {top : List Value}
theorem ps_put (ho : PE X o to) (he : PE X e te)
    (hs : swapsWith e (some (.Attribute o f p')) pos.line X.env = pure false := by rfl) :
    PS X (.Assign [.Attribute o f p'] e pos) (tPut X.K B newId initId top f to te) := by
  constructor
  intro pins s σ H D I h
  refine plainObj_wpAny_Assign_Attribute (thn (he.run pins s σ H _ I h) ?_) hs
  rintro v s1 ⟨y, H1, I1, r1, q1⟩
  refine thn (ho.run pins s1 σ H1 _ I1 q1) ?_
  rintro u s2 ⟨x, H2, I2, r2, a, C, rfl, T, no, ea, q⟩
  obtain rfl : u = Value.ref a := r2
  exact put_new T I2 ea no r1 fun dx s' n ne J => ⟨σ, _, J, q dx n ne⟩
theorem pe_ask {pl : Sem Bool} (hg : Gl X B) (hm : X.mg B = none) (hv : bootBuiltins B = some (.type B))
    (ty : typeOf (.type B) = pure (.type "type")) (st : Manifest.isStub B = false)
    (vV : PySem.W.findCls X.K (.type B) (.type "type") "__init__" = some (.val (.builtin initId)))
    (hi : PySem.W.handedIn (.builtin initId) = true)
    (ha : PA X (e :: es) ta) (hn : (B : Str) ≠ "__name__" := by decide) (hdb : ((B : Str) == ("__debug__" : Str)) = false := by decide)
    (hc : eval (.Call (.Attribute (.Name B p1) "__init__" p2) (e :: es) [] pos) X.env = (do
      let ov ← eval (.Name B p1) X.env
      standAt p2.atName
      let (f, first) ← holding [ov] (getMethod ov "__init__" pl)
      callWith pos f first (backTo pos (starEach (e :: es) X.env)) (backToKw pos (keywordEach [] X.env))) := by rfl)
    (he : starEach (e :: es) X.env = (false, eval e X.env) :: starEach es X.env := by rfl)
    (hpl : (backTo pos (starEach es X.env)).any (·.1) = false := by rfl) :
    PE X (.Call (.Attribute (.Name B p1) "__init__" p2) (e :: es) [] pos) (tAsk X.K B newId initId top ta) := by
  constructor
  intro pins s σ H Q I h
  refine PySem.W.methodCall_KW (ld_blt I hg hm hv ?_ hn hdb) hc
  obtain ⟨m, fr⟩ := I.fr
  refine PySem.W.method_type fr I.ok.mod.kin ty st vV hi ?_
  show wpAny _ _ (callWith pos (Value.builtin initId) [] (backTo pos (starEach (e :: es) X.env)) []) _ _ _
  refine PyProof.Rows.callWith_method1 (thn (ha.run pos pins _ σ H _ (I.tok _) h) ?_) he hpl
  rintro us s1 ⟨vs, H1, I1, r1, a, C, ws, rfl, hl, T, ea, q⟩
  cases r1 with
  | @cons _ u0 _ ur ra rw' =>
    obtain rfl : u0 = Value.ref a := ra
    refine ask_ok T I1 ea ?_ fun s' J => ⟨.non, H1, J, rfl, q⟩
    rw [← Paired.length rw', sizeLine_eq]
    omega
end

/-- what __init__ of such a class keeps: one field, called f -/
def spKeep (C : Addr) (f : Str) : Sp := fun vs H Q _ => ∃ (a : Addr) (y : V), vs = [.ref a, y] ∧ H a = some (exo a C none) ∧
  ∀ dx, H dx = none → dx ≠ a → Q .non (upd (upd H dx (exd dx [(f, y)])) a (exo a C (some dx)))
/-- C(e) is made: its class, its dict, which keeps e under f -/
def tMade (C : Addr) (f : Str) (ta : TA) : L2.St → Hp → XK → Prop := fun σ H Q => ta σ H fun vs H1 => ∃ y, vs = [y] ∧
  ∀ d, H1 d = none → Q (.ref C) (some d) (upd H1 d (.xd [(f, y)]))
section
variable {X : Cx} {e : Expr} {es : List Expr} {ta : TA} {p pos : Pos} {CX : CXT} {x f : Str} {C fI : Addr} {k : Nat} {fd : FuncData}
  {ps : List Str} {B newId initId : String} {top : List Value}
theorem room_make {A : Around} (r : MM.Rm (k + 1) A) (C : Addr) (us : List Value) (kw : List (Str × Value)) :
    MM.Rm k (A.under (.builtin "type.__call__" ⟨.ref C :: us, kw⟩)) := ⟨r.room.make C us kw, r.still⟩
theorem pmk_made (T : Over X.K C B newId initId top) (iC : PySem.W.findIn X.K (.ref C) "__init__" = some (some (.ref fI)))
    (tI : PySem.W.typeIn X.K (.ref fI) = some (.type "function"))
    (F : MM.FnG X.prog X.w X.K X.mg X.base CX k fI fd ps (spKeep C f)) (hr : MM.Rm (k + 1) X.A) (hb : Binds X.K fd ps [])
    (hx : Passes CX X (fun _ _ _ => False)) (hm : X.mg x = some (.ref C)) (ha : PA X (e :: es) ta) (hg : Gl X x := by rfl)
    (hdb : (x == ("__debug__" : Str)) = false := by decide)
    (he : starEach (e :: es) X.env = (false, eval e X.env) :: starEach es X.env := by rfl)
    (hpl : (backTo pos (starEach es X.env)).any (·.1) = false := by rfl) :
    PMk X (.Call (.Name x p) (e :: es) [] pos) (tMade C f ta) := by
  intro pins s σ H Q I h
  obtain ⟨nm, q, N, bs, bm, sn, sub, ab, col, dd, k0, k1, k2, k3, k5, hC, hbm⟩ := T.row
  refine wpAny_Call_Name_kw (ld_glob I hg hm ?_ hdb)
  refine PySem.W.callWith_K (h₀ := X.base) I.ok.mod.kin T.keep (thn (ha.run pos pins s σ H _ I h) ?_) he hpl
  rintro us s1 ⟨vs, H1, I1, r1, y, rfl, q1⟩
  refine ⟨I1.kIn, ?_⟩
  obtain ⟨u, rfl, ry⟩ := vals1 r1
  show wpAny _ _ (call (.ref C) [u]) _ _ _
  obtain ⟨hp, g, dr, tk, os⟩ := s1
  have size : hp.objs.size ≤ hp.objs.size + 1 := Nat.le_succ _
  have new : H1 (hp.objs.size + 1) = none := I1.hok.fresh size
  have kept : ∀ b o, hp.get? b = some o →
      ((hp.push (PySem.W.kdv_tup [u])).push (PySem.HandSPX.excO C hp.objs.size)).get? b = some o := by
    intro b o z
    exact Heap.get?_push_of_some _ (Heap.get?_push_of_some _ z)
  have lies : ((hp.push (PySem.W.kdv_tup [u])).push (PySem.HandSPX.excO C hp.objs.size)).get? (hp.objs.size + 1) =
      some (PySem.HandSPX.excO C hp.objs.size) := by heap_get
  have I2 := I1.laid (t' := tk) (a := hp.objs.size + 1) (o := exo (hp.objs.size + 1) C none) kept size (exo_ok lies)
  have r2 : Vals [V.ref (hp.objs.size + 1), y] [Value.ref (hp.objs.size + 1), u] := .cons rfl (.cons ry .nil)
  have sp : spKeep C f [V.ref (hp.objs.size + 1), y] (upd H1 (hp.objs.size + 1) (exo (hp.objs.size + 1) C none))
      (fun v H2 => v = .non ∧ ∃ d, H1 d = none ∧ d ≠ hp.objs.size + 1 ∧
        H2 = upd (upd (upd H1 (hp.objs.size + 1) (exo (hp.objs.size + 1) C none)) d (exd d [(f, y)])) (hp.objs.size + 1) (exo (hp.objs.size + 1) C (some d)))
      (fun _ _ _ => False) := by
    refine ⟨_, y, rfl, upd_same, fun dx n ne => ⟨rfl, dx, ?_, ne, rfl⟩⟩
    rw [upd_ne ne] at n
    exact n
  have len := F.arity sp
  have bd := hb ⟨_, g, dr, tk, os⟩ [Value.ref (hp.objs.size + 1), u] I2.kIn (by rw [List.append_nil]; exact len)
  rw [List.append_nil] at bd
  refine wpAny_call (PySem.HandSPX.call_own T.base (fun Y => PySem.W.excTail_contains Y bm hbm) (I1.kIn _ _ hC)
    (PySem.W.looks_findIn I1.kIn iC) (fun self => PySem.W.bind_fn I1.kIn self tI) (by show 1 ≤ sizeLine; rw [sizeLine_eq]; omega)
    (codeAny_mono (F.runs (out := X.stack) (room_make hr C [u] []) (I2.env0.make C [u] []) bd r2 sp) ?_))
  intro r s' hq
  cases r with
  | error er => exact hx pins σ _ _ er s' I2 hq
  | ok fl =>
    cases fl with
    | next => exact hq.elim
    | brk => exact hq.elim
    | cont => exact hq.elim
    | ret u' =>
      obtain ⟨v, H2, os2, bare2, un2, hok2, rv, rfl, d, nd, ne, rfl⟩ := hq
      obtain ⟨h2, g2, d2, t2, os'⟩ := s'
      have ed : (upd (upd (upd H1 (hp.objs.size + 1) (exo (hp.objs.size + 1) C none)) d (exd d [(f, y)])) (hp.objs.size + 1)
          (exo (hp.objs.size + 1) C (some d))) d = some (exd d [(f, y)]) := by
        rw [upd_ne ne, upd_same]
      refine ⟨rv, mk_end (raises_own T.isE T.meta_) I1 size kept un2 hok2 os2 bare2 upd_same ed nd ?_⟩
      have same : upd (del (upd (upd (upd H1 (hp.objs.size + 1) (exo (hp.objs.size + 1) C none)) d (exd d [(f, y)])) (hp.objs.size + 1)
          (exo (hp.objs.size + 1) C (some d))) (hp.objs.size + 1)) d (.xd [(f, y)]) = upd H1 d (.xd [(f, y)]) := by
        funext b
        by_cases b1 : b = d
        · subst b1
          rw [upd_same, upd_same]
        rw [upd_ne b1, upd_ne b1]
        by_cases b2 : b = hp.objs.size + 1
        · subst b2
          rw [del_same, new]
        rw [del_ne b2, upd_ne b2, upd_ne b1, upd_ne b2]
      rw [same]
      exact q1 d nd
end
end ME

set_option Elab.async false
set_option maxRecDepth 100000
set_option maxHeartbeats 2000000
set_option linter.all false
/-! try with several clauses, with and without a name -/
namespace ME
open PySem PySem.Spec PyProof.Rows L2
/-- where slot i is emptied behind the suite -/
def Ends.drop (D : Ends) (i : Nat) : Ends where
  nx := fun σ H => D.nx (σ.set i none) H
  rt := D.rt
  bk := fun σ H => D.bk (σ.set i none) H
  ct := fun σ H => D.ct (σ.set i none) H
/-- clauses, one after the other; W: what is wished of the exception that the body lets out -/
inductive Cl (X : Cx) (Wout : WX) : List ExceptHandler → (Ends → WX) → Prop where
  | nil : Cl X Wout [] (fun _ => Wout)
  | no {x : Str} {c : Value} {ts : Addr → Value → Option Addr → TS} {b₀ : Stmt} {suite : List Stmt} {np pos : Pos}
      {hds : List ExceptHandler} {W : Ends → WX} (hc : Names X x c)
      (su : ∀ (a : Addr) (oe : Obj) (cls : Value) (d : Option Addr) (pn : List (Addr × Obj)), Zc cls d oe →
        (∃ vs, oe.data = .fields vs) → PSs (X.suite a ((a, oe) :: pn)) (b₀ :: suite) (ts a cls d))
      (r : Cl X Wout hds W) :
      Cl X Wout (.ExceptHandler (some (.Name x np)) none (b₀ :: suite) pos :: hds) (fun D cls d σ H =>
        ∃ b, PySem.W.exmOne X.K cls c = some b ∧ (b = true → ∀ a, H a = none → ts a cls d D σ H) ∧ (b = false → W D cls d σ H))
  | as_ {x n : Str} {i : Nat} {c : Value} {ts : Addr → Value → Option Addr → TS} {b₀ : Stmt} {suite : List Stmt} {np pos : Pos}
      {hds : List ExceptHandler} {W : Ends → WX} (hc : Names X x c) (hN : X.N.Nodup) (hi : X.N[i]? = some n)
      (hl : X.env.kindOf n = some .local)
      (su : ∀ (a : Addr) (oe : Obj) (cls : Value) (d : Option Addr) (pn : List (Addr × Obj)), Zc cls d oe →
        (∃ vs, oe.data = .fields vs) → PSs (X.suite a ((a, oe) :: pn)) (b₀ :: suite) (ts a cls d))
      (r : Cl X Wout hds W) :
      Cl X Wout (.ExceptHandler (some (.Name x np)) (some n) (b₀ :: suite) pos :: hds) (fun D cls d σ H =>
        ∃ b, PySem.W.exmOne X.K cls c = some b ∧ (b = true → ∀ a, H a = none → σ.length = X.N.length → ts a cls d (Ends.drop D i) (σ.set i (some (.ref a))) H) ∧
          (b = false → W D cls d σ H))

/-- the exception at a has landed in X: h is the heap now, sI the state without it -/
structure Lands (X : Cx) (pins : List (Addr × Obj)) (σ : L2.St) (H : Hp) (cls : Value) (d : Option Addr) (a : Addr) (B : Heap)
    (sI s : Shared) (h : Heap) : Prop where
  inv : Inv X pins σ H sI
  ground : ∀ b o, sI.heap.get? b = some o → b ∉ frs X.stack → B.get? b = some o
  up : sI.heap.UpToSlots h
  fly : HandSPX.FlyingZ B (X.env :: X.outer) a (Zc cls d) h
  none_ : H a = none
  os : s.os = sI.os
  bare : AllBare s.gens
section
variable {X : Cx} {pins : List (Addr × Obj)} {σ : L2.St} {H : Hp} {cls : Value} {d : Option Addr} {a : Addr} {B : Heap}
  {sI s : Shared} {h : Heap} {D : Ends} {Wout : WX} {hds : List ExceptHandler} {W : Ends → WX}
theorem Lands.here (L : Lands X pins σ H cls d a B sI s h) : Inv X pins σ H { s with heap := h } :=
  L.inv.landed (s' := { s with heap := h }) L.ground L.fly.1 L.up L.os L.bare
theorem Lands.later (L : Lands X pins σ H cls d a B sI s h) {h' : Heap} (f : HandSPX.FlyingZ B (X.env :: X.outer) a (Zc cls d) h')
    (u : h.UpToSlots h') : Lands X pins σ H cls d a B sI s h' :=
  { L with up := L.up.trans u, fly := f }
/-- the exception as it lies, in the suite's context -/
theorem Lands.suite (L : Lands X pins σ H cls d a B sI s h) (hf : X.env.frame = some X.env.locals) :
    ∃ (oe : Obj) (vs : Array Value), h.get? a = some oe ∧ Zc cls d oe ∧ oe.data = .fields vs ∧
      Inv (X.suite a ((a, oe) :: (X.pn ++ pins))) [] σ H { s with heap := h } := by
  obtain ⟨oe, vs, he, hz, hd⟩ := L.fly.there
  have away : a ∉ frs (X.env :: X.outer) := by
    intro hm
    obtain ⟨_, o', e', no⟩ := L.fly.2.2.1.mem hm
    rw [he] at e'
    cases e'
    exact no _ hd
  have nL : a ≠ X.env.locals := fun z => away (List.mem_filterMap.mpr ⟨X.env, List.mem_cons_self, by rw [hf, z]⟩)
  have nF : a ∉ X.fs := by
    intro hm
    obtain ⟨e, he', q⟩ := List.mem_filterMap.mp hm
    exact away (List.mem_filterMap.mpr ⟨e, List.mem_cons_of_mem _ he', q⟩)
  exact ⟨oe, vs, he, hz, hd, L.here.suite he hd L.none_ nL nF⟩
/-- a suite's end -/
theorem Lands.out {oe : Obj} {f : Flow} {s6 : Shared} (ok : X.Ok)
    (q : SP (X.suite a ((a, oe) :: (X.pn ++ pins))) [] D f s6) : SP X pins D f s6 := by
  cases f with
  | ret u =>
    obtain ⟨v, σ6, H6, S, r, z⟩ := q
    exact ⟨v, σ6, H6, S.unsuite ok, r, z⟩
  | next =>
    obtain ⟨σ6, H6, S, z⟩ := q
    exact ⟨σ6, H6, S.unsuite ok, z⟩
  | brk =>
    obtain ⟨σ6, H6, S, z⟩ := q
    exact ⟨σ6, H6, S.unsuite ok, z⟩
  | cont =>
    obtain ⟨σ6, H6, S, z⟩ := q
    exact ⟨σ6, H6, S.unsuite ok, z⟩
theorem handled (hs : X.stack = X.env :: X.outer) (hf : X.env.frame = some X.env.locals) (tk : Takes X Wout)
    (C : Cl X Wout hds W) : ∀ {h : Heap}, Lands X pins σ H cls d a B sI s h → W D cls d σ H →
      wpAny (model X.prog X.w) X.A (handleBy (.ref a) X.env hds) (SP X pins D) X.xe { s with heap := h } := by
  induction C with
  | nil =>
    intro h L w
    have L0 := L
    refine wpAny_handleBy_nil ?_
    obtain ⟨k1, k2, k3, oe, vs, T, oT, ts', he, hz, hd, h1, hr⟩ := L.fly
    unfold PySem.passOn
    refine wpAny_bind (wpAny_field he hd h1 ?_)
    rw [if_neg (show ¬ ((Value.ref T == Value.none) = true) from by simp)]
    have on : wpAny (model X.prog X.w) X.A (setFlight (.ref a) X.env.frame)
        (fun _ s4 => wpAny (model X.prog X.w) X.A (throw (.ref a) : Sem Flow) (SP X pins D) X.xe s4) X.xe { s with heap := h } := by
      rw [hf]
      refine HandSPX.setFlight_upZ L0.fly fun h4 hh4 up4 => wpAny_throw (tk _ _ ?_)
      exact ⟨a, B, sI, pins, σ, H, cls, d, rfl, L0.inv, L0.ground, L0.up.trans up4, .inr (.inr (by rw [hs]; exact hh4)), L0.none_, L0.os,
        L0.bare, w⟩
    first
      | exact wpAny_bind (wpAny_pure (wpAny_bind on))
      | exact wpAny_bind on
  | @no x c ts b₀ suite np pos hds' W' hc su r ih =>
    intro h L w
    obtain ⟨b, e, yes, no⟩ := w
    obtain ⟨oe, vs, he, hz, hd, S⟩ := L.suite hf
    refine wpAny_handleBy_cons (codeAny_handlers_test ?_) (by intro q; cases q)
    have ty : PySem.W.Looks (model X.prog X.w) h (typeOf (.ref a)) cls := fun A Q E s k q =>
      wpAny_typeOf_ref (k _ _ he) (by rw [hz.1]; exact q)
    have ask := PySem.W.exm_one (M := model X.prog X.w) L.here.kIn ty e
    have name : ∀ {Q : Value → Shared → Prop} {E : Value → Shared → Prop}, Q c { s with heap := h } →
        wpAny (model X.prog X.w) (X.A.mark (some (.ref a))) (eval (.Name x np) X.env) Q E { s with heap := h } := by
      intro Q E q
      obtain ⟨hg, hdb, hm | ⟨hm, hv, hn⟩⟩ := hc
      · exact ld_glob (X := X.suite a ((a, oe) :: (X.pn ++ pins))) S hg hm q hdb
      · exact ld_blt (X := X.suite a ((a, oe) :: (X.pn ++ pins))) S hg hm hv q hn hdb
    refine name (ask.here ?_)
    cases b with
    | false => exact ih L (no rfl)
    | true =>
      refine codeAny_handlers_suite (HandSPX.lands_againZ L.fly fun h4 f4 u4 => ?_)
      obtain ⟨oe4, vs4, _, hz4, hd4, S4⟩ := (L.later f4 u4).suite hf
      refine wpAny_mono ((su a oe4 cls d (X.pn ++ pins) hz4 ⟨_, hd4⟩).run [] _ _ H _ S4 (yes rfl a L.none_))
        (fun f s6 q => Lands.out L.inv.ok q) (fun _ _ z => False.elim z)
  | @as_ x n i c ts b₀ suite np pos hds' W' hc hN hi hl su r ih =>
    intro h L w
    obtain ⟨b, e, yes, no⟩ := w
    obtain ⟨oe, vs, he, hz, hd, S⟩ := L.suite hf
    refine wpAny_handleBy_cons (codeAny_handlers_test ?_) (by intro q; cases q)
    have ty : PySem.W.Looks (model X.prog X.w) h (typeOf (.ref a)) cls := fun A Q E s k q =>
      wpAny_typeOf_ref (k _ _ he) (by rw [hz.1]; exact q)
    have ask := PySem.W.exm_one (M := model X.prog X.w) L.here.kIn ty e
    have name : ∀ {Q : Value → Shared → Prop} {E : Value → Shared → Prop}, Q c { s with heap := h } →
        wpAny (model X.prog X.w) (X.A.mark (some (.ref a))) (eval (.Name x np) X.env) Q E { s with heap := h } := by
      intro Q E q
      obtain ⟨hg, hdb, hm | ⟨hm, hv, hn⟩⟩ := hc
      · exact ld_glob (X := X.suite a ((a, oe) :: (X.pn ++ pins))) S hg hm q hdb
      · exact ld_blt (X := X.suite a ((a, oe) :: (X.pn ++ pins))) S hg hm hv q hn hdb
    refine name (ask.here ?_)
    cases b with
    | false => exact ih L (no rfl)
    | true =>
      refine codeAny_handlers_suite_as (HandSPX.lands_againZ L.fly fun h4 f4 u4 => ?_)
      obtain ⟨oe4, vs4, _, hz4, hd4, S4⟩ := (L.later f4 u4).suite hf
      refine store_ok (X := X.suite a ((a, oe4) :: (X.pn ++ pins))) (v := .ref a) S4 hN hi (.inl hl) rfl (fun s5 S5 => ?_) (.inr hl)
      refine wpAny_mono ((su a oe4 cls d (X.pn ++ pins) hz4 ⟨_, hd4⟩).run [] s5 _ H _ S5 (yes rfl a L.none_ L.inv.len))
        (fun f s6 q => ?_) (fun _ _ z => False.elim z)
      have q' := Lands.out L.inv.ok q
      cases f with
      | ret u =>
        obtain ⟨v, σ6, H6, J, r6, z⟩ := q'
        exact gone_ok J hN hi hl fun s7 J7 => ⟨v, _, H6, J7, r6, z⟩
      | next =>
        obtain ⟨σ6, H6, J, z⟩ := q'
        exact gone_ok J hN hi hl fun s7 J7 => ⟨_, H6, J7, z⟩
      | brk =>
        obtain ⟨σ6, H6, J, z⟩ := q'
        exact gone_ok J hN hi hl fun s7 J7 => ⟨_, H6, J7, z⟩
      | cont =>
        obtain ⟨σ6, H6, J, z⟩ := q'
        exact gone_ok J hN hi hl fun s7 J7 => ⟨_, H6, J7, z⟩
/-- try: body / the clauses -/
theorem ps_try_cl {body : List Stmt} {h₀ : ExceptHandler} {pos : Pos} {tb : WX → TS} (hs : X.stack = X.env :: X.outer)
    (hf : X.env.frame = some X.env.locals) (tk : Takes X Wout) (C : Cl X Wout (h₀ :: hds) W)
    (hb : ∀ (W : WX) (pn : List (Addr × Obj)) (xe : Value → Shared → Prop), Takes (X.tr pn xe) W →
      PassesOwn (model X.prog X.w) X.A X.env xe → PSs (X.tr pn xe) body (tb W)) :
    PS X (.Try body (h₀ :: hds) [] [] pos) (fun D σ H => tb (W D) D σ H) := by
  constructor
  intro pins s σ H D I h
  have ok := I.ok
  have fr : X.A.frames = some (X.env :: X.outer) := by rw [ok.frames, hs]
  refine wpAny_Try_except ?_
  refine wpAny_mono ((hb (W D) (X.pn ++ pins) (fun e s₁ => wpAny (model X.prog X.w) X.A (noteFrame e X.env)
    (fun _ s₂ => wpAny (model X.prog X.w) X.A (setFlight e none) (fun _ s₃ =>
      wpAny (model X.prog X.w) X.A (handleBy e X.env (h₀ :: hds)) (SP X pins D) X.xe s₃) X.xe s₂) X.xe s₁) ?_
    PassesOwn.looking).run [] s σ H D (I.toTry _) h) ?_ (fun e s1 he => he)
  · rintro u s' ⟨a, B, sI, pins', σ', H', cls, d, rfl, J', nb, up, sky, na, os, ag, w⟩
    have J : Inv X pins σ' H' sI := J'.ofTry ok
    have sky' : Sky B (X.env :: X.outer) a (Zc cls d) X.env.locals s'.heap := by
      rw [← hs]
      exact sky
    show wpAny (model X.prog X.w) X.A (noteFrame (.ref a) X.env) _ _ _
    refine Sky.land Zc.steady fr hf sky' fun h3 f3 u3 => ?_
    exact handled hs hf tk C ⟨J, nb, up.trans u3, f3, na, os, ag⟩ w
  · intro f s1 q
    cases f with
    | ret u =>
      obtain ⟨v, σ', H', J, r, z⟩ := q
      exact ⟨v, σ', H', J.ofTry ok, r, z⟩
    | next =>
      obtain ⟨σ', H', J, z⟩ := q
      exact wpAny_execs_nil ⟨σ', H', J.ofTry ok, z⟩
    | brk =>
      obtain ⟨σ', H', J, z⟩ := q
      exact ⟨σ', H', J.ofTry ok, z⟩
    | cont =>
      obtain ⟨σ', H', J, z⟩ := q
      exact ⟨σ', H', J.ofTry ok, z⟩
end
end ME

set_option Elab.async false
set_option maxRecDepth 100000
set_option maxHeartbeats 2000000
set_option linter.all false
/-! calls that may raise; a lambda handed to a def, where nothing is being shown; a def in a variable -/
namespace ME
open PySem PySem.Spec PyProof.Rows L2 LamX MM

section
variable {X : Cx} {CX : CXT} {k : Nat} {ps : List Str} {sp : Sp} {E : L2.St → XK} {x a : Str} {p pos : Pos} {e : Expr} {es : List Expr} {t : TA}
/-- f(e, ..), f a def of the text that may raise -/
def tDS (sp : Sp) (E : L2.St → XK) (t : TA) : TE := fun σ H Q => t σ H fun vs H1 => sp vs H1 Q (E σ)
theorem call_gS {f : Addr} {fd : FuncData} {pins : List (Addr × Obj)} {σ : L2.St} {H : Hp} {s : Shared} {Q : VK} {us : List Value} {vs : List V}
    (F : FnG X.prog X.w X.K X.mg X.base CX k f fd ps sp) (hr : Rm k X.A) (hb : Binds X.K fd ps []) (hx : PassesAt CX X σ (E σ))
    (I : Inv X pins σ H s) (r : Vals vs us) (h : sp vs H Q (E σ)) :
    wpAny (model X.prog X.w) X.A (call (.ref f) us) (EP X pins σ Q) X.xe s := by
  have nl : (us ++ []).length = ps.length := by
    rw [List.append_nil, ← r.length]
    exact F.arity h
  have bd := hb s us I.kIn nl
  rw [List.append_nil] at bd
  refine wpAny_call (codeAny_mono (F.runs hr I.env0 bd r h) ?_)
  intro res s' hq
  cases res with
  | error e => exact hx pins H s e s' I hq
  | ok fl =>
    cases fl with
    | ret u => exact I.after hq
    | next => exact hq.elim
    | brk => exact hq.elim
    | cont => exact hq.elim
theorem pe_dS (D : Def X.prog X.w X.K X.mg X.base CX k x ps sp) (hr : Rm k X.A) (hx : ∀ σ, PassesAt CX X σ (E σ)) (ha : PA X (e :: es) t)
    (hg : Gl X x := by rfl) (hdb : (x == ("__debug__" : Str)) = false := by decide)
    (he : starEach (e :: es) X.env = (false, eval e X.env) :: starEach es X.env := by rfl)
    (hpl : (backTo pos (starEach es X.env)).any (·.1) = false := by rfl) : PE X (.Call (.Name x p) (e :: es) [] pos) (tDS sp E t) := by
  obtain ⟨f, fd, F, hm, hk, hb, _⟩ := D
  constructor
  intro pins s σ H Q I h
  refine wpAny_Call_Name_kw (ld_glob I hg hm ?_ hdb)
  refine PySem.W.callWith_K (h₀ := X.base) I.ok.mod.kin hk ?_ he hpl
  exact thn (ha.run pos pins s σ H _ I h) fun us s1 ⟨vs, H1, I1, r, q⟩ => ⟨I1.kIn, call_gS F hr hb (hx σ) I1 r q⟩
/-- a(e, ..), a a variable that holds a def of the text: G tells which, and what it promises -/
def tVia (K : PySem.W.Frag) (i : Nat) (G : Addr → Sp → Prop) (E : L2.St → XK) (t : TA) : TE := fun σ H Q =>
  ∃ f sp, σ[i]? = some (some (.ref f)) ∧ G f sp ∧ t σ H fun vs H1 => sp vs H1 Q (E σ)
theorem pe_via {i : Nat} {G : Addr → Sp → Prop}
    (hG : ∀ f sp, G f sp → PySem.W.keepIn X.K (.ref f) = true ∧ ∃ fd k ps, FnG X.prog X.w X.K X.mg X.base CX k f fd ps sp ∧ Rm k X.A ∧ Binds X.K fd ps [])
    (hx : ∀ σ, PassesAt CX X σ (E σ)) (ha : PA X (e :: es) t) (hN : X.N[i]? = some a) (hv : Vis X.env.scope a)
    (hdb : (a == ("__debug__" : Str)) = false := by decide) (hcd : (a == ("__classdict__" : Str)) = false := by decide)
    (he : starEach (e :: es) X.env = (false, eval e X.env) :: starEach es X.env := by rfl)
    (hpl : (backTo pos (starEach es X.env)).any (·.1) = false := by rfl) :
    PE X (.Call (.Name a p) (e :: es) [] pos) (tVia X.K i G E t) := by
  constructor
  intro pins s σ H Q I h
  obtain ⟨f, sp, hs, g, h⟩ := h
  obtain ⟨hk, fd, k, ps, F, hr, hb⟩ := hG f sp g
  refine wpAny_Call_Name_kw (thn ((pe_var (pos := p) (i := i) hN hv hdb hcd).run pins s σ H (fun v H1 => v = .ref f ∧ H1 = H) I ⟨.ref f, hs, rfl, rfl⟩) ?_)
  rintro u s1 ⟨v, H1, I1, r1, rfl, rfl⟩
  obtain rfl : u = Value.ref f := r1
  refine PySem.W.callWith_K (h₀ := X.base) I1.ok.mod.kin hk ?_ he hpl
  exact thn (ha.run pos pins s1 σ H1 _ I1 h) fun us s2 ⟨vs, H2, I2, r, q⟩ => ⟨I2.kIn, call_gS F hr hb (hx σ) I2 r q⟩
end

section
variable {X : Cx} {pins : List (Addr × Obj)} {σ : L2.St} {H : Hp} {s : Shared}
/-- the def that got the lambda calls it -/
theorem act {Eg : XK} {CXg : CXT} {Ng : List Str} {qg : Str} {sg : Scope} {g f c' : Addr} {cdg pm ctv : Value} {params : Arguments}
    {body : Expr} {scope : Scope} {k i : Nat} {a : Str} {pn : List (Addr × Obj)} {xe : Value → Shared → Prop} {W : WX} {E : XK} {tb : TE}
    {p1 p2 : Pos} (I : Inv X pins σ H s) (L : LamS X.env.scope scope)
    (hf : s.heap.get? f = some (PySem.W.kla_obj "<lambda>" (X.env.qual ++ "<lambda>") params body scope (cloFrom X.env.cells scope.names []) pm c' ctv))
    (hfn : H f = none) (hfr : f ∉ frs X.stack)
    (hbind : bindArgs (PySem.W.kla_fn "<lambda>" (X.env.qual ++ "<lambda>") params body scope (cloFrom X.env.cells scope.names []) pm (.ref c') ctv) ⟨[], []⟩ = pure [])
    (tk : Takes ((cxOf CXg X.prog X.w X.K X.mg X.base Ng qg sg g cdg X.A X.stack s H Eg).tr pn xe) W)
    (hW : ∀ cls d σ' H', E cls d H' → W cls d σ' H') (hr : Rm (k + 1) (X.A.deeper (envOfC qg sg s.heap.objs.size g cdg)))
    (hbody : ∀ (A : Around) (outer : List Env) (s : Shared) (H : Hp), Rm k (A.deeper (lamEnv X scope s.heap.objs.size f c')) →
      PE (lamCx X A outer s H E scope f c') body tb)
    (hN : Ng[i]? = some a) (hv : Vis sg a) (hd : (a == ("__debug__" : Str)) = false := by decide)
    (hcd : (a == ("__classdict__" : Str)) = false := by decide) :
    PE ((cxOf CXg X.prog X.w X.K X.mg X.base Ng qg sg g cdg X.A X.stack s H Eg).tr pn xe) (.Call (.Name a p1) [] [] p2)
      (fun σZ HZ Q => σZ[i]? = some (some (.ref f)) ∧ HZ c' = some (CodeO c' (X.env.qual ++ "<lambda>")) ∧ tb σ HZ Q) := by
  constructor
  intro pinsZ sZ σZ HZ Q IZ h
  obtain ⟨hs, hc, ht⟩ := h
  refine wpAny_Call_Name_kw (thn ((pe_var (pos := p1) (i := i) hN hv hd hcd).run pinsZ sZ σZ HZ (fun v H1 => v = .ref f ∧ H1 = HZ) IZ ⟨.ref f, hs, rfl, rfl⟩) ?_)
  rintro u s1 ⟨v, H1, I1, r1, rfl, eH⟩
  rw [eH] at I1
  obtain rfl : u = Value.ref f := r1
  have there := I1.base.keep f _ hf hfn hfr (fun z => nomatch (show f ∈ ([] : List Addr) from z))
  refine PySem.W.callWith_F0 ⟨_, _, _, _, there⟩ ?_
  obtain ⟨⟨oc, vs, t, hoc, hdc, hvc⟩, _, _⟩ := I1.hok c' _ hc
  have run : codeAny (model X.prog X.w) (X.A.deeper (envOfC qg sg s.heap.objs.size g cdg)) (.call (.ref f) ⟨[], []⟩)
      (CR (L2.CX X.prog X.w) (envOfC qg sg s.heap.objs.size g cdg :: X.stack) X.prog X.w HZ s1 Q E) s1 := by
    refine PySem.W.kla_callFunE hr.room.depth there rfl L.co L.gen rfl ⟨c', oc, vs, t, rfl, hoc, hdc, hvc⟩ ?_
    rw [hbind]
    refine wpAny_pure (wpAny_newFunctionEnv (fun y hy => (L.own y hy).2) (fun y hy => absurd hy (by simp)) (fun h₁ hns hsb => ⟨I1.nolimit.fresh _ hsb, ?_⟩) L.kind)
    show codeAny _ _ (.expr body (lamEnv X scope s1.heap.objs.size f c')) _ _
    have kp : ∀ b o, s1.heap.get? b = some o → h₁.get? b = some o := by
      intro b o z
      exact hsb.extBut b o (Nat.ne_of_lt (Heap.lt_size z)) (Heap.get?_push_of_some _ z)
    have J := lam_start2 (E := E) (f := f) (c' := c') (tk := s1.toks + ([] : List (Str × Value)).length) I L I1.env0 hr.room.hd I1.base hns kp
    refine PySem.W.kla_codeExpr (wpAny_mono ((hbody _ _ s1 HZ hr.down).run [] _ _ HZ Q J ht) ?_ fun e s' hq => hq)
    rintro v s' ⟨w', H', J', rv, q⟩
    exact ⟨w', H', J'.os, J'.bare, J'.base, J'.hok, rv, q⟩
  refine wpAny_call (codeAny_mono run fun r s' hq => ?_)
  cases r with
  | error e => exact passes_call tk hW pinsZ σZ HZ s1 e s' I1 hq
  | ok fl =>
    cases fl with
    | ret u => exact I1.after hq
    | next => exact hq.elim
    | brk => exact hq.elim
    | cont => exact hq.elim
/-- x(lambda: body), x a def of the text -/
theorem pe_lam {T : List (Addr × Str)} {TT : (XK → Hp → VK → Prop) → Hp → VK → Prop} {x a : Str} {c P : Addr} {k : Nat} {st : Stmt}
    {Ng : List Str} {params : Arguments} {body : Expr} {scope : Scope} {t : XK → TE} {p lpos pos : Pos} (D : At X.K X.mg x st)
    (hb : ∀ (kV doc pm : Value) (an : Option Addr) (cd ct : Value) (us : List Value), us.length = [a].length →
      bindArgs (PySem.W.fnOf x x (defArgs st) (defBody st) (defScope st) .none kV doc pm an cd ct) ⟨us, []⟩ = pure ([a].zip us))
    (Sg : FnScope Ng [a] (defScope st)) (hNg : Ng[0]? = some a) (hva : Vis (defScope st) a)
    (hG : ∀ g cd, GivesTo X Ng x (defScope st) g cd (defBody st) a (X.env.qual ++ "<lambda>") TT)
    (TB : TabB X.base X.mg c P) (hcode : X.env.code = .ref c) (hmT : (P, X.env.qual ++ "<lambda>") ∈ T)
    (hu : ∀ p ∈ T, p.1 = P → p.2 = X.env.qual ++ "<lambda>") (hr : Rm (k + 2) X.A) (L : LamS X.env.scope scope)
    (hdef : defaultsOf params X.env = ([], []))
    (hbind : ∀ (q : Str) (cl : List (Str × Addr)) (pm cv ctv : Value), bindArgs (PySem.W.kla_fn "<lambda>" q params body scope cl pm cv ctv) ⟨[], []⟩ = pure [])
    (hbody : ∀ (A : Around) (outer : List Env) (s : Shared) (H : Hp) (E : XK) (f c' : Addr), Rm k (A.deeper (lamEnv X scope s.heap.objs.size f c')) →
      PE (lamCx X A outer s H E scope f c') body (t E))
    (hg : Gl X x := by rfl) (hdb : (x == ("__debug__" : Str)) = false := by decide) (hd : (a == ("__debug__" : Str)) = false := by decide)
    (hcd : (a == ("__classdict__" : Str)) = false := by decide) :
    PE X (.Call (.Name x p) [.Lambda params body scope lpos] [] pos) (tLam T TT t) := by
  obtain ⟨fd, F⟩ := D.fn
  have bnd := F.bindsN hb
  obtain ⟨oc, od, dV, kV, doc, pm, an, cdv, ct, osl, rfl, lk, hcg, _⟩ := F.ex
  constructor
  intro pins s σ H Q I h
  obtain ⟨hT, h⟩ := h
  refine wpAny_Call_Name_kw (ld_glob I hg D.glo ?_ hdb)
  refine PySem.W.callWith_K (h₀ := X.base) I.ok.mod.kin F.kp ?_ (by rfl) (by rfl)
  show wpAny _ _ (spliced ((false, eval (.Lambda params body scope lpos) X.env) :: backTo pos (starEach [] X.env))) _ _ s
  refine Calls.spliced_cons (lam_make2 I TB hcode hmT hu hT hdef (L.has I.ok) ?_)
  intro f c' pm' ctv H1 s' I1 eN T1 hf hfn hfr hco
  refine Calls.spliced_nil ⟨I1.kIn, ?_⟩
  have run : codeAny (model X.prog X.w) X.A (.call (.ref (He.ga X.K x)) ⟨[.ref f], []⟩) (CR C8.CX0 X.stack X.prog X.w H1 s' Q C8.E0) s' := by
    refine run_ofS (N := Ng) (ps := [a]) (us := [.ref f]) (vs := [.ref f]) lk hcg Sg (hr.le (Nat.le_refl _)).room I1.env0 (bnd s' [.ref f] I1.kIn rfl) (.cons rfl .nil) rfl fun _ => ?_
    obtain ⟨t', ht', hq'⟩ := hG _ _ f c' s' H1 Q (fun E H' Q' => t E σ H' Q')
      (fun W pn xe E p1 p2 tk hW => act (i := 0) I1 L hf hfn hfr (hbind _ _ _ _ _) tk hW hr.down (fun A outer s H hr2 => hbody A outer s H E f c' hr2) hNg hva hd hcd)
      hco (h H1 eN T1)
    exact ⟨t', ht'.nox, hq'⟩
  refine wpAny_call (codeAny_mono run fun r s2 hq => ?_)
  cases r with
  | error e => exact (show False from hq).elim
  | ok fl =>
    cases fl with
    | ret u => exact I1.after hq
    | next => exact hq.elim
    | brk => exact hq.elim
    | cont => exact hq.elim
end
end ME

set_option Elab.async false
set_option maxRecDepth 100000
set_option maxHeartbeats 2000000
set_option linter.all false
/-! the law's end where its text makes lambdas: the tables of their code objects are written -/
namespace ME
open PySem PySem.Spec PyProof.Rows L2 LamX MM

/-- the heap as it is told: the script, and empty tables -/
structure Told (cs : List (Addr × Addr)) (a : Addr) (ns : List Int) (K : PySem.W.Frag) (H : Hp) : Prop where
  tabs : ∀ p ∈ cs, H p.2 = some (.tbl #[])
  seq : SqL K H a (ns.map V.int)
  each : ∀ b, H b = none ∨ b ∈ cs.map (·.2) ∨ (b = a ∧ ∃ o xs, H b = some (.frz o (.lst xs)))
  out : H a ≠ none → K.lookup a = none
section
variable {P : Program} {w : World} {K : PySem.W.Frag} {mg mb : Str → Option Value} {CX : CXT} {k : Nat} {fa a : Addr}
  {fd : FuncData} {x : Str} {sp : Sp} {s : Shared} {vs : List Value} {ns : List Int} {cs : List (Addr × Addr)}
theorem tab_core {H : Hp} (KX : K.In s.heap) (hns : s.heap.Ns mainGlobals mg) (hb : s.heap.Ns builtinsNs mb)
    (hbb : ∀ y : Str, y ≠ "__name__" → mb y = bootBuiltins y) (nl : s.heap.NoLimit) (hg : s.gens = #[])
    (hT : ∀ p ∈ cs, s.heap.get? p.2 = some { cls := .none, data := .fields #[] }) (nT : ∀ p ∈ cs, K.lookup p.2 = none)
    (C : ∀ p ∈ cs, PySem.W.CodeHd s.heap p.1 p.2)
    (hbm : ∃ (bm : Addr) (ob : Obj), mg "__builtins__" = some (.ref bm) ∧ bm ≠ builtinsNs ∧ s.heap.get? bm = some ob ∧
      ob.cls = .type "module" ∧ ob.dict = some builtinsNs ∧ ob.data = .plain)
    (ha : s.heap.get? a = some { cls := .type "list", data := .seq vs.toArray }) (hr : Rm k callerA)
    (F : ∀ base : Heap, K.In base → base.Ns mainGlobals mg → (∀ p ∈ cs, TabB base mg p.1 p.2) → FnG P w K mg base CX k fa fd [x] sp)
    (hbind : ∀ (s : Shared) (u : Value), BindsTo s fd ⟨[u], []⟩ [(x, u)])
    (hsp : sp [.ref a] H (fun v _ => v = .bl true) fun _ _ _ => False)
    (hCX : ∀ e s', CX [] H s (fun _ _ _ => False) e s' → False) (T : Told cs a ns K H) (ok : HOk P w H s.heap) :
    codeAny (model P w) callerA (.call (.ref fa) ⟨[.ref a], []⟩) (LawEnd s) s := by
  have isTab : ∀ b, b ∈ cs.map (·.2) → ∃ p ∈ cs, b = p.2 := by
    intro b hb
    obtain ⟨p, hp, rfl⟩ := List.mem_map.mp hb
    exact ⟨p, hp, rfl⟩
  -- what is neither a list nor an empty record is not told
  have free : ∀ {b : Addr} {o : Obj}, s.heap.get? b = some o → (∀ y n, o.data ≠ .seq y n) → o.data ≠ .fields #[] → H b = none := by
    intro b o e n1 n2
    rcases T.each b with z | z | ⟨rfl, _⟩
    · exact z
    · obtain ⟨p, hp, rfl⟩ := isTab b z
      rw [hT p hp] at e
      cases e
      exact absurd rfl n2
    · rw [ha] at e
      cases e
      exact absurd rfl (n1 _ _)
  have dict : ∀ {b : Addr} {o : Obj} {es : Array DictEntry} {ep : Nat}, s.heap.get? b = some o → o.data = .dict es ep → H b = none := by
    intro b o es ep e d
    refine free e ?_ ?_
    · intro y n z
      rw [d] at z
      cases z
    · intro z
      rw [d] at z
      cases z
  have sees : ∀ {b : Addr} {m : Str → Option Value}, s.heap.Ns b m → (hidT s.heap H).Ns b m := by
    rintro b m ⟨o, es, ep, e, d, r⟩
    exact ⟨o, es, ep, hidT_get e (dict e d), d, r⟩
  have inB : K.In (hidT s.heap H) := by
    intro b o e
    refine hidT_get (KX b o e) ?_
    rcases T.each b with z | z | ⟨rfl, o', xs, z⟩
    · exact z
    · obtain ⟨p, hp, rfl⟩ := isTab b z
      rw [nT p hp] at e
      cases e
    · rw [T.out (by rw [z]; exact Option.some_ne_none _)] at e
      cases e
  have md : Mod K mg (hidT s.heap H) := by
    obtain ⟨mc, l1, l2⟩ := nl
    exact ⟨inB, sees hns, ⟨mb, sees hb, hbb⟩, ⟨mc, sees l1, l2⟩⟩
  have glob : ∀ {b : Addr} {o : Obj}, s.heap.get? b = some o → (∀ es ep, o.data ≠ .dict es ep) → b ≠ mainGlobals := by
    rintro b o e no rfl
    obtain ⟨o', es, ep, e', d, _⟩ := hns
    rw [e] at e'
    cases e'
    exact no _ _ d
  have TB : ∀ p ∈ cs, TabB (hidT s.heap H) mg p.1 p.2 := by
    intro p hp
    constructor
    · obtain ⟨o, us, file, tf, flags, tg, inF, text, tt, e1, r1, r2, r3, rest⟩ := C p hp
      refine ⟨o, us, file, tf, flags, tg, inF, text, tt, hidT_get e1 (free e1 ?_ ?_), r1, r2, r3, rest⟩
      · intro y n z
        rw [r2] at z
        cases z
      · intro z
        rw [r2] at z
        cases z
        simp at r3
    · obtain ⟨bm, ob, b1, b2, b3, b4, b5, b6⟩ := hbm
      have n1 : bm ≠ mainGlobals := by
        refine glob b3 ?_
        intro es ep z
        rw [b6] at z
        cases z
      have n2 : bm ≠ p.2 := by
        rintro rfl
        rw [hT p hp] at b3
        cases b3
        cases b6
      refine ⟨bm, ob, b1, b2, n1, n2, hidT_get b3 (free b3 ?_ ?_), b4, b5, b6⟩
      · intro y n z
        rw [b6] at z
        cases z
      · intro z
        rw [b6] at z
        cases z
    · have := glob (hT p hp) (by intro es ep z; cases z)
      exact fun z => this z.symm
  have e0 : Env0 P w K mg (hidT s.heap H) callerA [] s H := by
    refine ⟨rfl, md, fun b o e => of_hidT e, Nat.le_of_eq (hidT_size _ _), trivial, ?_, ok, .of_eq hg⟩
    intro b z
    cases z
  have vv : Vals [V.ref a] [Value.ref a] := .cons rfl .nil
  refine codeAny_mono ((F _ inB (sees hns) TB).runs (us := [.ref a]) hr e0 (hbind s (.ref a)) vv hsp) ?_
  intro r t h
  cases r with
  | error e => exact (hCX e t h).elim
  | ok fl =>
    cases fl with
    | next => exact h.elim
    | brk => exact h.elim
    | cont => exact h.elim
    | ret u =>
      obtain ⟨v, H', os, bare, un, ok', rv, q⟩ := h
      have q2 : v = .bl true := q
      subst q2
      have eu : u = Value.bool true := rv
      subst eu
      have grown : ∀ p ∈ cs, ∃ more : Array Value, t.heap.get? p.2 = some { cls := .none, data := .fields more } := by
        intro p hp
        obtain ⟨more, z⟩ := un.tbls p.2 #[] (T.tabs p hp)
        exact ⟨_, ok' p.2 _ z⟩
      have kept : ∀ b o, b ∉ cs.map (·.2) → s.heap.get? b = some o → t.heap.get? b = some o := by
        intro b o nb e
        rcases T.each b with z | z | ⟨rfl, o', xs, z⟩
        · exact un.keep b o e z (by intro z; cases z) (by intro z; cases z)
        · exact absurd z nb
        · have e1 := (ok b _ z).1
          have e2 := (ok' b _ (un.frzs b o' _ z)).1
          rw [e] at e1
          cases e1
          exact e2
      refine ⟨rfl, ⟨?_, ?_⟩, os, bare⟩
      · intro b o e
        by_cases hb : b ∈ cs.map (·.2)
        · obtain ⟨p, hp, rfl⟩ := isTab b hb
          obtain ⟨more, hm⟩ := grown p hp
          rw [hT p hp] at e
          cases e
          exact .inr (.inl ⟨((C p hp).tab (hT p hp)).isCodeTable, rfl, #[], more, rfl, by rw [Array.empty_append]; exact hm⟩)
        · exact .inl (kept b o hb e)
      · intro b o e
        by_cases hb : b ∈ cs.map (·.2)
        · obtain ⟨p, hp, rfl⟩ := isTab b hb
          obtain ⟨more, hm⟩ := grown p hp
          exact ⟨_, hm⟩
        · exact ⟨o, kept b o hb e⟩
theorem law_tab (KX : K.In s.heap) (hns : s.heap.Ns mainGlobals mg) (hb : s.heap.Ns builtinsNs mb)
    (hbb : ∀ y : Str, y ≠ "__name__" → mb y = bootBuiltins y) (nl : s.heap.NoLimit) (hg : s.gens = #[])
    (hT : ∀ p ∈ cs, s.heap.get? p.2 = some { cls := .none, data := .fields #[] }) (nT : ∀ p ∈ cs, K.lookup p.2 = none)
    (C : ∀ p ∈ cs, PySem.W.CodeHd s.heap p.1 p.2)
    (hbm : ∃ (bm : Addr) (ob : Obj), mg "__builtins__" = some (.ref bm) ∧ bm ≠ builtinsNs ∧ s.heap.get? bm = some ob ∧
      ob.cls = .type "module" ∧ ob.dict = some builtinsNs ∧ ob.data = .plain)
    (ha : s.heap.get? a = some { cls := .type "list", data := .seq vs.toArray }) (hi : IntsAre vs ns) (hl : ns.length ≤ sizeLine)
    (hr : Rm k callerA)
    (F : ∀ base : Heap, K.In base → base.Ns mainGlobals mg → (∀ p ∈ cs, TabB base mg p.1 p.2) → FnG P w K mg base CX k fa fd [x] sp)
    (hbind : ∀ (s : Shared) (u : Value), BindsTo s fd ⟨[u], []⟩ [(x, u)])
    (hsp : ∀ H : Hp, (∀ p ∈ cs, H p.2 = some (.tbl #[])) → SqL K H a (ns.map V.int) → sp [.ref a] H (fun v _ => v = .bl true) fun _ _ _ => False)
    (hCX : ∀ H e s', CX [] H s (fun _ _ _ => False) e s' → False) :
    codeAny (model P w) callerA (.call (.ref fa) ⟨[.ref a], []⟩) (LawEnd s) s := by
  have rv := vals_ints hi
  have nv := hi.length
  have apart : a ∉ cs.map (·.2) := by
    intro z
    obtain ⟨p, hp, e⟩ := List.mem_map.mp z
    have h1 := hT p hp
    rw [e, ha] at h1
    cases h1
  have mem : ∀ p ∈ cs, p.2 ∈ cs.map (·.2) := fun p hp => List.mem_map.mpr ⟨p, hp, rfl⟩
  have tabOk : ∀ b, b ∈ cs.map (·.2) → s.heap.get? b = some { cls := .none, data := .fields #[] } := by
    intro b hb
    obtain ⟨p, hp, rfl⟩ := List.mem_map.mp hb
    exact hT p hp
  have go : ∀ H, Told cs a ns K H → HOk P w H s.heap → codeAny (model P w) callerA (.call (.ref fa) ⟨[.ref a], []⟩) (LawEnd s) s :=
    fun H T ok => tab_core KX hns hb hbb nl hg hT nT C hbm ha hr F hbind (hsp H T.tabs T.seq) (hCX H) T ok
  cases fr : K.lookup a with
  | some o =>
    have e := KX a o fr
    rw [ha] at e
    cases e
    refine go (fun b => if b ∈ cs.map (·.2) then some (.tbl #[]) else none) ⟨fun p hp => if_pos (mem p hp), ?_, ?_, ?_⟩ ?_
    · refine .inr ⟨_, vs.toArray, _, fr, rfl, rfl, rfl, ?_, by simpa using rv⟩
      rw [List.size_toArray, nv]
      exact hl
    · intro b
      by_cases hb : b ∈ cs.map (·.2)
      · exact .inr (.inl hb)
      · exact .inl (if_neg hb)
    · intro z
      exact absurd (if_neg apart) z
    · intro b u z
      by_cases hb : b ∈ cs.map (·.2)
      · have z1 := (if_pos hb).symm.trans z
        cases z1
        exact tabOk b hb
      · have z1 := (if_neg hb).symm.trans z
        cases z1
  | none =>
    refine go (fun b => if b = a then some (.frz { cls := .type "list", data := .seq vs.toArray } (.lst (ns.map V.int)))
      else if b ∈ cs.map (·.2) then some (.tbl #[]) else none) ⟨?_, ?_, ?_, ?_⟩ ?_
    · intro p hp
      have ne : ¬ p.2 = a := fun z => apart (z ▸ mem p hp)
      exact (if_neg ne).trans (if_pos (mem p hp))
    · exact .inl (.inr ⟨_, if_pos rfl⟩)
    · intro b
      by_cases e : b = a
      · exact .inr (.inr ⟨e, _, _, if_pos e⟩)
      · by_cases hb : b ∈ cs.map (·.2)
        · exact .inr (.inl hb)
        · exact .inl ((if_neg e).trans (if_neg hb))
    · exact fun _ => fr
    · intro b u z
      by_cases e : b = a
      · have z1 := (if_pos e).symm.trans z
        cases z1
        subst e
        refine ⟨ha, ?_, vs, _, rv, ha⟩
        rw [List.length_map]
        exact hl
      · have z1 := (if_neg e).symm.trans z
        by_cases hb : b ∈ cs.map (·.2)
        · have z2 := (if_pos hb).symm.trans z1
          cases z2
          exact tabOk b hb
        · have z2 := (if_neg hb).symm.trans z1
          cases z2
end
/-- the head's end, with tables -/
theorem walk_tab {l : PySem.W.OpenLaw} {n k : Nat} {q : Program} {loose : List Str} {XP : (Str → Option Value) → Heap → Prop}
    {YP : World → Heap → Prop} {d : DefRec} {CX : World → CXT} {x : Str}
    (hn : l.most = some n) (hn2 : n ≤ sizeLine) (hdf : d.params.defaults = []) (hr : Rm k callerA)
    (F : ∀ (w : World) (mg : Str → Option Value) (fa : Addr) (h : Heap), YP w h → h.Ns mainGlobals mg → mg d.name = some (.ref fa) →
      ∃ (K : PySem.W.Frag) (fd : FuncData) (sp : Sp) (cs : List (Addr × Addr)), K.In h ∧
        (∀ p ∈ cs, h.get? p.2 = some { cls := .none, data := .fields #[] }) ∧ (∀ p ∈ cs, K.lookup p.2 = none) ∧
        (∀ p ∈ cs, PySem.W.CodeHd h p.1 p.2) ∧ (∀ (s : Shared) (u : Value), BindsTo s fd ⟨[u], []⟩ [(x, u)]) ∧
        (∀ (H : Hp) (a : Addr) (ns : List Int), ns.length ≤ n → (∀ p ∈ cs, H p.2 = some (.tbl #[])) → SqL K H a (ns.map V.int) →
          sp [.ref a] H (fun v _ => v = .bl true) fun _ _ _ => False) ∧
        ∀ base : Heap, K.In base → base.Ns mainGlobals mg → (∀ p ∈ cs, TabB base mg p.1 p.2) → FnG l.prog w K mg base (CX w) k fa fd [x] sp)
    (hCX : ∀ (w : World) (H : Hp) (s : Shared) (e : Value) (s' : Shared), CX w [] H s (fun _ _ _ => False) e s' → False) :
    PySem.W.WalkO q loose XP YP l.row.toRowW d [] (fun f vs => PySem.call f vs) := by
  refine Att.attach_callB hn hdf ?_
  intro w s0 s1 mg mb fa o pm cd doc a vs ns G Y ho hd hcd hmg hobj hints hlen hbits hg
  obtain ⟨K, fd, sp, cs, KX, hT, nT, C, hb, hsp, hF⟩ := F w mg fa _ Y G.T.g hmg
  exact law_tab KX G.T.g G.T.b G.T.builtins G.T.nolimit hg hT nT C G.T.bmain hobj hints (Nat.le_trans hlen hn2) hr hF hb
    (fun H t hS => hsp H a ns hlen t hS) (fun H e s' => hCX w H s1 e s')
end ME

set_option Elab.async false
set_option linter.all false
set_option maxRecDepth 100000
set_option maxHeartbeats 2000000
namespace K06
open PySem PySem.Spec PyProof.Rows L2 MM
/-! the classes of errors -/
abbrev ga (K : PySem.W.Frag) (x : Str) : Addr := He.ga K x
abbrev veTop : List Value := [.type "ValueError", .type "Exception", .type "BaseException", .type "object"]
abbrev ieTop : List Value := [.type "IndexError", .type "LookupError", .type "Exception", .type "BaseException", .type "object"]
/-- an own class under ValueError, without __init__ -/
structure Plain (K : PySem.W.Frag) (mg : Str → Option Value) (x : Str) : Prop where
  glo : mg x = some (.ref (ga K x))
  keep : PySem.W.keepIn K (.ref (ga K x)) = true
  row : PySem.W.excIn K (ga K x) veTop "ValueError.__new__" = true
  isE : PySem.W.subIn K (.ref (ga K x)) (.type "BaseException") = some true
  meta_ : PySem.W.typeIn K (.ref (ga K x)) = some (.type "type")
def plainB (K : PySem.W.Frag) (x : Str) : Bool :=
  PySem.W.keepIn K (.ref (ga K x)) && PySem.W.excIn K (ga K x) veTop "ValueError.__new__" &&
    decide (PySem.W.subIn K (.ref (ga K x)) (.type "BaseException") = some true) &&
    decide (PySem.W.typeIn K (.ref (ga K x)) = some (.type "type"))
theorem plain_ok {K : PySem.W.Frag} {mg : Str → Option Value} {x : Str} (g : mg x = some (.ref (ga K x))) (h : plainB K x = true) : Plain K mg x := by
  unfold plainB at h
  simp only [Bool.and_eq_true, decide_eq_true_eq] at h
  obtain ⟨⟨⟨a, b⟩, c⟩, d⟩ := h
  exact ⟨g, a, b, c, d⟩
/-- the class of wrong numbers -/
structure Num (K : PySem.W.Frag) (mg : Str → Option Value) (x f : Str) (st : List Stmt) (ar : Arguments) (sc : Scope) : Prop where
  glo : mg x = some (.ref (ga K x))
  over : ME.Over K (ga K x) "IndexError" "IndexError.__new__" "IndexError.__init__" ieTop
  none_ : PySem.W.findIn K (.ref (ga K x)) f = some none
  field : XfC K (ga K x)
  ini : ∃ fI fd, PySem.W.findIn K (.ref (ga K x)) "__init__" = some (some (.ref fI)) ∧ PySem.W.typeIn K (.ref fI) = some (.type "function") ∧
    FunD K "__init__" (x ++ ".__init__") ar st sc [] [] fI fd
end K06
namespace K06
open PySem PySem.Spec PyProof.Rows L2 MM
def inClass (s : Stmt) : Stmt := match s with
  | .ClassDef _ _ _ b _ _ _ _ _ _ _ => b.getD 0 (.Pass ⟨0, 0, 0, 0⟩)
  | _ => .Pass ⟨0, 0, 0, 0⟩
abbrev sInit : Stmt := inClass (PySem.Challenge.pw_movemarks_k06_errors_of_moves.main.body.getD 5 (.Pass ⟨0, 0, 0, 0⟩))
abbrev NumC (K : PySem.W.Frag) (mg : Str → Option Value) : Prop := Num K mg "InvalidNumber" "given" (defBody sInit) (defArgs sInit) (defScope sInit)
theorem scInit : FnScope ["self", "given"] ["self", "given"] (defScope sInit) :=
  ⟨rfl, rfl, rfl, by decide +kernel, rfl, by decide +kernel, by decide +kernel⟩
theorem vIE (K : PySem.W.Frag) : PySem.W.findCls K (.type "IndexError") (.type "type") "__init__" = some (.val (.builtin "IndexError.__init__")) := by kernel_rfl
section
variable {P : Program} {w : World} {K : PySem.W.Frag} {mg : Str → Option Value} {base : Heap}
/-- its __init__ keeps what is given -/
theorem init_ok (Y : NumC K mg) (ie : mg "IndexError" = none) {fI : Addr} {fd : FuncData}
    (F : FunD K "__init__" "InvalidNumber.__init__" (defArgs sInit) (defBody sInit) (defScope sInit) [] [] fI fd) :
    FnG P w K mg base CX0 1 fI fd ["self", "given"] (ME.spKeep (ga K "InvalidNumber") "given") := by
  refine FnG.body (N := ["self", "given"]) F scInit ?_ ?_
  · intro vs H Q E h
    obtain ⟨a, y, rfl, _⟩ := h
    rfl
  · intro cd A out s H vs Q E hr h
    obtain ⟨a, y, rfl, ea, q⟩ := h
    refine ⟨_, pss_cons (ps_expr (ME.pe_ask (top := ieTop) (initId := "IndexError.__init__") (newId := "IndexError.__new__") rfl ie boot_IndexError exb_IndexError.ty (by decide +kernel) (vIE K) (by decide +kernel) (pa_cons (pv 0) (pa_cons pe_str pa_nil)))) (pss_one (ME.ps_put (B := "IndexError") (newId := "IndexError.__new__") (initId := "IndexError.__init__") (top := ieTop) (pv 0) (pv 1))), ?_⟩
    refine ⟨_, rfl, a, _, _, rfl, by decide, Y.over, ea, ?_⟩
    refine ⟨_, rfl, _, rfl, a, _, rfl, Y.over, Y.none_, ea, fun dx n ne => ?_⟩
    exact q dx n ne
end
end K06
namespace K06
open PySem PySem.Spec PyProof.Rows L2 MM
section
variable {X : Cx} {W : WX} {x m : Str} {j : Nat} {p p1 p2 pos : Pos} {e : Expr} {es : List Expr} {ta : TA}
/-- raise X('..') -/
theorem ps_plain (Y : Plain X.K X.mg x) (hc : X.calm = true) (tk : Takes X W) (hg : Gl X x := by rfl)
    (hdb : (x == ("__debug__" : Str)) = false := by decide) :
    PS X (.Raise (some (.Call (.Name x p) [.Constant (.str m) j p2] [] p1)) none pos) (fun _ σ H => W (.ref (ga X.K x)) none σ H) :=
  ps_raise hc tk (pmk_own PySem.F.excBase_ValueError Y.row Y.glo Y.keep (raises_own Y.isE Y.meta_) hg hdb)
/-- raise InvalidNumber(e) -/
theorem ps_num (Y : NumC X.K X.mg) (ie : X.mg "IndexError" = none) (hc : X.calm = true) (tk : Takes X W) (hr : Rm 2 X.A)
    (ha : PA X (e :: es) ta) (hg : Gl X "InvalidNumber" := by rfl)
    (he : starEach (e :: es) X.env = (false, eval e X.env) :: starEach es X.env := by rfl)
    (hpl : (backTo p1 (starEach es X.env)).any (·.1) = false := by rfl) :
    PS X (.Raise (some (.Call (.Name "InvalidNumber" p) (e :: es) [] p1)) none pos) (fun _ σ H => ta σ H fun vs H1 => ∃ y, vs = [y] ∧
      ∀ d, H1 d = none → W (.ref (ga X.K "InvalidNumber")) (some d) σ (upd H1 d (.xd [("given", y)]))) := by
  obtain ⟨fI, fd, iC, tI, F⟩ := Y.ini
  exact ps_raise hc tk (ME.pmk_made Y.over iC tI (init_ok (P := X.prog) (w := X.w) (base := X.base) Y ie F) hr
    (F.bindsN (fun _ _ _ _ _ _ us hl => match us, hl with | [_, _], _ => rfl)) pass0 Y.glo ha hg (by decide) he hpl)
end
end K06
namespace K06
open PySem PySem.Spec PyProof.Rows L2 MM
/-- the classes of errors, and which one is caught as which -/
structure Ex (K : PySem.W.Frag) (mg : Str → Option Value) : Prop where
  mv : Plain K mg "InvalidMove"
  op : Plain K mg "InvalidOperation"
  num : NumC K mg
  ie : mg "IndexError" = none
  e11 : PySem.W.exmOne K (.ref (ga K "InvalidMove")) (.ref (ga K "InvalidMove")) = some true
  e21 : PySem.W.exmOne K (.ref (ga K "InvalidOperation")) (.ref (ga K "InvalidMove")) = some false
  e22 : PySem.W.exmOne K (.ref (ga K "InvalidOperation")) (.ref (ga K "InvalidOperation")) = some true
  e31 : PySem.W.exmOne K (.ref (ga K "InvalidNumber")) (.ref (ga K "InvalidMove")) = some false
  e32 : PySem.W.exmOne K (.ref (ga K "InvalidNumber")) (.ref (ga K "InvalidOperation")) = some false
  e33 : PySem.W.exmOne K (.ref (ga K "InvalidNumber")) (.ref (ga K "InvalidNumber")) = some true
end K06
namespace K06
open PySem PySem.Spec PyProof.Rows L2 MM
abbrev orS (a b : Sp) : Sp := fun vs H Q E => a vs H Q E ∨ b vs H Q E
theorem def_or {P : Program} {w : World} {K : PySem.W.Frag} {mg : Str → Option Value} {base : Heap} {CX : CXT} {j k l : Nat} {x : Str} {ps : List Str}
    {a b : Sp} (D : Def P w K mg base CX0 j x ps a) (B : Def P w K mg base CX k x ps b) (hj : j ≤ l) (hk : k ≤ l) :
    Def P w K mg base CX l x ps (orS a b) := by
  obtain ⟨f, fd, F, hm, kp, bd, oc, od, sl, lk⟩ := D
  obtain ⟨f', fd', F', hm', kp', bd', oc', od', sl', lk'⟩ := B
  obtain rfl : f = f' := by
    rw [hm] at hm'
    cases hm'
    rfl
  obtain rfl : fd = fd' := by
    rw [lk] at lk'
    cases lk'
    rfl
  refine ⟨f, fd, ⟨?_, ?_⟩, hm, kp, bd, oc, od, sl, lk⟩
  · rintro vs H Q E (h | h)
    · exact F.arity h
    · exact F'.arity h
  · rintro A out s H ar us vs Q E hr e0 hb hv (h | h)
    · refine codeAny_mono (F.runs (hr.le hj) e0 hb hv h) fun r s' q => ?_
      cases r with
      | error e => exact (show False from q).elim
      | ok fl => cases fl <;> exact q
    · exact F'.runs (hr.le hk) e0 hb hv h
end K06

set_option Elab.async false
set_option linter.all false
set_option maxRecDepth 100000
set_option maxHeartbeats 2000000
namespace K06
open PySem PySem.Spec PyProof.Rows L2 MM
def topS (i : Nat) : Stmt := PySem.Challenge.pw_movemarks_k06_errors_of_moves.main.body.getD i (.Pass ⟨0, 0, 0, 0⟩)
/-! own words for the readings: a step, its side -/
local macro_rules | `(tactic| walk_at "side") => `(tactic| first
  | omega
  | exact ⟨by omega, by omega⟩
  | exact Or.inl ⟨by omega, by omega⟩
  | exact Or.inr ⟨by omega, by omega⟩
  | (show CPw _ _; decide +kernel)
  | (show (0 : Int) < _; decide +kernel)
  | (show CDivW _ _; first | assumption | exact ⟨by decide, by decide +kernel⟩))
local macro_rules | `(tactic| walk_at "here") => `(tactic| first
  | assumption
  | exact upd_same
  | exact Or.inl (Or.inl upd_same)
  | exact Or.inl upd_same)
local macro_rules | `(tactic| walk_at "one") => `(tactic| first
  | refine ⟨_, rfl, ?_⟩
  | refine Or.inl ⟨_, rfl, ?_⟩
  | refine Or.inr ⟨_, rfl, ?_⟩
  | refine ⟨_, _, rfl, rfl, (by walk_at "side"), ?_⟩
  | refine ⟨_, _, rfl, rfl, ?_⟩
  | refine ⟨_, _, rfl, Or.inl (by walk_at "here"), ?_⟩
  | refine ⟨_, _, rfl, Or.inr (by walk_at "here"), ?_⟩
  | refine ⟨_, _, rfl, (by walk_at "here"), ?_⟩
  | refine ⟨_, _, _, _, rfl, rfl, (by walk_at "here"), rfl, ?_⟩
  | refine ⟨_, _, rfl, ?_⟩
  | refine ifT (by rfl) ?_
  | refine ifF (by rfl) ?_
  | refine ifT (decide_eq_true (by omega)) ?_
  | refine ifF (decide_eq_false (by omega)) ?_)
local macro_rules | `(tactic| walk_at "st") => `(tactic| repeat (walk_at "one"))

abbrev sIsWhole : Stmt := topS 7
abbrev sIsBetween : Stmt := topS 8
abbrev sNeedBetween : Stmt := topS 9
abbrev sIsArrangement : Stmt := topS 13
abbrev sNeedPlaces : Stmt := topS 14
abbrev sIsMove : Stmt := topS 15
abbrev sUnitOf : Stmt := topS 16
abbrev sNeedMove : Stmt := topS 17
abbrev sNeedPair : Stmt := topS 18
abbrev sFollowed : Stmt := topS 19
abbrev sTurnedBack : Stmt := topS 20
abbrev sProductOf : Stmt := topS 21
abbrev sUndone : Stmt := topS 22
abbrev sCyclesU : Stmt := topS 23
abbrev sPowerOf : Stmt := topS 24
abbrev sOrderOf : Stmt := topS 25
abbrev sSignOf : Stmt := topS 26
abbrev sCycles : Stmt := topS 27
abbrev sStillPlaces : Stmt := topS 28
abbrev sNeedRings : Stmt := topS 29
abbrev sMoveOfCycles : Stmt := topS 30
abbrev sTurned : Stmt := topS 31
abbrev sTurnedMove : Stmt := topS 32
abbrev sTurningMove : Stmt := topS 33
abbrev sIsTurningMove : Stmt := topS 34
abbrev sBagL : Stmt := topS 36
abbrev sGrabL : Stmt := topS 37
abbrev sOneOfL : Stmt := topS 38
abbrev sMixedL : Stmt := topS 39
abbrev sWordL : Stmt := topS 40
abbrev sMovesRightL : Stmt := topS 41
abbrev sNumbersRightL : Stmt := topS 42
abbrev sLaw : Stmt := topS 43
structure Tx (K : PySem.W.Frag) (mg : Str → Option Value) : Prop where
  t_is_whole : At K mg "is_whole" sIsWhole
  t_is_between : At K mg "is_between" sIsBetween
  t_need_between : At K mg "need_between" sNeedBetween
  t_is_arrangement : At K mg "is_arrangement" sIsArrangement
  t_need_places : At K mg "need_places" sNeedPlaces
  t_is_move : At K mg "is_move" sIsMove
  t_unit_of : At K mg "unit_of" sUnitOf
  t_need_move : At K mg "_need_move" sNeedMove
  t_need_pair : At K mg "_need_pair" sNeedPair
  t_followed : At K mg "followed" sFollowed
  t_turned_back : At K mg "turned_back" sTurnedBack
  t_product_of : At K mg "product_of" sProductOf
  t_undone : At K mg "undone" sUndone
  t_cyclesU : At K mg "_cycles" sCyclesU
  t_power_of : At K mg "power_of" sPowerOf
  t_order_of : At K mg "order_of" sOrderOf
  t_sign_of : At K mg "sign_of" sSignOf
  t_cycles : At K mg "cycles" sCycles
  t_still_places : At K mg "still_places" sStillPlaces
  t_need_rings : At K mg "_need_rings" sNeedRings
  t_move_of_cycles : At K mg "move_of_cycles" sMoveOfCycles
  t_turned : At K mg "_turned" sTurned
  t_turned_move : At K mg "turned_move" sTurnedMove
  t_turning_move : At K mg "turning_move" sTurningMove
  t_is_turning_move : At K mg "is_turning_move" sIsTurningMove
  t_law_bag : At K mg "_law_bag" sBagL
  t_law_grab : At K mg "_law_grab" sGrabL
  t_law_one_of : At K mg "_law_one_of" sOneOfL
  t_law_mixed : At K mg "_law_mixed" sMixedL
  t_law_word : At K mg "_law_word" sWordL
  t_law_moves_right : At K mg "_law_moves_right" sMovesRightL
  t_law_numbers_right : At K mg "_law_numbers_right" sNumbersRightL
  t_law : At K mg "law" sLaw
  f_IndexError : mg "IndexError" = none
  f_abs : mg "abs" = none
  f_all : mg "all" = none
  f_bool : mg "bool" = none
  f_enumerate : mg "enumerate" = none
  f_int : mg "int" = none
  f_isinstance : mg "isinstance" = none
  f_len : mg "len" = none
  f_list : mg "list" = none
  f_max : mg "max" = none
  f_min : mg "min" = none
  f_range : mg "range" = none
  f_repr : mg "repr" = none
  f_set : mg "set" = none
  f_sorted : mg "sorted" = none
  f_str : mg "str" = none
  f_sum : mg "sum" = none
  f_tuple : mg "tuple" = none
  f_zip : mg "zip" = none
  c_MAX_PLACES : ∃ u, mg "MAX_PLACES" = some u ∧ RelV (.int (24)) u
  c_MAX_POWER : ∃ u, mg "MAX_POWER" = some u ∧ RelV (.int (10 ^ 30)) u
  b_lcm : mg "lcm" = some (.builtin "math.lcm")

section
variable {P : Program} {w : World} {K : PySem.W.Frag} {mg : Str → Option Value} {base : Heap}
/-- a bag of draws -/
def BagAt (H : Hp) (p : Addr) : Prop := ∃ g m c : Int, H p = some (.lst [.int g, .int m, .int c])
def spBag (K : PySem.W.Frag) : Sp := fun vs H Q _ => ∃ (a : Addr) (n : Nat) (ns : List Int), vs = [.ref a, .int n] ∧ SqL K H a (ns.map V.int) ∧ n ≤ 100 ∧
  ∀ (H' : Hp) (p : Addr), Same H H' → H p = none → BagAt H' p → Q (.ref p) H'
theorem scBagL : FnScope ["_law_script", "_law_spot", "_law_cell", "_law_great", "_law_mixed_here"] ["_law_script", "_law_spot"] (defScope sBagL) :=
  ⟨rfl, rfl, rfl, by decide +kernel, rfl, by decide +kernel, by decide +kernel⟩
theorem dBagL (T : Tx K mg) : Def P w K mg base CX0 1 "_law_bag" ["_law_script", "_law_spot"] (spBag K) := by
  refine T.t_law_bag.def_ (N := ["_law_script", "_law_spot", "_law_cell", "_law_great", "_law_mixed_here"]) scBagL (fun _ _ _ _ _ _ us hl => match us, hl with | [_, _], _ => rfl) ?_ ?_
  · intro vs H Q E h
    obtain ⟨a, n, ns, rfl, _⟩ := h
    rfl
  · intro f cd A out s H vs Q E hr h
    obtain ⟨a, n, ns, rfl, hS, hn, q⟩ := h
    refine ⟨_, (pss_cons (ps_set (i := 2) scBagL.nd rfl (Or.inl rfl) (pe_ifExp (pt_cmpR op_lt (pv 1) (pe_callB call_len_seq rfl T.f_len (by decide +kernel) (pa_cons (pv 0) pa_nil)) (nomark _)) (pe_ix ix_list (pv 0) (pv 1) (fun _ _ => rfl)) (pe_op op_add (pe_op op_add (pe_callB (cr_sum rfl) rfl T.f_sum (by decide +kernel) (pa_cons (pe_slice sl_list (pv 0) po_none (po_some pe_int)) pa_nil)) (pe_op op_mul pe_int (pv 1))) pe_int)))
      (pss_cons (ps_set (i := 3) scBagL.nd rfl (Or.inl rfl) (pe_op op_mod (pe_callTy call_int1 rfl T.f_int (by decide +kernel) (pa_cons (pe_callB call_abs rfl T.f_abs (by decide +kernel) (pa_cons (pv 2) pa_nil)) pa_nil)) (pe_op op_pw (pe_op op_pw pe_int pe_int) pe_int)))
      (pss_cons (ps_set (i := 4) scBagL.nd rfl (Or.inl rfl) (pe_op op_add (pe_op op_add (pe_op op_add (pe_op op_mul (pe_op op_mod (pe_callTy call_int1 rfl T.f_int (by decide +kernel) (pa_cons (pv 3) pa_nil)) pe_int) pe_int) (pe_op op_mul pe_int (pv 1))) (pe_op op_mul pe_int (pe_callTy call_int1 rfl T.f_int (by decide +kernel) (pa_cons (pe_cmpR op_lt (pv 2) pe_int (nomark _)) pa_nil)))) pe_int))
      (pss_one (ps_ret (pe_lst (pa_cons (pe_callB (call_max2 rfl) rfl T.f_max (by decide +kernel) (pa_cons pe_int (pa_cons (pe_op op_sub (pv 3) (pe_op op_pw pe_int pe_int)) pa_nil))) (pa_cons (pe_op op_mod (pe_callTy call_int1 rfl T.f_int (by decide +kernel) (pa_cons (pv 4) pa_nil)) pe_int) (pa_cons pe_int pa_nil))))))))), ?_⟩
    -- behind the cell: whatever it is
    have fin : ∀ (H1 : Hp) (u v : Int), Same H H1 → ∀ p, H1 p = none → Q (.ref p) (upd H1 p (.lst [.int u, .int v, .int 0])) := by
      intro H1 u v sm p hp
      refine q _ p ?_ (sm.free hp) ⟨u, v, 0, upd_same⟩
      intro b o e
      rw [upd_ne (ne_of_none (sm b o e) hp)]
      exact sm b o e
    walk_at "st"
    refine ite2 (fun c => ?_) (fun c => ?_)
    · have lt : n < ns.length := by
        have := of_decide_eq_true c
        rw [List.length_map] at this
        omega
      refine ⟨_, rfl, _, rfl, a, _, _, _, rfl, rfl, hS, atI_cell lt, ?_⟩
      walk_at "st"
      exact ⟨by show 3 ≤ sizeLine; decide, fin H _ _ (Same.refl H)⟩
    · walk_at "st"
      intro p hp
      have sm : Same H (upd H p (.lst (cutV (ns.map V.int) none (some 1)))) := by
        intro b o e
        rw [upd_ne (ne_of_none e hp)]
        exact e
      have ec : cutV (ns.map V.int) none (some 1) = (ns.take 1).map V.int := by
        unfold cutV
        rw [HT.sIx_none, show HT.sIx (ns.map V.int).length (ns.map V.int).length (some 1) = min 1 (ns.map V.int).length from HT.sIx_nat _ _ 1, List.map_take, List.drop_zero, Nat.sub_zero]
        cases ns with
        | nil => rfl
        | cons x r => simp
      refine ⟨_, ns.take 1, rfl, ?_, ?_⟩
      · rw [← ec]
        exact .inl (.inl upd_same)
      walk_at "st"
      exact ⟨by show 3 ≤ sizeLine; decide, fin _ _ _ sm⟩
def spGrab : Sp := fun vs H Q _ => ∃ (p : Addr) (t g m c : Int), vs = [.ref p, .int t] ∧ H p = some (.lst [.int g, .int m, .int c]) ∧ CDivW 0 t ∧
  ∀ r g' m' c' : Int, 0 ≤ r → r < t → Q (.int r) (upd H p (.lst [.int g', .int m', .int c']))
theorem grab_out {H : Hp} {p : Addr} {t r : Int} {xs : List V} {Q : VK} (q : ∀ r g' m' c' : Int, 0 ≤ r → r < t → Q (.int r) (upd H p (.lst [.int g', .int m', .int c'])))
    (ht : 0 < t) (z : Int) (e : r = z % t) (ex : ∃ g' m' c', xs = [V.int g', V.int m', V.int c']) : Q (.int r) (upd H p (.lst xs)) := by
  obtain ⟨g', m', c', rfl⟩ := ex
  rw [e]
  exact q _ _ _ _ (Int.emod_nonneg _ (by omega)) (Int.emod_lt_of_pos _ ht)
theorem scGrabL : FnScope ["_law_bag_here", "_law_total", "_law_found", "_law_one", "_law_two"] ["_law_bag_here", "_law_total"] (defScope sGrabL) :=
  ⟨rfl, rfl, rfl, by decide +kernel, rfl, by decide +kernel, by decide +kernel⟩
theorem dGrabL (T : Tx K mg) : Def P w K mg base CX0 1 "_law_grab" ["_law_bag_here", "_law_total"] spGrab := by
  refine T.t_law_grab.def_ (N := ["_law_bag_here", "_law_total", "_law_found", "_law_one", "_law_two"]) scGrabL (fun _ _ _ _ _ _ us hl => match us, hl with | [_, _], _ => rfl) ?_ ?_
  · intro vs H Q E h
    obtain ⟨p, t, g, m, c, rfl, _⟩ := h
    rfl
  · intro f cd A out s H vs Q E hr h
    obtain ⟨p, t, g, m, c, rfl, hp, ht, q⟩ := h
    have ht0 : 0 < t := ht.1
    have hS : SqL K H p _ := .inl (.inl hp)
    have hd : ∀ i, CDivW i t := fun _ => ht
    refine ⟨_, (pss_cons (ps_if (pt_cmpR op_gt (pe_ix ix_list (pv 0) pe_int (fun _ _ => rfl)) pe_int (nomark _)) (pss_cons (ps_set (i := 2) scGrabL.nd rfl (Or.inl rfl) (pe_op op_mod (pe_callTy call_int1 rfl T.f_int (by decide +kernel) (pa_cons (pe_ix ix_list (pv 0) pe_int (fun _ _ => rfl)) pa_nil)) (pv 1)))
        (pss_cons (ps_asg (pe_op op_fdivW (pe_ix ix_list (pv 0) pe_int (fun _ _ => rfl)) (pv 1)) (pg_sub (pv 0) pe_int set_list))
        (pss_one (ps_ret (pv 2))))) pss_nil)
      (pss_cons (ps_asg (pe_op op_add (pe_ix ix_list (pv 0) pe_int (fun _ _ => rfl)) pe_int) (pg_sub (pv 0) pe_int set_list))
      (pss_cons (ps_set (i := 3) scGrabL.nd rfl (Or.inl rfl) (pe_op op_mod (pe_callTy call_int1 rfl T.f_int (by decide +kernel) (pa_cons (pe_op op_add (pe_ix ix_list (pv 0) pe_int (fun _ _ => rfl)) (pe_op op_mul pe_int (pe_ix ix_list (pv 0) pe_int (fun _ _ => rfl)))) pa_nil)) pe_int))
      (pss_cons (ps_set (i := 4) scGrabL.nd rfl (Or.inl rfl) (pe_op op_add (pe_op op_mul (pe_op op_mod (pe_callTy call_int1 rfl T.f_int (by decide +kernel) (pa_cons (pe_op op_mul (pv 3) (pv 3)) pa_nil)) pe_int) (pv 3)) (pe_op op_mul pe_int (pe_ix ix_list (pv 0) pe_int (fun _ _ => rfl)))))
      (pss_one (ps_ret (pe_op op_mod (pe_callTy call_int1 rfl T.f_int (by decide +kernel) (pa_cons (pe_op op_fdivW (pe_op op_mod (pe_callTy call_int1 rfl T.f_int (by decide +kernel) (pa_cons (pv 4) pa_nil)) pe_int) pe_int) pa_nil)) (pv 1)))))))), ?_⟩
    walk_at "st"
    refine ite2 (fun c => ?_) (fun c => ?_)
    · walk_at "st"
      refine grab_out q ht0 g rfl ⟨_, _, _, rfl⟩
    · walk_at "st"
      refine grab_out q ht0 _ rfl ⟨_, _, _, rfl⟩
theorem sql_upd {K : PySem.W.Frag} {H : Hp} {p l : Addr} {xs : List V} {o : HO} (h : SqL K H l xs) (ne : l ≠ p) : SqL K (upd H p o) l xs := by
  rcases h with (h | ⟨u, h⟩) | h
  · exact .inl (.inl (by rw [upd_ne ne]; exact h))
  · exact .inl (.inr ⟨u, by rw [upd_ne ne]; exact h⟩)
  · exact .inr h
theorem at_in {xs : List V} {r : Int} (h0 : 0 ≤ r) (h1 : r < xs.length) : ∃ v, v ∈ xs ∧ atI xs r = some v := by
  have lt : r.toNat < xs.length := by omega
  refine ⟨xs[r.toNat], List.getElem_mem lt, ?_⟩
  have e : ((r.toNat : Nat) : Int) = r := by omega
  have q := atI_nat (xs := xs) (j := r.toNat) (List.getElem?_eq_getElem lt)
  rw [e] at q
  exact q
theorem div_small {n : Nat} (h0 : 0 < n) (h : n ≤ 100000) : CDivW 0 (n : Int) := by
  refine wide_div (b := 20) (by omega) ?_ (by decide) (by decide)
  have e : ((n : Int)).natAbs = n := Int.natAbs_natCast n
  rw [e]
  exact Nat.lt_of_le_of_lt h (by decide)
def spOneOf (K : PySem.W.Frag) : Sp := fun vs H Q _ => ∃ (p l : Addr) (g m c : Int) (xs : List V), vs = [.ref p, .ref l] ∧ H p = some (.lst [.int g, .int m, .int c]) ∧ SqL K H l xs ∧
  l ≠ p ∧ 0 < xs.length ∧ xs.length ≤ 1000 ∧ ∀ v g' m' c', v ∈ xs → Q v (upd H p (.lst [.int g', .int m', .int c']))
theorem scOneOfL : FnScope ["_law_bag_here", "_law_items"] ["_law_bag_here", "_law_items"] (defScope sOneOfL) :=
  ⟨rfl, rfl, rfl, by decide +kernel, rfl, by decide +kernel, by decide +kernel⟩
theorem dOneOfL (T : Tx K mg) (DGrabL : Def P w K mg base CX0 1 "_law_grab" ["_law_bag_here", "_law_total"] spGrab) : Def P w K mg base CX0 2 "_law_one_of" ["_law_bag_here", "_law_items"] (spOneOf K) := by
  refine T.t_law_one_of.def_ (N := ["_law_bag_here", "_law_items"]) scOneOfL (fun _ _ _ _ _ _ us hl => match us, hl with | [_, _], _ => rfl) ?_ ?_
  · intro vs H Q E h
    obtain ⟨p, l, g, m, c, xs, rfl, _⟩ := h
    rfl
  · intro f cd A out s H vs Q E hr h
    have hr1 : Rm 1 _ := hr.le (by decide)
    obtain ⟨p, l, g, m, c, xs, rfl, hp, hS, ne, h0, h1, q⟩ := h
    refine ⟨_, (pss_one (ps_ret (pe_ix ix_list (pv 1) (pe_d DGrabL (hr1.le (by decide)) pass0 (pa_cons (pv 0) (pa_cons (pe_callB call_len_seq rfl T.f_len (by decide +kernel) (pa_cons (pv 1) pa_nil)) pa_nil))) (fun _ _ => rfl)))), ?_⟩
    walk_at "st"
    refine ⟨p, _, g, m, c, rfl, hp, div_small h0 (by omega), fun r g' m' c' r0 r1 => ?_⟩
    obtain ⟨v, hv, e⟩ := at_in r0 r1
    exact ⟨_, _, _, v, rfl, rfl, sql_upd hS ne, e, q v g' m' c' hv⟩
end
end K06


set_option Elab.async false
set_option linter.all false
set_option maxRecDepth 100000
set_option maxHeartbeats 2000000
namespace K06
open PySem PySem.Spec PyProof.Rows L2 MM
/-! own words for the readings: a step, its side -/
local macro_rules | `(tactic| walk_at "side") => `(tactic| first
  | omega
  | exact ⟨by omega, by omega⟩
  | exact Or.inl ⟨by omega, by omega⟩
  | exact Or.inr ⟨by omega, by omega⟩
  | (show CPw _ _; decide +kernel)
  | (show (0 : Int) < _; decide +kernel)
  | (show CDivW _ _; first | assumption | exact ⟨by decide, by decide +kernel⟩))
local macro_rules | `(tactic| walk_at "here") => `(tactic| first
  | assumption
  | exact upd_same
  | exact Or.inl (Or.inl upd_same)
  | exact Or.inl upd_same)
local macro_rules | `(tactic| walk_at "one") => `(tactic| first
  | refine ⟨_, rfl, ?_⟩
  | refine Or.inl ⟨_, rfl, ?_⟩
  | refine Or.inr ⟨_, rfl, ?_⟩
  | refine ⟨_, _, rfl, rfl, (by walk_at "side"), ?_⟩
  | refine ⟨_, _, rfl, rfl, ?_⟩
  | refine ⟨_, _, rfl, Or.inl (by walk_at "here"), ?_⟩
  | refine ⟨_, _, rfl, Or.inr (by walk_at "here"), ?_⟩
  | refine ⟨_, _, rfl, (by walk_at "here"), ?_⟩
  | refine ⟨_, _, _, _, rfl, rfl, (by walk_at "here"), rfl, ?_⟩
  | refine ⟨_, _, rfl, ?_⟩
  | refine ifT (by rfl) ?_
  | refine ifF (by rfl) ?_
  | refine ifT (decide_eq_true (by omega)) ?_
  | refine ifF (decide_eq_false (by omega)) ?_)
local macro_rules | `(tactic| walk_at "st") => `(tactic| repeat (walk_at "one"))

section
variable {P : Program} {w : World} {K : PySem.W.Frag} {mg : Str → Option Value} {base : Heap}
def spIsWhole (K : PySem.W.Frag) : Sp := fun vs H Q _ => ∃ x n, vs = [x] ∧ Kd K H x n ∧ Q (.bl (isW x)) H
theorem scIsWhole : FnScope ["value"] ["value"] (defScope sIsWhole) :=
  ⟨rfl, rfl, rfl, by decide +kernel, rfl, by decide +kernel, by decide +kernel⟩
theorem dIsWhole (T : Tx K mg) : Def P w K mg base CX0 1 "is_whole" ["value"] (spIsWhole K) := by
  refine T.t_is_whole.def_ (N := ["value"]) scIsWhole (fun _ _ _ _ _ _ us hl => match us, hl with | [_], _ => rfl) ?_ ?_
  · intro vs H Q E h
    obtain ⟨x, n, rfl, _⟩ := h
    rfl
  · intro f cd A out s H vs Q E hr h
    obtain ⟨x, n, rfl, hk, q⟩ := h
    refine ⟨_, (pss_one (ps_ret (pe_and (pe_callB (cr_is .int) rfl T.f_isinstance (by decide +kernel) (pa_cons (pv 0) (pa_cons (pe_ty .int T.f_int (by decide +kernel)) pa_nil))) (pe_one (pe_not (pe_callB (cr_is .bl) rfl T.f_isinstance (by decide +kernel) (pa_cons (pv 0) (pa_cons (pe_ty .bl T.f_bool (by decide +kernel)) pa_nil)))))))), ?_⟩
    refine ⟨_, rfl, _, _, rfl, hk, _, rfl, ?_⟩
    cases hk
    all_goals walk_at "st"
    all_goals first
      | exact q
      | (refine ⟨_, _, rfl, .int _, ?_⟩; walk_at "st"; exact q)
      | (refine ⟨_, _, rfl, .bl _, ?_⟩; walk_at "st"; exact q)
def isB (x : V) (l m : Int) : Bool := match x with
  | .int i => decide (l ≤ i) && decide (i ≤ m)
  | _ => false
def spIsBetween (K : PySem.W.Frag) : Sp := fun vs H Q _ => ∃ x n l m, vs = [x, .int l, .int m] ∧ Kd K H x n ∧ Q (.bl (isB x l m)) H
theorem scIsBetween : FnScope ["value", "least", "most"] ["value", "least", "most"] (defScope sIsBetween) :=
  ⟨rfl, rfl, rfl, by decide +kernel, rfl, by decide +kernel, by decide +kernel⟩
theorem dIsBetween (T : Tx K mg) (DIsWhole : Def P w K mg base CX0 1 "is_whole" ["value"] (spIsWhole K)) : Def P w K mg base CX0 2 "is_between" ["value", "least", "most"] (spIsBetween K) := by
  refine T.t_is_between.def_ (N := ["value", "least", "most"]) scIsBetween (fun _ _ _ _ _ _ us hl => match us, hl with | [_, _, _], _ => rfl) ?_ ?_
  · intro vs H Q E h
    obtain ⟨x, n, l, m, rfl, _⟩ := h
    rfl
  · intro f cd A out s H vs Q E hr h
    have hr1 : Rm 1 _ := hr.le (by decide)
    obtain ⟨x, n, l, m, rfl, hk, q⟩ := h
    refine ⟨_, (pss_one (ps_ret (pe_and (pe_d DIsWhole (hr1.le (by decide)) pass0 (pa_cons (pv 0) pa_nil)) (pe_one (pe_chain op_le op_le (pv 1) (pv 0) (pv 2)))))), ?_⟩
    refine ⟨_, rfl, _, n, rfl, hk, _, rfl, ?_⟩
    cases hk
    all_goals walk_at "st"
    all_goals first
      | exact q
      | skip
    rename_i i
    refine ite2 (fun c => ?_) (fun c => ?_)
    · walk_at "st"
      have q' : Q (.bl (decide (l ≤ i) && decide (i ≤ m))) H := q
      rw [show decide (l ≤ i) = true from c, Bool.true_and] at q'
      exact q'
    · have q' : Q (.bl (decide (l ≤ i) && decide (i ≤ m))) H := q
      rw [show decide (l ≤ i) = false from Bool.eq_false_iff.mpr c, Bool.false_and] at q'
      exact q'
def spNeedBetween (K : PySem.W.Frag) : Sp := fun vs H Q _ => ∃ i l m : Int, vs = [.int i, .int l, .int m] ∧ l ≤ i ∧ i ≤ m ∧ Q .non H
theorem scNeedBetween : FnScope ["value", "least", "most"] ["value", "least", "most"] (defScope sNeedBetween) :=
  ⟨rfl, rfl, rfl, by decide +kernel, rfl, by decide +kernel, by decide +kernel⟩
theorem dNeedBetween (T : Tx K mg) (DIsBetween : Def P w K mg base CX0 2 "is_between" ["value", "least", "most"] (spIsBetween K)) : Def P w K mg base CX0 3 "need_between" ["value", "least", "most"] (spNeedBetween K) := by
  refine T.t_need_between.def_ (N := ["value", "least", "most"]) scNeedBetween (fun _ _ _ _ _ _ us hl => match us, hl with | [_, _, _], _ => rfl) ?_ ?_
  · intro vs H Q E h
    obtain ⟨i, l, m, rfl, _⟩ := h
    rfl
  · intro f cd A out s H vs Q E hr h
    have hr1 : Rm 2 _ := hr.le (by decide)
    obtain ⟨i, l, m, rfl, h1, h2, q⟩ := h
    refine ⟨_, (pss_one (ps_if (pt_not (pt_val (pe_d DIsBetween (hr1.le (by decide)) pass0 (pa_cons (pv 0) (pa_cons (pv 1) (pa_cons (pv 2) pa_nil)))))) (pss_one ps_never) pss_nil)), ?_⟩
    refine ⟨_, rfl, _, rfl, _, rfl, _, .int, l, m, rfl, .int i, _, rfl, ?_⟩
    refine ifF ?_ q
    show (!(decide (l ≤ i) && decide (i ≤ m))) = false
    rw [decide_eq_true h1, decide_eq_true h2] <;> rfl

def spNeedPlaces (K : PySem.W.Frag) : Sp := fun vs H Q _ => ∃ n : Nat, vs = [.int (n : Int)] ∧ 1 ≤ n ∧ n ≤ 24 ∧ Q .non H
theorem scNeedPlaces : FnScope ["places"] ["places"] (defScope sNeedPlaces) :=
  ⟨rfl, rfl, rfl, by decide +kernel, rfl, by decide +kernel, by decide +kernel⟩
theorem dNeedPlaces (T : Tx K mg) (DNeedBetween : Def P w K mg base CX0 3 "need_between" ["value", "least", "most"] (spNeedBetween K)) : Def P w K mg base CX0 4 "need_places" ["places"] (spNeedPlaces K) := by
  refine T.t_need_places.def_ (N := ["places"]) scNeedPlaces (fun _ _ _ _ _ _ us hl => match us, hl with | [_], _ => rfl) ?_ ?_
  · intro vs H Q E h
    obtain ⟨n, rfl, _⟩ := h
    rfl
  · intro f cd A out s H vs Q E hr h
    have hr1 : Rm 3 _ := hr.le (by decide)
    obtain ⟨n, rfl, h1, h2, q⟩ := h
    refine ⟨_, (pss_one (ps_expr (pe_d DNeedBetween (hr1.le (by decide)) pass0 (pa_cons (pv 0) (pa_cons pe_int (pa_cons (C8.pe_gc rfl T.c_MAX_PLACES) pa_nil)))))), ?_⟩
    exact ⟨_, rfl, _, 1, 24, rfl, by omega, by omega, q⟩
/-! moves -/
def mv (m : List Nat) : List V := m.map fun (k : Nat) => V.int (k : Int)
def comp (m l : List Nat) : List Nat := l.map fun k => m.getD k 0
def vat (m : List Nat) : V → V
  | .int i => .int ((m.getD i.toNat 0 : Nat) : Int)
  | _ => .non
theorem mv_len (m : List Nat) : (mv m).length = m.length := List.length_map _
theorem mv_at {m : List Nat} {k : Nat} (h : k < m.length) : atI (mv m) (k : Int) = some (.int ((m.getD k 0 : Nat) : Int)) := by
  refine atI_nat ?_
  unfold mv
  rw [List.getElem?_map, List.getElem?_eq_getElem h]
  simp [List.getD, List.getElem?_eq_getElem h]
theorem mv_comp (m l : List Nat) : (mv l).map (vat m) = mv (comp m l) := by
  unfold mv comp
  rw [List.map_map, List.map_map]
  rfl
theorem rg_mv (n : Nat) : rgV 0 (n : Int) = mv (List.range n) := by
  unfold rgV mv
  rw [show ((n : Int) - 0).toNat = n by omega]
  refine List.map_congr_left fun i _ => ?_
  rw [Int.zero_add]
def spUnit (K : PySem.W.Frag) : Sp := fun vs H Q _ => ∃ n : Nat, vs = [.int (n : Int)] ∧ 1 ≤ n ∧ n ≤ 24 ∧ ∀ t, H t = none → Q (.ref t) (upd H t (.tup (mv (List.range n))))
theorem scUnitOf : FnScope ["places"] ["places"] (defScope sUnitOf) :=
  ⟨rfl, rfl, rfl, by decide +kernel, rfl, by decide +kernel, by decide +kernel⟩
theorem dUnitOf (T : Tx K mg) (DNeedPlaces : Def P w K mg base CX0 4 "need_places" ["places"] (spNeedPlaces K)) : Def P w K mg base CX0 5 "unit_of" ["places"] (spUnit K) := by
  refine T.t_unit_of.def_ (N := ["places"]) scUnitOf (fun _ _ _ _ _ _ us hl => match us, hl with | [_], _ => rfl) ?_ ?_
  · intro vs H Q E h
    obtain ⟨n, rfl, _⟩ := h
    rfl
  · intro f cd A out s H vs Q E hr h
    have hr1 : Rm 4 _ := hr.le (by decide)
    obtain ⟨n, rfl, h1, h2, q⟩ := h
    refine ⟨_, (pss_cons (ps_expr (pe_d DNeedPlaces (hr1.le (by decide)) pass0 (pa_cons (pv 0) pa_nil)))
      (pss_one (ps_ret (pe_tupRg rfl rfl T.f_tuple (prg_1 rfl T.f_range (pv 0)))))), ?_⟩
    refine ⟨_, rfl, n, rfl, h1, h2, ?_⟩
    refine ⟨_, rfl, _, rfl, ⟨by omega, by omega, by omega, by omega, by omega⟩, fun t ft => ?_⟩
    rw [rg_mv]
    exact q t ft
def spComp (K : PySem.W.Frag) : Sp := fun vs H Q _ => ∃ a b m l, vs = [.ref a, .ref b] ∧ SqT K H a (mv m) ∧ SqT K H b (mv l) ∧ l.length ≤ 1000 ∧ (∀ k ∈ l, k < m.length) ∧ ∀ H' t, Same H H' → SqT K H' t (mv (comp m l)) → Q (.ref t) H'
theorem scFollowed : FnScope ["one", "other", "place"] ["one", "other"] (defScope sFollowed) :=
  ⟨rfl, rfl, rfl, by decide +kernel, rfl, by decide +kernel, by decide +kernel⟩
theorem dFollowed (T : Tx K mg) : Def P w K mg base CX0 1 "followed" ["one", "other"] (spComp K) := by
  refine T.t_followed.def_ (N := ["one", "other", "place"]) scFollowed (fun _ _ _ _ _ _ us hl => match us, hl with | [_, _], _ => rfl) ?_ ?_
  · intro vs H Q E h
    obtain ⟨a, b, m, l, rfl, _⟩ := h
    rfl
  · intro f cd A out s H vs Q E hr h
    obtain ⟨a, b, m, l, rfl, Sa, Sb, len, lt, q⟩ := h
    refine ⟨_, (pss_one (ps_ret (pe_callTy call_tuple_of rfl T.f_tuple (by decide +kernel) (pa_cons (pe_lc (own := [("place", 2)]) (g := gName 2) (tt := tYes) rfl scFollowed.nd (pi_tup (pv 1)) (blkOk_by (N := ["one", "other", "place"]) (sc := defScope sFollowed) (by decide +kernel)) (fun _ _ _ _ _ => pg_name (i := 2) scFollowed.nd rfl (Or.inl rfl)) (fun _ _ _ _ _ => pts_nil) (fun _ _ _ _ _ => (pe_ix (show IxR _ (rIxT K) from ix_tup) (pv 0) (pv 2) (fun _ _ => rfl)))) pa_nil)))), ?_⟩
    refine ⟨_, rfl, b, rfl, ⟨_, Sb⟩, fun D nD => ?_⟩
    refine lc_tpl (vat m) Sb nD (by rw [mv_len]; exact Nat.le_of_lt (small1000 len)) ?_ ?_
    · intro x acc hx Q' q'
      obtain ⟨k, hk, rfl⟩ := List.mem_map.mp hx
      exact ⟨_, rfl, _, rfl, a, _, _, _, rfl, rfl, sqt_new Sa nD, mv_at (lt k hk), q'⟩
    · rw [mv_comp]
      exact ⟨D, _, rfl, .inl ⟨.inl (.inl upd_same), fun t ft => q _ t ((same_new nD).trans (same_new ft)) (.inl (.inl upd_same))⟩⟩
/-! the move undone -/
def putB (m b : List Nat) (j : Nat) : List Nat := b.set (m.getD j 0) j
def backT (m : List Nat) (i : Nat) : List Nat := (List.range i).foldl (putB m) (List.replicate m.length 0)
def back (m : List Nat) : List Nat := backT m m.length
theorem backT_succ (m : List Nat) (i : Nat) : backT m (i + 1) = (backT m i).set (m.getD i 0) i := by
  unfold backT
  rw [List.range_succ, List.foldl_append]
  rfl
theorem backT_len (m : List Nat) : ∀ i, (backT m i).length = m.length
  | 0 => List.length_replicate
  | i + 1 => by rw [backT_succ, List.length_set, backT_len m i]
theorem mv_set (b : List Nat) (k i : Nat) : (mv b).set k (V.int (i : Int)) = mv (b.set k i) := by
  unfold mv
  rw [List.map_set]
theorem mv_nth {m : List Nat} {i : Nat} {x : V} (h : (mv m)[i]? = some x) : i < m.length ∧ x = .int ((m.getD i 0 : Nat) : Int) := by
  unfold mv at h
  rw [List.getElem?_map] at h
  by_cases c : i < m.length
  · rw [List.getElem?_eq_getElem c] at h
    refine ⟨c, ?_⟩
    rw [List.getD, List.getElem?_eq_getElem c]
    exact (Option.some.inj h).symm
  · rw [List.getElem?_eq_none (by omega)] at h
    cases h
theorem ixN_lt {n k : Nat} (h : k < n) : ixN n (k : Int) = some k := by
  unfold ixN
  simp
  omega
def spBack (K : PySem.W.Frag) : Sp := fun vs H Q _ => ∃ a m, vs = [.ref a] ∧ SqT K H a (mv m) ∧ m.length ≤ 1000 ∧ (∀ k ∈ m, k < m.length) ∧ ∀ H' t, Same H H' → SqT K H' t (mv (back m)) → Q (.ref t) H'
theorem scTurnedBack : FnScope ["move", "back", "_", "place", "target"] ["move"] (defScope sTurnedBack) :=
  ⟨rfl, rfl, rfl, by decide +kernel, rfl, by decide +kernel, by decide +kernel⟩
theorem dTurnedBack (T : Tx K mg) : Def P w K mg base CX0 1 "turned_back" ["move"] (spBack K) := by
  refine T.t_turned_back.def_ (N := ["move", "back", "_", "place", "target"]) scTurnedBack (fun _ _ _ _ _ _ us hl => match us, hl with | [_], _ => rfl) ?_ ?_
  · intro vs H Q E h
    obtain ⟨a, m, rfl, _⟩ := h
    rfl
  · intro f cd A out s H vs Q E hr h
    obtain ⟨a, m, rfl, Sa, len, lt, q⟩ := h
    refine ⟨_, (pss_cons (ps_setLc (i := 1) (own := [("_", 2)]) (g := gName 2) (tt := tYes) rfl scTurnedBack.nd rfl rfl (sw_true rfl rfl rfl rfl) (pi_tup (pv 0)) (blkOk_by (N := ["move", "back", "_", "place", "target"]) (sc := defScope sTurnedBack) (by decide +kernel)) (fun _ _ _ _ _ => pg_name (i := 2) scTurnedBack.nd rfl (Or.inl rfl)) (fun _ _ _ _ _ => pts_nil) (fun _ _ _ _ _ => pe_int))
      (pss_cons (ps_for PassesOwn.never rfl (pi_enumT rfl T.f_enumerate (pa_cons (pv 0) pa_nil)) (pg_tup rfl (pgs_cons (pg_name (i := 3) scTurnedBack.nd rfl (Or.inl rfl)) (pgs_cons (pg_name (i := 4) scTurnedBack.nd rfl (Or.inl rfl)) pgs_nil)))
        (pss_one (ps_asg (pv 3) (pg_sub (pv 1) (pv 4) set_list))))
      (pss_one (ps_ret (pe_callTy call_tuple_of rfl T.f_tuple (by decide +kernel) (pa_cons (pv 1) pa_nil)))))), ?_⟩
    refine ⟨_, rfl, a, rfl, ⟨_, Sa⟩, fun D nD => ?_⟩
    refine lc_tpl (fun _ => V.int 0) Sa nD (by rw [mv_len]; exact Nat.le_of_lt (small1000 len)) (fun x acc hx Q' q' => q') ?_
    have e0 : (mv m).map (fun _ => V.int 0) = mv (backT m 0) := by
      unfold backT mv
      rw [List.map_map]
      show _ = (List.replicate m.length 0).map _
      rw [List.map_replicate]
      exact List.map_const' ..
    rw [e0]
    have S1 : Same H (upd H D (.lst (mv (backT m 0)))) := same_new nD
    have D1 : (upd H D (.lst (mv (backT m 0)))) D = some (.lst (mv (backT m 0))) := upd_same
    have Sa1 := same_sqt S1 Sa
    generalize upd H D _ = H1 at S1 D1 Sa1 ⊢
    refine ⟨_, rfl, a, _, rfl, Sa1, ?_⟩
    refine for_enumT (K := K) (a := a) (xs := mv m) (fun i σ H2 => Same H H2 ∧ H2 D = some (.lst (mv (backT m i))) ∧ ∃ y z, σ = [some (.ref a), some (.ref D), none, y, z]) ⟨S1, D1, none, none, rfl⟩ (fun i σ H2 _ e => same_sqt e.1 Sa) ?_ ?_
    · rintro i x σ H2 T hx ⟨sm, hD, y, z, rfl⟩ fT
      obtain ⟨li, rfl⟩ := mv_nth hx
      have nDT : D ≠ T := ne_of_none hD fT
      have lk : m.getD i 0 < m.length := lt _ (by rw [List.getD, List.getElem?_eq_getElem li]; exact List.getElem_mem li)
      refine ⟨T, _, rfl, .inl (.inl upd_same), rfl, _, _, rfl, ?_⟩
      refine ⟨_, _, rfl, rfl, ?_⟩
      refine ⟨_, rfl, _, rfl, _, rfl, D, _, _, m.getD i 0, rfl, rfl, (upd_ne nDT).trans hD, ?_, ?_, upd_same.trans ?_, _, _, rfl⟩
      · rw [mv_len, backT_len]
        exact ixN_lt lk
      · intro b o e
        rw [upd_ne (ne_of_none e nD)]
        exact same_new fT b o (sm b o e)
      · rw [mv_set, backT_succ]
    · rintro σ H2 ⟨sm, hD, y, z, rfl⟩
      rw [mv_len] at hD
      exact ⟨_, rfl, D, _, rfl, .inl ⟨.inl (.inl hD), fun t ft => q _ t (sm.trans (same_new ft)) (.inl (.inl upd_same))⟩⟩
theorem rep_zero (m : List Nat) : (List.replicate ((mv m).length : Int).toNat [V.int 0]).flatten = mv (backT m 0) := by
  rw [Int.toNat_natCast, mv_len]
  unfold backT mv
  generalize m.length = n
  show _ = (List.replicate n 0).map _
  induction n with
  | zero => rfl
  | succ n ih =>
    rw [List.replicate_succ, List.replicate_succ, List.flatten_cons, ih]
    rfl
end
end K06


set_option Elab.async false
set_option linter.all false
set_option maxRecDepth 100000
set_option maxHeartbeats 2000000
namespace K06
open PySem PySem.Spec PyProof.Rows L2 MM
/-! own words for the readings: a step, its side -/
local macro_rules | `(tactic| walk_at "side") => `(tactic| first
  | omega
  | exact ⟨by omega, by omega⟩
  | exact Or.inl ⟨by omega, by omega⟩
  | exact Or.inr ⟨by omega, by omega⟩
  | (show CPw _ _; decide +kernel)
  | (show (0 : Int) < _; decide +kernel)
  | (show CDivW _ _; first | assumption | exact ⟨by decide, by decide +kernel⟩))
local macro_rules | `(tactic| walk_at "here") => `(tactic| first
  | assumption
  | exact upd_same
  | exact Or.inl (Or.inl upd_same)
  | exact Or.inl upd_same)
local macro_rules | `(tactic| walk_at "one") => `(tactic| first
  | refine ⟨_, rfl, ?_⟩
  | refine Or.inl ⟨_, rfl, ?_⟩
  | refine Or.inr ⟨_, rfl, ?_⟩
  | refine ⟨_, _, rfl, rfl, (by walk_at "side"), ?_⟩
  | refine ⟨_, _, rfl, rfl, ?_⟩
  | refine ⟨_, _, rfl, Or.inl (by walk_at "here"), ?_⟩
  | refine ⟨_, _, rfl, Or.inr (by walk_at "here"), ?_⟩
  | refine ⟨_, _, rfl, (by walk_at "here"), ?_⟩
  | refine ⟨_, _, _, _, rfl, rfl, (by walk_at "here"), rfl, ?_⟩
  | refine ⟨_, _, rfl, ?_⟩
  | refine ifT (by rfl) ?_
  | refine ifF (by rfl) ?_
  | refine ifT (decide_eq_true (by omega)) ?_
  | refine ifF (decide_eq_false (by omega)) ?_)
local macro_rules | `(tactic| walk_at "st") => `(tactic| repeat (walk_at "one"))

section
variable {P : Program} {w : World} {K : PySem.W.Frag} {mg : Str → Option Value} {base : Heap}
/-- a value, and its members if it is a tuple -/
inductive Rv (K : PySem.W.Frag) (H : Hp) : V → Option (List V) → Prop where
  | no {x : V} {n : Kn} (h : Kd K H x n) (ne : n.isa .tup = false) : Rv K H x none
  | yes {a : Addr} {xs : List V} (h : SqT K H a xs) (m : ∀ y, y ∈ xs → ∃ n, Kd K H y n) : Rv K H (.ref a) (some xs)

def toI : V → Int
  | .int i => i
  | _ => 0
def isArr (n : Nat) : Option (List V) → Bool
  | some xs => decide (xs.length = n) && ((xs.map fun x => isB x 0 ((n : Int) - 1)).all id && decide ((xs.map toI).Nodup))
  | none => false
theorem isArr_some (n : Nat) (xs : List V) : isArr n (some xs) = (decide (xs.length = n) && ((xs.map fun x => isB x 0 ((n : Int) - 1)).all id && decide ((xs.map toI).Nodup))) := rfl
def spArr (K : PySem.W.Frag) : Sp := fun vs H Q _ => ∃ (n : Nat) (x : V) (o : Option (List V)), vs = [.int (n : Int), x] ∧ Rv K H x o ∧ n ≤ 1000 ∧ ∀ H', Same H H' → Q (.bl (isArr n o)) H'
theorem ints_back {xs : List V} {n : Int} (h : (xs.map fun x => isB x 0 n).all id = true) : xs = (xs.map toI).map V.int := by
  rw [List.all_map, List.all_eq_true] at h
  induction xs with
  | nil => rfl
  | cons x r ih =>
    have h1 := h x (by simp)
    rw [List.map_cons, List.map_cons, ← ih fun y hy => h y (by simp [hy])]
    cases x <;> first | rfl | cases h1
theorem scIsArrangement : FnScope ["size", "value", "member"] ["size", "value"] (defScope sIsArrangement) :=
  ⟨rfl, rfl, rfl, by decide +kernel, rfl, by decide +kernel, by decide +kernel⟩
theorem dIsArrangement (T : Tx K mg) (DIsBetween : Def P w K mg base CX0 2 "is_between" ["value", "least", "most"] (spIsBetween K)) : Def P w K mg base CX0 3 "is_arrangement" ["size", "value"] (spArr K) := by
  refine T.t_is_arrangement.def_ (N := ["size", "value", "member"]) scIsArrangement (fun _ _ _ _ _ _ us hl => match us, hl with | [_, _], _ => rfl) ?_ ?_
  · intro vs H Q E h
    obtain ⟨n, x, o, rfl, _⟩ := h
    rfl
  · intro f cd A out s H vs Q E hr h
    have hr1 : Rm 2 _ := hr.le (by decide)
    obtain ⟨n, x, o, rfl, hv, small, q⟩ := h
    refine ⟨_, (pss_cons (ps_if (PW.pt (pw_or (pt_not (pt_val (pe_callB (cr_is .tup) rfl T.f_isinstance (by decide +kernel) (pa_cons (pv 1) (pa_cons (pe_ty .tup T.f_tuple (by decide +kernel)) pa_nil))))) (pw_or1 (pt_cmpR op_ne (pe_callB call_len_seq rfl T.f_len (by decide +kernel) (pa_cons (pv 1) pa_nil)) (pv 0) (nomark _))))) (pss_one (ps_ret pe_bl)) pss_nil)
      (pss_cons (ps_if (pt_not (pt_val (pe_callB (cr_all rfl) rfl T.f_all (by decide +kernel) (pa_cons (pe_lc (own := [("member", 2)]) (g := gName 2) (tt := tYes) rfl scIsArrangement.nd (pi_tup (pv 1)) (blkOk_by (N := ["size", "value", "member"]) (sc := defScope sIsArrangement) (by decide +kernel)) (fun _ _ _ _ _ => pg_name (i := 2) scIsArrangement.nd rfl (Or.inl rfl)) (fun _ _ _ _ _ => pts_nil) (fun _ _ _ _ _ => (pe_d DIsBetween (hr1.le (by decide)) pass0 (pa_cons (pv 2) (pa_cons pe_int (pa_cons (pe_op op_sub (pv 0) pe_int) pa_nil)))))) pa_nil)))) (pss_one (ps_ret pe_bl)) pss_nil)
      (pss_one (ps_ret (pe_cmpR op_eq (pe_callB cr_lenSet rfl T.f_len (by decide +kernel) (pa_cons (pe_callTy (cr_setI rfl) rfl T.f_set (by decide +kernel) (pa_cons (pv 1) pa_nil)) pa_nil)) (pv 0) (nomark _)))))), ?_⟩
    cases hv with
    | no hk ne =>
      refine ⟨_, rfl, _, _, rfl, hk, _, rfl, ?_⟩
      refine ifT (by rw [ne]; rfl) ?_
      exact q H (Same.refl H)
    | yes S m =>
      rename_i a xs
      refine ⟨_, rfl, _, _, rfl, .tup S, _, rfl, ?_⟩
      refine ifF rfl ?_
      refine ⟨_, rfl, _, _, rfl, .inr S, _, rfl, rfl, _, rfl, ?_⟩
      show (if (!decide (V.int (xs.length : Int) = V.int (n : Int))) = true then _ else _)
      rw [dInt, show decide ((xs.length : Int) = (n : Int)) = decide (xs.length = n) from decide_eq_decide.mpr (by omega)]
      by_cases c : xs.length = n
      · refine ifF (by rw [decide_eq_true c]; rfl) ?_
        have ei : ∀ b1 b2 : Bool, (b1 && b2) = (if b1 = true then b2 else false) := fun b1 b2 => by cases b1 <;> rfl
        refine ⟨_, rfl, a, rfl, ⟨_, S⟩, fun D nD => ?_⟩
        refine lc_tpl (fun x => .bl (isB x 0 ((n : Int) - 1))) S nD (Nat.le_of_lt (small1000 (by omega))) ?_ ?_
        · intro x acc hx Q' q'
          obtain ⟨kn, hk⟩ := m x hx
          exact ⟨_, rfl, _, rfl, _, _, rfl, rfl, x, kn, _, _, rfl, hk.same (same_new nD), q'⟩
        refine ⟨D, xs.map fun x => isB x 0 ((n : Int) - 1), rfl, .inl (.inl (Eq.trans upd_same (by rw [List.map_map]; rfl))), ?_⟩
        refine ⟨_, rfl, ?_⟩
        have S1 : Same H (upd H D (.lst (xs.map fun x => V.bl (isB x 0 ((n : Int) - 1))))) := same_new nD
        generalize upd H D _ = H1 at S1 ⊢
        cases e : (xs.map fun x => isB x 0 ((n : Int) - 1)).all id with
        | false =>
          have q' := q H1 S1
          rw [show isArr n (some xs) = false from (by rw [isArr_some, e]; simp)] at q'
          exact q'
        | true =>
          have back := ints_back e
          have S2 := same_sqt S1 S
          rw [back] at S2
          refine ⟨_, rfl, a, xs.map toI, rfl, S2, by rw [List.length_map]; omega, fun t k ft hk le => ?_⟩
          refine ⟨t, _, k, rfl, upd_same, ?_⟩
          refine ⟨_, rfl, rfl, ?_⟩
          have q' := q (upd H1 t (.set (fun j => decide (j ∈ xs.map toI)) k)) (S1.trans (same_new ft))
          rw [show isArr n (some xs) = decide (V.int (k : Int) = V.int (n : Int)) from (by
            rw [List.length_map, c] at hk
            rw [dInt]
            rw [isArr_some, e, decide_eq_true c, Bool.true_and, Bool.true_and]
            exact decide_eq_decide.mpr (by rw [← hk]; omega))] at q'
          exact q'
      · refine ifT (by rw [decide_eq_false c]; rfl) ?_
        have q' := q H (Same.refl H)
        rw [show isArr n (some xs) = false from (by rw [isArr_some, decide_eq_false c]; rfl)] at q'
        exact q'
def spIsMove (K : PySem.W.Frag) : Sp := fun vs H Q _ => ∃ (n : Nat) (x : V) (o : Option (List V)), vs = [.int (n : Int), x] ∧ Rv K H x o ∧ 1 ≤ n ∧ n ≤ 24 ∧ ∀ H', Same H H' → Q (.bl (isArr n o)) H'
theorem scIsMove : FnScope ["places", "value"] ["places", "value"] (defScope sIsMove) :=
  ⟨rfl, rfl, rfl, by decide +kernel, rfl, by decide +kernel, by decide +kernel⟩
theorem dIsMove (T : Tx K mg) (DNeedPlaces : Def P w K mg base CX0 4 "need_places" ["places"] (spNeedPlaces K)) (DIsArrangement : Def P w K mg base CX0 3 "is_arrangement" ["size", "value"] (spArr K)) : Def P w K mg base CX0 5 "is_move" ["places", "value"] (spIsMove K) := by
  refine T.t_is_move.def_ (N := ["places", "value"]) scIsMove (fun _ _ _ _ _ _ us hl => match us, hl with | [_, _], _ => rfl) ?_ ?_
  · intro vs H Q E h
    obtain ⟨n, x, o, rfl, _⟩ := h
    rfl
  · intro f cd A out s H vs Q E hr h
    have hr1 : Rm 4 _ := hr.le (by decide)
    obtain ⟨n, x, o, rfl, hv, h1, h2, q⟩ := h
    refine ⟨_, (pss_cons (ps_expr (pe_d DNeedPlaces (hr1.le (by decide)) pass0 (pa_cons (pv 0) pa_nil)))
      (pss_one (ps_ret (pe_d DIsArrangement (hr1.le (by decide)) pass0 (pa_cons (pv 0) (pa_cons (pv 1) pa_nil)))))), ?_⟩
    exact ⟨_, rfl, n, rfl, h1, h2, _, rfl, _, rfl, n, x, o, rfl, hv, by omega, q⟩
/-- a move -/
def Mv (m : List Nat) : Prop := m.Nodup ∧ (∀ k ∈ m, k < m.length) ∧ 1 ≤ m.length ∧ m.length ≤ 24
theorem rv_mv {H : Hp} {a : Addr} {m : List Nat} (h : SqT K H a (mv m)) : Rv K H (.ref a) (some (mv m)) := .yes h fun y hy => by
  obtain ⟨k, _, rfl⟩ := List.mem_map.mp hy
  exact ⟨_, .int _⟩
theorem arr_mv {m : List Nat} (h : Mv m) : isArr m.length (some (mv m)) = true := by
  rw [isArr_some, decide_eq_true (mv_len m), Bool.true_and]
  have e : (mv m).map toI = m.map fun (k : Nat) => (k : Int) := by
    unfold mv
    rw [List.map_map]
    rfl
  have nd : ((mv m).map toI).Nodup := by
    rw [e]
    refine List.Pairwise.map _ (fun a b z => ?_) h.1
    omega
  rw [decide_eq_true nd, Bool.and_true, List.all_map, List.all_eq_true]
  intro x hx
  obtain ⟨k, hk, rfl⟩ := List.mem_map.mp hx
  have := h.2.1 k hk
  show (decide (0 ≤ (k : Int)) && decide ((k : Int) ≤ (m.length : Int) - 1)) = true
  rw [decide_eq_true (by omega), decide_eq_true (by omega)]
  rfl
def spNeedMove (K : PySem.W.Frag) : Sp := fun vs H Q _ => ∃ a m, vs = [.ref a] ∧ SqT K H a (mv m) ∧ Mv m ∧ ∀ H', Same H H' → Q .non H'
theorem scNeedMove : FnScope ["move"] ["move"] (defScope sNeedMove) :=
  ⟨rfl, rfl, rfl, by decide +kernel, rfl, by decide +kernel, by decide +kernel⟩
theorem dNeedMove (T : Tx K mg) (DIsArrangement : Def P w K mg base CX0 3 "is_arrangement" ["size", "value"] (spArr K)) : Def P w K mg base CX0 4 "_need_move" ["move"] (spNeedMove K) := by
  refine T.t_need_move.def_ (N := ["move"]) scNeedMove (fun _ _ _ _ _ _ us hl => match us, hl with | [_], _ => rfl) ?_ ?_
  · intro vs H Q E h
    obtain ⟨a, m, rfl, _⟩ := h
    rfl
  · intro f cd A out s H vs Q E hr h
    have hr1 : Rm 3 _ := hr.le (by decide)
    obtain ⟨a, m, rfl, S, hm, q⟩ := h
    refine ⟨_, (pss_cons (ps_if (PW.pt (pw_or (pt_not (pt_val (pe_callB (cr_is .tup) rfl T.f_isinstance (by decide +kernel) (pa_cons (pv 0) (pa_cons (pe_ty .tup T.f_tuple (by decide +kernel)) pa_nil))))) (pw_or1 (pt_not (pt_chain op_le op_le pe_int (pe_callB call_len_seq rfl T.f_len (by decide +kernel) (pa_cons (pv 0) pa_nil)) (C8.pe_gc rfl T.c_MAX_PLACES)))))) (pss_one ps_never) pss_nil)
      (pss_one (ps_if (pt_not (pt_val (pe_d DIsArrangement (hr1.le (by decide)) pass0 (pa_cons (pe_callB call_len_seq rfl T.f_len (by decide +kernel) (pa_cons (pv 0) pa_nil)) (pa_cons (pv 0) pa_nil))))) (pss_one ps_never) pss_nil))), ?_⟩
    refine ⟨_, rfl, _, _, rfl, .tup S, _, rfl, ?_⟩
    refine ifF rfl ?_
    have l1 : 1 ≤ (mv m).length := by rw [mv_len]; exact hm.2.2.1
    have l2 : (mv m).length ≤ 24 := by rw [mv_len]; exact hm.2.2.2
    refine ⟨_, rfl, _, _, rfl, .inr S, _, _, rfl, rfl, _, rfl, ?_⟩
    refine ifT (decide_eq_true (by omega)) ?_
    refine ⟨_, _, rfl, rfl, _, rfl, ?_⟩
    refine ifF ?_ ?_
    · show (!decide (((mv m).length : Int) ≤ 24)) = false
      rw [decide_eq_true (by omega)]
      rfl
    refine ⟨_, rfl, _, _, rfl, .inr S, _, rfl, (mv m).length, _, _, rfl, rv_mv S, by omega, fun H' sm => ?_⟩
    refine ⟨_, rfl, ?_⟩
    refine ifF ?_ (q H' sm)
    rw [mv_len, arr_mv hm]
    rfl
def spNeedPair (K : PySem.W.Frag) : Sp := fun vs H Q _ => ∃ a b m l, vs = [.ref a, .ref b] ∧ SqT K H a (mv m) ∧ SqT K H b (mv l) ∧ Mv m ∧ Mv l ∧ m.length = l.length ∧ ∀ H', Same H H' → Q .non H'
theorem scNeedPair : FnScope ["one", "other"] ["one", "other"] (defScope sNeedPair) :=
  ⟨rfl, rfl, rfl, by decide +kernel, rfl, by decide +kernel, by decide +kernel⟩
theorem dNeedPair (T : Tx K mg) (DNeedMove : Def P w K mg base CX0 4 "_need_move" ["move"] (spNeedMove K)) : Def P w K mg base CX0 5 "_need_pair" ["one", "other"] (spNeedPair K) := by
  refine T.t_need_pair.def_ (N := ["one", "other"]) scNeedPair (fun _ _ _ _ _ _ us hl => match us, hl with | [_, _], _ => rfl) ?_ ?_
  · intro vs H Q E h
    obtain ⟨a, b, m, l, rfl, _⟩ := h
    rfl
  · intro f cd A out s H vs Q E hr h
    have hr1 : Rm 4 _ := hr.le (by decide)
    obtain ⟨a, b, m, l, rfl, Sa, Sb, hm, hl, eq, q⟩ := h
    refine ⟨_, (pss_cons (ps_expr (pe_d DNeedMove (hr1.le (by decide)) pass0 (pa_cons (pv 0) pa_nil)))
      (pss_cons (ps_expr (pe_d DNeedMove (hr1.le (by decide)) pass0 (pa_cons (pv 1) pa_nil)))
      (pss_one (ps_if (pt_cmpR op_ne (pe_callB call_len_seq rfl T.f_len (by decide +kernel) (pa_cons (pv 0) pa_nil)) (pe_callB call_len_seq rfl T.f_len (by decide +kernel) (pa_cons (pv 1) pa_nil)) (nomark _)) (pss_one ps_never) pss_nil)))), ?_⟩
    refine ⟨_, rfl, a, m, rfl, Sa, hm, fun H1 s1 => ?_⟩
    refine ⟨_, rfl, b, l, rfl, same_sqt s1 Sb, hl, fun H2 s2 => ?_⟩
    have s3 := s1.trans s2
    refine ⟨_, rfl, _, _, rfl, .inr (same_sqt s3 Sa), _, rfl, _, _, rfl, .inr (same_sqt s3 Sb), rfl, _, rfl, ?_⟩
    refine ifF ?_ (q _ s3)
    show (!decide (V.int ((mv m).length : Int) = V.int ((mv l).length : Int))) = false
    rw [mv_len, mv_len, eq, decide_eq_true rfl]
    rfl
def spProduct (K : PySem.W.Frag) : Sp := fun vs H Q _ => ∃ a b m l, vs = [.ref a, .ref b] ∧ SqT K H a (mv m) ∧ SqT K H b (mv l) ∧ Mv m ∧ Mv l ∧ m.length = l.length ∧ ∀ H' t, Same H H' → SqT K H' t (mv (comp m l)) → Q (.ref t) H'
theorem scProductOf : FnScope ["one", "other"] ["one", "other"] (defScope sProductOf) :=
  ⟨rfl, rfl, rfl, by decide +kernel, rfl, by decide +kernel, by decide +kernel⟩
theorem dProductOf (T : Tx K mg) (DNeedPair : Def P w K mg base CX0 5 "_need_pair" ["one", "other"] (spNeedPair K)) (DFollowed : Def P w K mg base CX0 1 "followed" ["one", "other"] (spComp K)) : Def P w K mg base CX0 6 "product_of" ["one", "other"] (spProduct K) := by
  refine T.t_product_of.def_ (N := ["one", "other"]) scProductOf (fun _ _ _ _ _ _ us hl => match us, hl with | [_, _], _ => rfl) ?_ ?_
  · intro vs H Q E h
    obtain ⟨a, b, m, l, rfl, _⟩ := h
    rfl
  · intro f cd A out s H vs Q E hr h
    have hr1 : Rm 5 _ := hr.le (by decide)
    obtain ⟨a, b, m, l, rfl, Sa, Sb, hm, hl, eq, q⟩ := h
    refine ⟨_, (pss_cons (ps_expr (pe_d DNeedPair (hr1.le (by decide)) pass0 (pa_cons (pv 0) (pa_cons (pv 1) pa_nil))))
      (pss_one (ps_ret (pe_d DFollowed (hr1.le (by decide)) pass0 (pa_cons (pv 0) (pa_cons (pv 1) pa_nil)))))), ?_⟩
    refine ⟨_, rfl, _, rfl, a, b, m, l, rfl, Sa, Sb, hm, hl, eq, fun H1 s1 => ?_⟩
    exact ⟨_, rfl, _, rfl, a, b, m, l, rfl, same_sqt s1 Sa, same_sqt s1 Sb, by have := hl.2.2.2; omega, fun k hk => by rw [eq]; exact hl.2.1 k hk, fun H2 t s2 S => q H2 t (s1.trans s2) S⟩
def spUndone (K : PySem.W.Frag) : Sp := fun vs H Q _ => ∃ a m, vs = [.ref a] ∧ SqT K H a (mv m) ∧ Mv m ∧ ∀ H' t, Same H H' → SqT K H' t (mv (back m)) → Q (.ref t) H'
theorem scUndone : FnScope ["move"] ["move"] (defScope sUndone) :=
  ⟨rfl, rfl, rfl, by decide +kernel, rfl, by decide +kernel, by decide +kernel⟩
theorem dUndone (T : Tx K mg) (DNeedMove : Def P w K mg base CX0 4 "_need_move" ["move"] (spNeedMove K)) (DTurnedBack : Def P w K mg base CX0 1 "turned_back" ["move"] (spBack K)) : Def P w K mg base CX0 5 "undone" ["move"] (spUndone K) := by
  refine T.t_undone.def_ (N := ["move"]) scUndone (fun _ _ _ _ _ _ us hl => match us, hl with | [_], _ => rfl) ?_ ?_
  · intro vs H Q E h
    obtain ⟨a, m, rfl, _⟩ := h
    rfl
  · intro f cd A out s H vs Q E hr h
    have hr1 : Rm 4 _ := hr.le (by decide)
    obtain ⟨a, m, rfl, S, hm, q⟩ := h
    refine ⟨_, (pss_cons (ps_expr (pe_d DNeedMove (hr1.le (by decide)) pass0 (pa_cons (pv 0) pa_nil)))
      (pss_one (ps_ret (pe_d DTurnedBack (hr1.le (by decide)) pass0 (pa_cons (pv 0) pa_nil))))), ?_⟩
    refine ⟨_, rfl, a, m, rfl, S, hm, fun H1 s1 => ?_⟩
    exact ⟨_, rfl, a, m, rfl, same_sqt s1 S, by have := hm.2.2.2; omega, hm.2.1, fun H2 t s2 S => q H2 t (s1.trans s2) S⟩
end
end K06


set_option Elab.async false
set_option linter.all false
set_option maxRecDepth 100000
set_option maxHeartbeats 2000000
namespace K06
open PySem PySem.Spec PyProof.Rows L2 MM
/-! own words for the readings: a step, its side -/
local macro_rules | `(tactic| walk_at "side") => `(tactic| first
  | omega
  | exact ⟨by omega, by omega⟩
  | exact Or.inl ⟨by omega, by omega⟩
  | exact Or.inr ⟨by omega, by omega⟩
  | (show CPw _ _; decide +kernel)
  | (show (0 : Int) < _; decide +kernel)
  | (show CDivW _ _; first | assumption | exact ⟨by decide, by decide +kernel⟩))
local macro_rules | `(tactic| walk_at "here") => `(tactic| first
  | assumption
  | exact upd_same
  | exact Or.inl (Or.inl upd_same)
  | exact Or.inl upd_same)
local macro_rules | `(tactic| walk_at "one") => `(tactic| first
  | refine ⟨_, rfl, ?_⟩
  | refine Or.inl ⟨_, rfl, ?_⟩
  | refine Or.inr ⟨_, rfl, ?_⟩
  | refine ⟨_, _, rfl, rfl, (by walk_at "side"), ?_⟩
  | refine ⟨_, _, rfl, rfl, ?_⟩
  | refine ⟨_, _, rfl, Or.inl (by walk_at "here"), ?_⟩
  | refine ⟨_, _, rfl, Or.inr (by walk_at "here"), ?_⟩
  | refine ⟨_, _, rfl, (by walk_at "here"), ?_⟩
  | refine ⟨_, _, _, _, rfl, rfl, (by walk_at "here"), rfl, ?_⟩
  | refine ⟨_, _, rfl, ?_⟩
  | refine ifT (by rfl) ?_
  | refine ifF (by rfl) ?_
  | refine ifT (decide_eq_true (by omega)) ?_
  | refine ifF (decide_eq_false (by omega)) ?_)
local macro_rules | `(tactic| walk_at "st") => `(tactic| repeat (walk_at "one"))

section
variable {P : Program} {w : World} {K : PySem.W.Frag} {mg : Str → Option Value} {base : Heap}
/-- a heap that differs in the bag, and in new objects -/
structure Upto (p : Addr) (H H' : Hp) : Prop where
  same : ∀ b o, b ≠ p → H b = some o → H' b = some o
  bag : BagAt H' p
theorem Upto.refl {p : Addr} {H : Hp} (h : BagAt H p) : Upto p H H := ⟨fun _ _ _ e => e, h⟩
theorem Upto.draw {p : Addr} {H H' : Hp} {a b c : Int} (h : Upto p H H') : Upto p H (upd H' p (.lst [.int a, .int b, .int c])) :=
  ⟨fun x o n e => by rw [upd_ne n]; exact h.same x o n e, ⟨a, b, c, upd_same⟩⟩
theorem Upto.new {p t : Addr} {H H' : Hp} {o : HO} (h : Upto p H H') (f : H' t = none) : Upto p H (upd H' t o) := by
  obtain ⟨a, b, c, e⟩ := h.bag
  exact ⟨fun x y n e => by rw [upd_ne (ne_of_none (h.same x y n e) f)]; exact h.same x y n e, ⟨a, b, c, by rw [upd_ne (ne_of_none e f)]; exact e⟩⟩
theorem Upto.trans {p : Addr} {H H' H2 : Hp} (h : Upto p H H') (k : Upto p H' H2) : Upto p H H2 := ⟨fun x o n e => k.same x o n (h.same x o n e), k.bag⟩
theorem Upto.keep {p : Addr} {H H' H2 : Hp} (h : Upto p H H') (k : Same H' H2) : Upto p H H2 := by
  obtain ⟨a, b, c, e⟩ := h.bag
  exact ⟨fun x o n e => k x o (h.same x o n e), ⟨a, b, c, k _ _ e⟩⟩
theorem Upto.sqt {p a : Addr} {H H' : Hp} {xs : List V} (h : Upto p H H') (s : SqT K H a xs) (ne : a ≠ p) : SqT K H' a xs := by
  rcases s with (s | ⟨o, s⟩) | s
  · exact .inl (.inl (h.same _ _ ne s))
  · exact .inl (.inr ⟨o, h.same _ _ ne s⟩)
  · exact .inr s
theorem Upto.sql {p a : Addr} {H H' : Hp} {xs : List V} (h : Upto p H H') (s : SqL K H a xs) (ne : a ≠ p) : SqL K H' a xs := by
  rcases s with (s | ⟨o, s⟩) | s
  · exact .inl (.inl (h.same _ _ ne s))
  · exact .inl (.inr ⟨o, h.same _ _ ne s⟩)
  · exact .inr s
theorem Upto.free {p t : Addr} {H H' : Hp} (h : Upto p H H') (f : H' t = none) : t ≠ p ∧ H t = none := by
  obtain ⟨a, b, c, e⟩ := h.bag
  have n : t ≠ p := fun z => by rw [z, e] at f; cases f
  refine ⟨n, ?_⟩
  cases z : H t with
  | none => rfl
  | some o =>
    have := h.same t o n z
    rw [f] at this
    cases this
theorem Upto.put {p t : Addr} {H H' : Hp} {o : HO} (h : Upto p H H') (n : t ≠ p) (f : H t = none) : Upto p H (upd H' t o) := by
  obtain ⟨a, b, c, e⟩ := h.bag
  exact ⟨fun x y m e => by rw [upd_ne (ne_of_none e f)]; exact h.same x y m e, ⟨a, b, c, by rw [upd_ne n.symm]; exact e⟩⟩
theorem bag_ne {H : Hp} {p l : Addr} {x : HO} (e : H p = some x) (f : H l = none) : l ≠ p := fun z => by rw [z, e] at f; cases f
theorem pick_perm {α : Type} : ∀ (l : List α) (k : Nat) (h : k < l.length), (l[k] :: l.eraseIdx k).Perm l
  | _ :: _, 0, _ => .refl _
  | a :: r, k + 1, h => by
    show (r[k]'(by simpa using h) :: a :: r.eraseIdx k).Perm (a :: r)
    exact (List.Perm.swap _ _ _).trans (List.Perm.cons a (pick_perm r k (by simpa using h)))
def spMixed (K : PySem.W.Frag) : Sp := fun vs H Q _ => ∃ (p l : Addr) (xs : List V), vs = [.ref p, .ref l] ∧ BagAt H p ∧ SqL K H l xs ∧ l ≠ p ∧ xs.length ≤ 1000 ∧
  ∀ H' t ys, Upto p H H' → H t = none → ys.Perm xs → H' t = some (.lst ys) → Q (.ref t) H'
theorem scMixedL : FnScope ["_law_bag_here", "_law_items", "_law_waits", "_law_turn"] ["_law_bag_here", "_law_items"] (defScope sMixedL) :=
  ⟨rfl, rfl, rfl, by decide +kernel, rfl, by decide +kernel, by decide +kernel⟩
theorem dMixedL (T : Tx K mg) (DGrabL : Def P w K mg base CX0 1 "_law_grab" ["_law_bag_here", "_law_total"] spGrab) : Def P w K mg base CX0 2 "_law_mixed" ["_law_bag_here", "_law_items"] (spMixed K) := by
  refine T.t_law_mixed.def_ (N := ["_law_bag_here", "_law_items", "_law_waits", "_law_turn"]) scMixedL (fun _ _ _ _ _ _ us hl => match us, hl with | [_, _], _ => rfl) ?_ ?_
  · intro vs H Q E h
    obtain ⟨p, l, xs, rfl, _⟩ := h
    rfl
  · intro f cd A out s H vs Q E hr h
    have hr1 : Rm 1 _ := hr.le (by decide)
    obtain ⟨p, l, xs, rfl, hb, S, ne, len, q⟩ := h
    obtain ⟨b1, b2, b3, eb⟩ := hb
    refine ⟨_, (pss_cons (ps_set (i := 2) scMixedL.nd rfl (Or.inr rfl) (pe_callTy call_list_of rfl T.f_list (by decide +kernel) (pa_cons (pv 1) pa_nil)))
      (pss_one (ps_ret (pe_lc (own := [("_law_turn", 3)]) (g := gName 3) (tt := tYes) rfl scMixedL.nd (pi_range1 rfl T.f_range (pa_cons (pe_callB call_len_seq rfl T.f_len (by decide +kernel) (pa_cons (pv 1) pa_nil)) pa_nil)) (blkOk_by (N := ["_law_bag_here", "_law_items", "_law_waits", "_law_turn"]) (sc := defScope sMixedL) (by decide +kernel)) (fun _ _ _ _ _ => pg_name (i := 3) scMixedL.nd rfl (Or.inl rfl)) (fun _ _ _ _ _ => pts_nil) (fun _ _ _ _ _ => (show PE _ _ (tBM K "list" rPopAt _ _) from pe_bm PySem.F.plainAttrs_list PySem.F.slot_list_pop PySem.F.type_list_pop mt_popAt (pv 2) (pa_cons (pe_d DGrabL (hr1.le (by decide)) pass0 (pa_cons (pv 0) (pa_cons (pe_callB (cr_lenK (K := K) rfl) rfl T.f_len (by decide +kernel) (pa_cons (pv 2) pa_nil)) pa_nil))) pa_nil))))))), ?_⟩
    refine ⟨_, rfl, l, xs, rfl, .inl S, fun W nW => ?_⟩
    have up := (Upto.refl ⟨_, _, _, eb⟩).new (o := .lst xs) nW
    have hW : (upd H W (.lst xs)) W = some (.lst xs) := upd_same
    have S1 : SqL K (upd H W (.lst xs)) l xs := sql_new S nW
    have Wp : W ≠ p := bag_ne eb nW
    generalize upd H W _ = H1 at up hW S1 ⊢
    refine ⟨_, rfl, l, xs, rfl, .inl S1, xs.length, rfl, by omega, by omega, fun D nD => ?_⟩
    obtain ⟨Dp, fD⟩ := up.free nD
    have DW : D ≠ W := (ne_of_none hW nD).symm
    refine lc_range (Pv := fun i H4 => Upto p H H4 ∧ ∃ ws ys : List V, H4 W = some (.lst ws) ∧ H4 D = some (.lst ys) ∧ (ys ++ ws).Perm xs ∧ ys.length = i)
      ⟨up.new nD, xs, [], (upd_ne DW.symm).trans hW, upd_same, .refl _, rfl⟩ ?_ ?_
    · rintro i H4 hi ⟨up4, ws, ys, h4, h5, pm, ln⟩
      refine ⟨wipe_one, yes_ ?_⟩
      obtain ⟨c1, c2, c3, ec⟩ := up4.bag
      have tot : ys.length + ws.length = xs.length := by rw [← List.length_append]; exact pm.length_eq
      have wl : 0 < ws.length := by
        have : i < xs.length := by simpa using hi
        omega
      refine ⟨_, rfl, ?_, _, rfl, _, rfl, W, ws, rfl, .inl (.inl (.inl h4)), ?_⟩
      · exact .inl ⟨rfl, ws, .inl (.inl h4)⟩
      refine ⟨p, (ws.length : Int), c1, c2, c3, rfl, ec, div_small wl (by omega), fun r g' m' c' r0 r1 => ?_⟩
      have rl : r.toNat < ws.length := by omega
      have er : ((r.toNat : Nat) : Int) = r := by omega
      refine ⟨W, ws, r, r.toNat, ws[r.toNat], rfl, rfl, (upd_ne Wp).trans h4, by omega, by omega, ?_, List.getElem?_eq_getElem rl, ?_⟩
      · have := (ixN_seq (ixN_lt rl)).1
        rw [er] at this
        exact this
      refine ⟨ys, (upd_ne DW).trans ((upd_ne Dp).trans h5), ?_, (up4.draw.put Wp nW).put Dp fD, ws.eraseIdx r.toNat, ys ++ [ws[r.toNat]], (upd_ne DW.symm).trans upd_same, upd_same, ?_, by rw [List.length_append, ln]; rfl⟩
      · exact Nat.lt_of_le_of_lt (by omega) (small1000 (n := 1000) (by omega))
      · refine List.Perm.trans ?_ pm
        rw [List.append_assoc]
        exact List.Perm.append_left ys (pick_perm ws r.toNat rl)
    · rintro H4 ⟨up4, ws, ys, h4, h5, pm, ln⟩
      refine q H4 D ys up4 fD ?_ h5
      have tot : ys.length + ws.length = xs.length := by rw [← List.length_append]; exact pm.length_eq
      have e : ws = [] := List.eq_nil_of_length_eq_zero (by
        have : (xs.length : Int).toNat = xs.length := Int.toNat_natCast _
        omega)
      rw [e, List.append_nil] at pm
      exact pm
theorem mv_range_perm {ys : List V} {n : Nat} (h : ys.Perm (mv (List.range n))) : ∃ m, ys = mv m ∧ m.Perm (List.range n) := by
  refine ⟨ys.map fun | .int i => i.toNat | _ => 0, ?_, ?_⟩
  · unfold mv
    rw [List.map_map]
    have : ∀ y ∈ ys, ((fun (k : Nat) => V.int (k : Int)) ∘ fun | V.int i => i.toNat | _ => 0) y = y := by
      intro y hy
      obtain ⟨k, _, rfl⟩ := List.mem_map.mp (h.mem_iff.mp hy)
      rfl
    exact ((List.map_congr_left (g := id) this).trans (List.map_id ys)).symm
  · have := h.map fun | V.int i => i.toNat | _ => 0
    refine this.trans ?_
    unfold mv
    rw [List.map_map]
    exact .of_eq (List.map_id' _)
theorem mv_of_perm {m : List Nat} {n : Nat} (h : m.Perm (List.range n)) (h1 : 1 ≤ n) (h2 : n ≤ 24) : Mv m ∧ m.length = n := by
  have ln : m.length = n := by rw [h.length_eq, List.length_range]
  refine ⟨⟨h.nodup_iff.mpr List.nodup_range, fun k hk => ?_, by omega, by omega⟩, ln⟩
  rw [ln]
  exact List.mem_range.mp (h.mem_iff.mp hk)
def spSome (K : PySem.W.Frag) : Sp := fun vs H Q _ => ∃ (p : Addr) (n : Nat), vs = [.ref p, .int (n : Int)] ∧ BagAt H p ∧ 1 ≤ n ∧ n ≤ 24 ∧ ∀ H' t m, Upto p H H' → t ≠ p → SqT K H' t (mv m) → Mv m → m.length = n → Q (.ref t) H'
end
end K06


set_option Elab.async false
set_option linter.all false
set_option maxRecDepth 100000
set_option maxHeartbeats 2000000
namespace K06
open PySem PySem.Spec PyProof.Rows L2 MM
/-! own words for the readings: a step, its side -/
local macro_rules | `(tactic| walk_at "side") => `(tactic| first
  | omega
  | exact ⟨by omega, by omega⟩
  | exact Or.inl ⟨by omega, by omega⟩
  | exact Or.inr ⟨by omega, by omega⟩
  | (show CPw _ _; decide +kernel)
  | (show (0 : Int) < _; decide +kernel)
  | (show CDivW _ _; first | assumption | exact ⟨by decide, by decide +kernel⟩))
local macro_rules | `(tactic| walk_at "here") => `(tactic| first
  | assumption
  | exact upd_same
  | exact Or.inl (Or.inl upd_same)
  | exact Or.inl upd_same)
local macro_rules | `(tactic| walk_at "one") => `(tactic| first
  | refine ⟨_, rfl, ?_⟩
  | refine Or.inl ⟨_, rfl, ?_⟩
  | refine Or.inr ⟨_, rfl, ?_⟩
  | refine ⟨_, _, rfl, rfl, (by walk_at "side"), ?_⟩
  | refine ⟨_, _, rfl, rfl, ?_⟩
  | refine ⟨_, _, rfl, Or.inl (by walk_at "here"), ?_⟩
  | refine ⟨_, _, rfl, Or.inr (by walk_at "here"), ?_⟩
  | refine ⟨_, _, rfl, (by walk_at "here"), ?_⟩
  | refine ⟨_, _, _, _, rfl, rfl, (by walk_at "here"), rfl, ?_⟩
  | refine ⟨_, _, rfl, ?_⟩
  | refine ifT (by rfl) ?_
  | refine ifF (by rfl) ?_
  | refine ifT (decide_eq_true (by omega)) ?_
  | refine ifF (decide_eq_false (by omega)) ?_)
local macro_rules | `(tactic| walk_at "st") => `(tactic| repeat (walk_at "one"))

section
variable {P : Program} {w : World} {K : PySem.W.Frag} {mg : Str → Option Value} {base : Heap}
def gcdL (ns : List Int) : Nat := ns.foldl (fun g n => Nat.gcd g n.natAbs) 0
theorem gcdL_more {ns : List Int} {i : Nat} {n : Int} (h : ns[i]? = some n) : gcdL (ns.take (i + 1)) = Nat.gcd (gcdL (ns.take i)) n.natAbs := by
  unfold gcdL
  rw [List.take_add_one, h, List.foldl_append]
  rfl
theorem abs_nat (n : Int) : (if n < 0 then -n else n) = ((n.natAbs : Nat) : Int) := by
  split <;> omega
theorem map_int {ns : List Int} {i : Nat} {x : V} (h : (ns.map V.int)[i]? = some x) : ∃ n, ns[i]? = some n ∧ x = V.int n := by
  rw [List.getElem?_map] at h
  cases e : ns[i]? with
  | none =>
    rw [e] at h
    cases h
  | some n =>
    rw [e] at h
    exact ⟨n, rfl, (Option.some.inj h).symm⟩
def spShare (K : PySem.W.Frag) : Sp := fun vs H Q _ => ∃ a ns, vs = [.ref a] ∧ SqL K H a (ns.map V.int) ∧ Q (.int (gcdL ns : Nat)) H
def lcmL (ns : List Nat) : Nat := ns.foldl Nat.lcm 1
theorem lcmL_more {ns : List Nat} {i n : Nat} (h : ns[i]? = some n) : lcmL (ns.take (i + 1)) = Nat.lcm (lcmL (ns.take i)) n := by
  unfold lcmL
  rw [List.take_add_one, h, List.foldl_append]
  rfl
theorem share_eq (L k : Nat) : gcdL [(L : Int), (k : Int)] = Nat.gcd L k := by
  show Nat.gcd (Nat.gcd 0 (L : Int).natAbs) (k : Int).natAbs = _
  rw [Nat.gcd_zero_left, Int.natAbs_natCast, Int.natAbs_natCast]
theorem share_bd (L : Nat) {k : Nat} (h : 1 ≤ k) : 0 < gcdL [(L : Int), (k : Int)] ∧ gcdL [(L : Int), (k : Int)] ≤ k := by
  rw [share_eq]
  exact ⟨Nat.gcd_pos_of_pos_right _ h, Nat.gcd_le_right _ h⟩
theorem share_step (L k : Nat) : (L : Int) / ((gcdL [(L : Int), (k : Int)] : Nat) : Int) * (k : Int) = ((Nat.lcm L k : Nat) : Int) := by
  rw [share_eq, ← Int.natCast_ediv, ← Int.natCast_mul, Nat.div_mul_right_comm (Nat.gcd_dvd_left L k)]
  rfl
def spMult (K : PySem.W.Frag) : Sp := fun vs H Q _ => ∃ a ns, vs = [.ref a] ∧ SqL K H a (mv ns) ∧ (∀ n ∈ ns, 1 ≤ n ∧ n ≤ 24) ∧ (∀ i, lcmL (ns.take i) < 2 ^ 63) ∧ ∀ H', Same H H' → Q (.int (lcmL ns : Nat)) H'
end
end K06


set_option Elab.async false
set_option linter.all false
namespace K06
/-! rings of a permutation -/
section
variable {f : Nat → Nat} {n : Nat}
/-- f moves the places below n, one to one -/
structure Pm (f : Nat → Nat) (n : Nat) : Prop where
  lt : ∀ k, k < n → f k < n
  inj : ∀ a b, a < n → b < n → f a = f b → a = b
def it (f : Nat → Nat) : Nat → Nat → Nat
  | 0, p => p
  | k + 1, p => f (it f k p)
theorem it_lt (h : Pm f n) {p : Nat} (hp : p < n) : ∀ k, it f k p < n
  | 0 => hp
  | k + 1 => h.lt _ (it_lt h hp k)
theorem it_add (f : Nat → Nat) (p : Nat) (b : Nat) : ∀ a, it f (a + b) p = it f a (it f b p)
  | 0 => by rw [Nat.zero_add]; rfl
  | a + 1 => by
    rw [Nat.succ_add]
    show f (it f (a + b) p) = f (it f a (it f b p))
    rw [it_add f p b a]
theorem it_inj (h : Pm f n) {a b : Nat} (ha : a < n) (hb : b < n) : ∀ k, it f k a = it f k b → a = b
  | 0, e => e
  | k + 1, e => it_inj h ha hb k (h.inj _ _ (it_lt h ha k) (it_lt h hb k) e)
theorem least {P : Nat → Prop} : ∀ n, P n → ∃ k, k ≤ n ∧ P k ∧ ∀ j, j < k → ¬ P j := by
  intro n
  induction n using Nat.strongRecOn with
  | ind n ih =>
    intro hn
    by_cases c : ∃ j, j < n ∧ P j
    · obtain ⟨j, lt, hj⟩ := c
      obtain ⟨k, le, hk, ho⟩ := ih j lt hj
      exact ⟨k, Nat.le_trans le (Nat.le_of_lt lt), hk, ho⟩
    · exact ⟨n, Nat.le_refl n, hn, fun j lt hj => c ⟨j, lt, hj⟩⟩
theorem back_home (h : Pm f n) {p : Nat} (hp : p < n) : ∃ k, 1 ≤ k ∧ k ≤ n ∧ it f k p = p := by
  by_cases c : ∃ i j, i < j ∧ j ≤ n ∧ it f i p = it f j p
  · obtain ⟨i, j, ij, jn, e⟩ := c
    refine ⟨j - i, by omega, by omega, ?_⟩
    have e2 : it f j p = it f i (it f (j - i) p) := by
      rw [← it_add f p (j - i) i, show i + (j - i) = j by omega]
    rw [e2] at e
    exact (it_inj h hp (it_lt h hp _) i e).symm
  · exfalso
    have nd : ((List.range (n + 1)).map fun k => it f k p).Nodup := by
      rw [List.Nodup, List.pairwise_map]
      refine List.Pairwise.imp_of_mem ?_ (List.pairwise_lt_range (n := n + 1))
      intro i j hi hj lt e
      exact c ⟨i, j, lt, by have := List.mem_range.mp hj; omega, e⟩
    have sub : ((List.range (n + 1)).map fun k => it f k p) ⊆ List.range n := by
      intro x hx
      obtain ⟨k, _, rfl⟩ := List.mem_map.mp hx
      exact List.mem_range.mpr (it_lt h hp k)
    have := nd.length_le_of_subset sub
    rw [List.length_map, List.length_range, List.length_range] at this
    omega
/-- the length of p's ring -/
theorem ring_len (h : Pm f n) {p : Nat} (hp : p < n) : ∃ L, 1 ≤ L ∧ L ≤ n ∧ it f L p = p ∧ ∀ k, 1 ≤ k → k < L → it f k p ≠ p := by
  obtain ⟨k, k1, kn, e⟩ := back_home h hp
  obtain ⟨L, le, ⟨l1, el⟩, no⟩ := least (P := fun k => 1 ≤ k ∧ it f k p = p) k ⟨k1, e⟩
  exact ⟨L, l1, by omega, el, fun j j1 jl e => no j jl ⟨j1, e⟩⟩
def ring (f : Nat → Nat) (p L : Nat) : List Nat := (List.range L).map fun k => it f k p
theorem ring_nodup (h : Pm f n) {p L : Nat} (hp : p < n) (no : ∀ k, 1 ≤ k → k < L → it f k p ≠ p) : (ring f p L).Nodup := by
  unfold ring
  rw [List.Nodup, List.pairwise_map]
  refine List.Pairwise.imp_of_mem ?_ (List.pairwise_lt_range (n := L))
  intro i j hi hj lt e
  have jl := List.mem_range.mp hj
  have e2 : it f j p = it f i (it f (j - i) p) := by
    rw [← it_add f p (j - i) i, show i + (j - i) = j by omega]
  rw [e2] at e
  exact no (j - i) (by omega) (by omega) (it_inj h hp (it_lt h hp _) i e).symm
theorem ring_step {p L k : Nat} (e : it f L p = p) (hk : k < L) : f ((ring f p L).getD k 0) = (ring f p L).getD ((k + 1) % L) 0 := by
  have g : ∀ j, j < L → (ring f p L).getD j 0 = it f j p := fun j hj => by
    unfold ring
    rw [List.getD, List.getElem?_map, List.getElem?_range hj]
    rfl
  have pos : 0 < L := by omega
  rw [g k hk, g _ (Nat.mod_lt _ pos)]
  by_cases c : k + 1 = L
  · rw [c, Nat.mod_self]
    show it f (k + 1) p = p
    rw [c, e]
  · rw [Nat.mod_eq_of_lt (by omega)]
    rfl
theorem ring_mem {p L x : Nat} : x ∈ ring f p L ↔ ∃ k, k < L ∧ x = it f k p := by
  unfold ring
  rw [List.mem_map]
  exact ⟨fun ⟨k, hk, e⟩ => ⟨k, List.mem_range.mp hk, e.symm⟩, fun ⟨k, hk, e⟩ => ⟨k, List.mem_range.mpr hk, e.symm⟩⟩
/-- a ring is closed, forward and back -/
theorem ring_closed (h : Pm f n) {p L : Nat} (hp : p < n) (pos : 1 ≤ L) (e : it f L p = p) {x : Nat} (hx : x < n) : f x ∈ ring f p L ↔ x ∈ ring f p L := by
  rw [ring_mem, ring_mem]
  constructor
  · rintro ⟨k, hk, ek⟩
    cases k with
    | zero =>
      refine ⟨L - 1, by omega, h.inj _ _ hx (it_lt h hp _) ?_⟩
      rw [ek]
      show p = it f (L - 1 + 1) p
      rw [show L - 1 + 1 = L by omega, e]
    | succ k => exact ⟨k, by omega, h.inj _ _ hx (it_lt h hp _) ek⟩
  · rintro ⟨k, hk, rfl⟩
    by_cases c : k + 1 = L
    · refine ⟨0, by omega, ?_⟩
      show it f (k + 1) p = p
      rw [c, e]
    · exact ⟨k + 1, by omega, rfl⟩
/-- the length of p's ring, reckoned -/
def lenOf (f : Nat → Nat) (n p : Nat) : Nat := ((List.range n).find? fun k => decide (it f (k + 1) p = p)).getD 0 + 1
theorem lenOf_ok (h : Pm f n) {p : Nat} (hp : p < n) : lenOf f n p ≤ n ∧ it f (lenOf f n p) p = p ∧ ∀ k, 1 ≤ k → k < lenOf f n p → it f k p ≠ p := by
  obtain ⟨L, l1, ln, e, no⟩ := ring_len h hp
  have found : (List.range n).find? (fun k => decide (it f (k + 1) p = p)) = some (L - 1) := by
    rw [List.find?_range_eq_some]
    refine ⟨?_, List.mem_range.mpr (by omega), fun j hj => ?_⟩
    · rw [show L - 1 + 1 = L by omega]
      exact decide_eq_true e
    · have := no (j + 1) (by omega) (by omega)
      simp [this]
  have el : lenOf f n p = L := by
    unfold lenOf
    rw [found]
    show L - 1 + 1 = L
    omega
  rw [el]
  exact ⟨ln, e, no⟩
def ringOf (f : Nat → Nat) (n p : Nat) : List Nat := ring f p (lenOf f n p)
theorem lenOf_pos (f : Nat → Nat) (n p : Nat) : 1 ≤ lenOf f n p := by unfold lenOf; omega
theorem ringOf_len (f : Nat → Nat) (n p : Nat) : (ringOf f n p).length = lenOf f n p := by
  unfold ringOf ring
  rw [List.length_map, List.length_range]
/-- the rings that begin below s -/
def ringsTo (f : Nat → Nat) (n : Nat) : Nat → List (List Nat)
  | 0 => []
  | s + 1 => if s ∈ (ringsTo f n s).flatten then ringsTo f n s else ringsTo f n s ++ [ringOf f n s]
/-- what holds of them: closed, each place once, all below n, every place below s -/
structure Good (f : Nat → Nat) (n s : Nat) (R : List (List Nat)) : Prop where
  closed : ∀ x, x < n → (f x ∈ R.flatten ↔ x ∈ R.flatten)
  once : R.flatten.Nodup
  below : ∀ x ∈ R.flatten, x < n
  all : ∀ x, x < s → x ∈ R.flatten
  each : ∀ r ∈ R, ∃ p, p < n ∧ r = ringOf f n p
theorem closed_it {S : List Nat} (h : Pm f n) (c : ∀ x, x < n → (f x ∈ S ↔ x ∈ S)) {p : Nat} (hp : p < n) : ∀ k, it f k p ∈ S ↔ p ∈ S
  | 0 => Iff.rfl
  | k + 1 => (c _ (it_lt h hp k)).trans (closed_it h c hp k)
theorem rings_good (h : Pm f n) : ∀ s, s ≤ n → Good f n s (ringsTo f n s)
  | 0, _ => ⟨fun x _ => by simp [ringsTo], by simp [ringsTo], by simp [ringsTo], fun x hx => by omega, by simp [ringsTo]⟩
  | s + 1, le => by
    have g := rings_good h s (by omega)
    have sn : s < n := le
    unfold ringsTo
    split
    · rename_i c
      refine ⟨g.closed, g.once, g.below, fun x hx => ?_, g.each⟩
      by_cases e : x = s
      · rw [e]
        exact c
      · exact g.all x (by omega)
    · rename_i c
      obtain ⟨ln, e, no⟩ := lenOf_ok h sn
      have pos := lenOf_pos f n s
      have fl : (ringsTo f n s ++ [ringOf f n s]).flatten = (ringsTo f n s).flatten ++ ringOf f n s := by simp
      refine ⟨fun x hx => ?_, ?_, ?_, fun x hx => ?_, fun r hr => ?_⟩
      · rw [fl, List.mem_append, List.mem_append, g.closed x hx]
        have := ring_closed h sn pos e hx
        exact or_congr Iff.rfl this
      · rw [fl, List.nodup_append]
        refine ⟨g.once, ring_nodup h sn no, fun a ha b hb z => ?_⟩
        subst z
        obtain ⟨k, _, rfl⟩ := ring_mem.mp hb
        exact c ((closed_it h g.closed sn k).mp ha)
      · rw [fl]
        intro x hx
        rcases List.mem_append.mp hx with hx | hx
        · exact g.below x hx
        · obtain ⟨k, _, rfl⟩ := ring_mem.mp hx
          exact it_lt h sn k
      · rw [fl]
        by_cases z : x = s
        · subst z
          exact List.mem_append_right _ (ring_mem.mpr ⟨0, pos, rfl⟩)
        · exact List.mem_append_left _ (g.all x (by omega))
      · rcases List.mem_append.mp hr with hr | hr
        · exact g.each r hr
        · exact ⟨s, sn, List.mem_singleton.mp hr⟩
def rings (f : Nat → Nat) (n : Nat) : List (List Nat) := ringsTo f n n
theorem it_times {p L : Nat} (e : it f L p = p) : ∀ q, it f (L * q) p = p
  | 0 => rfl
  | q + 1 => by
    rw [Nat.mul_succ, it_add, e]
    exact it_times e q
theorem it_mod {p L : Nat} (e : it f L p = p) (k : Nat) : it f k p = it f (k % L) p := by
  have h : k = k % L + L * (k / L) := (Nat.mod_add_div k L).symm
  have h2 : it f k p = it f (k % L) (it f (L * (k / L)) p) := by
    rw [← it_add, ← h]
  rw [h2, it_times e]
/-- the power e of f, where f's power M is the unit -/
def pwE (f : Nat → Nat) (M : Nat) (e : Int) (x : Nat) : Nat := it f (e % (M : Int)).toNat x
theorem ring_pow {p L M a : Nat} {e : Int} (eL : it f L p = p) (pos : 0 < L) (dv : L ∣ M) (pM : 0 < M) (ha : a < L) :
    (ring f p L).getD (((a : Int) + e) % (L : Int)).toNat 0 = pwE f M e (it f a p) := by
  have g : ∀ j, j < L → (ring f p L).getD j 0 = it f j p := fun j hj => by
    unfold ring
    rw [List.getD, List.getElem?_map, List.getElem?_range hj]
    rfl
  have m0 := Int.emod_nonneg ((a : Int) + e) (by omega : (L : Int) ≠ 0)
  have m1 := Int.emod_lt_of_pos ((a : Int) + e) (by omega : (0 : Int) < L)
  rw [g _ (by omega)]
  unfold pwE
  rw [← it_add, it_mod eL ((e % (M : Int)).toNat + a)]
  congr 1
  have e0 := Int.emod_nonneg e (by omega : (M : Int) ≠ 0)
  have key : (((e % (M : Int)).toNat + a : Nat) : Int) % (L : Int) = ((a : Int) + e) % (L : Int) := by
    rw [Int.natCast_add, Int.toNat_of_nonneg e0, Int.add_emod, Int.emod_emod_of_dvd e (Int.natCast_dvd_natCast.mpr dv), ← Int.add_emod, Int.add_comm]
  rw [← key, ← Int.natCast_emod, Int.toNat_natCast]
theorem pwE_add {M : Nat} (pM : 0 < M) {a b : Int} {x : Nat} (unit : it f M x = x) : pwE f M a (pwE f M b x) = pwE f M (a + b) x := by
  unfold pwE
  rw [← it_add, it_mod unit ((a % (M : Int)).toNat + (b % (M : Int)).toNat)]
  congr 1
  have a0 := Int.emod_nonneg a (by omega : (M : Int) ≠ 0)
  have b0 := Int.emod_nonneg b (by omega : (M : Int) ≠ 0)
  have key : (((a % (M : Int)).toNat + (b % (M : Int)).toNat : Nat) : Int) % (M : Int) = (a + b) % (M : Int) := by
    rw [Int.natCast_add, Int.toNat_of_nonneg a0, Int.toNat_of_nonneg b0, ← Int.add_emod]
  rw [← key, ← Int.natCast_emod, Int.toNat_natCast]
theorem pwE_zero (M : Nat) (x : Nat) : pwE f M 0 x = x := by
  unfold pwE
  rw [Int.zero_emod]
  rfl
theorem pwE_self {M x : Nat} : pwE f M (M : Int) x = x := by
  unfold pwE
  rw [Int.emod_self]
  rfl
end
end K06

set_option Elab.async false
set_option linter.all false
set_option maxRecDepth 100000
set_option maxHeartbeats 2000000
namespace K06
open PySem PySem.Spec PyProof.Rows L2 MM
/-! own words for the readings: a step, its side -/
local macro_rules | `(tactic| walk_at "side") => `(tactic| first
  | omega
  | exact ⟨by omega, by omega⟩
  | exact Or.inl ⟨by omega, by omega⟩
  | exact Or.inr ⟨by omega, by omega⟩
  | (show CPw _ _; decide +kernel)
  | (show (0 : Int) < _; decide +kernel)
  | (show CDivW _ _; first | assumption | exact ⟨by decide, by decide +kernel⟩))
local macro_rules | `(tactic| walk_at "here") => `(tactic| first
  | assumption
  | exact upd_same
  | exact Or.inl (Or.inl upd_same)
  | exact Or.inl upd_same)
local macro_rules | `(tactic| walk_at "one") => `(tactic| first
  | refine ⟨_, rfl, ?_⟩
  | refine Or.inl ⟨_, rfl, ?_⟩
  | refine Or.inr ⟨_, rfl, ?_⟩
  | refine ⟨_, _, rfl, rfl, (by walk_at "side"), ?_⟩
  | refine ⟨_, _, rfl, rfl, ?_⟩
  | refine ⟨_, _, rfl, Or.inl (by walk_at "here"), ?_⟩
  | refine ⟨_, _, rfl, Or.inr (by walk_at "here"), ?_⟩
  | refine ⟨_, _, rfl, (by walk_at "here"), ?_⟩
  | refine ⟨_, _, _, _, rfl, rfl, (by walk_at "here"), rfl, ?_⟩
  | refine ⟨_, _, rfl, ?_⟩
  | refine ifT (by rfl) ?_
  | refine ifF (by rfl) ?_
  | refine ifT (decide_eq_true (by omega)) ?_
  | refine ifF (decide_eq_false (by omega)) ?_)
local macro_rules | `(tactic| walk_at "st") => `(tactic| repeat (walk_at "one"))

section
variable {P : Program} {w : World} {K : PySem.W.Frag} {mg : Str → Option Value} {base : Heap}
/-- f of a move -/
def fn' (m : List Nat) : Nat → Nat := fun k => m.getD k 0
def Refs (K : PySem.W.Frag) (H : Hp) (vs : List V) (R : List (List Nat)) : Prop := Paired (fun v r => ∃ a, v = V.ref a ∧ SqT K H a (mv r)) vs R
theorem pm_of {m : List Nat} (h : Mv m) : Pm (fn' m) m.length := by
  have g : ∀ k, (hk : k < m.length) → fn' m k = m[k] := fun k hk => by
    unfold fn'
    rw [List.getD, List.getElem?_eq_getElem hk]
    rfl
  refine ⟨fun k hk => ?_, fun a b ha hb e => ?_⟩
  · rw [g k hk]
    exact h.2.1 _ (List.getElem_mem hk)
  · rw [g a ha, g b hb] at e
    by_cases c : a = b
    · exact c
    · exfalso
      have nd := List.pairwise_iff_getElem.mp h.1
      rcases Nat.lt_or_gt_of_ne c with lt | lt
      · exact nd a b ha hb lt e
      · exact nd b a hb ha lt e.symm
theorem flat_mv (l : List Nat) : (mv l).all flatV = true := by
  unfold mv
  rw [List.all_map, List.all_eq_true]
  intro x _
  rfl
theorem in_mv (l : List Nat) (k : Nat) : inV (.int (k : Int)) (mv l) = decide (k ∈ l) := by
  unfold inV mv
  rw [List.any_map]
  induction l with
  | nil => rfl
  | cons j r ih =>
    rw [List.any_cons, ih]
    have e : ((fun y => eqV y (V.int (k : Int))) ∘ fun (k : Nat) => V.int (k : Int)) j = decide (k = j) := by
      show eqV (V.int (j : Int)) (V.int (k : Int)) = _
      by_cases c : k = j
      · subst c
        simp [eqV]
      · have : ¬ (j : Int) = (k : Int) := by omega
        simp [eqV, c, this]
    rw [e]
    simp
theorem Refs.same {H H' : Hp} {vs : List V} {R : List (List Nat)} (h : Refs K H vs R) (s : Same H H') : Refs K H' vs R := by
  unfold Refs at h ⊢
  induction h with
  | nil => exact .nil
  | cons h _ ih =>
    obtain ⟨a, e, S⟩ := h
    exact .cons ⟨a, e, same_sqt s S⟩ ih
theorem mv_app (k l : List Nat) : mv (k ++ l) = mv k ++ mv l := List.map_append ..
theorem sqt_lst {H : Hp} {a F : Addr} {xs ys zs : List V} (h : SqT K H a xs) (e : H F = some (.lst zs)) : SqT K (upd H F (.lst ys)) a xs := by
  rcases h with (h | ⟨o, h⟩) | h
  · exact .inl (.inl (by rw [upd_ne (fun z => by rw [z, e] at h; cases h)]; exact h))
  · exact .inl (.inr ⟨o, by rw [upd_ne (fun z => by rw [z, e] at h; cases h)]; exact h⟩)
  · exact .inr h
theorem Refs.upd {H : Hp} {vs : List V} {R : List (List Nat)} {F : Addr} {ys zs : List V} (h : Refs K H vs R) (e : H F = some (.lst zs)) : Refs K (upd H F (.lst ys)) vs R := by
  unfold Refs at h ⊢
  induction h with
  | nil => exact .nil
  | cons h _ ih =>
    obtain ⟨a, e1, S⟩ := h
    exact .cons ⟨a, e1, sqt_lst S e⟩ ih
theorem Refs.snoc {H : Hp} {vs : List V} {R : List (List Nat)} {t : Addr} {r : List Nat} (h : Refs K H vs R) (S : SqT K H t (mv r)) : Refs K H (vs ++ [.ref t]) (R ++ [r]) := by
  unfold Refs at h ⊢
  induction h with
  | nil => exact .cons ⟨t, rfl, S⟩ .nil
  | cons h _ ih => exact .cons h ih
theorem ringsTo_len (f : Nat → Nat) (n : Nat) : ∀ s, (ringsTo f n s).length ≤ s
  | 0 => Nat.le_refl 0
  | s + 1 => by
    have := ringsTo_len f n s
    unfold ringsTo
    split
    · omega
    · rw [List.length_append]
      show _ + 1 ≤ _
      omega
def spOwn (K : PySem.W.Frag) : Sp := fun vs H Q _ => ∃ a m, vs = [.ref a] ∧ SqT K H a (mv m) ∧ Mv m ∧ ∀ H' t us, Same H H' → H t = none → H' t = some (.lst us) → Refs K H' us (rings (fn' m) m.length) → Q (.ref t) H'
end
end K06


set_option Elab.async false
set_option linter.all false
set_option maxRecDepth 100000
set_option maxHeartbeats 2000000
namespace K06
open PySem PySem.Spec PyProof.Rows L2 MM
/-! own words for the readings: a step, its side -/
local macro_rules | `(tactic| walk_at "side") => `(tactic| first
  | omega
  | exact ⟨by omega, by omega⟩
  | exact Or.inl ⟨by omega, by omega⟩
  | exact Or.inr ⟨by omega, by omega⟩
  | (show CPw _ _; decide +kernel)
  | (show (0 : Int) < _; decide +kernel)
  | (show CDivW _ _; first | assumption | exact ⟨by decide, by decide +kernel⟩))
local macro_rules | `(tactic| walk_at "here") => `(tactic| first
  | assumption
  | exact upd_same
  | exact Or.inl (Or.inl upd_same)
  | exact Or.inl upd_same)
local macro_rules | `(tactic| walk_at "one") => `(tactic| first
  | refine ⟨_, rfl, ?_⟩
  | refine Or.inl ⟨_, rfl, ?_⟩
  | refine Or.inr ⟨_, rfl, ?_⟩
  | refine ⟨_, _, rfl, rfl, (by walk_at "side"), ?_⟩
  | refine ⟨_, _, rfl, rfl, ?_⟩
  | refine ⟨_, _, rfl, Or.inl (by walk_at "here"), ?_⟩
  | refine ⟨_, _, rfl, Or.inr (by walk_at "here"), ?_⟩
  | refine ⟨_, _, rfl, (by walk_at "here"), ?_⟩
  | refine ⟨_, _, _, _, rfl, rfl, (by walk_at "here"), rfl, ?_⟩
  | refine ⟨_, _, rfl, ?_⟩
  | refine ifT (by rfl) ?_
  | refine ifF (by rfl) ?_
  | refine ifT (decide_eq_true (by omega)) ?_
  | refine ifF (decide_eq_false (by omega)) ?_)
local macro_rules | `(tactic| walk_at "st") => `(tactic| repeat (walk_at "one"))

section
variable {P : Program} {w : World} {K : PySem.W.Frag} {mg : Str → Option Value} {base : Heap}
/-- the order of a move -/
def ordOf (f : Nat → Nat) (n : Nat) : Nat := lcmL ((rings f n).map List.length)
theorem lcmL_dvd : ∀ (ns : List Nat) (g : Nat), g ∣ ns.foldl Nat.lcm g ∧ ∀ n ∈ ns, n ∣ ns.foldl Nat.lcm g
  | [], g => ⟨Nat.dvd_refl g, by simp⟩
  | a :: r, g => by
    obtain ⟨h1, h2⟩ := lcmL_dvd r (Nat.lcm g a)
    refine ⟨Nat.dvd_trans (Nat.dvd_lcm_left g a) h1, fun n hn => ?_⟩
    rcases List.mem_cons.mp hn with z | z
    · subst z
      exact Nat.dvd_trans (Nat.dvd_lcm_right g n) h1
    · exact h2 n z
theorem lcmL_pos : ∀ (ns : List Nat) (g : Nat), 0 < g → (∀ n ∈ ns, 0 < n) → 0 < ns.foldl Nat.lcm g
  | [], _, h, _ => h
  | a :: r, g, h, all => lcmL_pos r (Nat.lcm g a) (Nat.lcm_pos h (all a (by simp))) fun n hn => all n (by simp [hn])
theorem ordOf_pos {f : Nat → Nat} {n : Nat} (h : Pm f n) : 0 < ordOf f n := by
  refine lcmL_pos _ 1 Nat.one_pos fun k hk => ?_
  obtain ⟨r, hr, rfl⟩ := List.mem_map.mp hk
  obtain ⟨p, _, rfl⟩ := (rings_good h n (Nat.le_refl n)).each r hr
  rw [ringOf_len]
  exact lenOf_pos f n p
theorem ord_dvd {f : Nat → Nat} {n : Nat} {r : List Nat} (hr : r ∈ rings f n) : r.length ∣ ordOf f n :=
  (lcmL_dvd _ 1).2 _ (List.mem_map.mpr ⟨r, hr, rfl⟩)
theorem Refs.get {H : Hp} {vs : List V} {R : List (List Nat)} (h : Refs K H vs R) : ∀ {i : Nat} {x : V}, vs[i]? = some x → ∃ r t, R[i]? = some r ∧ x = .ref t ∧ SqT K H t (mv r) := by
  unfold Refs at h
  induction h with
  | nil =>
    intro i x e
    simp at e
  | cons h _ ih =>
    intro i x e
    cases i with
    | zero =>
      obtain ⟨t, e1, S⟩ := h
      refine ⟨_, t, rfl, ?_, S⟩
      rw [← e1]
      exact (Option.some.inj e).symm
    | succ i => exact ih e
def spPow (K : PySem.W.Frag) : Sp := fun vs H Q _ => ∃ (a : Addr) (m : List Nat) (e : Int), vs = [.ref a, .int e] ∧ SqT K H a (mv m) ∧ Mv m ∧
  ∀ H' t, Same H H' → SqT K H' t (mv ((List.range m.length).map (pwE (fn' m) (ordOf (fn' m) m.length) e))) → Q (.ref t) H'
end
end K06


set_option Elab.async false
set_option linter.all false
set_option maxRecDepth 100000
set_option maxHeartbeats 2000000
namespace K06
open PySem PySem.Spec PyProof.Rows L2 MM
/-! own words for the readings: a step, its side -/
local macro_rules | `(tactic| walk_at "side") => `(tactic| first
  | omega
  | exact ⟨by omega, by omega⟩
  | exact Or.inl ⟨by omega, by omega⟩
  | exact Or.inr ⟨by omega, by omega⟩
  | (show CPw _ _; decide +kernel)
  | (show (0 : Int) < _; decide +kernel)
  | (show CDivW _ _; first | assumption | exact ⟨by decide, by decide +kernel⟩))
local macro_rules | `(tactic| walk_at "here") => `(tactic| first
  | assumption
  | exact upd_same
  | exact Or.inl (Or.inl upd_same)
  | exact Or.inl upd_same)
local macro_rules | `(tactic| walk_at "one") => `(tactic| first
  | refine ⟨_, rfl, ?_⟩
  | refine Or.inl ⟨_, rfl, ?_⟩
  | refine Or.inr ⟨_, rfl, ?_⟩
  | refine ⟨_, _, rfl, rfl, (by walk_at "side"), ?_⟩
  | refine ⟨_, _, rfl, rfl, ?_⟩
  | refine ⟨_, _, rfl, Or.inl (by walk_at "here"), ?_⟩
  | refine ⟨_, _, rfl, Or.inr (by walk_at "here"), ?_⟩
  | refine ⟨_, _, rfl, (by walk_at "here"), ?_⟩
  | refine ⟨_, _, _, _, rfl, rfl, (by walk_at "here"), rfl, ?_⟩
  | refine ⟨_, _, rfl, ?_⟩
  | refine ifT (by rfl) ?_
  | refine ifF (by rfl) ?_
  | refine ifT (decide_eq_true (by omega)) ?_
  | refine ifF (decide_eq_false (by omega)) ?_)
local macro_rules | `(tactic| walk_at "st") => `(tactic| repeat (walk_at "one"))

section
variable {P : Program} {w : World} {K : PySem.W.Frag} {mg : Str → Option Value} {base : Heap}
/-- a set of places -/
def SetN (w : World) (a : Addr) (l : List Nat) (H : Hp) : Prop := ∃ S c, H a = some (SetO w a S c) ∧ c ≤ l.length ∧ ∀ x : Nat, S (x : Int) = decide (x ∈ l)
theorem SetN.same {a : Addr} {l : List Nat} {H H' : Hp} (h : SetN w a l H) (s : Same H H') : SetN w a l H' :=
  let ⟨S, c, e, r⟩ := h
  ⟨S, c, s _ _ e, r⟩
theorem SetN.upd {a b : Addr} {l : List Nat} {H : Hp} {o : HO} (h : SetN w a l H) (n : a ≠ b) : SetN w a l (upd H b o) :=
  let ⟨S, c, e, r⟩ := h
  ⟨S, c, by rw [upd_ne n]; exact e, r⟩
theorem seto_ne {a b : Addr} {H : Hp} {S : Int → Bool} {c : Nat} {o : HO} (h : H a = some (SetO w a S c)) (e : H b = some o) (n : ∀ f, o ≠ .ext f) : a ≠ b := fun z => by
  subst z
  rw [h] at e
  exact n _ (Option.some.inj e).symm
theorem SetN.add {a : Addr} {l : List Nat} {H : Hp} {S : Int → Bool} {c : Nat} {x : Nat} (hc : c ≤ l.length) (hS : ∀ x : Nat, S (x : Int) = decide (x ∈ l)) :
    SetN w a (l ++ [x]) (L2.upd H a (SetO w a (fun j => S j || decide (j = (x : Int))) (if S (x : Int) = true then c else c + 1))) := by
  refine ⟨_, _, upd_same, ?_, fun y => ?_⟩
  · rw [List.length_append]
    show _ ≤ l.length + 1
    split <;> omega
  · show (S (y : Int) || decide ((y : Int) = (x : Int))) = _
    rw [hS y, ← Bool.decide_or]
    refine decide_eq_decide.mpr ?_
    rw [List.mem_append, List.mem_singleton]
    exact or_congr Iff.rfl (by omega)
theorem rings_small {f : Nat → Nat} {n s : Nat} (h : Pm f n) (hn : n ≤ 24) (hs : s ≤ n) : (ringsTo f n s).flatten.length ≤ 24 := by
  have g := rings_good h s hs
  have := g.once.length_le_of_subset (fun x hx => List.mem_range.mpr (g.below x hx))
  rw [List.length_range] at this
  omega
def NoTup : HO → Prop
  | .tup _ => False
  | .frz _ _ => False
  | _ => True
theorem sqt_ext {H : Hp} {a F : Addr} {xs : List V} {o o' : HO} (h : SqT K H a xs) (e : H F = some o') (n : NoTup o') : SqT K (upd H F o) a xs := by
  rcases h with (h | ⟨u, h⟩) | h
  · exact .inl (.inl (by rw [upd_ne (fun z => by rw [z, e] at h; rw [Option.some.inj h] at n; exact n)]; exact h))
  · exact .inl (.inr ⟨u, by rw [upd_ne (fun z => by rw [z, e] at h; rw [Option.some.inj h] at n; exact n)]; exact h⟩)
  · exact .inr h
theorem Refs.ext {H : Hp} {vs : List V} {R : List (List Nat)} {F : Addr} {o o' : HO} (h : Refs K H vs R) (e : H F = some o') (n : NoTup o') : Refs K (L2.upd H F o) vs R := by
  unfold Refs at h ⊢
  induction h with
  | nil => exact .nil
  | cons h _ ih =>
    obtain ⟨a, e1, S⟩ := h
    exact .cons ⟨a, e1, sqt_ext S e n⟩ ih
theorem ring_succ (f : Nat → Nat) (p k : Nat) : ring f p (k + 1) = ring f p k ++ [it f k p] := by
  unfold ring
  rw [List.range_succ, List.map_append]
  rfl
def spCyc (K : PySem.W.Frag) : Sp := fun vs H Q _ => ∃ a m, vs = [.ref a] ∧ SqT K H a (mv m) ∧ Mv m ∧ ∀ H' t us, Same H H' → SqT K H' t us → Refs K H' us (rings (fn' m) m.length) → Q (.ref t) H'
theorem scCyclesU : FnScope ["move", "seen", "rings", "start", "ring", "place"] ["move"] (defScope sCyclesU) :=
  ⟨rfl, rfl, rfl, by decide +kernel, rfl, by decide +kernel, by decide +kernel⟩
theorem dCyclesU (T : Tx K mg) : Def P w K mg base CX0 1 "_cycles" ["move"] (spCyc K) := by
  refine T.t_cyclesU.def_ (N := ["move", "seen", "rings", "start", "ring", "place"]) scCyclesU (fun _ _ _ _ _ _ us hl => match us, hl with | [_], _ => rfl) ?_ ?_
  · intro vs H Q E h
    obtain ⟨a, m, rfl, _⟩ := h
    rfl
  · intro f cd A out s H vs Q E hr h
    obtain ⟨a, m, rfl, S, hm, q⟩ := h
    refine ⟨_, (pss_cons (ps_set (i := 1) scCyclesU.nd rfl (Or.inl rfl) (pe_callTy0 (cr_set0W (w := w) rfl) rfl T.f_set (by decide +kernel)))
      (pss_cons (ps_set (i := 2) scCyclesU.nd rfl (Or.inl rfl) (pe_lst pa_nil))
      (pss_cons (ps_for PassesOwn.never rfl (pi_range1 rfl T.f_range (pa_cons (pe_callB call_len_seq rfl T.f_len (by decide +kernel) (pa_cons (pv 0) pa_nil)) pa_nil)) (pg_name (i := 3) scCyclesU.nd rfl (Or.inl rfl))
        (pss_one (ps_if (pt_cmpR (or_snotinW (w := w) rfl) (pv 3) (pv 1) rfl) (pss_cons (ps_set (i := 4) scCyclesU.nd rfl (Or.inl rfl) (pe_lst pa_nil))
          (pss_cons (ps_set (i := 5) scCyclesU.nd rfl (Or.inl rfl) (pv 3))
          (pss_cons (ps_while PassesOwn.never (pt_cmpR (or_snotinW (w := w) rfl) (pv 5) (pv 1) rfl)
            (pss_cons (ps_expr (pe_saddW (w := w) rfl (pv 1) (pa_cons (pv 5) pa_nil)))
            (pss_cons (ps_expr (pe_bm PySem.F.plainAttrs_list PySem.F.slot_list_append PySem.F.type_list_append mt_append (pv 4) (pa_cons (pv 5) pa_nil)))
            (pss_one (ps_set (i := 5) scCyclesU.nd rfl (Or.inl rfl) (pe_ix ix_tup (pv 0) (pv 5) (fun _ _ => rfl)))))))
          (pss_one (ps_expr (pe_bm PySem.F.plainAttrs_list PySem.F.slot_list_append PySem.F.type_list_append mt_append (pv 2) (pa_cons (pe_callTy call_tuple_of rfl T.f_tuple (by decide +kernel) (pa_cons (pv 4) pa_nil)) pa_nil))))))) pss_nil)))
      (pss_one (ps_ret (pe_callTy call_tuple_of rfl T.f_tuple (by decide +kernel) (pa_cons (pv 2) pa_nil))))))), ?_⟩
    have pm := pm_of hm
    have m24 := hm.2.2.2
    refine ⟨rfl, fun G fG => ?_⟩
    have S1 : Same H (upd H G (SetO w G (fun _ => false) 0)) := same_new fG
    have G1 : SetN w G [] (upd H G (SetO w G (fun _ => false) 0)) := ⟨_, _, upd_same, Nat.le_refl _, fun x => by simp⟩
    have fG0 : ∀ b o, H b = some o → b ≠ G := fun b o e => ne_of_none e fG
    generalize upd H G _ = H1 at S1 G1 ⊢
    refine ⟨by (show 0 ≤ sizeLine); decide, fun F fF => ?_⟩
    have GF : G ≠ F := by
      obtain ⟨S0, c0, e0, _⟩ := id G1
      exact ne_of_none e0 fF
    have S2 : Same H (upd H1 F (.lst [])) := S1.trans (same_new fF)
    have F2 : (upd H1 F (.lst [])) F = some (.lst []) := upd_same
    have G2 : SetN w G [] (upd H1 F (.lst [])) := G1.upd GF
    have fF0 : ∀ b o, H b = some o → b ≠ F := fun b o e => ne_of_none (S1 b o e) fF
    generalize upd H1 F _ = H2 at S2 F2 G2 ⊢
    refine ⟨_, rfl, a, _, rfl, .inr (same_sqt S2 S), (mv m).length, rfl, by omega, by rw [mv_len]; omega, for_range (fun s σ H3 => Same H H3 ∧ ∃ us : List V, H3 F = some (.lst us) ∧ Refs K H3 us (ringsTo (fn' m) m.length s) ∧
        SetN w G (ringsTo (fn' m) m.length s).flatten H3 ∧ ∃ x y z, σ = [some (.ref a), some (.ref G), some (.ref F), x, y, z]) ⟨S2, [], F2, .nil, G2, _, _, _, rfl⟩ ?_ ?_⟩
    · rintro s σ H3 hs ⟨S3, us, hF, rf, hG, x, y, z, rfl⟩
      have sn : s < m.length := by rw [← mv_len]; simpa using hs
      have g := rings_good pm s (by omega)
      have small := rings_small pm m24 (Nat.le_of_lt sn)
      obtain ⟨S9, c9, e9, l9, r9⟩ := id hG
      refine ⟨_, rfl, _, rfl, _, G, S9, c9, rfl, rfl, e9, ?_⟩
      refine ⟨_, rfl, ?_⟩
      show (if (!S9 (0 + (s : Int))) = true then _ else _)
      rw [Int.zero_add, r9]
      by_cases c : s ∈ (ringsTo (fn' m) m.length s).flatten
      · refine ifF (by rw [decide_eq_true c]; rfl) ?_
        have e : ringsTo (fn' m) m.length (s + 1) = ringsTo (fn' m) m.length s := by
          show (if s ∈ (ringsTo (fn' m) m.length s).flatten then _ else _) = _
          rw [if_pos c]
        rw [e]
        exact ⟨S3, us, hF, rf, hG, _, _, _, rfl⟩
      · refine ifT (by rw [decide_eq_false c]; rfl) ?_
        have e : ringsTo (fn' m) m.length (s + 1) = ringsTo (fn' m) m.length s ++ [ringOf (fn' m) m.length s] := by
          show (if s ∈ (ringsTo (fn' m) m.length s).flatten then _ else _) = _
          rw [if_neg c]
        obtain ⟨Ln, eL, no⟩ := lenOf_ok pm sn
        have L1 := lenOf_pos (fn' m) m.length s
        have out : ∀ k, k < lenOf (fn' m) m.length s → it (fn' m) k s ∉ (ringsTo (fn' m) m.length s).flatten ++ ring (fn' m) s k := by
          intro k kl h
          rcases List.mem_append.mp h with h | h
          · exact c ((closed_it pm g.closed sn k).mp h)
          · have nd := ring_nodup pm sn (L := k + 1) (fun j j1 jl => no j j1 (by omega))
            rw [ring_succ, List.nodup_append] at nd
            exact nd.2.2 _ h _ (List.mem_singleton.mpr rfl) rfl
        rw [e]
        refine ⟨by (show 0 ≤ sizeLine); decide, fun D fD => ?_⟩
        have FD : F ≠ D := ne_of_none hF fD
        have GD : G ≠ D := ne_of_none e9 fD
        have S4 : Same H3 (upd H3 D (.lst [])) := same_new fD
        have D4 : (upd H3 D (.lst [])) D = some (.lst (mv (ring (fn' m) s 0))) := upd_same
        have fD0 : ∀ b o, H b = some o → b ≠ D := fun b o e => ne_of_none (S3 b o e) fD
        replace S3 := S3.trans S4
        replace hF := S4 _ _ hF
        replace hG : SetN w G ((ringsTo (fn' m) m.length s).flatten ++ ring (fn' m) s 0) (upd H3 D (.lst [])) := by
          have e0 : ring (fn' m) s 0 = [] := rfl
          rw [e0, List.append_nil]
          exact hG.same S4
        replace rf := rf.same S4
        generalize upd H3 D _ = H4 at S3 hF hG rf D4 ⊢
        refine ⟨_, rfl, ?_⟩
        refine while_by (fun σ H5 => Same H H5 ∧ H5 F = some (.lst us) ∧ Refs K H5 us (ringsTo (fn' m) m.length s) ∧
            ∃ k, k ≤ lenOf (fn' m) m.length s ∧ SetN w G ((ringsTo (fn' m) m.length s).flatten ++ ring (fn' m) s k) H5 ∧ H5 D = some (.lst (mv (ring (fn' m) s k))) ∧ σ = [some (.ref a), some (.ref G), some (.ref F), some (.int (s : Int)), some (.ref D), some (.int (it (fn' m) k s : Nat))])
          (fun _ H5 => match H5 D with | some (.lst xs) => lenOf (fn' m) m.length s - xs.length | _ => 0) ⟨S3, hF, rf, 0, Nat.zero_le _, hG, D4, rfl⟩ ?_ ?_
        · rintro σ H5 ⟨S5, hF, rf, k, kL, hG, hD, rfl⟩
          have hk : it (fn' m) k s < m.length := it_lt pm sn k
          obtain ⟨S8, c8, e8, l8, r8⟩ := id hG
          have lr : (ring (fn' m) s k).length = k := by
            unfold ring
            rw [List.length_map, List.length_range]
          refine ⟨_, rfl, _, rfl, _, G, S8, c8, rfl, rfl, e8, ?_⟩
          refine ⟨_, rfl, ?_⟩
          show (if (!S8 ((it (fn' m) k s : Nat) : Int)) = true then _ else _)
          rw [r8]
          have FG : F ≠ G := (seto_ne e8 hF (fun f z => nomatch z)).symm
          by_cases kk : k = lenOf (fn' m) m.length s
          · subst kk
            have inn : it (fn' m) (lenOf (fn' m) m.length s) s ∈ (ringsTo (fn' m) m.length s).flatten ++ ring (fn' m) s (lenOf (fn' m) m.length s) :=
              List.mem_append_right _ (ring_mem.mpr ⟨0, by omega, eL⟩)
            refine ifF (by rw [decide_eq_true inn]; rfl) ?_
            refine ⟨_, rfl, .inl ⟨rfl, _, .inl (.inl hF)⟩, _, rfl, D, _, rfl, .inl ⟨.inl (.inl hD), fun t ft => ?_⟩⟩
            have S7 : Same H5 (upd H5 t (.tup (mv (ring (fn' m) s (lenOf (fn' m) m.length s))))) := same_new ft
            have T7 : SqT K (upd H5 t (.tup (mv (ring (fn' m) s (lenOf (fn' m) m.length s))))) t (mv (ring (fn' m) s (lenOf (fn' m) m.length s))) := .inl (.inl upd_same)
            have F7 := S7 _ _ hF
            have G7 := hG.same S7
            have R7 := rf.same S7
            have SS := S5.trans S7
            generalize upd H5 t _ = H7 at T7 F7 G7 R7 SS ⊢
            have lu : us.length ≤ 1000 := by
              have h1 : us.length = (ringsTo (fn' m) m.length s).length := Paired.length rf
              have h2 := ringsTo_len (fn' m) m.length s
              omega
            refine ⟨F, us, _, rfl, rfl, F7, Nat.lt_of_le_of_lt lu (by decide), ?_⟩
            refine ⟨fun b o e => (upd_ne (fF0 b o e)).trans (SS b o e), us ++ [.ref t], upd_same, ?_, ?_, _, _, _, rfl⟩
            · exact (R7.upd F7).snoc (sqt_lst T7 F7)
            · rw [List.flatten_append]
              show SetN w G (_ ++ (ringOf (fn' m) m.length s ++ [])) _
              rw [List.append_nil]
              exact G7.upd FG.symm
          · have kl : k < lenOf (fn' m) m.length s := by omega
            refine ifT (by rw [decide_eq_false (out k kl)]; rfl) ?_
            have room : c8 + 1 < scanBound := by
              have : c8 ≤ 100 := by
                rw [List.length_append, lr] at l8
                omega
              exact Nat.lt_of_le_of_lt (Nat.add_le_add_right this 1) (by decide)
            refine ⟨_, rfl, ⟨G, S8, c8, rfl, e8⟩, _, rfl, G, _, S8, c8, rfl, rfl, e8, room, ?_⟩
            have G6 := SetN.add (w := w) (a := G) (H := H5) (x := it (fn' m) k s) l8 r8
            have F6 := (upd_ne (o := SetO w G (fun j => S8 j || decide (j = ((it (fn' m) k s : Nat) : Int))) (if S8 ((it (fn' m) k s : Nat) : Int) = true then c8 else c8 + 1)) FG).trans hF
            have D6 := (upd_ne (o := SetO w G (fun j => S8 j || decide (j = ((it (fn' m) k s : Nat) : Int))) (if S8 ((it (fn' m) k s : Nat) : Int) = true then c8 else c8 + 1)) GD.symm).trans hD
            have R6 := rf.ext (o := SetO w G (fun j => S8 j || decide (j = ((it (fn' m) k s : Nat) : Int))) (if S8 ((it (fn' m) k s : Nat) : Int) = true then c8 else c8 + 1)) e8 trivial
            have S6 : Same H (upd H5 G (SetO w G (fun j => S8 j || decide (j = ((it (fn' m) k s : Nat) : Int))) (if S8 ((it (fn' m) k s : Nat) : Int) = true then c8 else c8 + 1))) := fun b o e => (upd_ne (fG0 b o e)).trans (S5 b o e)
            rw [List.append_assoc, ← ring_succ] at G6
            generalize upd H5 G _ = H6 at G6 F6 D6 R6 S6 ⊢
            refine ⟨_, rfl, .inl ⟨rfl, _, .inl (.inl D6)⟩, _, rfl, D, _, _, rfl, rfl, D6, Nat.lt_of_le_of_lt (by rw [mv_len, lr]; omega : _ ≤ 1000) (by decide), ?_⟩
            have er : mv (ring (fn' m) s k) ++ [V.int ((it (fn' m) k s : Nat) : Int)] = mv (ring (fn' m) s (k + 1)) := by
              rw [ring_succ, mv_app]
              rfl
            rw [er]
            have S7 : Same H (upd H6 D (.lst (mv (ring (fn' m) s (k + 1))))) := fun b o e => (upd_ne (fD0 b o e)).trans (S6 b o e)
            refine ⟨_, rfl, _, rfl, a, _, _, _, rfl, rfl, same_sqt S7 S, mv_at hk, ⟨S7, (upd_ne FD).trans F6, R6.upd D6, k + 1, kl, G6.upd GD, upd_same, rfl⟩, ?_⟩
            rw [upd_same, hD]
            show lenOf (fn' m) m.length s - (mv (ring (fn' m) s (k + 1))).length < lenOf (fn' m) m.length s - (mv (ring (fn' m) s k)).length
            rw [← er, List.length_append, mv_len, lr]
            show lenOf (fn' m) m.length s - (k + 1) < _
            omega
        · rintro σ H5 Q1 Q2 mono ⟨v, hv, v2, hv2, k, a, S, n, e1, e2, e3, c, e4, body⟩
          exact ⟨v, hv, v2, hv2, k, a, S, n, e1, e2, e3, c, e4, mono _ _ body⟩
    · rintro σ H3 ⟨S3, us, hF, rf, hG, x, y, z, rfl⟩
      rw [mv_len] at rf
      exact ⟨_, rfl, F, _, rfl, .inl ⟨.inl (.inl hF), fun t ft => q _ t us (S3.trans (same_new ft)) (.inl (.inl upd_same)) (rf.same (same_new ft))⟩⟩
end
end K06


set_option Elab.async false
set_option linter.all false
set_option maxRecDepth 100000
set_option maxHeartbeats 2000000
namespace K06
open PySem PySem.Spec PyProof.Rows L2 MM
/-! own words for the readings: a step, its side -/
local macro_rules | `(tactic| walk_at "side") => `(tactic| first
  | omega
  | exact ⟨by omega, by omega⟩
  | exact Or.inl ⟨by omega, by omega⟩
  | exact Or.inr ⟨by omega, by omega⟩
  | (show CPw _ _; decide +kernel)
  | (show (0 : Int) < _; decide +kernel)
  | (show CDivW _ _; first | assumption | exact ⟨by decide, by decide +kernel⟩))
local macro_rules | `(tactic| walk_at "here") => `(tactic| first
  | assumption
  | exact upd_same
  | exact Or.inl (Or.inl upd_same)
  | exact Or.inl upd_same)
local macro_rules | `(tactic| walk_at "one") => `(tactic| first
  | refine ⟨_, rfl, ?_⟩
  | refine Or.inl ⟨_, rfl, ?_⟩
  | refine Or.inr ⟨_, rfl, ?_⟩
  | refine ⟨_, _, rfl, rfl, (by walk_at "side"), ?_⟩
  | refine ⟨_, _, rfl, rfl, ?_⟩
  | refine ⟨_, _, rfl, Or.inl (by walk_at "here"), ?_⟩
  | refine ⟨_, _, rfl, Or.inr (by walk_at "here"), ?_⟩
  | refine ⟨_, _, rfl, (by walk_at "here"), ?_⟩
  | refine ⟨_, _, _, _, rfl, rfl, (by walk_at "here"), rfl, ?_⟩
  | refine ⟨_, _, rfl, ?_⟩
  | refine ifT (by rfl) ?_
  | refine ifF (by rfl) ?_
  | refine ifT (decide_eq_true (by omega)) ?_
  | refine ifF (decide_eq_false (by omega)) ?_)
local macro_rules | `(tactic| walk_at "st") => `(tactic| repeat (walk_at "one"))

section
variable {P : Program} {w : World} {K : PySem.W.Frag} {mg : Str → Option Value} {base : Heap}
def spPowOf (K : PySem.W.Frag) : Sp := fun vs H Q _ => ∃ (a : Addr) (m : List Nat) (e : Int), vs = [.ref a, .int e] ∧ SqT K H a (mv m) ∧ Mv m ∧ -(10 ^ 30) ≤ e ∧ e ≤ 10 ^ 30 ∧
  ∀ H' t, Same H H' → SqT K H' t (mv ((List.range m.length).map (pwE (fn' m) (ordOf (fn' m) m.length) e))) → Q (.ref t) H'
theorem scPowerOf : FnScope ["move", "number", "power", "_", "ring", "at", "place"] ["move", "number"] (defScope sPowerOf) :=
  ⟨rfl, rfl, rfl, by decide +kernel, rfl, by decide +kernel, by decide +kernel⟩
theorem dPowerOf (T : Tx K mg) (DNeedMove : Def P w K mg base CX0 4 "_need_move" ["move"] (spNeedMove K)) (DNeedBetween : Def P w K mg base CX0 3 "need_between" ["value", "least", "most"] (spNeedBetween K)) (DCyclesU : Def P w K mg base CX0 1 "_cycles" ["move"] (spCyc K)) : Def P w K mg base CX0 5 "power_of" ["move", "number"] (spPowOf K) := by
  refine T.t_power_of.def_ (N := ["move", "number", "power", "_", "ring", "at", "place"]) scPowerOf (fun _ _ _ _ _ _ us hl => match us, hl with | [_, _], _ => rfl) ?_ ?_
  · intro vs H Q E h
    obtain ⟨a, m, e, rfl, _⟩ := h
    rfl
  · intro f cd A out s H vs Q E hr h
    have hr1 : Rm 4 _ := hr.le (by decide)
    obtain ⟨a, m, e, rfl, S, hm, e0, e1, q⟩ := h
    refine ⟨_, (pss_cons (ps_expr (pe_d DNeedMove (hr1.le (by decide)) pass0 (pa_cons (pv 0) pa_nil)))
      (pss_cons (ps_expr (pe_d DNeedBetween (hr1.le (by decide)) pass0 (pa_cons (pv 1) (pa_cons (pe_un un_neg (C8.pe_gc rfl T.c_MAX_POWER)) (pa_cons (C8.pe_gc rfl T.c_MAX_POWER) pa_nil)))))
      (pss_cons (ps_setLc (i := 2) (own := [("_", 3)]) (g := gName 3) (tt := tYes) rfl scPowerOf.nd rfl rfl (sw_true rfl rfl rfl rfl) (pi_tup (pv 0)) (blkOk_by (N := ["move", "number", "power", "_", "ring", "at", "place"]) (sc := defScope sPowerOf) (by decide +kernel)) (fun _ _ _ _ _ => pg_name (i := 3) scPowerOf.nd rfl (Or.inl rfl)) (fun _ _ _ _ _ => pts_nil) (fun _ _ _ _ _ => pe_int))
      (pss_cons (ps_for PassesOwn.never rfl (pi_tup (pe_d DCyclesU (hr1.le (by decide)) pass0 (pa_cons (pv 0) pa_nil))) (pg_name (i := 4) scPowerOf.nd rfl (Or.inl rfl))
        (pss_one (ps_for PassesOwn.never rfl (pi_enumT rfl T.f_enumerate (pa_cons (pv 4) pa_nil)) (pg_tup rfl (pgs_cons (pg_name (i := 5) scPowerOf.nd rfl (Or.inl rfl)) (pgs_cons (pg_name (i := 6) scPowerOf.nd rfl (Or.inl rfl)) pgs_nil)))
          (pss_one (ps_asg (pe_ix ix_tup (pv 4) (pe_op op_mod (pe_op op_add (pv 5) (pv 1)) (pe_callB call_len_seq rfl T.f_len (by decide +kernel) (pa_cons (pv 4) pa_nil))) (fun _ _ => rfl)) (pg_sub (pv 2) (pv 6) set_list))))))
      (pss_one (ps_ret (pe_callTy call_tuple_of rfl T.f_tuple (by decide +kernel) (pa_cons (pv 2) pa_nil)))))))), ?_⟩
    have pm := pm_of hm
    refine ⟨_, rfl, a, m, rfl, S, hm, fun H0 S0 => ?_⟩
    refine ⟨_, rfl, _, rfl, e, _, _, rfl, e0, e1, ?_⟩
    have Sa0 := same_sqt S0 S
    refine ⟨_, rfl, a, rfl, ⟨_, Sa0⟩, fun F fF => ?_⟩
    have fF0 : ∀ b o, H b = some o → b ≠ F := fun b o e => ne_of_none (S0 b o e) fF
    refine lc_tpl (fun _ => V.int 0) Sa0 fF (by rw [mv_len]; exact Nat.le_of_lt (small1000 (by have := hm.2.2.2; omega))) (fun x acc hx Q' q' => q') ?_
    have ez : (mv m).map (fun _ => V.int 0) = mv (backT m 0) := by
      unfold backT mv
      rw [List.map_map]
      show _ = (List.replicate m.length 0).map _
      rw [List.map_replicate]
      exact List.map_const' ..
    rw [ez]
    have S1 : Same H (upd H0 F (.lst (mv (backT m 0)))) := S0.trans (same_new fF)
    have F1 : (upd H0 F (.lst (mv (backT m 0)))) F = some (.lst (mv (backT m 0))) := upd_same
    have b0 := backT_len m 0
    generalize backT m 0 = z0 at F1 S1 b0 ⊢
    generalize upd H0 F _ = H1 at S1 F1 ⊢
    refine ⟨_, rfl, a, m, rfl, same_sqt S1 S, hm, fun H2 R us S2 hR rf => ?_⟩
    have F2 := S2 _ _ F1
    replace S2 := S1.trans S2
    refine ⟨R, rfl, ⟨_, hR⟩, for_tup (K := K) (a := R) (xs := us) (fun i σ H3 => Same H H3 ∧ SqT K H3 R us ∧ Refs K H3 us (rings (fn' m) m.length) ∧ ∃ b : List Nat, b.length = m.length ∧ H3 F = some (.lst (mv b)) ∧
        (∀ x ∈ ((rings (fn' m) m.length).take i).flatten, b.getD x 0 = pwE (fn' m) (ordOf (fn' m) m.length) e x) ∧ ∃ x y z, σ = [some (.ref a), some (.int e), some (.ref F), none, x, y, z])
      ⟨S2, hR, rf, z0, b0, F2, by simp, _, _, _, rfl⟩ (fun i σ H3 _ h => h.2.1) ?_ ?_⟩
    · rintro i v σ H3 hv ⟨S3, hR, rf, b, lb, hF, done, x, y, z, rfl⟩
      obtain ⟨r, t, hr, rfl, St⟩ := rf.get hv
      have mr : r ∈ rings (fn' m) m.length := List.mem_of_getElem? hr
      obtain ⟨p, pn, er⟩ := (rings_good pm m.length (Nat.le_refl _)).each r mr
      have lr : r.length = lenOf (fn' m) m.length p := by rw [er, ringOf_len]
      obtain ⟨Ln, eL, no⟩ := lenOf_ok pm pn
      have L1 := lenOf_pos (fn' m) m.length p
      have tF : ∀ H9 : Hp, SqT K H9 t (mv r) → ∀ zs, H9 F = some (.lst zs) → ∀ ys, SqT K (upd H9 F (.lst ys)) t (mv r) := fun H9 S9 zs e9 ys => sqt_lst S9 e9
      refine ⟨_, rfl, t, _, rfl, St, ?_⟩
      refine for_enumT (K := K) (a := t) (xs := mv r) (fun j σ H4 => (Same H H4 ∧ SqT K H4 t (mv r)) ∧ SqT K H4 R us ∧ Refs K H4 us (rings (fn' m) m.length) ∧ ∃ b : List Nat, b.length = m.length ∧ H4 F = some (.lst (mv b)) ∧
          (∀ x, x ∈ ((rings (fn' m) m.length).take i).flatten ∨ x ∈ r.take j → b.getD x 0 = pwE (fn' m) (ordOf (fn' m) m.length) e x) ∧ ∃ y z, σ = [some (.ref a), some (.int e), some (.ref F), none, some (.ref t), y, z])
        ⟨⟨S3, St⟩, hR, rf, b, lb, hF, fun x hx => by rcases hx with hx | hx; exact done x hx; simp at hx, _, _, rfl⟩ (fun j σ H4 _ h => h.1.2) ?_ ?_
      · rintro j u σ H4 T hu ⟨⟨S4, St⟩, hR, rf, b, lb, hF, done, y, z, rfl⟩ fT
        obtain ⟨jr, rfl⟩ := mv_nth hu
        have FT : F ≠ T := ne_of_none hF fT
        have St5 : SqT K (upd H4 T (.tup [.int (j : Nat), .int ((r.getD j 0 : Nat) : Int)])) t (mv r) := sqt_new St fT
        have pj : r.getD j 0 = it (fn' m) j p := by
          rw [er]
          unfold ringOf ring
          rw [List.getD, List.getElem?_map, List.getElem?_range (by omega)]
          rfl
        have pl : r.getD j 0 < m.length := by rw [pj]; exact it_lt pm pn j
        have Lp : 0 < ((mv r).length : Int) := by rw [mv_len]; omega
        have i0 := Int.emod_nonneg ((j : Int) + e) (by omega : ((mv r).length : Int) ≠ 0)
        have i1 := Int.emod_lt_of_pos ((j : Int) + e) Lp
        obtain ⟨ix, eix⟩ : ∃ ix : Nat, ((j : Int) + e) % ((mv r).length : Int) = (ix : Int) := ⟨_, (Int.toNat_of_nonneg i0).symm⟩
        have il : ix < r.length := by rw [eix, mv_len] at i1; omega
        have val : r.getD ix 0 = pwE (fn' m) (ordOf (fn' m) m.length) e (r.getD j 0) := by
          have dv := ord_dvd mr
          rw [lr] at dv
          have := ring_pow (f := fn' m) (p := p) (a := j) (e := e) eL (by omega) dv (ordOf_pos pm) (by omega)
          rw [← pj] at this
          rw [← this, ← lr, ← mv_len r, eix, Int.toNat_natCast, mv_len, lr, er]
          rfl
        have ate : atI (mv r) (((j : Int) + e) % ((mv r).length : Int)) = some (.int ((r.getD ix 0 : Nat) : Int)) := by
          rw [eix]
          exact mv_at il
        refine ⟨T, _, rfl, .inl (.inl upd_same), rfl, _, _, rfl, ?_⟩
        refine ⟨_, _, rfl, rfl, ?_⟩
        refine ⟨_, rfl, _, rfl, _, rfl, _, _, rfl, rfl, _, rfl, t, _, rfl, .inr St5, _, _, rfl, rfl, Lp, t, _, _, _, rfl, rfl, St5, ate, ?_⟩
        refine ⟨_, rfl, _, rfl, F, _, _, r.getD j 0, rfl, rfl, (upd_ne FT).trans hF, by rw [mv_len, lb]; exact ixN_lt pl, ?_⟩
        rw [mv_set]
        refine ⟨⟨fun b o h => (upd_ne (fF0 b o h)).trans (same_new fT b o (S4 b o h)), sqt_lst St5 ((upd_ne FT).trans hF)⟩, sqt_lst (sqt_new hR fT) ((upd_ne FT).trans hF), (rf.same (same_new fT)).upd ((upd_ne FT).trans hF), b.set (r.getD j 0) (r.getD ix 0), by rw [List.length_set, lb], upd_same, fun x hx => ?_, _, _, rfl⟩
        by_cases z : x = r.getD j 0
        · rw [z, ← val, List.getD, List.getElem?_set_self (by omega)]
          rfl
        · rw [List.getD, List.getElem?_set_ne (fun h => z h.symm), ← List.getD]
          refine done x ?_
          rcases hx with hx | hx
          · exact .inl hx
          · refine .inr ?_
            rw [List.take_add_one, List.getElem?_eq_getElem jr] at hx
            rcases List.mem_append.mp hx with hx | hx
            · exact hx
            · exfalso
              refine z ?_
              rw [List.getD, List.getElem?_eq_getElem jr]
              simpa using hx
      · rintro σ H4 ⟨⟨S4, St⟩, hR, rf, b, lb, hF, done, y, z, rfl⟩
        refine ⟨S4, hR, rf, b, lb, hF, fun x hx => done x ?_, _, _, _, rfl⟩
        rw [List.take_add_one, hr, List.flatten_append, List.mem_append] at hx
        rcases hx with hx | hx
        · exact .inl hx
        · refine .inr ?_
          rw [mv_len, List.take_length]
          simpa using hx
    · rintro σ H3 ⟨S3, hR, rf, b, lb, hF, done, x, y, z, rfl⟩
      have lus : us.length = (rings (fn' m) m.length).length := Paired.length rf
      rw [lus, List.take_length] at done
      have eb : b = (List.range m.length).map (pwE (fn' m) (ordOf (fn' m) m.length) e) := by
        refine List.ext_getElem (by rw [lb, List.length_map, List.length_range]) fun x h1 h2 => ?_
        have hx := (rings_good pm m.length (Nat.le_refl _)).all x (by omega)
        have := done x hx
        rw [List.getD, List.getElem?_eq_getElem h1] at this
        rw [List.getElem_map, List.getElem_range]
        exact this
      rw [eb] at hF
      exact ⟨_, rfl, F, _, rfl, .inl ⟨.inl (.inl hF), fun u fu => q _ u (S3.trans (same_new fu)) (.inl (.inl upd_same))⟩⟩
def spOrd (K : PySem.W.Frag) : Sp := fun vs H Q _ => ∃ (a : Addr) (m : List Nat), vs = [.ref a] ∧ SqT K H a (mv m) ∧ Mv m ∧ (∀ i, lcmL (((rings (fn' m) m.length).map List.length).take i) < 2 ^ 63) ∧
  ∀ H', Same H H' → Q (.int (ordOf (fn' m) m.length : Nat)) H'
theorem len_in {f : Nat → Nat} {n : Nat} (h : Pm f n) {r : List Nat} (hr : r ∈ rings f n) : 1 ≤ r.length ∧ r.length ≤ n := by
  obtain ⟨p, pn, rfl⟩ := (rings_good h n (Nat.le_refl _)).each r hr
  rw [ringOf_len]
  exact ⟨lenOf_pos f n p, (lenOf_ok h pn).1⟩
theorem scOrderOf : FnScope ["move", "order", "ring"] ["move"] (defScope sOrderOf) :=
  ⟨rfl, rfl, rfl, by decide +kernel, rfl, by decide +kernel, by decide +kernel⟩
theorem dOrderOf (T : Tx K mg) (DNeedMove : Def P w K mg base CX0 4 "_need_move" ["move"] (spNeedMove K)) (DCyclesU : Def P w K mg base CX0 1 "_cycles" ["move"] (spCyc K)) : Def P w K mg base CX0 5 "order_of" ["move"] (spOrd K) := by
  refine T.t_order_of.def_ (N := ["move", "order", "ring"]) scOrderOf (fun _ _ _ _ _ _ us hl => match us, hl with | [_], _ => rfl) ?_ ?_
  · intro vs H Q E h
    obtain ⟨a, m, rfl, _⟩ := h
    rfl
  · intro f cd A out s H vs Q E hr h
    have hr1 : Rm 4 _ := hr.le (by decide)
    obtain ⟨a, m, rfl, S, hm, hl, q⟩ := h
    refine ⟨_, (pss_cons (ps_expr (pe_d DNeedMove (hr1.le (by decide)) pass0 (pa_cons (pv 0) pa_nil)))
      (pss_cons (ps_set (i := 1) scOrderOf.nd rfl (Or.inl rfl) pe_int)
      (pss_cons (ps_for PassesOwn.never rfl (pi_tup (pe_d DCyclesU (hr1.le (by decide)) pass0 (pa_cons (pv 0) pa_nil))) (pg_name (i := 2) scOrderOf.nd rfl (Or.inl rfl))
        (pss_one (ps_set (i := 1) scOrderOf.nd rfl (Or.inl rfl) (pe_callBfun cr_lcm rfl T.b_lcm (pa_cons (pv 1) (pa_cons (pe_callB call_len_seq rfl T.f_len (by decide +kernel) (pa_cons (pv 2) pa_nil)) pa_nil))))))
      (pss_one (ps_ret (pv 1)))))), ?_⟩
    have pm := pm_of hm
    refine ⟨_, rfl, a, m, rfl, S, hm, fun H0 S0 => ?_⟩
    refine ⟨_, rfl, a, m, rfl, same_sqt S0 S, hm, fun H1 R us S1 hR rf => ?_⟩
    have S2 := S0.trans S1
    refine ⟨R, rfl, ⟨_, hR⟩, for_tup (K := K) (a := R) (xs := us) (fun i σ H3 => H3 = H1 ∧ ∃ x, σ = [some (.ref a), some (.int (lcmL (((rings (fn' m) m.length).map List.length).take i) : Nat)), x]) ⟨rfl, _, rfl⟩ (fun i σ H3 _ h => by rw [h.1]; exact hR) ?_ ?_⟩
    · rintro i v σ H3 hv ⟨rfl, x, rfl⟩
      obtain ⟨r, t, hr, rfl, St⟩ := rf.get hv
      have mr : r ∈ rings (fn' m) m.length := List.mem_of_getElem? hr
      obtain ⟨r1, r2⟩ := len_in pm mr
      have e : ((rings (fn' m) m.length).map List.length)[i]? = some r.length := by rw [List.getElem?_map, hr]; rfl
      have m24 := hm.2.2.2
      refine ⟨_, rfl, _, rfl, t, _, rfl, .inr St, ?_⟩
      refine ⟨_, _, rfl, ?_, ?_, rfl, some (.ref t), ?_⟩
      · rw [Int.natAbs_natCast]
        exact Nat.lt_trans (hl i) (by decide)
      · rw [Int.natAbs_natCast, mv_len]
        exact Nat.lt_of_le_of_lt (Nat.le_trans r2 m24) (by decide)
      · rw [lcmL_more e, mv_len]
        rfl
    · rintro σ H3 ⟨rfl, x, rfl⟩
      have : us.length = (rings (fn' m) m.length).length := Paired.length rf
      rw [this, ← List.length_map (f := List.length) , List.take_length]
      exact ⟨_, rfl, q _ S2⟩
def evenS (n : Nat) : Int := if n % 2 = 0 then 1 else -1
def spSign (K : PySem.W.Frag) : Sp := fun vs H Q _ => ∃ (a : Addr) (m : List Nat), vs = [.ref a] ∧ SqT K H a (mv m) ∧ Mv m ∧ ∀ H', Same H H' → Q (.int (evenS (m.length - (rings (fn' m) m.length).length))) H'
theorem scSignOf : FnScope ["move"] ["move"] (defScope sSignOf) :=
  ⟨rfl, rfl, rfl, by decide +kernel, rfl, by decide +kernel, by decide +kernel⟩
theorem dSignOf (T : Tx K mg) (DNeedMove : Def P w K mg base CX0 4 "_need_move" ["move"] (spNeedMove K)) (DCyclesU : Def P w K mg base CX0 1 "_cycles" ["move"] (spCyc K)) : Def P w K mg base CX0 5 "sign_of" ["move"] (spSign K) := by
  refine T.t_sign_of.def_ (N := ["move"]) scSignOf (fun _ _ _ _ _ _ us hl => match us, hl with | [_], _ => rfl) ?_ ?_
  · intro vs H Q E h
    obtain ⟨a, m, rfl, _⟩ := h
    rfl
  · intro f cd A out s H vs Q E hr h
    have hr1 : Rm 4 _ := hr.le (by decide)
    obtain ⟨a, m, rfl, S, hm, q⟩ := h
    refine ⟨_, (pss_cons (ps_expr (pe_d DNeedMove (hr1.le (by decide)) pass0 (pa_cons (pv 0) pa_nil)))
      (pss_one (ps_ret (pe_ifExp (pt_cmpR op_eq (pe_op op_mod (pe_op op_sub (pe_callB call_len_seq rfl T.f_len (by decide +kernel) (pa_cons (pv 0) pa_nil)) (pe_callB call_len_seq rfl T.f_len (by decide +kernel) (pa_cons (pe_d DCyclesU (hr1.le (by decide)) pass0 (pa_cons (pv 0) pa_nil)) pa_nil))) pe_int) pe_int (nomark _)) pe_int (pe_un un_neg pe_int))))), ?_⟩
    have pm := pm_of hm
    refine ⟨_, rfl, a, m, rfl, S, hm, fun H0 S0 => ?_⟩
    refine ⟨_, rfl, a, _, rfl, .inr (same_sqt S0 S), ?_⟩
    refine ⟨_, rfl, a, m, rfl, same_sqt S0 S, hm, fun H1 R us S1 hR rf => ?_⟩
    have S2 := S0.trans S1
    refine ⟨R, us, rfl, .inr hR, ?_⟩
    refine ⟨_, _, rfl, rfl, ?_⟩
    refine ⟨_, _, rfl, rfl, (by show (0 : Int) < 2; decide), ?_⟩
    refine ⟨rfl, _, rfl, ?_⟩
    have e1 : us.length = (rings (fn' m) m.length).length := Paired.length rf
    have e2 : (rings (fn' m) m.length).length ≤ m.length := ringsTo_len _ _ _
    have q2 := q H1 S2
    rw [e1, mv_len]
    unfold evenS at q2
    generalize (rings (fn' m) m.length).length = c at e2 q2 ⊢
    refine ite2 (fun d => ?_) (fun d => ?_)
    · rw [dInt] at d
      have := of_decide_eq_true d
      rw [if_pos (by omega)] at q2
      exact q2
    · rw [dInt] at d
      have := of_decide_eq_false (Bool.eq_false_iff.mpr d)
      rw [if_neg (by omega)] at q2
      exact ⟨_, rfl, q2⟩
def spCycles (K : PySem.W.Frag) : Sp := spCyc K
theorem scCycles : FnScope ["move"] ["move"] (defScope sCycles) :=
  ⟨rfl, rfl, rfl, by decide +kernel, rfl, by decide +kernel, by decide +kernel⟩
theorem dCycles (T : Tx K mg) (DNeedMove : Def P w K mg base CX0 4 "_need_move" ["move"] (spNeedMove K)) (DCyclesU : Def P w K mg base CX0 1 "_cycles" ["move"] (spCyc K)) : Def P w K mg base CX0 5 "cycles" ["move"] (spCyc K) := by
  refine T.t_cycles.def_ (N := ["move"]) scCycles (fun _ _ _ _ _ _ us hl => match us, hl with | [_], _ => rfl) ?_ ?_
  · intro vs H Q E h
    obtain ⟨a, m, rfl, _⟩ := h
    rfl
  · intro f cd A out s H vs Q E hr h
    have hr1 : Rm 4 _ := hr.le (by decide)
    obtain ⟨a, m, rfl, S, hm, q⟩ := h
    refine ⟨_, (pss_cons (ps_expr (pe_d DNeedMove (hr1.le (by decide)) pass0 (pa_cons (pv 0) pa_nil)))
      (pss_one (ps_ret (pe_d DCyclesU (hr1.le (by decide)) pass0 (pa_cons (pv 0) pa_nil))))), ?_⟩
    refine ⟨_, rfl, a, m, rfl, S, hm, fun H0 S0 => ?_⟩
    exact ⟨_, rfl, a, m, rfl, same_sqt S0 S, hm, fun H1 R us S1 hR rf => q H1 R us (S0.trans S1) hR rf⟩
def stillOf (m : List Nat) : List Nat := (List.range m.length).filter fun k => decide (k = fn' m k)
def spStill (K : PySem.W.Frag) : Sp := fun vs H Q _ => ∃ (a : Addr) (m : List Nat), vs = [.ref a] ∧ SqT K H a (mv m) ∧ Mv m ∧ ∀ H' t, Same H H' → SqT K H' t (mv (stillOf m)) → Q (.ref t) H'
theorem scStillPlaces : FnScope ["move", "place", "target"] ["move"] (defScope sStillPlaces) :=
  ⟨rfl, rfl, rfl, by decide +kernel, rfl, by decide +kernel, by decide +kernel⟩
theorem dStillPlaces (T : Tx K mg) (DNeedMove : Def P w K mg base CX0 4 "_need_move" ["move"] (spNeedMove K)) : Def P w K mg base CX0 5 "still_places" ["move"] (spStill K) := by
  refine T.t_still_places.def_ (N := ["move", "place", "target"]) scStillPlaces (fun _ _ _ _ _ _ us hl => match us, hl with | [_], _ => rfl) ?_ ?_
  · intro vs H Q E h
    obtain ⟨a, m, rfl, _⟩ := h
    rfl
  · intro f cd A out s H vs Q E hr h
    have hr1 : Rm 4 _ := hr.le (by decide)
    obtain ⟨a, m, rfl, S, hm, q⟩ := h
    refine ⟨_, (pss_cons (ps_expr (pe_d DNeedMove (hr1.le (by decide)) pass0 (pa_cons (pv 0) pa_nil)))
      (pss_one (ps_ret (pe_callTy call_tuple_of rfl T.f_tuple (by decide +kernel) (pa_cons (pe_lc (own := [("place", 1), ("target", 2)]) (g := gTup K 2 (gCons (gName 1) (gCons (gName 2) gNil))) rfl scStillPlaces.nd (pi_enumT rfl T.f_enumerate (pa_cons (pv 0) pa_nil)) (blkOk_by (N := ["move", "place", "target"]) (sc := defScope sStillPlaces) (by decide +kernel)) (fun _ _ _ _ _ => (show PG _ _ (gTup K 2 (gCons (gName 1) (gCons (gName 2) gNil))) from pg_tup rfl (pgs_cons (pg_name (i := 1) scStillPlaces.nd rfl (Or.inl rfl)) (pgs_cons (pg_name (i := 2) scStillPlaces.nd rfl (Or.inl rfl)) pgs_nil)))) (fun _ _ _ _ _ => (pts_one (pt_cmpR op_eq (pv 1) (pv 2) (nomark _)))) (fun _ _ _ _ _ => (pv 1))) pa_nil))))), ?_⟩
    have m24 := hm.2.2.2
    refine ⟨_, rfl, a, m, rfl, S, hm, fun H0 S0 => ?_⟩
    have S1 := same_sqt S0 S
    refine ⟨_, rfl, a, _, rfl, S1, fun D nD => ?_⟩
    refine lc_enumT (K := K) (a := a) (xs := mv m) (Pv := fun i H3 => Same H0 H3 ∧ H3 D = some (.lst (mv ((List.range i).filter fun k => decide (k = fn' m k))))) ⟨same_new nD, upd_same⟩ (fun i H3 _ h => same_sqt h.1 S1) ?_ ?_
    · rintro i x H3 T hx ⟨S3, hD⟩ fT
      obtain ⟨li, rfl⟩ := mv_nth hx
      have DT : D ≠ T := ne_of_none hD fT
      have nD0 : ∀ b o, H0 b = some o → b ≠ D := fun b o e => ne_of_none e nD
      refine ⟨T, _, rfl, .inl (.inl upd_same), rfl, _, _, rfl, ?_⟩
      refine ⟨_, _, rfl, rfl, rfl, ?_⟩
      refine ⟨_, rfl, _, rfl, rfl, ?_⟩
      have sm : Same H0 (upd H3 T (.tup [.int (i : Nat), .int ((m.getD i 0 : Nat) : Int)])) := S3.trans (same_new fT)
      have hD2 := (upd_ne (o := .tup [.int (i : Nat), .int ((m.getD i 0 : Nat) : Int)]) DT).trans hD
      have st : (List.range (i + 1)).filter (fun k => decide (k = fn' m k)) = (List.range i).filter (fun k => decide (k = fn' m k)) ++ if i = fn' m i then [i] else [] := by
        rw [List.range_succ, List.filter_append]
        congr 1
        by_cases c : i = fn' m i
        · rw [if_pos c]
          simp [← c]
        · rw [if_neg c]
          simp [c]
      rw [st]
      have dd : decide (V.int ((i : Nat) : Int) = V.int ((m.getD i 0 : Nat) : Int)) = decide (i = fn' m i) := by
        rw [dInt]
        exact decide_eq_decide.mpr (by show _ ↔ i = m.getD i 0; omega)
      refine ⟨_, rfl, ?_⟩
      rw [dd]
      by_cases c : i = fn' m i
      · rw [if_pos c]
        refine ifT (decide_eq_true c) ?_
        refine ⟨_, rfl, _, hD2, ?_, fun b o e => (upd_ne (nD0 b o e)).trans (sm b o e), ?_⟩
        · refine Nat.lt_of_le_of_lt ?_ (small1000 (n := 1000) (by omega))
          rw [mv_len]
          exact Nat.le_trans (List.length_filter_le _ _) (by rw [List.length_range]; omega)
        · rw [mv_app]
          exact upd_same
      · rw [if_neg c, List.append_nil]
        exact ifF (decide_eq_false c) ⟨sm, hD2⟩
    · rintro H3 ⟨S3, hD⟩
      rw [mv_len] at hD
      exact ⟨D, _, rfl, .inl ⟨.inl (.inl hD), fun t ft => q _ t ((S0.trans S3).trans (same_new ft)) (.inl (.inl upd_same))⟩⟩
end
end K06


set_option Elab.async false
set_option linter.all false
set_option maxRecDepth 100000
set_option maxHeartbeats 2000000
namespace K06
open PySem PySem.Spec PyProof.Rows L2 MM
/-! own words for the readings: a step, its side -/
local macro_rules | `(tactic| walk_at "side") => `(tactic| first
  | omega
  | exact ⟨by omega, by omega⟩
  | exact Or.inl ⟨by omega, by omega⟩
  | exact Or.inr ⟨by omega, by omega⟩
  | (show CPw _ _; decide +kernel)
  | (show (0 : Int) < _; decide +kernel)
  | (show CDivW _ _; first | assumption | exact ⟨by decide, by decide +kernel⟩))
local macro_rules | `(tactic| walk_at "here") => `(tactic| first
  | assumption
  | exact upd_same
  | exact Or.inl (Or.inl upd_same)
  | exact Or.inl upd_same)
local macro_rules | `(tactic| walk_at "one") => `(tactic| first
  | refine ⟨_, rfl, ?_⟩
  | refine Or.inl ⟨_, rfl, ?_⟩
  | refine Or.inr ⟨_, rfl, ?_⟩
  | refine ⟨_, _, rfl, rfl, (by walk_at "side"), ?_⟩
  | refine ⟨_, _, rfl, rfl, ?_⟩
  | refine ⟨_, _, rfl, Or.inl (by walk_at "here"), ?_⟩
  | refine ⟨_, _, rfl, Or.inr (by walk_at "here"), ?_⟩
  | refine ⟨_, _, rfl, (by walk_at "here"), ?_⟩
  | refine ⟨_, _, _, _, rfl, rfl, (by walk_at "here"), rfl, ?_⟩
  | refine ⟨_, _, rfl, ?_⟩
  | refine ifT (by rfl) ?_
  | refine ifF (by rfl) ?_
  | refine ifT (decide_eq_true (by omega)) ?_
  | refine ifF (decide_eq_false (by omega)) ?_)
local macro_rules | `(tactic| walk_at "st") => `(tactic| repeat (walk_at "one"))

section
variable {P : Program} {w : World} {K : PySem.W.Frag} {mg : Str → Option Value} {base : Heap}
theorem split_at {α : Type} {l : List α} {i : Nat} {x : α} (h : l[i]? = some x) : l = l.take i ++ x :: l.drop (i + 1) := by
  obtain ⟨lt, e⟩ := List.getElem?_eq_some_iff.mp h
  rw [← e, ← List.drop_eq_getElem_cons lt, List.take_append_drop]
/-- rings of places below n -/
structure Rings (n : Nat) (R : List (List Nat)) : Prop where
  full : ∀ r ∈ R, 1 ≤ r.length
  once : R.flatten.Nodup
  below : ∀ x ∈ R.flatten, x < n
theorem Rings.small {n : Nat} {R : List (List Nat)} (h : Rings n R) : R.flatten.length ≤ n := by
  have := h.once.length_le_of_subset (fun x hx => List.mem_range.mpr (h.below x hx))
  rwa [List.length_range] at this
theorem Rings.flat {R : List (List Nat)} {i j x : Nat} {r : List Nat} (hr : R[i]? = some r) (hx : r[j]? = some x) :
    R.flatten = ((R.take i).flatten ++ r.take j) ++ x :: (r.drop (j + 1) ++ (R.drop (i + 1)).flatten) := by
  have e1 := split_at hr
  have e2 := split_at hx
  have e3 : R.flatten = (R.take i ++ r :: R.drop (i + 1)).flatten := congrArg List.flatten e1
  rw [e3, List.flatten_append, List.flatten_cons]
  have e4 : r ++ (R.drop (i + 1)).flatten = r.take j ++ (x :: (r.drop (j + 1) ++ (R.drop (i + 1)).flatten)) := by
    have : r ++ (R.drop (i + 1)).flatten = (r.take j ++ x :: r.drop (j + 1)) ++ (R.drop (i + 1)).flatten := by rw [← e2]
    rw [this, List.append_assoc, List.cons_append]
  rw [e4, List.append_assoc]
theorem Rings.new {n : Nat} {R : List (List Nat)} (h : Rings n R) {i j x : Nat} {r : List Nat} (hr : R[i]? = some r) (hx : r[j]? = some x) :
    x ∉ (R.take i).flatten ++ r.take j ∧ x < n ∧ ((R.take i).flatten ++ r.take j).length ≤ n := by
  have e := Rings.flat hr hx
  have nd := h.once
  have sm := h.small
  rw [e] at nd sm
  refine ⟨fun z => ?_, h.below x (by rw [e]; simp), ?_⟩
  · have := (List.nodup_append.mp nd).2.2 x z x (by simp)
    exact this rfl
  · rw [List.length_append] at sm
    omega
def spNeedRings (K : PySem.W.Frag) : Sp := fun vs H Q _ => ∃ (n : Nat) (a : Addr) (us : List V) (R : List (List Nat)), vs = [.int (n : Int), .ref a] ∧ SqT K H a us ∧ Refs K H us R ∧ Rings n R ∧ n ≤ 24 ∧ ∀ H', Same H H' → Q .non H'
theorem scNeedRings : FnScope ["places", "rings", "seen", "ring", "place"] ["places", "rings"] (defScope sNeedRings) :=
  ⟨rfl, rfl, rfl, by decide +kernel, rfl, by decide +kernel, by decide +kernel⟩
theorem dNeedRings (T : Tx K mg) (DIsBetween : Def P w K mg base CX0 2 "is_between" ["value", "least", "most"] (spIsBetween K)) : Def P w K mg base CX0 3 "_need_rings" ["places", "rings"] (spNeedRings K) := by
  refine T.t_need_rings.def_ (N := ["places", "rings", "seen", "ring", "place"]) scNeedRings (fun _ _ _ _ _ _ us hl => match us, hl with | [_, _], _ => rfl) ?_ ?_
  · intro vs H Q E h
    obtain ⟨n, a, us, R, rfl, _⟩ := h
    rfl
  · intro f cd A out s H vs Q E hr h
    have hr1 : Rm 2 _ := hr.le (by decide)
    obtain ⟨n, a, us, R, rfl, S, rf, hR, n24, q⟩ := h
    refine ⟨_, (pss_cons (ps_if (pt_not (pt_val (pe_callB (cr_is .tup) rfl T.f_isinstance (by decide +kernel) (pa_cons (pv 1) (pa_cons (pe_ty .tup T.f_tuple (by decide +kernel)) pa_nil))))) (pss_one ps_never) pss_nil)
      (pss_cons (ps_set (i := 2) scNeedRings.nd rfl (Or.inl rfl) (pe_callTy0 (cr_set0W (w := w) rfl) rfl T.f_set (by decide +kernel)))
      (pss_one (ps_for PassesOwn.never rfl (pi_tup (pv 1)) (pg_name (i := 3) scNeedRings.nd rfl (Or.inl rfl))
        (pss_cons (ps_if (PW.pt (pw_or (pt_not (pt_val (pe_callB (cr_is .tup) rfl T.f_isinstance (by decide +kernel) (pa_cons (pv 3) (pa_cons (pe_ty .tup T.f_tuple (by decide +kernel)) pa_nil))))) (pw_or1 (pt_cmpR op_eq (pe_callB call_len_seq rfl T.f_len (by decide +kernel) (pa_cons (pv 3) pa_nil)) pe_int (nomark _))))) (pss_one ps_never) pss_nil)
        (pss_one (ps_for PassesOwn.never rfl (pi_tup (pv 3)) (pg_name (i := 4) scNeedRings.nd rfl (Or.inl rfl))
          (pss_cons (ps_if (PW.pt (pw_or (pt_not (pt_val (pe_d DIsBetween (hr1.le (by decide)) pass0 (pa_cons (pv 4) (pa_cons pe_int (pa_cons (pe_op op_sub (pv 0) pe_int) pa_nil)))))) (pw_or1 (pt_cmpR (or_sinW (w := w) rfl) (pv 4) (pv 2) rfl)))) (pss_one ps_never) pss_nil)
          (pss_one (ps_expr (pe_saddW (w := w) rfl (pv 2) (pa_cons (pv 4) pa_nil)))))))))))), ?_⟩
    refine ⟨_, rfl, _, _, rfl, .tup S, _, rfl, ?_⟩
    refine ifF rfl ?_
    refine ⟨rfl, fun G fG => ?_⟩
    have S1 : Same H (upd H G (SetO w G (fun _ => false) 0)) := same_new fG
    have G1 : SetN w G [] (upd H G (SetO w G (fun _ => false) 0)) := ⟨_, _, upd_same, Nat.le_refl _, fun x => by simp⟩
    have fG0 : ∀ b o, H b = some o → b ≠ G := fun b o e => ne_of_none e fG
    generalize upd H G _ = H1 at S1 G1 ⊢
    refine ⟨_, rfl, a, rfl, ⟨_, same_sqt S1 S⟩, for_tup (K := K) (a := a) (xs := us) (fun i σ H3 => Same H H3 ∧ SetN w G (R.take i).flatten H3 ∧ ∃ x y, σ = [some (.int (n : Int)), some (.ref a), some (.ref G), x, y])
      ⟨S1, by simpa using G1, _, _, rfl⟩ (fun i σ H3 _ h => same_sqt h.1 S) ?_ ?_⟩
    · rintro i v σ H3 hv ⟨S3, hG, x, y, rfl⟩
      obtain ⟨r, t, hr, rfl, St⟩ := rf.get hv
      have mr : r ∈ R := List.mem_of_getElem? hr
      have r1 := hR.full r mr
      have St3 := same_sqt S3 St
      refine ⟨_, rfl, _, _, rfl, .tup St3, _, rfl, ?_⟩
      refine ifF rfl ?_
      refine ⟨_, rfl, t, _, rfl, .inr St3, rfl, _, rfl, ?_⟩
      refine ifF (by rw [dInt]; exact decide_eq_false (by rw [mv_len]; omega)) ?_
      refine ⟨_, rfl, t, rfl, ⟨_, St3⟩, for_tup (K := K) (a := t) (xs := mv r) (fun j σ H4 => Same H H4 ∧ SetN w G ((R.take i).flatten ++ r.take j) H4 ∧ ∃ y, σ = [some (.int (n : Int)), some (.ref a), some (.ref G), some (.ref t), y])
        ⟨S3, by simpa using hG, _, rfl⟩ (fun j σ H4 _ h => same_sqt h.1 St) ?_ ?_⟩
      · rintro j u σ H4 hu ⟨S4, hG4, y, rfl⟩
        obtain ⟨jr, rfl⟩ := mv_nth hu
        have ej : r[j]? = some (r.getD j 0) := by rw [List.getD, List.getElem?_eq_getElem jr]; rfl
        obtain ⟨new, lt, sm⟩ := hR.new hr ej
        obtain ⟨S9, c9, e9, l9, r9⟩ := id hG4
        refine ⟨_, rfl, _, rfl, _, _, rfl, rfl, _, _, _, _, rfl, .int _, ?_⟩
        refine ⟨_, rfl, ?_⟩
        refine ifF ?_ ?_
        · show (!(decide (0 ≤ ((r.getD j 0 : Nat) : Int)) && decide (((r.getD j 0 : Nat) : Int) ≤ (n : Int) - 1))) = false
          rw [decide_eq_true (by omega), decide_eq_true (by omega)]
          rfl
        refine ⟨_, rfl, _, rfl, _, G, S9, c9, rfl, rfl, e9, ?_⟩
        refine ⟨_, rfl, ?_⟩
        refine ifF (by rw [r9]; exact decide_eq_false new) ?_
        have room : c9 + 1 < scanBound := by
          have : c9 ≤ 100 := by omega
          exact Nat.lt_of_le_of_lt (Nat.add_le_add_right this 1) (by decide)
        refine ⟨_, rfl, ⟨G, S9, c9, rfl, e9⟩, _, rfl, G, _, S9, c9, rfl, rfl, e9, room, ?_⟩
        have G6 := SetN.add (w := w) (a := G) (H := H4) (x := r.getD j 0) l9 r9
        rw [List.append_assoc] at G6
        refine ⟨fun b o e => (upd_ne (fG0 b o e)).trans (S4 b o e), ?_, _, rfl⟩
        have ts : r.take (j + 1) = r.take j ++ [r.getD j 0] := by rw [List.take_add_one, ej]; rfl
        rw [ts]
        exact G6
      · rintro σ H4 ⟨S4, hG4, y, rfl⟩
        refine ⟨S4, ?_, _, _, rfl⟩
        rw [mv_len, List.take_length] at hG4
        rw [List.take_add_one, hr, List.flatten_append]
        show SetN w G (_ ++ (r ++ [])) _
        rw [List.append_nil]
        exact hG4
    · rintro σ H3 ⟨S3, hG, x, y, rfl⟩
      exact q _ S3
/-- f goes round the rings, and leaves the rest -/
structure Goes (f : Nat → Nat) (n : Nat) (R : List (List Nat)) : Prop where
  ring : ∀ r ∈ R, ∀ j, j < r.length → f (r.getD j 0) = r.getD ((j + 1) % r.length) 0
  rest : ∀ x, x < n → x ∉ R.flatten → f x = x
def spMoveOf (K : PySem.W.Frag) : Sp := fun vs H Q _ => ∃ (n : Nat) (a : Addr) (us : List V) (R : List (List Nat)) (f : Nat → Nat), vs = [.int (n : Int), .ref a] ∧ SqT K H a us ∧ Refs K H us R ∧ Rings n R ∧ Goes f n R ∧ 1 ≤ n ∧ n ≤ 24 ∧
  ∀ H' t, Same H H' → SqT K H' t (mv ((List.range n).map f)) → Q (.ref t) H'
theorem scMoveOfCycles : FnScope ["places", "rings", "move", "ring", "at", "place"] ["places", "rings"] (defScope sMoveOfCycles) :=
  ⟨rfl, rfl, rfl, by decide +kernel, rfl, by decide +kernel, by decide +kernel⟩
theorem dMoveOfCycles (T : Tx K mg) (DNeedPlaces : Def P w K mg base CX0 4 "need_places" ["places"] (spNeedPlaces K)) (DNeedRings : Def P w K mg base CX0 3 "_need_rings" ["places", "rings"] (spNeedRings K)) : Def P w K mg base CX0 5 "move_of_cycles" ["places", "rings"] (spMoveOf K) := by
  refine T.t_move_of_cycles.def_ (N := ["places", "rings", "move", "ring", "at", "place"]) scMoveOfCycles (fun _ _ _ _ _ _ us hl => match us, hl with | [_, _], _ => rfl) ?_ ?_
  · intro vs H Q E h
    obtain ⟨n, a, us, R, f, rfl, _⟩ := h
    rfl
  · intro f cd A out s H vs Q E hr h
    have hr1 : Rm 4 _ := hr.le (by decide)
    obtain ⟨n, a, us, R, g, rfl, S, rf, hR, hg, n1, n24, q⟩ := h
    refine ⟨_, (pss_cons (ps_expr (pe_d DNeedPlaces (hr1.le (by decide)) pass0 (pa_cons (pv 0) pa_nil)))
      (pss_cons (ps_expr (pe_d DNeedRings (hr1.le (by decide)) pass0 (pa_cons (pv 0) (pa_cons (pv 1) pa_nil))))
      (pss_cons (ps_set (i := 2) scMoveOfCycles.nd rfl (Or.inl rfl) (pe_listRg rfl rfl T.f_list (prg_1 rfl T.f_range (pv 0))))
      (pss_cons (ps_for PassesOwn.never rfl (pi_tup (pv 1)) (pg_name (i := 3) scMoveOfCycles.nd rfl (Or.inl rfl))
        (pss_one (ps_for PassesOwn.never rfl (pi_enumT rfl T.f_enumerate (pa_cons (pv 3) pa_nil)) (pg_tup rfl (pgs_cons (pg_name (i := 4) scMoveOfCycles.nd rfl (Or.inl rfl)) (pgs_cons (pg_name (i := 5) scMoveOfCycles.nd rfl (Or.inl rfl)) pgs_nil)))
          (pss_one (ps_asg (pe_ix ix_tup (pv 3) (pe_op op_mod (pe_op op_add (pv 4) pe_int) (pe_callB call_len_seq rfl T.f_len (by decide +kernel) (pa_cons (pv 3) pa_nil))) (fun _ _ => rfl)) (pg_sub (pv 2) (pv 5) set_list))))))
      (pss_one (ps_ret (pe_callTy call_tuple_of rfl T.f_tuple (by decide +kernel) (pa_cons (pv 2) pa_nil)))))))), ?_⟩
    refine ⟨_, rfl, n, rfl, n1, n24, ?_⟩
    refine ⟨_, rfl, _, rfl, n, a, us, R, rfl, S, rf, hR, n24, fun H0 S0 => ?_⟩
    refine ⟨_, rfl, _, rfl, ⟨by omega, by omega, by omega, by omega, by omega⟩, fun F fF => ?_⟩
    rw [rg_mv]
    have fF0 : ∀ b o, H b = some o → b ≠ F := fun b o e => ne_of_none (S0 b o e) fF
    have S1 : Same H (upd H0 F (.lst (mv (List.range n)))) := S0.trans (same_new fF)
    have F1 : (upd H0 F (.lst (mv (List.range n)))) F = some (.lst (mv (List.range n))) := upd_same
    generalize upd H0 F _ = H1 at S1 F1 ⊢
    refine ⟨_, rfl, a, rfl, ⟨_, same_sqt S1 S⟩, for_tup (K := K) (a := a) (xs := us) (fun i σ H3 => Same H H3 ∧ ∃ b : List Nat, b.length = n ∧ H3 F = some (.lst (mv b)) ∧
        (∀ x, x < n → b.getD x 0 = if x ∈ (R.take i).flatten then g x else x) ∧ ∃ x y z, σ = [some (.int (n : Int)), some (.ref a), some (.ref F), x, y, z])
      ⟨S1, _, List.length_range, F1, ?_, _, _, _, rfl⟩ (fun i σ H3 _ h => same_sqt h.1 S) ?_ ?_⟩
    · intro x hx
      rw [if_neg (by simp), List.getD, List.getElem?_range hx]
      rfl
    · rintro i v σ H3 hv ⟨S3, b, lb, hF, done, x, y, z, rfl⟩
      obtain ⟨r, t, hr, rfl, St⟩ := rf.get hv
      have mr : r ∈ R := List.mem_of_getElem? hr
      have r1 := hR.full r mr
      refine ⟨_, rfl, t, _, rfl, same_sqt S3 St, ?_⟩
      refine for_enumT (K := K) (a := t) (xs := mv r) (fun j σ H4 => Same H H4 ∧ ∃ b : List Nat, b.length = n ∧ H4 F = some (.lst (mv b)) ∧
          (∀ x, x < n → b.getD x 0 = if x ∈ (R.take i).flatten ++ r.take j then g x else x) ∧ ∃ y z, σ = [some (.int (n : Int)), some (.ref a), some (.ref F), some (.ref t), y, z])
        ⟨S3, b, lb, hF, by simpa using done, _, _, rfl⟩ (fun j σ H4 _ h => same_sqt h.1 St) ?_ ?_
      · rintro j u σ H4 T hu ⟨S4, b, lb, hF, done, y, z, rfl⟩ fT
        obtain ⟨jr, rfl⟩ := mv_nth hu
        have ej : r[j]? = some (r.getD j 0) := by rw [List.getD, List.getElem?_eq_getElem jr]; rfl
        obtain ⟨new, lt, sm⟩ := hR.new hr ej
        have FT : F ≠ T := ne_of_none hF fT
        have St5 : SqT K (upd H4 T (.tup [.int (j : Nat), .int ((r.getD j 0 : Nat) : Int)])) t (mv r) := sqt_new (same_sqt S4 St) fT
        have Lp : 0 < ((mv r).length : Int) := by rw [mv_len]; omega
        have ix : ((j : Int) + 1) % ((mv r).length : Int) = (((j + 1) % r.length : Nat) : Int) := by
          rw [mv_len, Int.natCast_emod, Int.natCast_add]
          rfl
        have ate : atI (mv r) (((j : Int) + 1) % ((mv r).length : Int)) = some (.int ((r.getD ((j + 1) % r.length) 0 : Nat) : Int)) := by
          rw [ix]
          exact mv_at (Nat.mod_lt _ (by omega))
        refine ⟨T, _, rfl, .inl (.inl upd_same), rfl, _, _, rfl, ?_⟩
        refine ⟨_, _, rfl, rfl, ?_⟩
        refine ⟨_, rfl, _, rfl, _, _, rfl, rfl, _, rfl, t, _, rfl, .inr St5, _, _, rfl, rfl, Lp, t, _, _, _, rfl, rfl, St5, ate, ?_⟩
        refine ⟨_, rfl, _, rfl, F, _, _, r.getD j 0, rfl, rfl, (upd_ne FT).trans hF, by rw [mv_len, lb]; exact ixN_lt lt, ?_⟩
        rw [mv_set, ← hg.ring r mr j jr]
        refine ⟨fun b o h => (upd_ne (fF0 b o h)).trans (same_new fT b o (S4 b o h)), b.set (r.getD j 0) (g (r.getD j 0)), by rw [List.length_set, lb], upd_same, fun x hx => ?_, _, _, rfl⟩
        have ts : r.take (j + 1) = r.take j ++ [r.getD j 0] := by rw [List.take_add_one, ej]; rfl
        rw [ts, ← List.append_assoc]
        by_cases z : x = r.getD j 0
        · rw [if_pos (by rw [z]; simp), z, List.getD, List.getElem?_set_self (by omega)]
          rfl
        · rw [List.getD, List.getElem?_set_ne (fun h => z h.symm), ← List.getD, done x hx]
          have : (x ∈ (R.take i).flatten ++ r.take j ++ [r.getD j 0]) ↔ x ∈ (R.take i).flatten ++ r.take j := by
            rw [List.mem_append]
            exact ⟨fun h => h.elim id fun h => absurd (List.mem_singleton.mp h) z, .inl⟩
          by_cases c : x ∈ (R.take i).flatten ++ r.take j
          · rw [if_pos c, if_pos (this.mpr c)]
          · rw [if_neg c, if_neg fun h => c (this.mp h)]
      · rintro σ H4 ⟨S4, b, lb, hF, done, y, z, rfl⟩
        refine ⟨S4, b, lb, hF, ?_, _, _, _, rfl⟩
        rw [mv_len, List.take_length] at done
        rw [List.take_add_one, hr, List.flatten_append]
        show ∀ x, x < n → b.getD x 0 = if x ∈ (R.take i).flatten ++ (r ++ []) then g x else x
        rw [List.append_nil]
        exact done
    · rintro σ H3 ⟨S3, b, lb, hF, done, x, y, z, rfl⟩
      have lus : us.length = R.length := Paired.length rf
      rw [lus, List.take_length] at done
      have eb : b = (List.range n).map g := by
        refine List.ext_getElem (by rw [lb, List.length_map, List.length_range]) fun x h1 h2 => ?_
        have hx : x < n := by omega
        have := done x hx
        rw [List.getD, List.getElem?_eq_getElem h1] at this
        rw [List.getElem_map, List.getElem_range]
        refine Eq.trans this ?_
        split
        · rfl
        · rename_i c
          exact (hg.rest x hx c).symm
      rw [eb] at hF
      exact ⟨_, rfl, F, _, rfl, .inl ⟨.inl (.inl hF), fun u fu => q _ u (S3.trans (same_new fu)) (.inl (.inl upd_same))⟩⟩
end
end K06


set_option Elab.async false
set_option linter.all false
set_option maxRecDepth 100000
set_option maxHeartbeats 1000000
namespace K06
/-! inversions -/
def inv : List Nat → Nat
  | [] => 0
  | x :: r => r.countP (fun y => decide (y < x)) + inv r
theorem inv_adj {x y : Nat} (ne : x ≠ y) (B : List Nat) : ∀ A : List Nat, (inv (A ++ x :: y :: B) + inv (A ++ y :: x :: B)) % 2 = 1
  | [] => by
    show (((y :: B).countP (fun z => decide (z < x)) + (B.countP (fun z => decide (z < y)) + inv B)) + ((x :: B).countP (fun z => decide (z < y)) + (B.countP (fun z => decide (z < x)) + inv B))) % 2 = 1
    rw [List.countP_cons, List.countP_cons]
    by_cases c : y < x
    · have d : ¬ x < y := by omega
      simp only [c, d, decide_true, decide_false, if_true, Bool.false_eq_true, if_false]
      omega
    · have d : x < y := by omega
      simp only [c, d, decide_true, decide_false, if_true, Bool.false_eq_true, if_false]
      omega
  | a :: A => by
    have ih := inv_adj ne B A
    have p : (A ++ x :: y :: B).Perm (A ++ y :: x :: B) := List.Perm.append_left A (List.Perm.swap ..)
    show ((A ++ x :: y :: B).countP (fun z => decide (z < a)) + inv (A ++ x :: y :: B) + ((A ++ y :: x :: B).countP (fun z => decide (z < a)) + inv (A ++ y :: x :: B))) % 2 = 1
    rw [p.countP_eq]
    omega
theorem inv_over {x : Nat} (C : List Nat) : ∀ (B A : List Nat), x ∉ B → (inv (A ++ x :: (B ++ C)) + inv (A ++ (B ++ x :: C)) + B.length) % 2 = 0
  | [], A, _ => by
    show (inv (A ++ x :: C) + inv (A ++ x :: C) + 0) % 2 = 0
    omega
  | b :: B, A, h => by
    have h1 : x ≠ b := fun e => h (by simp [e])
    have h2 : x ∉ B := fun e => h (by simp [e])
    have s1 := inv_adj h1 (B ++ C) A
    have s2 := inv_over C B (A ++ [b]) h2
    have e1 : A ++ [b] ++ x :: (B ++ C) = A ++ b :: x :: (B ++ C) := by simp
    have e2 : A ++ [b] ++ (B ++ x :: C) = A ++ (b :: B ++ x :: C) := by simp
    rw [e1, e2] at s2
    show (inv (A ++ x :: b :: (B ++ C)) + inv (A ++ (b :: B ++ x :: C)) + (B.length + 1)) % 2 = 0
    omega
theorem inv_swap {x y : Nat} {A B C : List Nat} (nd : (A ++ x :: (B ++ y :: C)).Nodup) : (inv (A ++ x :: (B ++ y :: C)) + inv (A ++ y :: (B ++ x :: C))) % 2 = 1 := by
  have n1 := (List.nodup_append.mp nd).2.1
  have n2 := List.nodup_cons.mp n1
  have xB : x ∉ B ++ [y] := fun h => n2.1 (by
    rcases List.mem_append.mp h with h | h
    · simp [h]
    · simp [List.mem_singleton.mp h])
  have yB : y ∉ B := fun h => (List.nodup_append.mp n2.2).2.2 y h y (by simp) rfl
  have s1 := inv_over C (B ++ [y]) A xB
  have s2 := inv_over (x :: C) B A yB
  have e1 : B ++ [y] ++ C = B ++ y :: C := by simp
  have e2 : B ++ [y] ++ x :: C = B ++ y :: (x :: C) := by simp
  rw [e1, e2, List.length_append] at s1
  have e3 : (B ++ y :: x :: C) = B ++ y :: (x :: C) := rfl
  rw [show [y].length = 1 from rfl] at s1
  omega
theorem inv_range : ∀ n k, inv (List.range' k n) = 0
  | 0, _ => rfl
  | n + 1, k => by
    rw [List.range'_succ]
    show (List.range' (k + 1) n).countP _ + inv _ = 0
    rw [inv_range n (k + 1), List.countP_eq_zero.mpr]
    intro y hy
    have := (List.mem_range'_1.mp hy).1
    simp
    omega
/-! starts of rings -/
section
variable {f : Nat → Nat} {n : Nat}
theorem rings_from (f : Nat → Nat) (n : Nat) : ∀ s, ∀ r ∈ ringsTo f n s, ∃ p, p < s ∧ r = ringOf f n p
  | 0, r, h => by simp [ringsTo] at h
  | s + 1, r, h => by
    unfold ringsTo at h
    split at h
    · obtain ⟨p, hp, e⟩ := rings_from f n s r h
      exact ⟨p, by omega, e⟩
    · rcases List.mem_append.mp h with h | h
      · obtain ⟨p, hp, e⟩ := rings_from f n s r h
        exact ⟨p, by omega, e⟩
      · exact ⟨s, by omega, List.mem_singleton.mp h⟩
theorem start_iff (h : Pm f n) {s : Nat} (hs : s < n) : s ∉ (ringsTo f n s).flatten ↔ ∀ j, s ≤ it f j s := by
  have g := rings_good h s (by omega)
  constructor
  · intro no j
    by_cases c : s ≤ it f j s
    · exact c
    · exfalso
      exact no ((closed_it h g.closed hs j).mp (g.all _ (by omega)))
  · intro all hin
    obtain ⟨r, hr, hx⟩ := List.mem_flatten.mp hin
    obtain ⟨p, ps, rfl⟩ := rings_from f n s r hr
    obtain ⟨k, hk, e⟩ := ring_mem.mp hx
    obtain ⟨ln, eL, no⟩ := lenOf_ok h (p := p) (by omega)
    have := all (lenOf f n p - k)
    rw [e, ← it_add, show lenOf f n p - k + k = lenOf f n p by omega, eL] at this
    omega
def isSt (f : Nat → Nat) (n : Nat) (s : Nat) : Bool := decide (s ∉ (ringsTo f n s).flatten)
theorem rings_count (f : Nat → Nat) (n : Nat) : ∀ s, (ringsTo f n s).length = (List.range s).countP (isSt f n)
  | 0 => rfl
  | s + 1 => by
    rw [List.range_succ, List.countP_append, ← rings_count f n s]
    show (if s ∈ (ringsTo f n s).flatten then ringsTo f n s else ringsTo f n s ++ [ringOf f n s]).length = _ + [s].countP (isSt f n)
    rw [List.countP_singleton]
    unfold isSt
    by_cases c : s ∈ (ringsTo f n s).flatten
    · simp [c]
    · simp [c]
end
theorem count_flip {p q : Nat → Bool} {k : Nat} : ∀ {l : List Nat}, l.Nodup → k ∈ l → (∀ x ∈ l, x ≠ k → p x = q x) → p k = false → q k = true → l.countP q = l.countP p + 1
  | [], _, h, _, _, _ => by simp at h
  | a :: r, nd, h, same, hp, hq => by
    obtain ⟨na, nr⟩ := List.nodup_cons.mp nd
    rw [List.countP_cons, List.countP_cons]
    by_cases c : a = k
    · subst c
      have : r.countP q = r.countP p := List.countP_congr fun x hx => by
        rw [same x (by simp [hx]) fun z => na (by rw [← z]; exact hx)]
      rw [this, hp, hq]
      simp
    · have hk : k ∈ r := by
        rcases List.mem_cons.mp h with z | z
        · exact absurd z.symm c
        · exact z
      have ih := count_flip nr hk (fun x hx => same x (by simp [hx])) hp hq
      rw [ih, same a (by simp) c]
      omega
/-- k, the last place that moves, is taken out of its ring -/
theorem rings_cut {f g : Nat → Nat} {n k p : Nat} (hf : Pm f n) (hg : Pm g n) (kn : k < n) (top : ∀ x, k < x → x < n → f x = x) (mv : f k ≠ k) (pn : p < n) (ep : f p = k)
    (gk : g k = k) (gp : g p = f k) (oth : ∀ x, x < n → x ≠ k → x ≠ p → g x = f x) : (rings g n).length = (rings f n).length + 1 := by
  have pk : p ≠ k := fun z => mv (by rw [← z, ep, z])
  have plt : p < k := by
    rcases Nat.lt_or_ge k p with c | c
    · exact absurd ((top p c pn).symm.trans ep) pk
    · omega
  have fk : f k < k := by
    rcases Nat.lt_or_ge k (f k) with c | c
    · have := top (f k) c (hf.lt k kn)
      exact absurd (hf.inj _ _ (hf.lt k kn) kn this) mv
    · omega
  -- g's iterates are f's
  have gf : ∀ x, x < n → x ≠ k → ∀ j, it g j x ≠ k ∧ ∃ i, it g j x = it f i x := by
    intro x xn xk j
    induction j with
    | zero => exact ⟨xk, 0, rfl⟩
    | succ j ih =>
      obtain ⟨nk, i, e⟩ := ih
      have bn := it_lt hg xn j
      refine ⟨fun z => nk (hg.inj _ _ bn kn (by rw [gk]; exact z)), ?_⟩
      show ∃ i, g (it g j x) = it f i x
      by_cases c : it g j x = p
      · refine ⟨i + 2, ?_⟩
        show _ = f (f (it f i x))
        rw [← e, c, gp, ep]
      · refine ⟨i + 1, ?_⟩
        show _ = f (it f i x)
        rw [oth _ bn nk c, e]
  have fg : ∀ x, x < n → x ≠ k → ∀ i, (∃ j, it f i x = it g j x) ∨ (it f i x = k ∧ ∃ j, p = it g j x) := by
    intro x xn xk i
    induction i with
    | zero => exact .inl ⟨0, rfl⟩
    | succ i ih =>
      rcases ih with ⟨j, e⟩ | ⟨e, j, ej⟩
      · by_cases c : it g j x = p
        · refine .inr ⟨?_, j, c.symm⟩
          show f (it f i x) = k
          rw [e, c, ep]
        · refine .inl ⟨j + 1, ?_⟩
          show f (it f i x) = g (it g j x)
          rw [oth _ (it_lt hg xn j) (gf x xn xk j).1 c, e]
      · refine .inl ⟨j + 1, ?_⟩
        show f (it f i x) = g (it g j x)
        rw [e, ← ej, gp]
  unfold rings
  rw [rings_count, rings_count]
  refine count_flip List.nodup_range (List.mem_range.mpr kn) (fun x hx xk => ?_) ?_ ?_
  · have xn := List.mem_range.mp hx
    unfold isSt
    refine decide_eq_decide.mpr ?_
    rw [start_iff hf xn, start_iff hg xn]
    constructor
    · intro all j
      obtain ⟨_, i, e⟩ := gf x xn xk j
      rw [e]
      exact all i
    · intro all i
      rcases fg x xn xk i with ⟨j, e⟩ | ⟨e, j, ej⟩
      · rw [e]
        exact all j
      · have := all j
        omega
  · unfold isSt
    refine decide_eq_false fun z => ?_
    have := (start_iff hf kn).mp z 1
    have e : it f 1 k = f k := rfl
    omega
  · unfold isSt
    refine decide_eq_true ((start_iff hg kn).mpr fun j => ?_)
    have : it g j k = k := by
      induction j with
      | zero => rfl
      | succ j ih =>
        show g (it g j k) = k
        rw [ih, gk]
    omega
theorem rings_unit {f : Nat → Nat} {n : Nat} (id_ : ∀ x, x < n → f x = x) : (rings f n).length = n := by
  have h : Pm f n := ⟨fun k hk => by rw [id_ k hk]; exact hk, fun a b ha hb e => by rw [id_ a ha, id_ b hb] at e; exact e⟩
  unfold rings
  rw [rings_count]
  refine (List.countP_eq_length (p := isSt f n)).mpr (fun x hx => ?_) |>.trans List.length_range
  have xn := List.mem_range.mp hx
  unfold isSt
  refine decide_eq_true ((start_iff h xn).mpr fun j => ?_)
  have : it f j x = x := by
    induction j with
    | zero => rfl
    | succ j ih =>
      show f (it f j x) = x
      rw [ih, id_ x xn]
  omega
/-! moves as lists -/
theorem fn_at {m : List Nat} {k : Nat} (h : k < m.length) : fn' m k = m[k] := by
  unfold fn'
  rw [List.getD, List.getElem?_eq_getElem h]
  rfl
theorem onto {f : Nat → Nat} {n : Nat} (h : Pm f n) {k : Nat} (hk : k < n) : ∃ p, p < n ∧ f p = k := by
  obtain ⟨L, l1, _, e⟩ := back_home h hk
  refine ⟨it f (L - 1) k, it_lt h hk _, ?_⟩
  show it f (L - 1 + 1) k = k
  rw [show L - 1 + 1 = L by omega, e]
theorem fn_ext {m l : List Nat} (e : m.length = l.length) (h : ∀ x, x < m.length → fn' m x = fn' l x) : m = l :=
  List.ext_getElem e fun x h1 h2 => by rw [← fn_at h1, ← fn_at h2, h x h1]
theorem fn_map {n : Nat} {f : Nat → Nat} {x : Nat} (h : x < n) : fn' ((List.range n).map f) x = f x := by
  rw [fn_at (by rw [List.length_map, List.length_range]; exact h), List.getElem_map, List.getElem_range]
theorem map_mv {n : Nat} {f : Nat → Nat} (h : Pm f n) (n1 : 1 ≤ n) (n24 : n ≤ 24) : Mv ((List.range n).map f) := by
  refine ⟨?_, fun k hk => ?_, by rw [List.length_map, List.length_range]; exact n1, by rw [List.length_map, List.length_range]; exact n24⟩
  · rw [List.Nodup, List.pairwise_map]
    refine List.Pairwise.imp_of_mem ?_ (List.pairwise_lt_range (n := n))
    intro i j hi hj lt e
    have := h.inj _ _ (List.mem_range.mp hi) (List.mem_range.mp hj) e
    omega
  · obtain ⟨x, hx, rfl⟩ := List.mem_map.mp hk
    rw [List.length_map, List.length_range]
    exact h.lt _ (List.mem_range.mp hx)
theorem mv_map {m : List Nat} : m = (List.range m.length).map (fn' m) :=
  fn_ext (by rw [List.length_map, List.length_range]) fun x hx => (fn_map hx).symm
theorem comp_len (m l : List Nat) : (comp m l).length = l.length := List.length_map _
theorem fn_comp {m l : List Nat} {x : Nat} (h : x < l.length) : fn' (comp m l) x = fn' m (fn' l x) := by
  rw [fn_at (by rw [comp_len]; exact h), fn_at h]
  unfold comp
  rw [List.getElem_map]
  rfl
theorem comp_mv {m l : List Nat} (hm : Mv m) (hl : Mv l) (e : m.length = l.length) : Mv (comp m l) := by
  have p1 := pm_of hm
  have p2 := pm_of hl
  rw [e] at p1
  have : comp m l = (List.range l.length).map fun x => fn' m (fn' l x) :=
    fn_ext (by rw [comp_len, List.length_map, List.length_range]) fun x hx => by
      rw [comp_len] at hx
      rw [fn_comp hx, fn_map hx]
  rw [this]
  exact map_mv ⟨fun k hk => p1.lt _ (p2.lt k hk), fun a b ha hb z => p2.inj a b ha hb (p1.inj _ _ (p2.lt a ha) (p2.lt b hb) z)⟩ hl.2.2.1 hl.2.2.2
theorem perm_mv {m l : List Nat} (h : l.Perm m) (hm : Mv m) : Mv l := by
  have e := h.length_eq
  exact ⟨h.nodup_iff.mpr hm.1, fun k hk => by rw [e]; exact hm.2.1 k (h.mem_iff.mp hk), by rw [e]; exact hm.2.2.1, by rw [e]; exact hm.2.2.2⟩
theorem two_at {l : List Nat} {p k : Nat} (pk : p < k) (kl : k < l.length) : ∃ A B C x y, l = A ++ x :: (B ++ y :: C) ∧ A.length = p ∧ A.length + 1 + B.length = k ∧ x = fn' l p ∧ y = fn' l k := by
  have h1 : l[p]? = some l[p] := List.getElem?_eq_getElem (by omega)
  have e1 := split_at h1
  have lt : k - p - 1 < (l.drop (p + 1)).length := by rw [List.length_drop]; omega
  have h2 : (l.drop (p + 1))[k - p - 1]? = some (l[k]) := by
    rw [List.getElem?_drop, show p + 1 + (k - p - 1) = k by omega]
    exact List.getElem?_eq_getElem kl
  have e2 := split_at h2
  refine ⟨l.take p, (l.drop (p + 1)).take (k - p - 1), (l.drop (p + 1)).drop (k - p - 1 + 1), l[p], l[k], ?_, ?_, ?_, (fn_at _).symm, (fn_at _).symm⟩
  · rw [← e2]
    exact e1
  · rw [List.length_take]
    omega
  · rw [List.length_take, List.length_take, List.length_drop]
    omega
theorem fn_app {A : List Nat} {x : Nat} {R : List Nat} (j : Nat) : fn' (A ++ x :: R) j = if j < A.length then fn' A j else if j = A.length then x else fn' R (j - A.length - 1) := by
  unfold fn'
  rw [List.getD, List.getElem?_append]
  split
  · rfl
  · split
    · rename_i h
      rw [h, Nat.sub_self]
      rfl
    · rename_i h1 h2
      rw [show j - A.length = (j - A.length - 1) + 1 by omega, List.getElem?_cons_succ]
      rfl
theorem sign_main {n : Nat} : ∀ t, t ≤ n → ∀ l, Mv l → l.length = n → (∀ x, t ≤ x → x < n → fn' l x = x) →
    (inv l + n + (rings (fn' l) n).length) % 2 = 0 ∧ ∀ m, Mv m → m.length = n → (inv (comp m l) + inv m + inv l) % 2 = 0
  | 0, _, l, hl, ln, fix => by
    have el : l = List.range n := fn_ext (by rw [ln, List.length_range]) fun x hx => by
      rw [fix x (Nat.zero_le _) (by omega), fn_at (by rw [List.length_range]; omega), List.getElem_range]
    have i0 : inv l = 0 := by rw [el, List.range_eq_range']; exact inv_range n 0
    refine ⟨by rw [rings_unit fun x hx => fix x (Nat.zero_le _) hx, i0]; omega, fun m hm mn => ?_⟩
    have : comp m l = m := fn_ext (by rw [comp_len, ln, mn]) fun x hx => by
      rw [comp_len] at hx
      rw [fn_comp hx, fix x (Nat.zero_le _) (by omega)]
    rw [this, i0]
    omega
  | k + 1, kn, l, hl, ln, fix => by
    by_cases c : fn' l k = k
    · refine sign_main k (by omega) l hl ln fun x hx xn => ?_
      by_cases e : x = k
      · rw [e, c]
      · exact fix x (by omega) xn
    · have pm := pm_of hl
      rw [ln] at pm
      obtain ⟨p, pn, ep⟩ := onto pm (k := k) (by omega)
      have pk : p ≠ k := fun z => c (by rw [← z, ep, z])
      have plt : p < k := by
        rcases Nat.lt_or_ge k p with z | z
        · exact absurd ((fix p (by omega) pn).symm.trans ep) pk
        · omega
      obtain ⟨A, B, C, x, y, el, hA, hB, ex, ey⟩ := two_at plt (l := l) (by omega)
      rw [ep] at ex
      subst ex
      have sw : (A ++ y :: (B ++ x :: C)).Perm l := by
        rw [el]
        refine List.Perm.append_left A ?_
        have h1 : (y :: (B ++ x :: C)).Perm (y :: x :: (B ++ C)) := List.Perm.cons y List.perm_middle
        have h2 : (x :: (B ++ y :: C)).Perm (x :: y :: (B ++ C)) := List.Perm.cons x List.perm_middle
        exact h1.trans ((List.Perm.swap ..).trans h2.symm)
      have hl2 := perm_mv sw hl
      have ln2 : (A ++ y :: (B ++ x :: C)).length = n := by rw [sw.length_eq, ln]
      have g : ∀ j, j ≠ p → j ≠ x → fn' (A ++ y :: (B ++ x :: C)) j = fn' l j := by
        intro j j1 j2
        rw [el, fn_app (A := A) (x := y) (R := B ++ x :: C), fn_app (A := A) (x := x) (R := B ++ y :: C)]
        by_cases c1 : j < A.length
        · rw [if_pos c1, if_pos c1]
        · rw [if_neg c1, if_neg c1, if_neg (by omega), if_neg (by omega), fn_app (A := B) (x := x) (R := C), fn_app (A := B) (x := y) (R := C)]
          by_cases c2 : j - A.length - 1 < B.length
          · rw [if_pos c2, if_pos c2]
          · rw [if_neg c2, if_neg c2, if_neg (by omega), if_neg (by omega)]
      have gk : fn' (A ++ y :: (B ++ x :: C)) x = x := by
        rw [fn_app, if_neg (by omega), if_neg (by omega), fn_app, if_neg (by omega), if_pos (by omega)]
      have gp : fn' (A ++ y :: (B ++ x :: C)) p = fn' l x := by
        rw [fn_app, if_neg (by omega), if_pos (by omega), ey]
      have pm2 := pm_of hl2
      rw [ln2] at pm2
      have cut := rings_cut pm pm2 (k := x) (p := p) (by omega) (fun z h1 h2 => fix z (by omega) h2) c pn ep gk gp (fun z _ z1 z2 => g z z2 z1)
      obtain ⟨r1, r2⟩ := sign_main x (by omega) _ hl2 ln2 fun z hz zn => by
        by_cases e : z = x
        · rw [e, gk]
        · rw [g z (by omega) e]
          exact fix z (by omega) zn
      have s1 := inv_swap (A := A) (x := x) (B := B) (y := y) (C := C) (by rw [← el]; exact hl.1)
      rw [← el] at s1
      refine ⟨by omega, fun m hm mn => ?_⟩
      have hc := comp_mv hm hl (by rw [mn, ln])
      have e1 : comp m l = comp m A ++ m.getD x 0 :: (comp m B ++ m.getD y 0 :: comp m C) := by
        rw [el]
        unfold comp
        rw [List.map_append, List.map_cons, List.map_append, List.map_cons]
      have e2 : comp m (A ++ y :: (B ++ x :: C)) = comp m A ++ m.getD y 0 :: (comp m B ++ m.getD x 0 :: comp m C) := by
        unfold comp
        rw [List.map_append, List.map_cons, List.map_append, List.map_cons]
      have s2 := inv_swap (A := comp m A) (x := m.getD x 0) (B := comp m B) (y := m.getD y 0) (C := comp m C) (by rw [← e1]; exact hc.1)
      have r3 := r2 m hm mn
      rw [e2] at r3
      rw [← e1] at s2
      omega
theorem sign_rings {l : List Nat} (h : Mv l) : evenS (inv l) = evenS (l.length - (rings (fn' l) l.length).length) := by
  have := (sign_main l.length (Nat.le_refl _) l h rfl fun x h1 h2 => by omega).1
  have le : (rings (fn' l) l.length).length ≤ l.length := ringsTo_len _ _ _
  unfold evenS
  rw [show inv l % 2 = (l.length - (rings (fn' l) l.length).length) % 2 by omega]
theorem sign_comp {m l : List Nat} (hm : Mv m) (hl : Mv l) (e : m.length = l.length) : evenS (inv (comp m l)) = evenS (inv m) * evenS (inv l) := by
  have := (sign_main l.length (Nat.le_refl _) l hl rfl fun x h1 h2 => by omega).2 m hm e
  unfold evenS
  by_cases a : inv m % 2 = 0
  · by_cases b : inv l % 2 = 0
    · rw [if_pos a, if_pos b, if_pos (by omega)]
      rfl
    · rw [if_pos a, if_neg b, if_neg (by omega)]
      rfl
  · by_cases b : inv l % 2 = 0
    · rw [if_neg a, if_pos b, if_neg (by omega)]
      rfl
    · rw [if_neg a, if_neg b, if_pos (by omega)]
      rfl
end K06

set_option Elab.async false
set_option linter.all false
set_option maxRecDepth 100000
set_option maxHeartbeats 1000000
namespace K06
/-! the move undone -/
theorem back_len (m : List Nat) : (back m).length = m.length := backT_len m _
theorem backT_at {m : List Nat} (h : Mv m) : ∀ i, i ≤ m.length → ∀ j, j < i → (backT m i).getD (fn' m j) 0 = j
  | 0, _, j, hj => by omega
  | i + 1, le, j, hj => by
    have pm := pm_of h
    rw [backT_succ]
    by_cases e : j = i
    · subst e
      rw [List.getD, show m.getD j 0 = fn' m j from rfl, List.getElem?_set_self (by rw [backT_len]; exact pm.lt j (by omega))]
      rfl
    · have ne : fn' m i ≠ fn' m j := fun z => e (pm.inj i j (by omega) (by omega) z).symm
      rw [List.getD, show m.getD i 0 = fn' m i from rfl, List.getElem?_set_ne ne, ← List.getD]
      exact backT_at h i (by omega) j (by omega)
theorem back_at {m : List Nat} (h : Mv m) {x : Nat} (hx : x < m.length) : fn' (back m) (fn' m x) = x := backT_at h _ (Nat.le_refl _) x hx
theorem back_mv {m : List Nat} (h : Mv m) : Mv (back m) := by
  have pm := pm_of h
  rw [mv_map (m := back m), back_len]
  refine map_mv ⟨fun y hy => ?_, fun a b ha hb e => ?_⟩ h.2.2.1 h.2.2.2
  · obtain ⟨x, hx, rfl⟩ := onto pm hy
    rw [back_at h hx]
    exact hx
  · obtain ⟨x, hx, rfl⟩ := onto pm ha
    obtain ⟨y, hy, rfl⟩ := onto pm hb
    rw [back_at h hx, back_at h hy] at e
    rw [e]
theorem comp_back {m : List Nat} (h : Mv m) : comp m (back m) = List.range m.length := by
  have pm := pm_of h
  refine fn_ext (by rw [comp_len, back_len, List.length_range]) fun y hy => ?_
  rw [comp_len] at hy
  rw [fn_comp hy]
  rw [back_len] at hy
  obtain ⟨x, hx, rfl⟩ := onto pm hy
  rw [back_at h hx, fn_at (m := List.range _) (by rw [List.length_range]; exact hy), List.getElem_range]
theorem back_comp {m l : List Nat} (hm : Mv m) (hl : Mv l) (e : m.length = l.length) : back (comp m l) = comp (back l) (back m) := by
  have pm := pm_of hm
  have pl := pm_of hl
  have hc := comp_mv hm hl e
  refine fn_ext (by rw [back_len, comp_len, comp_len, back_len, e]) fun y hy => ?_
  rw [back_len, comp_len] at hy
  obtain ⟨u, hu, rfl⟩ := onto pm (k := y) (by omega)
  obtain ⟨x, hx, rfl⟩ := onto pl (k := u) (by omega)
  rw [fn_comp (by rw [back_len, e]; exact hy), back_at hm hu, back_at hl hx, ← fn_comp hx, back_at hc (by rw [comp_len]; exact hx)]
/-! powers -/
def pwL (m : List Nat) (e : Int) : List Nat := (List.range m.length).map (pwE (fn' m) (ordOf (fn' m) m.length) e)
theorem pwL_len (m : List Nat) (e : Int) : (pwL m e).length = m.length := by
  unfold pwL
  rw [List.length_map, List.length_range]
theorem it_ord {f : Nat → Nat} {n x : Nat} (h : Pm f n) (hx : x < n) : it f (ordOf f n) x = x := by
  have g := rings_good h n (Nat.le_refl _)
  obtain ⟨r, hr, hxr⟩ := List.mem_flatten.mp (g.all x hx)
  obtain ⟨p, pn, er⟩ := g.each r hr
  have dv := ord_dvd (f := f) (n := n) hr
  rw [er] at hxr
  obtain ⟨a, _, rfl⟩ := ring_mem.mp hxr
  obtain ⟨ln, eL, no⟩ := lenOf_ok h pn
  rw [er, ringOf_len] at dv
  obtain ⟨q, eq⟩ := dv
  rw [← it_add, Nat.add_comm, it_add, eq, it_times eL]
theorem pwE_pm {f : Nat → Nat} {n M : Nat} (h : Pm f n) (e : Int) : Pm (pwE f M e) n :=
  ⟨fun k hk => it_lt h hk _, fun a b ha hb z => it_inj h ha hb _ z⟩
theorem pwL_mv {m : List Nat} (h : Mv m) (e : Int) : Mv (pwL m e) := map_mv (pwE_pm (pm_of h) e) h.2.2.1 h.2.2.2
theorem pwL_add {m : List Nat} (h : Mv m) (a b : Int) : comp (pwL m a) (pwL m b) = pwL m (a + b) := by
  have pm := pm_of h
  refine fn_ext (by rw [comp_len, pwL_len, pwL_len]) fun x hx => ?_
  rw [comp_len, pwL_len] at hx
  rw [fn_comp (by rw [pwL_len]; exact hx)]
  unfold pwL
  rw [fn_map hx, fn_map hx, fn_map ((pwE_pm pm b).lt x hx), pwE_add (ordOf_pos pm) (it_ord pm hx)]
theorem pwL_zero {m : List Nat} : pwL m 0 = List.range m.length := by
  refine fn_ext (by rw [pwL_len, List.length_range]) fun x hx => ?_
  rw [pwL_len] at hx
  unfold pwL
  rw [fn_map hx, pwE_zero, fn_at (m := List.range _) (by rw [List.length_range]; exact hx), List.getElem_range]
theorem pwL_ord {m : List Nat} : pwL m (ordOf (fn' m) m.length : Nat) = List.range m.length := by
  refine fn_ext (by rw [pwL_len, List.length_range]) fun x hx => ?_
  rw [pwL_len] at hx
  unfold pwL
  rw [fn_map hx, pwE_self, fn_at (m := List.range _) (by rw [List.length_range]; exact hx), List.getElem_range]
/-! how great orders can be -/
theorem lcm_le (ns : List Nat) : ∀ g, 0 < g → (∀ n ∈ ns, 1 ≤ n) → ns.foldl Nat.lcm g ≤ g * 2 ^ ns.sum := by
  induction ns with
  | nil =>
    intro g _ _
    simp
  | cons a r ih =>
    intro g hg all
    have a1 := all a (by simp)
    have p := ih (Nat.lcm g a) (Nat.lcm_pos hg a1) fun n hn => all n (by simp [hn])
    have h1 : Nat.lcm g a ≤ g * a := Nat.div_le_self _ _
    have h2 : a ≤ 2 ^ a := Nat.le_of_lt Nat.lt_two_pow_self
    rw [List.sum_cons, Nat.pow_add, ← Nat.mul_assoc]
    exact Nat.le_trans p (Nat.mul_le_mul_right _ (Nat.le_trans h1 (Nat.mul_le_mul_left _ h2)))
theorem ord_small {f : Nat → Nat} {n : Nat} (h : Pm f n) (n24 : n ≤ 24) (i : Nat) : lcmL (((rings f n).map List.length).take i) ≤ 2 ^ 24 := by
  have g := rings_good h n (Nat.le_refl _)
  have small := rings_small h n24 (Nat.le_refl n)
  rw [← List.map_take]
  have l1 := lcm_le (((rings f n).take i).map List.length) 1 Nat.one_pos fun k hk => by
    obtain ⟨r, hr, rfl⟩ := List.mem_map.mp hk
    exact (len_in h (List.mem_of_mem_take hr)).1
  rw [← List.length_flatten] at l1
  have cut : ((rings f n).take i).flatten.length ≤ (rings f n).flatten.length := by
    have e : (rings f n).flatten = ((rings f n).take i).flatten ++ ((rings f n).drop i).flatten := by
      rw [← List.flatten_append, List.take_append_drop]
    rw [e, List.length_append]
    omega
  have small2 : (rings f n).flatten.length ≤ 24 := small
  unfold lcmL
  refine Nat.le_trans l1 ?_
  rw [Nat.one_mul]
  exact Nat.pow_le_pow_right (by decide) (by omega)
/-! places that stay -/
theorem stills {f : Nat → Nat} {n : Nat} (h : Pm f n) : ∀ s, s ≤ n → ((ringsTo f n s).filter fun r => decide (r.length = 1)).map (fun r => r.getD 0 0) = (List.range s).filter fun k => decide (k = f k)
  | 0, _ => rfl
  | s + 1, le => by
    have ih := stills h s (by omega)
    have sn : s < n := le
    obtain ⟨ln, eL, no⟩ := lenOf_ok h sn
    have L1 := lenOf_pos f n s
    rw [List.range_succ, List.filter_append, ← ih, show ringsTo f n (s + 1) = if s ∈ (ringsTo f n s).flatten then ringsTo f n s else ringsTo f n s ++ [ringOf f n s] from rfl]
    clear ih
    by_cases c : s ∈ (ringsTo f n s).flatten
    · rw [if_pos c]
      have ne : ¬ s = f s := fun e => by
        refine absurd c ((start_iff h sn).mpr fun j => ?_)
        have : it f j s = s := by
          induction j with
          | zero => rfl
          | succ j ih2 =>
            show f (it f j s) = s
            rw [ih2, ← e]
        omega
      have : [s].filter (fun k => decide (k = f k)) = [] := by simp [ne]
      rw [this, List.append_nil]
    · rw [if_neg c, List.filter_append, List.map_append]
      congr 1
      by_cases e : s = f s
      · have l1 : lenOf f n s = 1 := by
          rcases Nat.lt_or_ge 1 (lenOf f n s) with z | z
          · exact absurd e.symm (no 1 (Nat.le_refl 1) z)
          · omega
        have : ringOf f n s = [s] := by
          unfold ringOf
          rw [l1]
          rfl
        rw [this]
        simp [← e]
      · have l2 : lenOf f n s ≠ 1 := fun z => e (by rw [z] at eL; exact eL.symm)
        have : decide ((ringOf f n s).length = 1) = false := decide_eq_false (by rw [ringOf_len]; exact l2)
        simp [this, e]
/-! the rings of a move make it -/
theorem rings_ok {f : Nat → Nat} {n : Nat} (h : Pm f n) : Rings n (rings f n) :=
  have g := rings_good h n (Nat.le_refl _)
  ⟨fun r hr => (len_in h hr).1, g.once, g.below⟩
theorem ring_turn {f : Nat → Nat} {n : Nat} (h : Pm f n) {r : List Nat} (hr : r ∈ rings f n) {j : Nat} (hj : j < r.length) : f (r.getD j 0) = r.getD ((j + 1) % r.length) 0 := by
  obtain ⟨p, pn, rfl⟩ := (rings_good h n (Nat.le_refl _)).each r hr
  obtain ⟨ln, eL, no⟩ := lenOf_ok h pn
  rw [ringOf_len] at hj ⊢
  exact ring_step eL hj
theorem goes_rings {f : Nat → Nat} {n : Nat} (h : Pm f n) : Goes f n (rings f n) :=
  ⟨fun r hr j hj => ring_turn h hr hj, fun x hx no => absurd ((rings_good h n (Nat.le_refl _)).all x hx) no⟩
/-- rings begun elsewhere; single ones left out -/
inductive Bent : List (List Nat) → List (List Nat) → Prop where
  | nil : Bent [] []
  | keep {Z R : List (List Nat)} {r : List Nat} {a : Nat} (h : Bent Z R) (ha : a < r.length) : Bent (Z ++ [r]) (R ++ [r.drop a ++ r.take a])
  | skip {Z R : List (List Nat)} {r : List Nat} (h : Bent Z R) (h1 : r.length = 1) : Bent (Z ++ [r]) R
theorem Bent.len {Z R : List (List Nat)} (h : Bent Z R) : R.length ≤ Z.length := by
  induction h with
  | nil => exact Nat.le_refl _
  | keep h ha ih =>
    rw [List.length_append, List.length_append]
    show _ + 1 ≤ _ + 1
    omega
  | skip h h1 ih =>
    rw [List.length_append]
    omega
theorem Bent.sub {Z R : List (List Nat)} (h : Bent Z R) : (∀ r' ∈ R, ∃ r ∈ Z, ∃ a, a < r.length ∧ r' = r.drop a ++ r.take a) ∧ (∀ x ∈ Z.flatten, x ∉ R.flatten → [x] ∈ Z) ∧ ∃ S, (R.flatten ++ S).Perm Z.flatten := by
  induction h with
  | nil => exact ⟨by simp, by simp, [], .refl _⟩
  | keep h ha ih =>
    rename_i Z R r a
    obtain ⟨i1, i2, S, i3⟩ := ih
    have pr : (r.drop a ++ r.take a).Perm r := List.perm_append_comm.trans (.of_eq (List.take_append_drop a r))
    refine ⟨fun r' hr => ?_, fun x hx no => ?_, S, ?_⟩
    · rcases List.mem_append.mp hr with z | z
      · obtain ⟨q, hq, b, hb, e⟩ := i1 r' z
        exact ⟨q, List.mem_append_left _ hq, b, hb, e⟩
      · exact ⟨r, by simp, a, ha, List.mem_singleton.mp z⟩
    · rw [List.flatten_append, List.mem_append] at hx no
      rcases hx with hx | hx
      · exact List.mem_append_left _ (i2 x hx fun z => no (.inl z))
      · refine absurd (.inr ?_) no
        have : x ∈ r := by simpa using hx
        have := pr.mem_iff.mpr this
        simpa using this
    · rw [List.flatten_append, List.flatten_append]
      have e1 : [r.drop a ++ r.take a].flatten = r.drop a ++ r.take a := by simp
      have e2 : [r].flatten = r := by simp
      rw [e1, e2, List.append_assoc]
      refine (List.Perm.append_left _ List.perm_append_comm).trans ?_
      rw [← List.append_assoc]
      exact List.Perm.append i3 pr
  | skip h h1 ih =>
    rename_i Z R r
    obtain ⟨i1, i2, S, i3⟩ := ih
    refine ⟨fun r' hr => ?_, fun x hx no => ?_, S ++ r, ?_⟩
    · obtain ⟨q, hq, b, hb, e⟩ := i1 r' hr
      exact ⟨q, List.mem_append_left _ hq, b, hb, e⟩
    · rw [List.flatten_append, List.mem_append] at hx
      rcases hx with hx | hx
      · exact List.mem_append_left _ (i2 x hx no)
      · have hxr : x ∈ r := by simpa using hx
        obtain ⟨y, ey⟩ := List.length_eq_one_iff.mp h1
        rw [ey] at hxr
        have := List.mem_singleton.mp hxr
        subst this
        rw [ey]
        simp
    · rw [List.flatten_append, ← List.append_assoc]
      have e2 : [r].flatten = r := by simp
      rw [e2]
      exact List.Perm.append_right r i3
theorem rot_at {r : List Nat} {a j : Nat} (ha : a < r.length) (hj : j < r.length) : (r.drop a ++ r.take a).getD j 0 = r.getD ((a + j) % r.length) 0 := by
  rw [List.getD, List.getElem?_append, List.length_drop]
  by_cases c : j < r.length - a
  · rw [if_pos c, List.getElem?_drop, Nat.mod_eq_of_lt (by omega)]
    rfl
  · rw [if_neg c, List.getElem?_take_of_lt (by omega), show (a + j) % r.length = j - (r.length - a) from ?_]
    · rfl
    · rw [Nat.mod_eq_sub_mod (by omega), Nat.mod_eq_of_lt (by omega)]
      omega
theorem bent_ok {f : Nat → Nat} {n : Nat} (h : Pm f n) {Z R : List (List Nat)} (pz : Z.Perm (rings f n)) (hb : Bent Z R) : Rings n R ∧ Goes f n R := by
  have g := rings_good h n (Nat.le_refl _)
  have go := rings_ok h
  obtain ⟨b1, b2, S, b3⟩ := hb.sub
  have pf : (R.flatten ++ S).Perm (rings f n).flatten := b3.trans pz.flatten
  have len : ∀ (r : List Nat) (a : Nat), (r.drop a ++ r.take a).length = r.length := fun r a => by
    rw [List.length_append, List.length_drop, List.length_take]
    omega
  refine ⟨⟨fun r' hr => ?_, ?_, fun x hx => ?_⟩, ⟨fun r' hr j hj => ?_, fun x hx no => ?_⟩⟩
  · obtain ⟨r, hz, a, ha, rfl⟩ := b1 r' hr
    rw [len]
    omega
  · have := (pf.nodup_iff.mpr go.once)
    exact (List.nodup_append.mp this).1
  · exact go.below x (pf.mem_iff.mp (List.mem_append_left _ hx))
  · obtain ⟨r, hz, a, ha, rfl⟩ := b1 r' hr
    rw [len] at hj ⊢
    have pos : 0 < r.length := by omega
    rw [rot_at ha hj, rot_at ha (Nat.mod_lt _ pos), ring_turn h (pz.mem_iff.mp hz) (Nat.mod_lt _ pos)]
    congr 1
    rw [Nat.mod_add_mod, Nat.add_mod_mod, Nat.add_assoc]
  · have inZ := b2 x ((pz.flatten).mem_iff.mpr (g.all x hx)) no
    have := ring_turn h (pz.mem_iff.mp inZ) (j := 0) (by simp)
    simpa using this
end K06

set_option Elab.async false
set_option linter.all false
set_option maxRecDepth 100000
set_option maxHeartbeats 2000000
namespace K06
open PySem PySem.Spec PyProof.Rows L2 MM
section
variable {P : Program} {w : World} {K : PySem.W.Frag} {mg : Str → Option Value} {base : Heap}
/-! equality of tuples of places -/
def dM (m : List Nat) : PyData := .tuple ((m.map fun (k : Nat) => (k : Int)).map PyData.int)
theorem mv_ints (m : List Nat) : mv m = (m.map fun (k : Nat) => (k : Int)).map V.int := by
  rw [List.map_map]
  rfl
theorem dp_mv {H : Hp} {a : Addr} {m : List Nat} (S : SqT K H a (mv m)) : Dp K H (.ref a) (dM m) := by
  rw [mv_ints] at S
  exact .tup S (dp_ints _)
theorem dM_eqv (m l : List Nat) : PyData.eqv (dM m) (dM l) = decide (m = l) := by
  show PyData.eqvAll _ _ = _
  rw [eqvAll_ints]
  refine decide_eq_decide.mpr ⟨fun h => ?_, fun h => by rw [h]⟩
  exact (List.map_inj_right (fun a b e => by omega)).mp h
theorem neT {H : Hp} {a b : Addr} {m l : List Nat} {Q : VK} (S : SqT K H a (mv m)) (S2 : SqT K H b (mv l)) (q : Q (.bl (!decide (m = l))) H) : rNeD K (.ref a) (.ref b) H Q :=
  ⟨dM m, dM l, dp_mv S, dp_mv S2, shapedT_ints _, shapedT_ints _, by rw [dM_eqv]; exact q⟩
theorem eqT {H : Hp} {a b : Addr} {m l : List Nat} {Q : VK} (S : SqT K H a (mv m)) (S2 : SqT K H b (mv l)) (q : Q (.bl (decide (m = l))) H) : rEqD K (.ref a) (.ref b) H Q :=
  ⟨dM m, dM l, dp_mv S, dp_mv S2, shapedT_ints _, shapedT_ints _, by rw [dM_eqv]; exact q⟩
theorem up_sqt {p a : Addr} {H H' : Hp} {xs : List V} (h : Upto p H H') (b : BagAt H p) (s : SqT K H a xs) : SqT K H' a xs := by
  obtain ⟨x, y, z, e⟩ := b
  rcases s with (s | ⟨u, s⟩) | s
  · exact .inl (.inl (h.same _ _ (fun z => by rw [z, e] at s; cases s) s))
  · exact .inl (.inr ⟨u, h.same _ _ (fun z => by rw [z, e] at s; cases s) s⟩)
  · exact .inr s
theorem bag_same {p : Addr} {H H' : Hp} (b : BagAt H p) (s : Same H H') : BagAt H' p :=
  let ⟨x, y, z, e⟩ := b
  ⟨x, y, z, s _ _ e⟩
theorem up_draw {p : Addr} {H : Hp} {g m c g' m' c' : Int} (e : H p = some (.lst [.int g, .int m, .int c])) : Upto p H (upd H p (.lst [.int g', .int m', .int c'])) := (Upto.refl ⟨_, _, _, e⟩).draw
theorem up_same {p : Addr} {H H' : Hp} (b : BagAt H p) (s : Same H H') : Upto p H H' := (Upto.refl b).keep s
end
end K06

set_option Elab.async false
set_option linter.all false
set_option maxRecDepth 100000
set_option maxHeartbeats 2000000
namespace K06
open PySem PySem.Spec PyProof.Rows L2 MM
/-! own words for the readings: a step, its side -/
local macro_rules | `(tactic| walk_at "side") => `(tactic| first
  | omega
  | exact ⟨by omega, by omega⟩
  | exact Or.inl ⟨by omega, by omega⟩
  | exact Or.inr ⟨by omega, by omega⟩
  | (show CPw _ _; decide +kernel)
  | (show (0 : Int) < _; decide +kernel)
  | (show CDivW _ _; first | assumption | exact ⟨by decide, by decide +kernel⟩))
local macro_rules | `(tactic| walk_at "here") => `(tactic| first
  | assumption
  | exact upd_same
  | exact Or.inl (Or.inl upd_same)
  | exact Or.inl upd_same)
local macro_rules | `(tactic| walk_at "one") => `(tactic| first
  | refine ⟨_, rfl, ?_⟩
  | refine Or.inl ⟨_, rfl, ?_⟩
  | refine Or.inr ⟨_, rfl, ?_⟩
  | refine ⟨_, _, rfl, rfl, (by walk_at "side"), ?_⟩
  | refine ⟨_, _, rfl, rfl, ?_⟩
  | refine ⟨_, _, rfl, Or.inl (by walk_at "here"), ?_⟩
  | refine ⟨_, _, rfl, Or.inr (by walk_at "here"), ?_⟩
  | refine ⟨_, _, rfl, (by walk_at "here"), ?_⟩
  | refine ⟨_, _, _, _, rfl, rfl, (by walk_at "here"), rfl, ?_⟩
  | refine ⟨_, _, rfl, ?_⟩
  | refine ifT (by rfl) ?_
  | refine ifF (by rfl) ?_
  | refine ifT (decide_eq_true (by omega)) ?_
  | refine ifF (decide_eq_false (by omega)) ?_)
local macro_rules | `(tactic| walk_at "st") => `(tactic| repeat (walk_at "one"))

section
variable {P : Program} {w : World} {K : PySem.W.Frag} {mg : Str → Option Value} {base : Heap}
/-- m turned by l -/
def turnL (m l : List Nat) : List Nat := comp (comp l m) (back l)
theorem turn_len {m l : List Nat} (e : m.length = l.length) : (turnL m l).length = m.length := by
  unfold turnL
  rw [comp_len, back_len, e]
def spTurn (K : PySem.W.Frag) : Sp := fun vs H Q _ => ∃ a b m l, vs = [.ref a, .ref b] ∧ SqT K H a (mv m) ∧ SqT K H b (mv l) ∧ Mv m ∧ Mv l ∧ m.length = l.length ∧ ∀ H' t, Same H H' → SqT K H' t (mv (turnL m l)) → Q (.ref t) H'
theorem scTurned : FnScope ["move", "by"] ["move", "by"] (defScope sTurned) :=
  ⟨rfl, rfl, rfl, by decide +kernel, rfl, by decide +kernel, by decide +kernel⟩
theorem dTurned (T : Tx K mg) (DFollowed : Def P w K mg base CX0 1 "followed" ["one", "other"] (spComp K)) (DTurnedBack : Def P w K mg base CX0 1 "turned_back" ["move"] (spBack K)) : Def P w K mg base CX0 2 "_turned" ["move", "by"] (spTurn K) := by
  refine T.t_turned.def_ (N := ["move", "by"]) scTurned (fun _ _ _ _ _ _ us hl => match us, hl with | [_, _], _ => rfl) ?_ ?_
  · intro vs H Q E h
    obtain ⟨a, b, m, l, rfl, _⟩ := h
    rfl
  · intro f cd A out s H vs Q E hr h
    have hr1 : Rm 1 _ := hr.le (by decide)
    obtain ⟨a, b, m, l, rfl, Sa, Sb, hm, hl, eq, q⟩ := h
    refine ⟨_, (pss_one (ps_ret (pe_d DFollowed (hr1.le (by decide)) pass0 (pa_cons (pe_d DFollowed (hr1.le (by decide)) pass0 (pa_cons (pv 1) (pa_cons (pv 0) pa_nil))) (pa_cons (pe_d DTurnedBack (hr1.le (by decide)) pass0 (pa_cons (pv 1) pa_nil)) pa_nil))))), ?_⟩
    have hc := comp_mv hl hm eq.symm
    refine ⟨_, rfl, _, rfl, b, a, l, m, rfl, Sb, Sa, by have := hm.2.2.2; omega, fun k hk => by rw [← eq]; exact hm.2.1 k hk, fun H1 t1 S1 T1 => ?_⟩
    refine ⟨_, rfl, b, l, rfl, same_sqt S1 Sb, by have := hl.2.2.2; omega, hl.2.1, fun H2 t2 S2 T2 => ?_⟩
    refine ⟨t1, t2, comp l m, back l, rfl, same_sqt S2 T1, T2, by rw [back_len]; have := hl.2.2.2; omega, fun k hk => ?_, fun H3 t3 S3 T3 => q _ _ ((S1.trans S2).trans S3) T3⟩
    have := (back_mv hl).2.1 k hk
    rw [back_len] at this
    rw [comp_len, eq]
    exact this
theorem scTurnedMove : FnScope ["move", "by"] ["move", "by"] (defScope sTurnedMove) :=
  ⟨rfl, rfl, rfl, by decide +kernel, rfl, by decide +kernel, by decide +kernel⟩
theorem dTurnedMove (T : Tx K mg) (DNeedPair : Def P w K mg base CX0 5 "_need_pair" ["one", "other"] (spNeedPair K)) (DTurned : Def P w K mg base CX0 2 "_turned" ["move", "by"] (spTurn K)) : Def P w K mg base CX0 6 "turned_move" ["move", "by"] (spTurn K) := by
  refine T.t_turned_move.def_ (N := ["move", "by"]) scTurnedMove (fun _ _ _ _ _ _ us hl => match us, hl with | [_, _], _ => rfl) ?_ ?_
  · intro vs H Q E h
    obtain ⟨a, b, m, l, rfl, _⟩ := h
    rfl
  · intro f cd A out s H vs Q E hr h
    have hr1 : Rm 5 _ := hr.le (by decide)
    obtain ⟨a, b, m, l, rfl, Sa, Sb, hm, hl, eq, q⟩ := h
    refine ⟨_, (pss_cons (ps_expr (pe_d DNeedPair (hr1.le (by decide)) pass0 (pa_cons (pv 0) (pa_cons (pv 1) pa_nil))))
      (pss_one (ps_ret (pe_d DTurned (hr1.le (by decide)) pass0 (pa_cons (pv 0) (pa_cons (pv 1) pa_nil)))))), ?_⟩
    refine ⟨_, rfl, _, rfl, a, b, m, l, rfl, Sa, Sb, hm, hl, eq, fun H1 S1 => ?_⟩
    exact ⟨_, rfl, _, rfl, a, b, m, l, rfl, same_sqt S1 Sa, same_sqt S1 Sb, hm, hl, eq, fun H2 t S2 T => q _ _ (S1.trans S2) T⟩
theorem Rv.same {H H' : Hp} {x : V} {o : Option (List V)} (h : Rv K H x o) (s : Same H H') : Rv K H' x o := by
  cases h with
  | no h ne => exact .no (h.same s) ne
  | yes h m => exact .yes (same_sqt s h) fun y hy => let ⟨n, k⟩ := m y hy; ⟨n, k.same s⟩
/-! judged values -/
def toN : V → Nat
  | .int i => i.toNat
  | _ => 0
def isTn (m l : List Nat) : Option (List V) → Bool
  | some xs => isArr m.length (some xs) && decide (turnL m (xs.map toN) = l)
  | none => false
theorem arr_back {n : Nat} {xs : List V} (h : isArr n (some xs) = true) (n1 : 1 ≤ n) (n24 : n ≤ 24) : xs = mv (xs.map toN) ∧ Mv (xs.map toN) ∧ (xs.map toN).length = n := by
  rw [isArr_some, Bool.and_eq_true, Bool.and_eq_true] at h
  obtain ⟨h1, h2, h3⟩ := h
  have ln := of_decide_eq_true h1
  have nd := of_decide_eq_true h3
  rw [List.all_map, List.all_eq_true] at h2
  have each : ∀ x ∈ xs, ∃ k : Nat, x = .int (k : Int) ∧ k < n := by
    intro x hx
    have q := h2 x hx
    cases x with
    | int i =>
      have q' : (decide (0 ≤ i) && decide (i ≤ (n : Int) - 1)) = true := q
      rw [Bool.and_eq_true] at q'
      have a := of_decide_eq_true q'.1
      have b := of_decide_eq_true q'.2
      exact ⟨i.toNat, by rw [Int.toNat_of_nonneg a], by omega⟩
    | _ => cases q
  have e1 : xs = mv (xs.map toN) := by
    unfold mv
    rw [List.map_map]
    refine ((List.map_congr_left (g := id) fun x hx => ?_).trans (List.map_id xs)).symm
    obtain ⟨k, rfl, _⟩ := each x hx
    rfl
  have e2 : xs.map toI = (xs.map toN).map fun (k : Nat) => (k : Int) := by
    rw [List.map_map]
    refine List.map_congr_left fun x hx => ?_
    obtain ⟨k, rfl, _⟩ := each x hx
    rfl
  refine ⟨e1, ⟨?_, fun k hk => ?_, by rw [List.length_map]; omega, by rw [List.length_map]; omega⟩, by rw [List.length_map]; exact ln⟩
  · rw [e2, List.Nodup, List.pairwise_map] at nd
    exact nd.imp fun h z => h (by rw [z])
  · obtain ⟨x, hx, rfl⟩ := List.mem_map.mp hk
    obtain ⟨k, rfl, hk2⟩ := each x hx
    rw [List.length_map, ln]
    exact hk2
def spIsTurning (K : PySem.W.Frag) : Sp := fun vs H Q _ => ∃ (a b : Addr) (m l : List Nat) (x : V) (o : Option (List V)), vs = [.ref a, .ref b, x] ∧ SqT K H a (mv m) ∧ SqT K H b (mv l) ∧ Mv m ∧ Mv l ∧ m.length = l.length ∧ Rv K H x o ∧ (∀ xs, o = some xs → xs.length ≤ 1000) ∧
  ∀ H', Same H H' → Q (.bl (isTn m l o)) H'
theorem scIsTurningMove : FnScope ["one", "other", "value"] ["one", "other", "value"] (defScope sIsTurningMove) :=
  ⟨rfl, rfl, rfl, by decide +kernel, rfl, by decide +kernel, by decide +kernel⟩
theorem dIsTurningMove (T : Tx K mg) (DNeedPair : Def P w K mg base CX0 5 "_need_pair" ["one", "other"] (spNeedPair K)) (DIsArrangement : Def P w K mg base CX0 3 "is_arrangement" ["size", "value"] (spArr K)) (DTurned : Def P w K mg base CX0 2 "_turned" ["move", "by"] (spTurn K)) : Def P w K mg base CX0 6 "is_turning_move" ["one", "other", "value"] (spIsTurning K) := by
  refine T.t_is_turning_move.def_ (N := ["one", "other", "value"]) scIsTurningMove (fun _ _ _ _ _ _ us hl => match us, hl with | [_, _, _], _ => rfl) ?_ ?_
  · intro vs H Q E h
    obtain ⟨a, b, m, l, x, o, rfl, _⟩ := h
    rfl
  · intro f cd A out s H vs Q E hr h
    have hr1 : Rm 5 _ := hr.le (by decide)
    obtain ⟨a, b, m, l, x, o, rfl, Sa, Sb, hm, hl, eq, hv, sm, q⟩ := h
    refine ⟨_, (pss_cons (ps_expr (pe_d DNeedPair (hr1.le (by decide)) pass0 (pa_cons (pv 0) (pa_cons (pv 1) pa_nil))))
      (pss_one (ps_ret (pe_and (pe_d DIsArrangement (hr1.le (by decide)) pass0 (pa_cons (pe_callB call_len_seq rfl T.f_len (by decide +kernel) (pa_cons (pv 0) pa_nil)) (pa_cons (pv 2) pa_nil))) (pe_one (pe_cmpR (op_eqD hr.hu) (pe_d DTurned (hr1.le (by decide)) pass0 (pa_cons (pv 0) (pa_cons (pv 2) pa_nil))) (pv 1) (nomark _))))))), ?_⟩
    have m24 := hm.2.2.2
    have m1 := hm.2.2.1
    refine ⟨_, rfl, _, rfl, a, b, m, l, rfl, Sa, Sb, hm, hl, eq, fun H1 S1 => ?_⟩
    refine ⟨_, rfl, a, _, rfl, .inr (same_sqt S1 Sa), _, rfl, (mv m).length, x, o, rfl, hv.same S1, by rw [mv_len]; omega, fun H2 S2 => ?_⟩
    have S3 := S1.trans S2
    refine ⟨_, rfl, ?_⟩
    cases e : isArr (mv m).length o with
    | false =>
      refine ifF rfl ?_
      have q2 := q H2 S3
      rw [mv_len] at e
      have : isTn m l o = false := by
        cases o with
        | none => rfl
        | some xs =>
          show (isArr m.length (some xs) && _) = false
          rw [e]
          rfl
      rw [this] at q2
      exact q2
    | true =>
      refine ifT rfl ?_
      rw [mv_len] at e
      cases hv with
      | no hk ne => cases e
      | yes St mem =>
        rename_i c xs
        obtain ⟨e1, e2, e3⟩ := arr_back e m1 m24
        have St2 := same_sqt S3 St
        rw [e1] at St2
        refine ⟨_, rfl, _, rfl, a, c, m, xs.map toN, rfl, same_sqt S3 Sa, St2, hm, e2, e3.symm, fun H4 t S4 T => ?_⟩
        refine ⟨_, rfl, eqT T (same_sqt (S3.trans S4) Sb) ?_⟩
        have q2 := q H4 (S3.trans S4)
        have : isTn m l (some xs) = decide (turnL m (xs.map toN) = l) := by
          show (isArr m.length (some xs) && _) = _
          rw [e]
          rfl
        rw [this] at q2
        exact q2
theorem eqLI {H : Hp} {a b : Addr} {ns ms : List Int} {Q : VK} (S : SqL K H a (ns.map V.int)) (S2 : SqL K H b (ms.map V.int)) (q : Q (.bl (decide (ns = ms))) H) : rEqD K (.ref a) (.ref b) H Q :=
  ⟨.list (ns.map .int), .list (ms.map .int), .lst S (dp_ints _), .lst S2 (dp_ints _), shaped_ints _, shaped_ints _, by
    rw [show PyData.eqv (.list (ns.map .int)) (.list (ms.map .int)) = PyData.eqvAll (ns.map .int) (ms.map .int) from rfl, eqvAll_ints]
    exact q⟩
theorem uniq {α : Type} {le : α → α → Prop} (anti : ∀ a b, le a b → le b a → a = b) : ∀ {l m : List α}, l.Perm m → l.Pairwise le → m.Pairwise le → l = m
  | [], m, p, _, _ => (List.Perm.eq_nil p.symm).symm
  | x :: l, [], p, _, _ => absurd p.length_eq (by simp)
  | x :: l, y :: m, p, hl, hm => by
    have h1 : x = y := by
      by_cases e : x = y
      · exact e
      · have hx : x ∈ m := by
          rcases List.mem_cons.mp (p.mem_iff.mp (List.mem_cons_self ..)) with z | z
          · exact absurd z e
          · exact z
        have hy : y ∈ l := by
          rcases List.mem_cons.mp (p.mem_iff.mpr (List.mem_cons_self ..)) with z | z
          · exact absurd z.symm e
          · exact z
        exact anti _ _ ((List.pairwise_cons.mp hl).1 y hy) ((List.pairwise_cons.mp hm).1 x hx)
    subst h1
    rw [uniq anti p.cons_inv (List.pairwise_cons.mp hl).2 (List.pairwise_cons.mp hm).2]
def rgI (n : Nat) : List Int := (List.range n).map fun (k : Nat) => (k : Int)
theorem rgI_sorted (n : Nat) : (rgI n).Pairwise (· ≤ ·) := by
  unfold rgI
  rw [List.pairwise_map]
  exact List.pairwise_lt_range.imp fun h => by omega
theorem arr_ints {n : Nat} {ns : List Int} : isArr n (some (ns.map V.int)) = true ↔ ns.Perm (rgI n) := by
  have key : (ns.map V.int).map toI = ns := by
    rw [List.map_map]
    exact List.map_id' _
  rw [isArr_some, Bool.and_eq_true, Bool.and_eq_true, key, decide_eq_true_iff, decide_eq_true_iff, List.all_map, List.all_eq_true, List.length_map]
  constructor
  · rintro ⟨h1, h2, h3⟩
    have nd : (rgI n).Nodup := by
      unfold rgI
      rw [List.Nodup, List.pairwise_map]
      exact List.pairwise_lt_range.imp fun h => by omega
    have sub : ∀ x ∈ ns, x ∈ rgI n := by
      intro x hx
      have q : (decide (0 ≤ x) && decide (x ≤ (n : Int) - 1)) = true := h2 (.int x) (List.mem_map.mpr ⟨x, hx, rfl⟩)
      rw [Bool.and_eq_true] at q
      have a := of_decide_eq_true q.1
      have b := of_decide_eq_true q.2
      exact List.mem_map.mpr ⟨x.toNat, List.mem_range.mpr (by omega), by omega⟩
    refine (List.perm_ext_iff_of_nodup h3 nd).mpr fun x => ⟨sub x, fun hx => ?_⟩
    by_cases c : x ∈ ns
    · exact c
    · exfalso
      have ln : (rgI n).length = n := by
        unfold rgI
        rw [List.length_map, List.length_range]
      have s2 : ns ⊆ (rgI n).erase x := fun y hy => (List.mem_erase_of_ne (fun z => c (by rw [← z]; exact hy))).mpr (sub y hy)
      have := List.Nodup.length_le_of_subset h3 s2
      rw [List.length_erase_of_mem hx, ln] at this
      have pos : 0 < n := by
        have := List.length_pos_of_mem hx
        omega
      omega
  · intro p
    have nd : (rgI n).Nodup := by
      unfold rgI
      rw [List.Nodup, List.pairwise_map]
      exact List.pairwise_lt_range.imp fun h => by omega
    refine ⟨?_, fun y hy => ?_, p.nodup_iff.mpr nd⟩
    · rw [p.length_eq]
      unfold rgI
      rw [List.length_map, List.length_range]
    · obtain ⟨x, hx, rfl⟩ := List.mem_map.mp hy
      have := p.mem_iff.mp hx
      unfold rgI at this
      obtain ⟨k, hk, rfl⟩ := List.mem_map.mp this
      have := List.mem_range.mp hk
      show (decide (0 ≤ (k : Int)) && decide ((k : Int) ≤ (n : Int) - 1)) = true
      rw [decide_eq_true (by omega), decide_eq_true (by omega)]
      rfl
end
end K06


set_option Elab.async false
set_option linter.all false
set_option maxRecDepth 100000
set_option maxHeartbeats 2000000
namespace K06
open PySem PySem.Spec PyProof.Rows L2 MM
/-! own words for the readings: a step, its side -/
local macro_rules | `(tactic| walk_at "side") => `(tactic| first
  | omega
  | exact ⟨by omega, by omega⟩
  | exact Or.inl ⟨by omega, by omega⟩
  | exact Or.inr ⟨by omega, by omega⟩
  | (show CPw _ _; decide +kernel)
  | (show (0 : Int) < _; decide +kernel)
  | (show CDivW _ _; first | assumption | exact ⟨by decide, by decide +kernel⟩))
local macro_rules | `(tactic| walk_at "here") => `(tactic| first
  | assumption
  | exact upd_same
  | exact Or.inl (Or.inl upd_same)
  | exact Or.inl upd_same)
local macro_rules | `(tactic| walk_at "one") => `(tactic| first
  | refine ⟨_, rfl, ?_⟩
  | refine Or.inl ⟨_, rfl, ?_⟩
  | refine Or.inr ⟨_, rfl, ?_⟩
  | refine ⟨_, _, rfl, rfl, (by walk_at "side"), ?_⟩
  | refine ⟨_, _, rfl, rfl, ?_⟩
  | refine ⟨_, _, rfl, Or.inl (by walk_at "here"), ?_⟩
  | refine ⟨_, _, rfl, Or.inr (by walk_at "here"), ?_⟩
  | refine ⟨_, _, rfl, (by walk_at "here"), ?_⟩
  | refine ⟨_, _, _, _, rfl, rfl, (by walk_at "here"), rfl, ?_⟩
  | refine ⟨_, _, rfl, ?_⟩
  | refine ifT (by rfl) ?_
  | refine ifF (by rfl) ?_
  | refine ifT (decide_eq_true (by omega)) ?_
  | refine ifF (decide_eq_false (by omega)) ?_)
local macro_rules | `(tactic| walk_at "st") => `(tactic| repeat (walk_at "one"))

section
variable {P : Program} {w : World} {K : PySem.W.Frag} {mg : Str → Option Value} {base : Heap}
def lens (R : List (List Nat)) : List Int := R.map fun r => (r.length : Int)
def lensI (m : List Nat) : List Int := (lens (rings (fn' m) m.length)).mergeSort fun a b => decide (a ≤ b)
theorem lensI_uniq {m : List Nat} {z : List Int} (p : z.Perm (lens (rings (fn' m) m.length))) (s : z.Pairwise (· ≤ ·)) : z = lensI m := by
  have pm := List.mergeSort_perm (lens (rings (fn' m) m.length)) (fun a b : Int => decide (a ≤ b))
  have pw := List.pairwise_mergeSort (le := fun p q : Int => decide (p ≤ q)) (fun a b c h1 h2 => decide_eq_true (Int.le_trans (of_decide_eq_true h1) (of_decide_eq_true h2)))
    (fun a b => by
      rcases Int.le_total a b with h | h
      · simp [h]
      · simp [h]) (lens (rings (fn' m) m.length))
  exact uniq (fun a b h1 h2 => by omega) (p.trans pm.symm) s (pw.imp fun h => of_decide_eq_true h)
def spLengths (K : PySem.W.Frag) : Sp := fun vs H Q _ => ∃ a m, vs = [.ref a] ∧ SqT K H a (mv m) ∧ Mv m ∧ ∀ H' t, Same H H' → SqL K H' t ((lensI m).map V.int) → Q (.ref t) H'
/-- values, each a tuple of places -/
def PR (K : PySem.W.Frag) (H : Hp) (zs : List (V × List Nat)) : Prop := ∀ b ∈ zs, ∃ t, b.1 = .ref t ∧ SqT K H t (mv b.2)
theorem PR.same {H H' : Hp} {zs : List (V × List Nat)} (h : PR K H zs) (s : Same H H') : PR K H' zs := fun b hb =>
  let ⟨t, e, S⟩ := h b hb
  ⟨t, e, same_sqt s S⟩
theorem PR.upd {H : Hp} {zs : List (V × List Nat)} {F : Addr} {xs ys : List V} (h : PR K H zs) (e : H F = some (.lst xs)) : PR K (L2.upd H F (.lst ys)) zs := fun b hb =>
  let ⟨t, e1, S⟩ := h b hb
  ⟨t, e1, sqt_lst S e⟩
theorem PR.perm {H : Hp} {zs bs : List (V × List Nat)} (h : PR K H bs) (p : zs.Perm bs) : PR K H zs := fun b hb => h b (p.mem_iff.mp hb)
theorem pr_of {H : Hp} : ∀ {us : List V} {R : List (List Nat)}, Refs K H us R → ∃ bs : List (V × List Nat), bs.map Prod.fst = us ∧ bs.map Prod.snd = R ∧ PR K H bs := by
  intro us R h
  unfold Refs at h
  induction h with
  | nil => exact ⟨[], rfl, rfl, fun b hb => by cases hb⟩
  | cons h _ ih =>
    rename_i v r vs R _
    obtain ⟨bs, e1, e2, p⟩ := ih
    obtain ⟨a, e, S⟩ := h
    refine ⟨(v, r) :: bs, by rw [List.map_cons, e1], by rw [List.map_cons, e2], fun b hb => ?_⟩
    rcases List.mem_cons.mp hb with z | z
    · subst z
      exact ⟨a, e, S⟩
    · exact p b z
theorem turn_of {m l b : List Nat} (hm : Mv m) (hb : Mv b) (e1 : m.length = l.length) (e2 : b.length = m.length) (h : ∀ x, x < m.length → fn' b (fn' m x) = fn' l (fn' b x)) : turnL m b = l := by
  have pb := pm_of hb
  refine fn_ext (by rw [turn_len e2.symm, e1]) fun y hy => ?_
  rw [turn_len e2.symm] at hy
  unfold turnL
  obtain ⟨x, hx, rfl⟩ := onto pb (k := y) (by omega)
  have pm := pm_of hm
  rw [fn_comp (by rw [back_len]; omega), back_at hb hx, fn_comp (by omega), h x (by omega)]
/-- what sorted rings tell -/
theorem turn_math {m l : List Nat} (hm : Mv m) (hl : Mv l) (eq : m.length = l.length) {Z Y : List (List Nat)} (pz : Z.Perm (rings (fn' m) m.length)) (py : Y.Perm (rings (fn' l) l.length)) (wz : Z.Pairwise fun x y => x.length ≤ y.length) (wy : Y.Pairwise fun x y => x.length ≤ y.length) :
    (∀ (i : Nat) (r t : List Nat), Z[i]? = some r → Y[i]? = some t → r.length ≠ t.length → lensI m ≠ lensI l) ∧
    (∀ g : List Nat, g.length = m.length → (Z.take (min Z.length Y.length)).map (List.map (fn' g)) = Y.take (min Z.length Y.length) → lensI m = lensI l ∧ Mv g ∧ turnL m g = l) := by
  have pm := pm_of hm
  have pl := pm_of hl
  have gz := rings_good pm m.length (Nat.le_refl _)
  have gy := rings_good pl l.length (Nat.le_refl _)
  have ez : lens Z = lensI m := lensI_uniq (pz.map _) (by unfold lens; rw [List.pairwise_map]; exact wz.imp fun h => by omega)
  have ey : lens Y = lensI l := lensI_uniq (py.map _) (by unfold lens; rw [List.pairwise_map]; exact wy.imp fun h => by omega)
  refine ⟨fun i r t h1 h2 ne e => ne ?_, fun g lg h => ?_⟩
  · rw [← ez, ← ey] at e
    have : (lens Z)[i]? = (lens Y)[i]? := by rw [e]
    unfold lens at this
    rw [List.getElem?_map, List.getElem?_map, h1, h2] at this
    have : (r.length : Int) = (t.length : Int) := Option.some.inj this
    omega
  have all_of : ∀ {f : Nat → Nat} {n : Nat} {Z : List (List Nat)}, Pm f n → Z.Perm (rings f n) → Z.flatten.Nodup ∧ (∀ x, x ∈ Z.flatten ↔ x < n) ∧ Z.flatten.length = n ∧ ∀ r ∈ Z, 1 ≤ r.length := by
    intro f n Z h p
    have g := rings_good h n (Nat.le_refl _)
    have pf := p.flatten
    have nd : Z.flatten.Nodup := pf.nodup_iff.mpr g.once
    have mem : ∀ x, x ∈ Z.flatten ↔ x < n := fun x => pf.mem_iff.trans ⟨g.below x, g.all x⟩
    refine ⟨nd, mem, ?_, fun r hr => (len_in h (p.mem_iff.mp hr)).1⟩
    have := (List.perm_ext_iff_of_nodup nd List.nodup_range).mpr fun x => (mem x).trans List.mem_range.symm
    rw [this.length_eq, List.length_range]
  obtain ⟨zn, zm, zl, z1⟩ := all_of pm pz
  obtain ⟨yn, ym, yl, y1⟩ := all_of pl py
  have fl : ∀ R : List (List Nat), (R.map (List.map (fn' g))).flatten.length = R.flatten.length := by
    intro R
    rw [← List.map_flatten, List.length_map]
  have cut : ∀ (R : List (List Nat)) (k : Nat), R.flatten.length = (R.take k).flatten.length + (R.drop k).flatten.length := by
    intro R k
    have : R = R.take k ++ R.drop k := (List.take_append_drop k R).symm
    have e : R.flatten = (R.take k).flatten ++ (R.drop k).flatten := by rw [← List.flatten_append, List.take_append_drop]
    rw [e, List.length_append]
  have more : ∀ (R : List (List Nat)) (k : Nat), (∀ r ∈ R, 1 ≤ r.length) → k < R.length → 1 ≤ (R.drop k).flatten.length := by
    intro R k h1 lt
    rw [List.drop_eq_getElem_cons lt, List.flatten_cons, List.length_append]
    have := h1 _ (List.getElem_mem lt)
    omega
  have c1 := cut Z (min Z.length Y.length)
  have c2 := cut Y (min Z.length Y.length)
  have c3 := fl (Z.take (min Z.length Y.length))
  rw [h] at c3
  have el : Z.length = Y.length := by
    rcases Nat.lt_trichotomy Z.length Y.length with c | c | c
    · have := more Y (min Z.length Y.length) y1 (by omega)
      have : (Z.drop (min Z.length Y.length)).flatten.length = 0 := by
        rw [List.drop_of_length_le (by omega)]
        rfl
      omega
    · exact c
    · have := more Z (min Z.length Y.length) z1 (by omega)
      have : (Y.drop (min Z.length Y.length)).flatten.length = 0 := by
        rw [List.drop_of_length_le (by omega)]
        rfl
      omega
  rw [List.take_of_length_le (by omega), List.take_of_length_le (by omega)] at h
  have hY : Y.flatten = Z.flatten.map (fn' g) := by rw [← h, List.map_flatten]
  have pg : Pm (fn' g) m.length := by
    refine ⟨fun k hk => ?_, fun a b ha hb e => ?_⟩
    · have : fn' g k ∈ Y.flatten := by
        rw [hY]
        exact List.mem_map.mpr ⟨k, (zm k).mpr hk, rfl⟩
      have := (ym _).mp this
      omega
    · by_cases c : a = b
      · exact c
      · exfalso
        rw [hY] at yn
        obtain ⟨i, hi, ei⟩ := List.getElem_of_mem ((zm a).mpr ha)
        obtain ⟨j, hj, ej⟩ := List.getElem_of_mem ((zm b).mpr hb)
        have ij : i ≠ j := fun z => c (by subst z; rw [← ei, ← ej])
        have pw := List.pairwise_iff_getElem.mp yn
        rcases Nat.lt_or_gt_of_ne ij with lt | lt
        · refine pw i j (by rw [List.length_map]; exact hi) (by rw [List.length_map]; exact hj) lt ?_
          rw [List.getElem_map, List.getElem_map, ei, ej, e]
        · refine pw j i (by rw [List.length_map]; exact hj) (by rw [List.length_map]; exact hi) lt ?_
          rw [List.getElem_map, List.getElem_map, ei, ej, e]
  have hg : Mv g := by
    rw [mv_map (m := g), lg]
    exact map_mv pg hm.2.2.1 hm.2.2.2
  refine ⟨?_, hg, turn_of hm hg eq lg fun x hx => ?_⟩
  · rw [← ez, ← ey, ← h]
    unfold lens
    rw [List.map_map]
    refine List.map_congr_left fun r _ => ?_
    show (r.length : Int) = ((r.map (fn' g)).length : Int)
    rw [List.length_map]
  · obtain ⟨r, hr, hxr⟩ := List.mem_flatten.mp ((zm x).mpr hx)
    obtain ⟨j, hj, ej⟩ := List.getElem_of_mem hxr
    have ex : x = r.getD j 0 := by rw [List.getD, List.getElem?_eq_getElem hj, ej]; rfl
    have gd : ∀ k, k < r.length → (r.map (fn' g)).getD k 0 = fn' g (r.getD k 0) := by
      intro k hk
      rw [List.getD, List.getElem?_map, List.getD, List.getElem?_eq_getElem hk]
      rfl
    have inY : r.map (fn' g) ∈ rings (fn' l) l.length := by
      refine py.mem_iff.mp ?_
      rw [← h]
      exact List.mem_map.mpr ⟨r, hr, rfl⟩
    have t1 := ring_turn pm (pz.mem_iff.mp hr) hj
    have t2 := ring_turn pl inY (j := j) (by rw [List.length_map]; exact hj)
    rw [List.length_map, gd j hj, gd _ (Nat.mod_lt _ (by omega))] at t2
    rw [ex, t1, ← t2]
def spTurning (K : PySem.W.Frag) : Sp := fun vs H Q _ => ∃ a b m l, vs = [.ref a, .ref b] ∧ SqT K H a (mv m) ∧ SqT K H b (mv l) ∧ Mv m ∧ Mv l ∧ m.length = l.length ∧
  (lensI m = lensI l → ∀ H' t g, Same H H' → SqT K H' t (mv g) → Mv g → g.length = m.length → turnL m g = l → Q (.ref t) H') ∧ (lensI m ≠ lensI l → ∀ H', Same H H' → Q .non H')
theorem scTurningMove : FnScope ["one", "other", "rings", "targets", "turning", "_", "ring", "target", "place", "to"] ["one", "other"] (defScope sTurningMove) :=
  ⟨rfl, rfl, rfl, by decide +kernel, rfl, by decide +kernel, by decide +kernel⟩
theorem dTurningMove (T : Tx K mg) (DNeedPair : Def P w K mg base CX0 5 "_need_pair" ["one", "other"] (spNeedPair K)) (DCyclesU : Def P w K mg base CX0 1 "_cycles" ["move"] (spCyc K)) : Def P w K mg base CX0 6 "turning_move" ["one", "other"] (spTurning K) := by
  refine T.t_turning_move.def_ (N := ["one", "other", "rings", "targets", "turning", "_", "ring", "target", "place", "to"]) scTurningMove (fun _ _ _ _ _ _ us hl => match us, hl with | [_, _], _ => rfl) ?_ ?_
  · intro vs H Q E h
    obtain ⟨a, b, m, l, rfl, _⟩ := h
    rfl
  · intro f cd A out s H vs Q E hr h
    have hu := hr.hu1
    have hr1 : Rm 5 _ := hr.le (by decide)
    obtain ⟨a, b, m, l, rfl, Sa, Sb, hm, hl, eq, q1, q2⟩ := h
    refine ⟨_, (pss_cons (ps_expr (pe_d DNeedPair (hr1.le (by decide)) pass0 (pa_cons (pv 0) (pa_cons (pv 1) pa_nil))))
      (pss_cons (ps_set (i := 2) scTurningMove.nd rfl (Or.inl rfl) (pe_sortLen hr.hu rfl T.f_sorted rfl T.f_len (pa_cons (pe_d DCyclesU (hr1.le (by decide)) pass0 (pa_cons (pv 0) pa_nil)) pa_nil)))
      (pss_cons (ps_set (i := 3) scTurningMove.nd rfl (Or.inl rfl) (pe_sortLen hr.hu rfl T.f_sorted rfl T.f_len (pa_cons (pe_d DCyclesU (hr1.le (by decide)) pass0 (pa_cons (pv 1) pa_nil)) pa_nil)))
      (pss_cons (ps_setLc (i := 4) (own := [("_", 5)]) (g := gName 5) (tt := tYes) rfl scTurningMove.nd rfl rfl (sw_true rfl rfl rfl rfl) (pi_tup (pv 0)) (blkOk_by (N := ["one", "other", "rings", "targets", "turning", "_", "ring", "target", "place", "to"]) (sc := defScope sTurningMove) (by decide +kernel)) (fun _ _ _ _ _ => pg_name (i := 5) scTurningMove.nd rfl (Or.inl rfl)) (fun _ _ _ _ _ => pts_nil) (fun _ _ _ _ _ => pe_int))
      (pss_cons (ps_for PassesOwn.never rfl (RZ.pi_zipA rfl T.f_zip (pa_cons (pv 2) (pa_cons (pv 3) pa_nil))) (pg_tup rfl (pgs_cons (pg_name (i := 6) scTurningMove.nd rfl (Or.inl rfl)) (pgs_cons (pg_name (i := 7) scTurningMove.nd rfl (Or.inl rfl)) pgs_nil)))
        (pss_cons (ps_if (pt_cmpR op_ne (pe_callB call_len_seq rfl T.f_len (by decide +kernel) (pa_cons (pv 6) pa_nil)) (pe_callB call_len_seq rfl T.f_len (by decide +kernel) (pa_cons (pv 7) pa_nil)) (nomark _)) (pss_one (ps_ret pe_non)) pss_nil)
        (pss_one (ps_for PassesOwn.never rfl (RZ.pi_zipA rfl T.f_zip (pa_cons (pv 6) (pa_cons (pv 7) pa_nil))) (pg_tup rfl (pgs_cons (pg_name (i := 8) scTurningMove.nd rfl (Or.inl rfl)) (pgs_cons (pg_name (i := 9) scTurningMove.nd rfl (Or.inl rfl)) pgs_nil)))
          (pss_one (ps_asg (pv 9) (pg_sub (pv 4) (pv 8) set_list)))))))
      (pss_one (ps_ret (pe_callTy call_tuple_of rfl T.f_tuple (by decide +kernel) (pa_cons (pv 4) pa_nil))))))))), ?_⟩
    have pm := pm_of hm
    have pl := pm_of hl
    have m24 := hm.2.2.2
    refine ⟨_, rfl, _, rfl, a, b, m, l, rfl, Sa, Sb, hm, hl, eq, fun H1 S1 => ?_⟩
    refine ⟨_, rfl, a, m, rfl, same_sqt S1 Sa, hm, fun H2 R us S2 hR rf => ?_⟩
    obtain ⟨bs, e1, e2, pr⟩ := pr_of rf
    have lle : (rings (fn' m) m.length).length ≤ m.length := ringsTo_len _ _ _
    have lbs : bs.length = (rings (fn' m) m.length).length := by rw [← e2, List.length_map]
    refine ⟨List Nat, List.length, R, bs, rfl, by rw [e1]; exact hR, by omega, fun b hb => ?_, fun zs p1 pz pw n1 => ?_⟩
    · obtain ⟨t, e, S⟩ := pr b hb
      exact ⟨t, _, e, S, mv_len _⟩
    have hZ : (upd H2 p1 (.lst (zs.map Prod.fst))) p1 = some (.lst (zs.map Prod.fst)) := upd_same
    have S3 := (S1.trans S2).trans (same_new (o := .lst (zs.map Prod.fst)) n1)
    have prZ := (pr.perm pz).same (same_new (o := .lst (zs.map Prod.fst)) n1)
    have pzR : (zs.map Prod.snd).Perm (rings (fn' m) m.length) := by
      rw [← e2]
      exact pz.map _
    have pwZ : (zs.map Prod.snd).Pairwise (fun x y => x.length ≤ y.length) := List.pairwise_map.mpr pw
    clear pr e1 e2 hR rf pz pw
    generalize upd H2 p1 _ = H3 at hZ S3 prZ ⊢
    refine ⟨_, rfl, b, l, rfl, same_sqt S3 Sb, hl, fun H4 R2 us2 S4 hR2 rf2 => ?_⟩
    obtain ⟨bs2, e1, e2, pr⟩ := pr_of rf2
    have lle2 : (rings (fn' l) l.length).length ≤ l.length := ringsTo_len _ _ _
    have lbs2 : bs2.length = (rings (fn' l) l.length).length := by rw [← e2, List.length_map]
    refine ⟨List Nat, List.length, R2, bs2, rfl, by rw [e1]; exact hR2, by omega, fun b hb => ?_, fun ys p2 py pw n2 => ?_⟩
    · obtain ⟨t, e, S⟩ := pr b hb
      exact ⟨t, _, e, S, mv_len _⟩
    have hY : (upd H4 p2 (.lst (ys.map Prod.fst))) p2 = some (.lst (ys.map Prod.fst)) := upd_same
    have S5 := S4.trans (same_new (o := .lst (ys.map Prod.fst)) n2)
    have prY := (pr.perm py).same (same_new (o := .lst (ys.map Prod.fst)) n2)
    have pyR : (ys.map Prod.snd).Perm (rings (fn' l) l.length) := by
      rw [← e2]
      exact py.map _
    have pwY : (ys.map Prod.snd).Pairwise (fun x y => x.length ≤ y.length) := List.pairwise_map.mpr pw
    replace hZ := S5 _ _ hZ
    replace prZ := prZ.same S5
    have S6 := S3.trans S5
    clear pr e1 e2 hR2 rf2 py pw S3 S4 S5 n1 n2
    generalize upd H4 p2 _ = H5 at hZ hY S6 prZ prY ⊢
    have Sa5 := same_sqt S6 Sa
    refine ⟨_, rfl, a, rfl, ⟨_, Sa5⟩, fun F fF => ?_⟩
    refine lc_tpl (fun _ => V.int 0) Sa5 fF (by rw [mv_len]; exact Nat.le_of_lt (small1000 (by omega))) (fun x acc hx Q' q' => q') ?_
    have ez : (mv m).map (fun _ => V.int 0) = mv (backT m 0) := by
      unfold backT mv
      rw [List.map_map]
      show _ = (List.replicate m.length 0).map _
      rw [List.map_replicate]
      exact List.map_const' ..
    rw [ez]
    have F1 : p1 ≠ F := ne_of_none hZ fF
    have F2 : p2 ≠ F := ne_of_none hY fF
    have fF0 : ∀ b o, H b = some o → b ≠ F := fun b o e => ne_of_none (S6 b o e) fF
    have sn := same_new (o := .lst (mv (backT m 0))) fF
    have hF : (upd H5 F (.lst (mv (backT m 0)))) F = some (.lst (mv (backT m 0))) := upd_same
    replace hZ := sn _ _ hZ
    replace hY := sn _ _ hY
    replace prZ := prZ.same sn
    replace prY := prY.same sn
    have S7 := S6.trans sn
    have b0 := backT_len m 0
    clear sn fF S6 ez
    generalize backT m 0 = z0 at hF S7 b0 hZ hY prZ prY ⊢
    generalize upd H5 F _ = H6 at hF S7 hZ hY prZ prY ⊢
    have TM := turn_math hm hl eq pzR pyR pwZ pwY
    refine ⟨_, rfl, _, rfl, p1, p2, _, _, rfl, .inl ⟨.inl (.inl hZ), .inl (.inl hY), for_zipM (K := K) (a := p1) (b := p2) (xs := zs.map Prod.fst) (ys := ys.map Prod.fst)
      (fun i σ H7 => Same H H7 ∧ H7 p1 = some (.lst (zs.map Prod.fst)) ∧ H7 p2 = some (.lst (ys.map Prod.fst)) ∧ PR K H7 zs ∧ PR K H7 ys ∧ ∃ g : List Nat, g.length = m.length ∧ H7 F = some (.lst (mv g)) ∧
        ((zs.map Prod.snd).take i).map (List.map (fn' g)) = (ys.map Prod.snd).take i ∧ ∃ x y z u, σ = [some (.ref a), some (.ref b), some (.ref p1), some (.ref p2), some (.ref F), none, x, y, z, u])
      ⟨S7, hZ, hY, prZ, prY, z0, b0, hF, rfl, none, none, none, none, rfl⟩ (fun i σ H7 h => ⟨.inl (.inl h.2.1), .inl (.inl h.2.2.1)⟩) ?_ ?_⟩⟩
    · rintro i x y T σ H7 hx hy ⟨S8, hZ, hY, prZ, prY, g, lg, hF, done, x0, y0, z0, u0, rfl⟩ fT
      obtain ⟨zb, hzb, rfl⟩ : ∃ zb, zs[i]? = some zb ∧ x = zb.1 := by
        rw [List.getElem?_map] at hx
        cases e : zs[i]? with
        | none => rw [e] at hx; cases hx
        | some zb => rw [e] at hx; exact ⟨zb, rfl, (Option.some.inj hx).symm⟩
      obtain ⟨yb, hyb, rfl⟩ : ∃ yb, ys[i]? = some yb ∧ y = yb.1 := by
        rw [List.getElem?_map] at hy
        cases e : ys[i]? with
        | none => rw [e] at hy; cases hy
        | some yb => rw [e] at hy; exact ⟨yb, rfl, (Option.some.inj hy).symm⟩
      obtain ⟨t1, et1, St1⟩ := prZ zb (List.mem_of_getElem? hzb)
      obtain ⟨t2, et2, St2⟩ := prY yb (List.mem_of_getElem? hyb)
      have hzr : (zs.map Prod.snd)[i]? = some zb.2 := by rw [List.getElem?_map, hzb]; rfl
      have hyr : (ys.map Prod.snd)[i]? = some yb.2 := by rw [List.getElem?_map, hyb]; rfl
      rw [et1, et2]
      have sT := same_new (o := .tup [V.ref t1, V.ref t2]) fT
      refine ⟨T, _, rfl, .inl (.inl upd_same), rfl, _, _, rfl, ?_⟩
      refine ⟨_, _, rfl, rfl, ?_⟩
      replace S8 := S8.trans sT
      replace hZ := sT _ _ hZ
      replace hY := sT _ _ hY
      replace hF := sT _ _ hF
      replace prZ := prZ.same sT
      replace prY := prY.same sT
      replace St1 := same_sqt sT St1
      replace St2 := same_sqt sT St2
      clear sT fT
      generalize upd H7 T _ = H8 at S8 hZ hY hF prZ prY St1 St2 ⊢
      refine ⟨_, rfl, t1, _, rfl, .inr St1, _, rfl, t2, _, rfl, .inr St2, rfl, _, rfl, ?_⟩
      rw [dInt, mv_len, mv_len]
      by_cases ln : zb.2.length = yb.2.length
      · refine ifF (by rw [decide_eq_true (by omega)]; rfl) ?_
        have hR : Rings m.length (zs.map Prod.snd) := by
          have g0 := rings_ok pm
          have pf := pzR.flatten
          exact ⟨fun r hr => g0.full r (pzR.mem_iff.mp hr), pf.nodup_iff.mpr g0.once, fun x hx => g0.below x (pf.mem_iff.mp hx)⟩
        refine ⟨_, rfl, _, rfl, t1, t2, _, _, rfl, .inr ⟨St1, St2, RZ.for_zipT (K := K) (a := t1) (b := t2) (xs := mv zb.2) (ys := mv yb.2) (by rw [mv_len, mv_len, ln])
          (fun j σ H9 => Same H H9 ∧ H9 p1 = some (.lst (zs.map Prod.fst)) ∧ H9 p2 = some (.lst (ys.map Prod.fst)) ∧ (PR K H9 zs ∧ SqT K H9 t1 (mv zb.2)) ∧ (PR K H9 ys ∧ SqT K H9 t2 (mv yb.2)) ∧ ∃ g : List Nat, g.length = m.length ∧ H9 F = some (.lst (mv g)) ∧
            ((zs.map Prod.snd).take i).map (List.map (fn' g)) = (ys.map Prod.snd).take i ∧ (zb.2.take j).map (fn' g) = yb.2.take j ∧ ∃ z u, σ = [some (.ref a), some (.ref b), some (.ref p1), some (.ref p2), some (.ref F), none, some (.ref t1), some (.ref t2), z, u])
          ⟨S8, hZ, hY, ⟨prZ, St1⟩, ⟨prY, St2⟩, g, lg, hF, done, rfl, _, _, rfl⟩ (fun j σ H9 h => ⟨h.2.2.2.1.2, h.2.2.2.2.1.2⟩) ?_ ?_⟩⟩
        · rintro j u v T2 σ H9 hu hv ⟨S9, hZ, hY, ⟨prZ, St1⟩, ⟨prY, St2⟩, g, lg, hF, done, done2, z, w0, rfl⟩ fT2
          obtain ⟨jr, rfl⟩ := mv_nth hu
          obtain ⟨jt, rfl⟩ := mv_nth hv
          have ej : zb.2[j]? = some (zb.2.getD j 0) := by rw [List.getD, List.getElem?_eq_getElem jr]; rfl
          have ek : yb.2[j]? = some (yb.2.getD j 0) := by rw [List.getD, List.getElem?_eq_getElem jt]; rfl
          obtain ⟨new, lt, sm⟩ := hR.new hzr ej
          have FT : F ≠ T2 := ne_of_none hF fT2
          have sT := same_new (o := .tup [V.int ((zb.2.getD j 0 : Nat) : Int), V.int ((yb.2.getD j 0 : Nat) : Int)]) fT2
          refine ⟨T2, _, rfl, .inl (.inl upd_same), rfl, _, _, rfl, ?_⟩
          refine ⟨_, _, rfl, rfl, ?_⟩
          replace S9 := S9.trans sT
          replace hZ := sT _ _ hZ
          replace hY := sT _ _ hY
          replace hF := sT _ _ hF
          replace prZ := prZ.same sT
          replace prY := prY.same sT
          replace St1 := same_sqt sT St1
          replace St2 := same_sqt sT St2
          clear sT fT2 FT
          generalize upd H9 T2 _ = H10 at S9 hZ hY hF prZ prY St1 St2 ⊢
          refine ⟨_, rfl, _, rfl, _, rfl, F, _, _, zb.2.getD j 0, rfl, rfl, hF, by rw [mv_len, lg]; exact ixN_lt lt, ?_⟩
          rw [mv_set]
          have keepM : ∀ l : List Nat, zb.2.getD j 0 ∉ l → l.map (fn' (g.set (zb.2.getD j 0) (yb.2.getD j 0))) = l.map (fn' g) := by
            intro l no
            refine List.map_congr_left fun x hx => ?_
            unfold fn'
            rw [List.getD, List.getElem?_set_ne (fun z => no (by rw [z]; exact hx)), ← List.getD]
          have no1 : zb.2.getD j 0 ∉ ((zs.map Prod.snd).take i).flatten := fun z => new (List.mem_append_left _ z)
          have no2 : zb.2.getD j 0 ∉ zb.2.take j := fun z => new (List.mem_append_right _ z)
          refine ⟨fun b o h => (upd_ne (fF0 b o h)).trans (S9 b o h), (upd_ne F1).trans hZ, (upd_ne F2).trans hY, ⟨prZ.upd hF, sqt_lst St1 hF⟩, ⟨prY.upd hF, sqt_lst St2 hF⟩, g.set (zb.2.getD j 0) (yb.2.getD j 0), by rw [List.length_set, lg], upd_same, ?_, ?_, _, _, rfl⟩
          · rw [← done]
            refine List.map_congr_left fun r hr => keepM r fun z => no1 (List.mem_flatten.mpr ⟨r, hr, z⟩)
          · have ts : zb.2.take (j + 1) = zb.2.take j ++ [zb.2.getD j 0] := by rw [List.take_add_one, ej]; rfl
            have ts2 : yb.2.take (j + 1) = yb.2.take j ++ [yb.2.getD j 0] := by rw [List.take_add_one, ek]; rfl
            rw [ts, ts2, List.map_append, keepM _ no2, done2]
            congr 1
            show [fn' (g.set (zb.2.getD j 0) (yb.2.getD j 0)) (zb.2.getD j 0)] = _
            unfold fn'
            rw [List.getD, List.getElem?_set_self (by omega)]
            rfl
        · rintro σ H9 ⟨S9, hZ, hY, ⟨prZ, St1⟩, ⟨prY, St2⟩, g, lg, hF, done, done2, z, w0, rfl⟩
          rw [mv_len, List.take_length, ln, List.take_length] at done2
          refine ⟨S9, hZ, hY, prZ, prY, g, lg, hF, ?_, _, _, _, _, rfl⟩
          rw [List.take_add_one, List.take_add_one, hzr, hyr, List.map_append, done]
          congr 1
          show [zb.2.map (fn' g)] = [yb.2]
          rw [done2]
      · refine ifT (by rw [decide_eq_false (by omega)]; rfl) ?_
        exact q2 (TM.1 i _ _ hzr hyr ln) _ S8
    · rintro σ H7 ⟨S8, hZ, hY, prZ, prY, g, lg, hF, done, x0, y0, z0, u0, rfl⟩
      rw [List.length_map, List.length_map] at done
      obtain ⟨h1, h2, h3⟩ := TM.2 g lg (by rw [List.length_map, List.length_map]; exact done)
      exact ⟨_, rfl, F, _, rfl, .inl ⟨.inl (.inl hF), fun u fu => q1 h1 _ u g (S8.trans (same_new fu)) (.inl (.inl upd_same)) h2 lg h3⟩⟩
end
end K06


set_option Elab.async false
set_option linter.all false
set_option maxRecDepth 100000
set_option maxHeartbeats 1000000
namespace K06
open PySem PySem.Spec PyProof.Rows L2 MM
theorem tl_at {m g : List Nat} (hm : Mv m) (hg : Mv g) (e : m.length = g.length) {x : Nat} (hx : x < m.length) : fn' (turnL m g) (fn' g x) = fn' g (fn' m x) := by
  have pg := pm_of hg
  unfold turnL
  rw [fn_comp (by rw [back_len]; exact pg.lt x (by omega)), back_at hg (by omega), fn_comp hx]
theorem turn_mv {m g : List Nat} (hm : Mv m) (hg : Mv g) (e : m.length = g.length) : Mv (turnL m g) := by
  unfold turnL
  exact comp_mv (comp_mv hg hm e.symm) (back_mv hg) (by rw [comp_len, back_len, e])
/-- two moves of n places that do the same at all g x -/
theorem by_img {a b g : List Nat} (hg : Mv g) (e1 : a.length = g.length) (e2 : b.length = g.length) (h : ∀ x, x < g.length → fn' a (fn' g x) = fn' b (fn' g x)) : a = b := by
  have pg := pm_of hg
  refine fn_ext (by rw [e1, e2]) fun y hy => ?_
  obtain ⟨x, hx, rfl⟩ := onto pg (k := y) (by omega)
  exact h x hx
theorem turn_turn {m g h : List Nat} (hm : Mv m) (hg : Mv g) (hh : Mv h) (e : m.length = g.length) (e2 : h.length = g.length) : turnL (turnL m g) h = turnL m (comp h g) := by
  have ht := turn_mv hm hg e
  have hc := comp_mv hh hg e2
  have lt : (turnL m g).length = m.length := turn_len e
  refine by_img hc (by rw [turn_len (by rw [lt, e, e2]), lt, comp_len, e]) (by rw [turn_len (by rw [comp_len, e]), comp_len, e]) fun x hx => ?_
  rw [comp_len] at hx
  have pg := pm_of hg
  have pm := pm_of hm
  rw [tl_at hm hc (by rw [comp_len, e]) (by omega), fn_comp hx, tl_at ht hh (by rw [lt, e, e2]) (by rw [lt, e]; exact pg.lt x hx), tl_at hm hg e (by omega), fn_comp (by have := pm.lt x (by omega); omega)]
theorem turn_back {m g : List Nat} (hm : Mv m) (hg : Mv g) (e : m.length = g.length) : turnL (turnL m g) (back g) = m := by
  have ht := turn_mv hm hg e
  have lt : (turnL m g).length = m.length := turn_len e
  have pm := pm_of hm
  have pg := pm_of hg
  refine fn_ext (by rw [turn_len (by rw [lt, back_len, e]), lt]) fun x hx => ?_
  rw [turn_len (by rw [lt, back_len, e]), lt] at hx
  have := tl_at ht (back_mv hg) (by rw [lt, back_len, e]) (x := fn' g x) (by rw [lt, e]; exact pg.lt x (by omega))
  rw [back_at hg (by omega), tl_at hm hg e hx, back_at hg (by have := pm.lt x hx; omega)] at this
  exact this
theorem turn_comp {m l g : List Nat} (hm : Mv m) (hl : Mv l) (hg : Mv g) (e : m.length = g.length) (e2 : l.length = g.length) : turnL (comp m l) g = comp (turnL m g) (turnL l g) := by
  have pl := pm_of hl
  have pg := pm_of hg
  have hc := comp_mv hm hl (by rw [e, e2])
  refine by_img hg (by rw [turn_len (by rw [comp_len, e2]), comp_len, e2]) (by rw [comp_len, turn_len e2, e2]) fun x hx => ?_
  have lx := pl.lt x (by omega)
  rw [tl_at hc hg (by rw [comp_len, e2]) (by rw [comp_len, e2]; exact hx), fn_comp (by omega), fn_comp (by rw [turn_len e2, e2]; exact pg.lt x hx), tl_at hl hg e2 (by omega), tl_at hm hg e (by omega)]
theorem turn_self {g : List Nat} (hg : Mv g) : turnL g g = g :=
  by_img hg (turn_len rfl) rfl fun x hx => tl_at hg hg rfl hx
theorem it_turn {m g : List Nat} (hm : Mv m) (hg : Mv g) (e : m.length = g.length) {x : Nat} (hx : x < m.length) : ∀ k, it (fn' (turnL m g)) k (fn' g x) = fn' g (it (fn' m) k x)
  | 0 => rfl
  | k + 1 => by
    show fn' (turnL m g) (it (fn' (turnL m g)) k (fn' g x)) = fn' g (fn' m (it (fn' m) k x))
    rw [it_turn hm hg e hx k, tl_at hm hg e (it_lt (pm_of hm) hx k)]
/-- a multiple of the order of a place's ring -/
theorem len_dvd {f : Nat → Nat} {n x M : Nat} (h : Pm f n) (hx : x < n) (e : it f M x = x) : lenOf f n x ∣ M := by
  obtain ⟨ln, eL, no⟩ := lenOf_ok h hx
  have pos := lenOf_pos f n x
  rw [it_mod eL] at e
  have lt := Nat.mod_lt M (y := lenOf f n x) (by omega)
  have : M % lenOf f n x = 0 := by
    by_cases c : M % lenOf f n x = 0
    · exact c
    · exact absurd e (no _ (by omega) lt)
  exact Nat.dvd_of_mod_eq_zero this
theorem pwE_any {f : Nat → Nat} {n x M N : Nat} (h : Pm f n) (hx : x < n) (pM : 0 < M) (pN : 0 < N) (eM : it f M x = x) (eN : it f N x = x) (e : Int) : pwE f M e x = pwE f N e x := by
  obtain ⟨ln, eL, no⟩ := lenOf_ok h hx
  have pos := lenOf_pos f n x
  have key : ∀ M : Nat, 0 < M → it f M x = x → pwE f M e x = it f (e % (lenOf f n x : Int)).toNat x := by
    intro M pM eM
    unfold pwE
    rw [it_mod eL]
    congr 1
    have e0 := Int.emod_nonneg e (by omega : (M : Int) ≠ 0)
    have e1 := Int.emod_nonneg e (by omega : (lenOf f n x : Int) ≠ 0)
    have : (((e % (M : Int)).toNat % lenOf f n x : Nat) : Int) = e % (lenOf f n x : Int) := by
      rw [Int.natCast_emod, Int.toNat_of_nonneg e0, Int.emod_emod_of_dvd e (Int.natCast_dvd_natCast.mpr (len_dvd h hx eM))]
    omega
  rw [key M pM eM, key N pN eN]
theorem turn_pow {m g : List Nat} (hm : Mv m) (hg : Mv g) (e : m.length = g.length) (k : Int) : turnL (pwL m k) g = pwL (turnL m g) k := by
  have pm := pm_of hm
  have pg := pm_of hg
  have ht := turn_mv hm hg e
  have pt := pm_of ht
  have lt : (turnL m g).length = m.length := turn_len e
  refine by_img hg (by rw [turn_len (by rw [pwL_len, e]), pwL_len, e]) (by rw [pwL_len, lt, e]) fun x hx => ?_
  rw [tl_at (pwL_mv hm k) hg (by rw [pwL_len, e]) (by rw [pwL_len, e]; exact hx)]
  unfold pwL
  rw [fn_map (by omega), fn_map (by rw [lt, e]; exact pg.lt x hx)]
  have gx : fn' g x < (turnL m g).length := by rw [lt, e]; exact pg.lt x hx
  rw [pwE_any pt gx (ordOf_pos pt) (ordOf_pos pm) (it_ord pt gx) (by rw [it_turn hm hg e (by omega), it_ord pm (by omega)])]
  unfold pwE
  rw [it_turn hm hg e (by omega)]
/-! the rings of a turned move -/
def S (r : List Nat) : List Int := (r.map fun (k : Nat) => (k : Int)).mergeSort fun a b => decide (a ≤ b)
theorem S_perm (r : List Nat) : (S r).Perm (r.map fun (k : Nat) => (k : Int)) := List.mergeSort_perm _ _
theorem S_sorted (r : List Nat) : (S r).Pairwise (· ≤ ·) := by
  have pw := List.pairwise_mergeSort (le := fun p q : Int => decide (p ≤ q)) (fun a b c h1 h2 => decide_eq_true (Int.le_trans (of_decide_eq_true h1) (of_decide_eq_true h2)))
    (fun a b => by
      rcases Int.le_total a b with h | h
      · simp [h]
      · simp [h]) (r.map fun (k : Nat) => (k : Int))
  exact pw.imp fun h => of_decide_eq_true h
theorem S_uniq {r : List Nat} {z : List Int} (p : z.Perm (r.map fun (k : Nat) => (k : Int))) (s : z.Pairwise (· ≤ ·)) : z = S r :=
  uniq (fun a b h1 h2 => by omega) (p.trans (S_perm r).symm) s (S_sorted r)
theorem S_mem {r q : List Nat} (h : S r = S q) (x : Nat) : x ∈ r ↔ x ∈ q := by
  have a := (S_perm r).mem_iff (a := (x : Int))
  have b := (S_perm q).mem_iff (a := (x : Int))
  have c : ∀ l : List Nat, (x : Int) ∈ l.map (fun (k : Nat) => (k : Int)) ↔ x ∈ l := by
    intro l
    rw [List.mem_map]
    exact ⟨fun ⟨k, hk, e⟩ => by rw [← show k = x by omega]; exact hk, fun h => ⟨x, h, rfl⟩⟩
  rw [h] at a
  rw [← c r, ← c q, ← a, ← b]
theorem S_nodup {R : List (List Nat)} (full : ∀ r ∈ R, 1 ≤ r.length) (once : R.flatten.Nodup) : (R.map S).Nodup := by
  rw [List.Nodup, List.pairwise_map]
  refine List.Pairwise.imp_of_mem ?_ (List.pairwise_flatten.mp once).2
  intro r q hr hq ne e
  have l1 := full r hr
  have hx : r[0]'(by omega) ∈ r := List.getElem_mem _
  exact ne _ hx _ ((S_mem e _).mp hx) rfl
theorem turned_rings {m g : List Nat} (hm : Mv m) (hg : Mv g) (e : m.length = g.length) : ((rings (fn' (turnL m g)) (turnL m g).length).map S).Perm ((rings (fn' m) m.length).map fun r => S (r.map (fn' g))) := by
  have pm := pm_of hm
  have pg := pm_of hg
  have ht := turn_mv hm hg e
  have pt := pm_of ht
  have lt : (turnL m g).length = m.length := turn_len e
  rw [lt] at pt ⊢
  have gz := rings_good pm m.length (Nat.le_refl _)
  have gt := rings_good pt m.length (Nat.le_refl _)
  have n1 := S_nodup (fun r hr => (len_in pt hr).1) gt.once
  have inj : ∀ a b, a < m.length → b < m.length → fn' g a = fn' g b → a = b := fun a b ha hb h => pg.inj a b (by omega) (by omega) h
  have once2 : ((rings (fn' m) m.length).map (List.map (fn' g))).flatten.Nodup := by
    rw [← List.map_flatten, List.Nodup, List.pairwise_map]
    refine List.Pairwise.imp_of_mem ?_ gz.once
    intro a b ha hb ne h
    exact ne (inj a b (gz.below a ha) (gz.below b hb) h)
  have n2 : ((rings (fn' m) m.length).map fun r => S (r.map (fn' g))).Nodup := by
    have := S_nodup (R := (rings (fn' m) m.length).map (List.map (fn' g))) (fun r hr => by
      obtain ⟨q, hq, rfl⟩ := List.mem_map.mp hr
      rw [List.length_map]
      exact (len_in pm hq).1) once2
    rw [List.map_map] at this
    exact this
  -- a ring p's image is the ring of its image
  have same : ∀ p, p < m.length → ∀ r' ∈ rings (fn' (turnL m g)) m.length, fn' g p ∈ r' → S r' = S ((ringOf (fn' m) m.length p).map (fn' g)) := by
    intro p hp r' hr' hin
    obtain ⟨q, hq, rfl⟩ := gt.each r' hr'
    obtain ⟨ln, eL, no⟩ := lenOf_ok pm hp
    obtain ⟨ln2, eL2, no2⟩ := lenOf_ok pt hq
    have L1 := lenOf_pos (fn' m) m.length p
    have L2 := lenOf_pos (fn' (turnL m g)) m.length q
    obtain ⟨a, ha, ea⟩ := ring_mem.mp hin
    have pr : (ringOf (fn' (turnL m g)) m.length q).Perm ((ringOf (fn' m) m.length p).map (fn' g)) := by
      refine (List.perm_ext_iff_of_nodup (ring_nodup pt hq no2) ?_).mpr fun x => ?_
      · rw [List.Nodup, List.pairwise_map]
        refine List.Pairwise.imp_of_mem ?_ (ring_nodup pm hp no)
        intro u v hu hv ne h
        obtain ⟨k1, _, rfl⟩ := ring_mem.mp hu
        obtain ⟨k2, _, rfl⟩ := ring_mem.mp hv
        exact ne (inj _ _ (it_lt pm hp k1) (it_lt pm hp k2) h)
      · constructor
        · intro hx
          obtain ⟨k, hk, rfl⟩ := ring_mem.mp hx
          have back : q = it (fn' (turnL m g)) (lenOf (fn' (turnL m g)) m.length q - a) (fn' g p) := by
            rw [ea, ← it_add, show lenOf (fn' (turnL m g)) m.length q - a + a = lenOf (fn' (turnL m g)) m.length q by omega, eL2]
          refine List.mem_map.mpr ⟨it (fn' m) ((k + (lenOf (fn' (turnL m g)) m.length q - a)) % lenOf (fn' m) m.length p) p, ring_mem.mpr ⟨_, Nat.mod_lt _ (by omega), rfl⟩, ?_⟩
          rw [← it_mod eL, ← it_turn hm hg e hp, it_add, ← back]
        · intro hx
          obtain ⟨y, hy, rfl⟩ := List.mem_map.mp hx
          obtain ⟨k, hk, rfl⟩ := ring_mem.mp hy
          refine ring_mem.mpr ⟨(k + a) % lenOf (fn' (turnL m g)) m.length q, Nat.mod_lt _ (by omega), ?_⟩
          rw [← it_mod eL2, it_add, ← ea, it_turn hm hg e hp]
    refine S_uniq ((S_perm _).trans (pr.map _)) (S_sorted _)
  refine (List.perm_ext_iff_of_nodup n1 n2).mpr fun z => ?_
  constructor
  · intro hz
    obtain ⟨r', hr', rfl⟩ := List.mem_map.mp hz
    obtain ⟨q, hq, eq⟩ := gt.each r' hr'
    obtain ⟨p, hp, egp⟩ := onto pg (k := q) (by omega)
    have hp' : p < m.length := by omega
    obtain ⟨r, hr, hpr⟩ := List.mem_flatten.mp (gz.all p hp')
    obtain ⟨p0, hp0, er⟩ := gz.each r hr
    rw [er] at hpr
    obtain ⟨k, hk, ek⟩ := ring_mem.mp hpr
    have gin : fn' g p ∈ r' := by
      rw [egp, eq]
      exact ring_mem.mpr ⟨0, by have := lenOf_pos (fn' (turnL m g)) m.length q; omega, rfl⟩
    have gin0 : fn' g p0 ∈ r' := by
      -- p0 is reached from p
      obtain ⟨ln, eL, no⟩ := lenOf_ok pm hp0
      have : p0 = it (fn' m) (lenOf (fn' m) m.length p0 - k) p := by
        rw [ek, ← it_add, show lenOf (fn' m) m.length p0 - k + k = lenOf (fn' m) m.length p0 by omega, eL]
      rw [this, ← it_turn hm hg e hp', egp, eq]
      obtain ⟨ln2, eL2, no2⟩ := lenOf_ok pt hq
      rw [it_mod eL2]
      exact ring_mem.mpr ⟨_, Nat.mod_lt _ (by have := lenOf_pos (fn' (turnL m g)) m.length q; omega), rfl⟩
    refine List.mem_map.mpr ⟨r, hr, ?_⟩
    rw [er]
    exact (same p0 hp0 r' hr' gin0).symm
  · intro hz
    obtain ⟨r, hr, rfl⟩ := List.mem_map.mp hz
    obtain ⟨p, hp, rfl⟩ := gz.each r hr
    obtain ⟨r', hr', hin⟩ := List.mem_flatten.mp (gt.all (fn' g p) (by have := pg.lt p (by omega); omega))
    exact List.mem_map.mpr ⟨r', hr', same p hp r' hr' hin⟩
end K06

set_option Elab.async false
set_option linter.all false
set_option maxRecDepth 100000
set_option maxHeartbeats 2000000
namespace K06
open PySem PySem.Spec PyProof.Rows L2 MM
/-! own words for the readings: a step, its side -/
local macro_rules | `(tactic| walk_at "side") => `(tactic| first
  | omega
  | exact ⟨by omega, by omega⟩
  | exact Or.inl ⟨by omega, by omega⟩
  | exact Or.inr ⟨by omega, by omega⟩
  | (show CPw _ _; decide +kernel)
  | (show (0 : Int) < _; decide +kernel)
  | (show CDivW _ _; first | assumption | exact ⟨by decide, by decide +kernel⟩))
local macro_rules | `(tactic| walk_at "here") => `(tactic| first
  | assumption
  | exact upd_same
  | exact Or.inl (Or.inl upd_same)
  | exact Or.inl upd_same)
local macro_rules | `(tactic| walk_at "one") => `(tactic| first
  | refine ⟨_, rfl, ?_⟩
  | refine Or.inl ⟨_, rfl, ?_⟩
  | refine Or.inr ⟨_, rfl, ?_⟩
  | refine ⟨_, _, rfl, rfl, (by walk_at "side"), ?_⟩
  | refine ⟨_, _, rfl, rfl, ?_⟩
  | refine ⟨_, _, rfl, Or.inl (by walk_at "here"), ?_⟩
  | refine ⟨_, _, rfl, Or.inr (by walk_at "here"), ?_⟩
  | refine ⟨_, _, rfl, (by walk_at "here"), ?_⟩
  | refine ⟨_, _, _, _, rfl, rfl, (by walk_at "here"), rfl, ?_⟩
  | refine ⟨_, _, rfl, ?_⟩
  | refine ifT (by rfl) ?_
  | refine ifF (by rfl) ?_
  | refine ifT (decide_eq_true (by omega)) ?_
  | refine ifF (decide_eq_false (by omega)) ?_)
local macro_rules | `(tactic| walk_at "st") => `(tactic| repeat (walk_at "one"))

section
variable {P : Program} {w : World} {K : PySem.W.Frag} {mg : Str → Option Value} {base : Heap}
/-- what passes as a move -/
def okM : Option (List V) → Bool
  | none => false
  | some xs => decide (1 ≤ xs.length) && (decide (xs.length ≤ 24) && isArr xs.length (some xs))
/-- no move -/
def BadM (K : PySem.W.Frag) (H : Hp) (x : V) : Prop := ∃ o, Rv K H x o ∧ okM o = false ∧ ∀ xs, o = some xs → xs.length ≤ 1000
abbrev rMv (K : PySem.W.Frag) (H : Hp) (E : XK) : Prop := ∀ H', Same H H' → E (.ref (ga K "InvalidMove")) none H'
abbrev rOp (K : PySem.W.Frag) (H : Hp) (E : XK) : Prop := ∀ H', Same H H' → E (.ref (ga K "InvalidOperation")) none H'
/-- the error for the number y -/
abbrev rNum (K : PySem.W.Frag) (H : Hp) (y : V) (E : XK) : Prop := ∀ H' d, Same H H' → H d = none → H' d = some (.xd [("given", y)]) →
  E (.ref (ga K "InvalidNumber")) (some d) H'
def spMoveX (K : PySem.W.Frag) : Sp := fun vs H _ E => ∃ x, vs = [x] ∧ BadM K H x ∧ rMv K H E
theorem bNeedMove (T : Tx K mg) (Y : Ex K mg) (DIsArrangement : Def P w K mg base CX0 3 "is_arrangement" ["size", "value"] (spArr K)) : Def P w K mg base (L2.CX P w) 4 "_need_move" ["move"] (spMoveX K) := by
  refine T.t_need_move.defX (N := ["move"]) scNeedMove (fun _ _ _ _ _ _ us hl => match us, hl with | [_], _ => rfl) ?_ ?_
  · intro vs H Q E h
    obtain ⟨x, rfl, _⟩ := h
    rfl
  · intro f cd A out s H vs Q E hr h
    have hr1 : Rm 3 _ := hr.le (by decide)
    have tk : Takes (cxOf (L2.CX P w) P w K mg base ["move"] "_need_move" (defScope sNeedMove) f cd A out s H E) (fun cls d _ H1 => E cls d H1) := takes_of rfl rfl rfl rfl
    obtain ⟨x, rfl, ⟨o, hv, bad, small⟩, q⟩ := h
    refine ⟨_, (pss_cons (ps_if (PW.pt (pw_or (pt_not (pt_val (pe_callB (cr_is .tup) rfl T.f_isinstance (by decide +kernel) (pa_cons (pv 0) (pa_cons (pe_ty .tup T.f_tuple (by decide +kernel)) pa_nil))))) (pw_or1 (pt_not (pt_chain op_le op_le pe_int (pe_callB call_len_seq rfl T.f_len (by decide +kernel) (pa_cons (pv 0) pa_nil)) (C8.pe_gc rfl T.c_MAX_PLACES)))))) (pss_one (ps_plain Y.mv rfl tk)) pss_nil)
      (pss_one (ps_if (pt_not (pt_val (pe_d DIsArrangement (hr1.le (by decide)) pass0 (pa_cons (pe_callB call_len_seq rfl T.f_len (by decide +kernel) (pa_cons (pv 0) pa_nil)) (pa_cons (pv 0) pa_nil))))) (pss_one (ps_plain Y.mv rfl tk)) pss_nil))), ?_⟩
    cases hv with
    | no hk ne =>
      refine ⟨_, rfl, _, _, rfl, hk, _, rfl, ?_⟩
      refine ifT (by rw [ne]; rfl) ?_
      exact q H (Same.refl H)
    | yes S m =>
      rename_i a xs
      have sm := small xs rfl
      refine ⟨_, rfl, _, _, rfl, .tup S, _, rfl, ?_⟩
      refine ifF rfl ?_
      refine ⟨_, rfl, _, _, rfl, .inr S, _, _, rfl, rfl, _, rfl, ?_⟩
      by_cases l1 : 1 ≤ xs.length
      · refine ifT (decide_eq_true (by omega)) ?_
        refine ⟨_, _, rfl, rfl, _, rfl, ?_⟩
        by_cases l2 : xs.length ≤ 24
        · refine ifF ?_ ?_
          · show (!decide ((xs.length : Int) ≤ 24)) = false
            rw [decide_eq_true (by omega)]
            rfl
          refine ⟨_, rfl, _, _, rfl, .inr S, _, rfl, xs.length, _, _, rfl, .yes S m, by omega, fun H' s => ?_⟩
          refine ⟨_, rfl, ?_⟩
          refine ifT ?_ (q H' s)
          have b2 : (decide (1 ≤ xs.length) && (decide (xs.length ≤ 24) && isArr xs.length (some xs))) = false := bad
          rw [decide_eq_true l1, decide_eq_true l2, Bool.true_and, Bool.true_and] at b2
          show (!isArr xs.length (some xs)) = true
          rw [b2]
          rfl
        · refine ifT ?_ (q H (Same.refl H))
          show (!decide ((xs.length : Int) ≤ 24)) = true
          rw [decide_eq_false (by omega)]
          rfl
      · refine ifF (decide_eq_false (by omega)) ?_
        refine ⟨_, rfl, ?_⟩
        exact ifT rfl (q H (Same.refl H))
abbrev spMove2 (K : PySem.W.Frag) : Sp := orS (spNeedMove K) (spMoveX K)
/-- wrong ones of two -/
def BadP (K : PySem.W.Frag) (H : Hp) (x y : V) (E : XK) : Prop :=
  (BadM K H x ∧ rMv K H E) ∨ (∃ a m, x = .ref a ∧ SqT K H a (mv m) ∧ Mv m ∧ BadM K H y ∧ rMv K H E) ∨
  (∃ a b m l, x = .ref a ∧ y = .ref b ∧ SqT K H a (mv m) ∧ SqT K H b (mv l) ∧ Mv m ∧ Mv l ∧ m.length ≠ l.length ∧ rOp K H E)
theorem BadM.same {H H' : Hp} {x : V} (h : BadM K H x) (s : Same H H') : BadM K H' x := by
  obtain ⟨o, hv, b, sm⟩ := h
  refine ⟨o, ?_, b, sm⟩
  cases hv with
  | no hk ne => exact .no (hk.same s) ne
  | yes S m => exact .yes (same_sqt s S) fun y hy => let ⟨n, hk⟩ := m y hy; ⟨n, hk.same s⟩
def spPairX (K : PySem.W.Frag) : Sp := fun vs H _ E => ∃ x y, vs = [x, y] ∧ BadP K H x y E
theorem bNeedPair (T : Tx K mg) (Y : Ex K mg) (BNeedMove : Def P w K mg base (L2.CX P w) 4 "_need_move" ["move"] (spMove2 K)) : Def P w K mg base (L2.CX P w) 5 "_need_pair" ["one", "other"] (spPairX K) := by
  refine T.t_need_pair.defX (N := ["one", "other"]) scNeedPair (fun _ _ _ _ _ _ us hl => match us, hl with | [_, _], _ => rfl) ?_ ?_
  · intro vs H Q E h
    obtain ⟨x, y, rfl, _⟩ := h
    rfl
  · intro f cd A out s H vs Q E hr h
    have hr2 : Rm 4 _ := hr.le (by decide)
    have tk : Takes (cxOf (L2.CX P w) P w K mg base ["one", "other"] "_need_pair" (defScope sNeedPair) f cd A out s H E) (fun cls d _ H1 => E cls d H1) := takes_of rfl rfl rfl rfl
    obtain ⟨x, y, rfl, q⟩ := h
    refine ⟨_, (pss_cons (ps_expr (ME.pe_dS BNeedMove (hr2.le (by decide)) (passAt tk) (pa_cons (pv 0) pa_nil)))
      (pss_cons (ps_expr (ME.pe_dS BNeedMove (hr2.le (by decide)) (passAt tk) (pa_cons (pv 1) pa_nil)))
      (pss_one (ps_if (pt_cmpR op_ne (pe_callB call_len_seq rfl T.f_len (by decide +kernel) (pa_cons (pv 0) pa_nil)) (pe_callB call_len_seq rfl T.f_len (by decide +kernel) (pa_cons (pv 1) pa_nil)) (nomark _)) (pss_one (ps_plain Y.op rfl tk)) pss_nil)))), ?_⟩
    rcases q with ⟨bx, q⟩ | ⟨a, m, rfl, S, hm, by_, q⟩ | ⟨a, b, m, l, rfl, rfl, S, S2, hm, hl, ne, q⟩
    · exact ⟨_, rfl, .inr ⟨x, rfl, bx, q⟩⟩
    · refine ⟨_, rfl, .inl ⟨a, m, rfl, S, hm, fun H1 s1 => ?_⟩⟩
      exact ⟨_, rfl, .inr ⟨y, rfl, by_.same s1, fun H2 s2 => q H2 (s1.trans s2)⟩⟩
    · refine ⟨_, rfl, .inl ⟨a, m, rfl, S, hm, fun H1 s1 => ?_⟩⟩
      refine ⟨_, rfl, .inl ⟨b, l, rfl, same_sqt s1 S2, hl, fun H2 s2 => ?_⟩⟩
      refine ⟨_, rfl, _, _, rfl, .inr (same_sqt (s1.trans s2) S), _, rfl, _, _, rfl, .inr (same_sqt (s1.trans s2) S2), rfl, _, rfl, ?_⟩
      refine ifT ?_ (q _ (s1.trans s2))
      show (!decide (V.int ((mv m).length : Int) = V.int ((mv l).length : Int))) = true
      rw [dInt, mv_len, mv_len, decide_eq_false (by omega)]
      rfl
theorem bUndone (T : Tx K mg) (Y : Ex K mg) (BNeedMove : Def P w K mg base (L2.CX P w) 4 "_need_move" ["move"] (spMove2 K)) : Def P w K mg base (L2.CX P w) 5 "undone" ["move"] (spMoveX K) := by
  refine T.t_undone.defX (N := ["move"]) scUndone (fun _ _ _ _ _ _ us hl => match us, hl with | [_], _ => rfl) ?_ ?_
  · intro vs H Q E h
    obtain ⟨x, rfl, _⟩ := h
    rfl
  · intro f cd A out s H vs Q E hr h
    have hr2 : Rm 4 _ := hr.le (by decide)
    have tk : Takes (cxOf (L2.CX P w) P w K mg base ["move"] "undone" (defScope sUndone) f cd A out s H E) (fun cls d _ H1 => E cls d H1) := takes_of rfl rfl rfl rfl
    obtain ⟨x, rfl, bx, q⟩ := h
    refine ⟨_, (pss_cons (ps_expr (ME.pe_dS BNeedMove (hr2.le (by decide)) (passAt tk) (pa_cons (pv 0) pa_nil))) (pss_one ps_never)), ?_⟩
    exact ⟨_, rfl, .inr ⟨x, rfl, bx, q⟩⟩
theorem bOrderOf (T : Tx K mg) (Y : Ex K mg) (BNeedMove : Def P w K mg base (L2.CX P w) 4 "_need_move" ["move"] (spMove2 K)) : Def P w K mg base (L2.CX P w) 5 "order_of" ["move"] (spMoveX K) := by
  refine T.t_order_of.defX (N := ["move", "order", "ring"]) scOrderOf (fun _ _ _ _ _ _ us hl => match us, hl with | [_], _ => rfl) ?_ ?_
  · intro vs H Q E h
    obtain ⟨x, rfl, _⟩ := h
    rfl
  · intro f cd A out s H vs Q E hr h
    have hr2 : Rm 4 _ := hr.le (by decide)
    have tk : Takes (cxOf (L2.CX P w) P w K mg base ["move", "order", "ring"] "order_of" (defScope sOrderOf) f cd A out s H E) (fun cls d _ H1 => E cls d H1) := takes_of rfl rfl rfl rfl
    obtain ⟨x, rfl, bx, q⟩ := h
    refine ⟨_, (pss_cons (ps_expr (ME.pe_dS BNeedMove (hr2.le (by decide)) (passAt tk) (pa_cons (pv 0) pa_nil))) (pss_cons ps_never (pss_cons ps_never (pss_one ps_never)))), ?_⟩
    exact ⟨_, rfl, .inr ⟨x, rfl, bx, q⟩⟩
theorem bSignOf (T : Tx K mg) (Y : Ex K mg) (BNeedMove : Def P w K mg base (L2.CX P w) 4 "_need_move" ["move"] (spMove2 K)) : Def P w K mg base (L2.CX P w) 5 "sign_of" ["move"] (spMoveX K) := by
  refine T.t_sign_of.defX (N := ["move"]) scSignOf (fun _ _ _ _ _ _ us hl => match us, hl with | [_], _ => rfl) ?_ ?_
  · intro vs H Q E h
    obtain ⟨x, rfl, _⟩ := h
    rfl
  · intro f cd A out s H vs Q E hr h
    have hr2 : Rm 4 _ := hr.le (by decide)
    have tk : Takes (cxOf (L2.CX P w) P w K mg base ["move"] "sign_of" (defScope sSignOf) f cd A out s H E) (fun cls d _ H1 => E cls d H1) := takes_of rfl rfl rfl rfl
    obtain ⟨x, rfl, bx, q⟩ := h
    refine ⟨_, (pss_cons (ps_expr (ME.pe_dS BNeedMove (hr2.le (by decide)) (passAt tk) (pa_cons (pv 0) pa_nil))) (pss_one ps_never)), ?_⟩
    exact ⟨_, rfl, .inr ⟨x, rfl, bx, q⟩⟩
theorem bCycles (T : Tx K mg) (Y : Ex K mg) (BNeedMove : Def P w K mg base (L2.CX P w) 4 "_need_move" ["move"] (spMove2 K)) : Def P w K mg base (L2.CX P w) 5 "cycles" ["move"] (spMoveX K) := by
  refine T.t_cycles.defX (N := ["move"]) scCycles (fun _ _ _ _ _ _ us hl => match us, hl with | [_], _ => rfl) ?_ ?_
  · intro vs H Q E h
    obtain ⟨x, rfl, _⟩ := h
    rfl
  · intro f cd A out s H vs Q E hr h
    have hr2 : Rm 4 _ := hr.le (by decide)
    have tk : Takes (cxOf (L2.CX P w) P w K mg base ["move"] "cycles" (defScope sCycles) f cd A out s H E) (fun cls d _ H1 => E cls d H1) := takes_of rfl rfl rfl rfl
    obtain ⟨x, rfl, bx, q⟩ := h
    refine ⟨_, (pss_cons (ps_expr (ME.pe_dS BNeedMove (hr2.le (by decide)) (passAt tk) (pa_cons (pv 0) pa_nil))) (pss_one ps_never)), ?_⟩
    exact ⟨_, rfl, .inr ⟨x, rfl, bx, q⟩⟩
theorem bStillPlaces (T : Tx K mg) (Y : Ex K mg) (BNeedMove : Def P w K mg base (L2.CX P w) 4 "_need_move" ["move"] (spMove2 K)) : Def P w K mg base (L2.CX P w) 5 "still_places" ["move"] (spMoveX K) := by
  refine T.t_still_places.defX (N := ["move", "place", "target"]) scStillPlaces (fun _ _ _ _ _ _ us hl => match us, hl with | [_], _ => rfl) ?_ ?_
  · intro vs H Q E h
    obtain ⟨x, rfl, _⟩ := h
    rfl
  · intro f cd A out s H vs Q E hr h
    have hr2 : Rm 4 _ := hr.le (by decide)
    have tk : Takes (cxOf (L2.CX P w) P w K mg base ["move", "place", "target"] "still_places" (defScope sStillPlaces) f cd A out s H E) (fun cls d _ H1 => E cls d H1) := takes_of rfl rfl rfl rfl
    obtain ⟨x, rfl, bx, q⟩ := h
    refine ⟨_, (pss_cons (ps_expr (ME.pe_dS BNeedMove (hr2.le (by decide)) (passAt tk) (pa_cons (pv 0) pa_nil))) (pss_one ps_never)), ?_⟩
    exact ⟨_, rfl, .inr ⟨x, rfl, bx, q⟩⟩
theorem bProductOf (T : Tx K mg) (Y : Ex K mg) (BNeedPair : Def P w K mg base (L2.CX P w) 5 "_need_pair" ["one", "other"] (spPairX K)) : Def P w K mg base (L2.CX P w) 6 "product_of" ["one", "other"] (spPairX K) := by
  refine T.t_product_of.defX (N := ["one", "other"]) scProductOf (fun _ _ _ _ _ _ us hl => match us, hl with | [_, _], _ => rfl) ?_ ?_
  · intro vs H Q E h
    obtain ⟨x, y, rfl, _⟩ := h
    rfl
  · intro f cd A out s H vs Q E hr h
    have hr2 : Rm 5 _ := hr.le (by decide)
    have tk : Takes (cxOf (L2.CX P w) P w K mg base ["one", "other"] "product_of" (defScope sProductOf) f cd A out s H E) (fun cls d _ H1 => E cls d H1) := takes_of rfl rfl rfl rfl
    obtain ⟨x, y, rfl, q⟩ := h
    refine ⟨_, (pss_cons (ps_expr (ME.pe_dS BNeedPair (hr2.le (by decide)) (passAt tk) (pa_cons (pv 0) (pa_cons (pv 1) pa_nil)))) (pss_one ps_never)), ?_⟩
    exact ⟨_, rfl, _, rfl, x, y, rfl, q⟩
theorem bTurnedMove (T : Tx K mg) (Y : Ex K mg) (BNeedPair : Def P w K mg base (L2.CX P w) 5 "_need_pair" ["one", "other"] (spPairX K)) : Def P w K mg base (L2.CX P w) 6 "turned_move" ["move", "by"] (spPairX K) := by
  refine T.t_turned_move.defX (N := ["move", "by"]) scTurnedMove (fun _ _ _ _ _ _ us hl => match us, hl with | [_, _], _ => rfl) ?_ ?_
  · intro vs H Q E h
    obtain ⟨x, y, rfl, _⟩ := h
    rfl
  · intro f cd A out s H vs Q E hr h
    have hr2 : Rm 5 _ := hr.le (by decide)
    have tk : Takes (cxOf (L2.CX P w) P w K mg base ["move", "by"] "turned_move" (defScope sTurnedMove) f cd A out s H E) (fun cls d _ H1 => E cls d H1) := takes_of rfl rfl rfl rfl
    obtain ⟨x, y, rfl, q⟩ := h
    refine ⟨_, (pss_cons (ps_expr (ME.pe_dS BNeedPair (hr2.le (by decide)) (passAt tk) (pa_cons (pv 0) (pa_cons (pv 1) pa_nil)))) (pss_one ps_never)), ?_⟩
    exact ⟨_, rfl, _, rfl, x, y, rfl, q⟩
theorem bTurningMove (T : Tx K mg) (Y : Ex K mg) (BNeedPair : Def P w K mg base (L2.CX P w) 5 "_need_pair" ["one", "other"] (spPairX K)) : Def P w K mg base (L2.CX P w) 6 "turning_move" ["one", "other"] (spPairX K) := by
  refine T.t_turning_move.defX (N := ["one", "other", "rings", "targets", "turning", "_", "ring", "target", "place", "to"]) scTurningMove (fun _ _ _ _ _ _ us hl => match us, hl with | [_, _], _ => rfl) ?_ ?_
  · intro vs H Q E h
    obtain ⟨x, y, rfl, _⟩ := h
    rfl
  · intro f cd A out s H vs Q E hr h
    have hr2 : Rm 5 _ := hr.le (by decide)
    have tk : Takes (cxOf (L2.CX P w) P w K mg base ["one", "other", "rings", "targets", "turning", "_", "ring", "target", "place", "to"] "turning_move" (defScope sTurningMove) f cd A out s H E) (fun cls d _ H1 => E cls d H1) := takes_of rfl rfl rfl rfl
    obtain ⟨x, y, rfl, q⟩ := h
    refine ⟨_, (pss_cons (ps_expr (ME.pe_dS BNeedPair (hr2.le (by decide)) (passAt tk) (pa_cons (pv 0) (pa_cons (pv 1) pa_nil)))) (pss_cons ps_never (pss_cons ps_never (pss_cons ps_never (pss_cons ps_never (pss_one ps_never)))))), ?_⟩
    exact ⟨_, rfl, _, rfl, x, y, rfl, q⟩
def spTurnX (K : PySem.W.Frag) : Sp := fun vs H _ E => ∃ x y z, vs = [x, y, z] ∧ BadP K H x y E
theorem bIsTurningMove (T : Tx K mg) (Y : Ex K mg) (BNeedPair : Def P w K mg base (L2.CX P w) 5 "_need_pair" ["one", "other"] (spPairX K)) : Def P w K mg base (L2.CX P w) 6 "is_turning_move" ["one", "other", "value"] (spTurnX K) := by
  refine T.t_is_turning_move.defX (N := ["one", "other", "value"]) scIsTurningMove (fun _ _ _ _ _ _ us hl => match us, hl with | [_, _, _], _ => rfl) ?_ ?_
  · intro vs H Q E h
    obtain ⟨x, y, z, rfl, _⟩ := h
    rfl
  · intro f cd A out s H vs Q E hr h
    have hr2 : Rm 5 _ := hr.le (by decide)
    have tk : Takes (cxOf (L2.CX P w) P w K mg base ["one", "other", "value"] "is_turning_move" (defScope sIsTurningMove) f cd A out s H E) (fun cls d _ H1 => E cls d H1) := takes_of rfl rfl rfl rfl
    obtain ⟨x, y, z, rfl, q⟩ := h
    refine ⟨_, (pss_cons (ps_expr (ME.pe_dS BNeedPair (hr2.le (by decide)) (passAt tk) (pa_cons (pv 0) (pa_cons (pv 1) pa_nil)))) (pss_one ps_never)), ?_⟩
    exact ⟨_, rfl, _, rfl, x, y, rfl, q⟩
def spNumX (K : PySem.W.Frag) : Sp := fun vs H _ E => ∃ x n l m, vs = [x, .int l, .int m] ∧ Kd K H x n ∧ isB x l m = false ∧ rNum K H x E
theorem bNeedBetween (T : Tx K mg) (Y : Ex K mg) (DIsBetween : Def P w K mg base CX0 2 "is_between" ["value", "least", "most"] (spIsBetween K)) : Def P w K mg base (L2.CX P w) 3 "need_between" ["value", "least", "most"] (spNumX K) := by
  refine T.t_need_between.defX (N := ["value", "least", "most"]) scNeedBetween (fun _ _ _ _ _ _ us hl => match us, hl with | [_, _, _], _ => rfl) ?_ ?_
  · intro vs H Q E h
    obtain ⟨x, n, l, m, rfl, _⟩ := h
    rfl
  · intro f cd A out s H vs Q E hr h
    have hr1 : Rm 2 _ := hr.le (by decide)
    have tk : Takes (cxOf (L2.CX P w) P w K mg base ["value", "least", "most"] "need_between" (defScope sNeedBetween) f cd A out s H E) (fun cls d _ H1 => E cls d H1) := takes_of rfl rfl rfl rfl
    obtain ⟨x, n, l, m, rfl, hk, bad, q⟩ := h
    refine ⟨_, (pss_one (ps_if (pt_not (pt_val (pe_d DIsBetween (hr1.le (by decide)) pass0 (pa_cons (pv 0) (pa_cons (pv 1) (pa_cons (pv 2) pa_nil)))))) (pss_one (ps_num Y.num Y.ie rfl tk (hr.le (by decide)) (pa_cons (pv 0) pa_nil))) pss_nil)), ?_⟩
    refine ⟨_, rfl, _, rfl, _, rfl, x, n, l, m, rfl, hk, _, rfl, ?_⟩
    refine ifT (show (!isB x l m) = true by rw [bad]; rfl) ?_
    exact ⟨_, rfl, x, rfl, fun d hd => q _ d (same_new hd) hd upd_same⟩
def spPlX (K : PySem.W.Frag) : Sp := fun vs H _ E => ∃ x n, vs = [x] ∧ Kd K H x n ∧ isB x 1 24 = false ∧ rNum K H x E
theorem bNeedPlaces (T : Tx K mg) (Y : Ex K mg) (BNeedBetween : Def P w K mg base (L2.CX P w) 3 "need_between" ["value", "least", "most"] (spNumX K)) : Def P w K mg base (L2.CX P w) 4 "need_places" ["places"] (spPlX K) := by
  refine T.t_need_places.defX (N := ["places"]) scNeedPlaces (fun _ _ _ _ _ _ us hl => match us, hl with | [_], _ => rfl) ?_ ?_
  · intro vs H Q E h
    obtain ⟨x, n, rfl, _⟩ := h
    rfl
  · intro f cd A out s H vs Q E hr h
    have hr2 : Rm 3 _ := hr.le (by decide)
    have tk : Takes (cxOf (L2.CX P w) P w K mg base ["places"] "need_places" (defScope sNeedPlaces) f cd A out s H E) (fun cls d _ H1 => E cls d H1) := takes_of rfl rfl rfl rfl
    obtain ⟨x, n, rfl, hk, bad, q⟩ := h
    refine ⟨_, (pss_one (ps_expr (ME.pe_dS BNeedBetween (hr2.le (by decide)) (passAt tk) (pa_cons (pv 0) (pa_cons pe_int (pa_cons (C8.pe_gc rfl T.c_MAX_PLACES) pa_nil)))))), ?_⟩
    exact ⟨_, rfl, x, n, _, _, rfl, hk, bad, q⟩
theorem bUnitOf (T : Tx K mg) (Y : Ex K mg) (BNeedPlaces : Def P w K mg base (L2.CX P w) 4 "need_places" ["places"] (spPlX K)) : Def P w K mg base (L2.CX P w) 5 "unit_of" ["places"] (spPlX K) := by
  refine T.t_unit_of.defX (N := ["places"]) scUnitOf (fun _ _ _ _ _ _ us hl => match us, hl with | [_], _ => rfl) ?_ ?_
  · intro vs H Q E h
    obtain ⟨x, n, rfl, _⟩ := h
    rfl
  · intro f cd A out s H vs Q E hr h
    have hr2 : Rm 4 _ := hr.le (by decide)
    have tk : Takes (cxOf (L2.CX P w) P w K mg base ["places"] "unit_of" (defScope sUnitOf) f cd A out s H E) (fun cls d _ H1 => E cls d H1) := takes_of rfl rfl rfl rfl
    obtain ⟨x, n, rfl, hk, bad, q⟩ := h
    refine ⟨_, (pss_cons (ps_expr (ME.pe_dS BNeedPlaces (hr2.le (by decide)) (passAt tk) (pa_cons (pv 0) pa_nil))) (pss_one ps_never)), ?_⟩
    exact ⟨_, rfl, x, n, rfl, hk, bad, q⟩
def spPl2X (K : PySem.W.Frag) : Sp := fun vs H _ E => ∃ x n y, vs = [x, y] ∧ Kd K H x n ∧ isB x 1 24 = false ∧ rNum K H x E
theorem bIsMove (T : Tx K mg) (Y : Ex K mg) (BNeedPlaces : Def P w K mg base (L2.CX P w) 4 "need_places" ["places"] (spPlX K)) : Def P w K mg base (L2.CX P w) 5 "is_move" ["places", "value"] (spPl2X K) := by
  refine T.t_is_move.defX (N := ["places", "value"]) scIsMove (fun _ _ _ _ _ _ us hl => match us, hl with | [_, _], _ => rfl) ?_ ?_
  · intro vs H Q E h
    obtain ⟨x, n, y, rfl, _⟩ := h
    rfl
  · intro f cd A out s H vs Q E hr h
    have hr2 : Rm 4 _ := hr.le (by decide)
    have tk : Takes (cxOf (L2.CX P w) P w K mg base ["places", "value"] "is_move" (defScope sIsMove) f cd A out s H E) (fun cls d _ H1 => E cls d H1) := takes_of rfl rfl rfl rfl
    obtain ⟨x, n, y, rfl, hk, bad, q⟩ := h
    refine ⟨_, (pss_cons (ps_expr (ME.pe_dS BNeedPlaces (hr2.le (by decide)) (passAt tk) (pa_cons (pv 0) pa_nil))) (pss_one ps_never)), ?_⟩
    exact ⟨_, rfl, x, n, rfl, hk, bad, q⟩
def spPowX (K : PySem.W.Frag) : Sp := fun vs H _ E => ∃ x y, vs = [x, y] ∧ ((BadM K H x ∧ rMv K H E) ∨
  (∃ a m n, x = .ref a ∧ SqT K H a (mv m) ∧ Mv m ∧ Kd K H y n ∧ isB y (-(10 ^ 30)) (10 ^ 30) = false ∧ rNum K H y E))
theorem bPowerOf (T : Tx K mg) (Y : Ex K mg) (BNeedMove : Def P w K mg base (L2.CX P w) 4 "_need_move" ["move"] (spMove2 K)) (BNeedBetween : Def P w K mg base (L2.CX P w) 3 "need_between" ["value", "least", "most"] (spNumX K)) : Def P w K mg base (L2.CX P w) 5 "power_of" ["move", "number"] (spPowX K) := by
  refine T.t_power_of.defX (N := ["move", "number", "power", "_", "ring", "at", "place"]) scPowerOf (fun _ _ _ _ _ _ us hl => match us, hl with | [_, _], _ => rfl) ?_ ?_
  · intro vs H Q E h
    obtain ⟨x, y, rfl, _⟩ := h
    rfl
  · intro f cd A out s H vs Q E hr h
    have hr2 : Rm 4 _ := hr.le (by decide)
    have tk : Takes (cxOf (L2.CX P w) P w K mg base ["move", "number", "power", "_", "ring", "at", "place"] "power_of" (defScope sPowerOf) f cd A out s H E) (fun cls d _ H1 => E cls d H1) := takes_of rfl rfl rfl rfl
    obtain ⟨x, y, rfl, q⟩ := h
    refine ⟨_, (pss_cons (ps_expr (ME.pe_dS BNeedMove (hr2.le (by decide)) (passAt tk) (pa_cons (pv 0) pa_nil))) (pss_cons (ps_expr (ME.pe_dS BNeedBetween (hr2.le (by decide)) (passAt tk) (pa_cons (pv 1) (pa_cons (pe_un un_neg (C8.pe_gc rfl T.c_MAX_POWER)) (pa_cons (C8.pe_gc rfl T.c_MAX_POWER) pa_nil))))) (pss_cons ps_never (pss_cons ps_never (pss_one ps_never))))), ?_⟩
    rcases q with ⟨bx, q⟩ | ⟨a, m, n, rfl, S, hm, hk, bad, q⟩
    · exact ⟨_, rfl, .inr ⟨x, rfl, bx, q⟩⟩
    · refine ⟨_, rfl, .inl ⟨a, m, rfl, S, hm, fun H1 s1 => ?_⟩⟩
      refine ⟨_, rfl, _, rfl, y, n, _, _, rfl, hk.same s1, bad, fun H' d s2 fd ed => ?_⟩
      exact q H' d (s1.trans s2) (s1.free fd) ed
end
end K06


set_option Elab.async false
set_option linter.all false
set_option maxRecDepth 100000
set_option maxHeartbeats 2000000
namespace K06
open PySem PySem.Spec PyProof.Rows L2 MM
/-! own words for the readings: a step, its side -/
local macro_rules | `(tactic| walk_at "side") => `(tactic| first
  | omega
  | exact ⟨by omega, by omega⟩
  | exact Or.inl ⟨by omega, by omega⟩
  | exact Or.inr ⟨by omega, by omega⟩
  | (show CPw _ _; decide +kernel)
  | (show (0 : Int) < _; decide +kernel)
  | (show CDivW _ _; first | assumption | exact ⟨by decide, by decide +kernel⟩))
local macro_rules | `(tactic| walk_at "here") => `(tactic| first
  | assumption
  | exact upd_same
  | exact Or.inl (Or.inl upd_same)
  | exact Or.inl upd_same)
local macro_rules | `(tactic| walk_at "one") => `(tactic| first
  | refine ⟨_, rfl, ?_⟩
  | refine Or.inl ⟨_, rfl, ?_⟩
  | refine Or.inr ⟨_, rfl, ?_⟩
  | refine ⟨_, _, rfl, rfl, (by walk_at "side"), ?_⟩
  | refine ⟨_, _, rfl, rfl, ?_⟩
  | refine ⟨_, _, rfl, Or.inl (by walk_at "here"), ?_⟩
  | refine ⟨_, _, rfl, Or.inr (by walk_at "here"), ?_⟩
  | refine ⟨_, _, rfl, (by walk_at "here"), ?_⟩
  | refine ⟨_, _, _, _, rfl, rfl, (by walk_at "here"), rfl, ?_⟩
  | refine ⟨_, _, rfl, ?_⟩
  | refine ifT (by rfl) ?_
  | refine ifF (by rfl) ?_
  | refine ifT (decide_eq_true (by omega)) ?_
  | refine ifF (decide_eq_false (by omega)) ?_)
local macro_rules | `(tactic| walk_at "st") => `(tactic| repeat (walk_at "one"))

section
variable {P : Program} {w : World} {K : PySem.W.Frag} {mg : Str → Option Value} {base : Heap}
def toN1 (v : V) : Nat := (toI v).toNat
/-- the places of a ring, behind those that were seen -/
def ringOk (n : Nat) (s : List Nat) : List V → Option (List Nat)
  | [] => some s
  | v :: r => if isB v 0 ((n : Int) - 1) = true ∧ toN1 v ∉ s then ringOk n (s ++ [toN1 v]) r else none
def ringsOk (n : Nat) (s : List Nat) : List (Option (List V)) → Option (List Nat)
  | [] => some s
  | some (x :: xs) :: r => (ringOk n s (x :: xs)).bind fun t => ringsOk n t r
  | some [] :: _ => none
  | none :: _ => none
def tot (os : List (Option (List V))) : Nat := (os.map fun o => (o.getD []).length).sum
theorem int_of {v : V} {m : Int} (h : isB v 0 m = true) : v = .int ((toN1 v : Nat) : Int) ∧ ((toN1 v : Nat) : Int) ≤ m := by
  cases v with
  | int i =>
    have h2 : (decide (0 ≤ i) && decide (i ≤ m)) = true := h
    rw [Bool.and_eq_true, decide_eq_true_eq, decide_eq_true_eq] at h2
    have e : ((toN1 (.int i) : Nat) : Int) = i := Int.toNat_of_nonneg h2.1
    rw [e]
    exact ⟨rfl, h2.2⟩
  | _ => cases h
/-- wrong rings of n places -/
def BadR (K : PySem.W.Frag) (H : Hp) (n : Nat) (x : V) : Prop := (∃ kn, Kd K H x kn ∧ kn.isa .tup = false) ∨
  (∃ (a : Addr) (us : List V) (os : List (Option (List V))), x = .ref a ∧ SqT K H a us ∧ us.length = os.length ∧ (∀ (i : Nat) (v : V) (o : Option (List V)), us[i]? = some v → os[i]? = some o → Rv K H v o) ∧
    tot os ≤ 1000 ∧ us.length ≤ 1000 ∧ ringsOk n [] os = none)
def spRingsX (K : PySem.W.Frag) : Sp := fun vs H _ E => ∃ (n : Nat) (x : V), vs = [.int (n : Int), x] ∧ BadR K H n x ∧ rOp K H E
theorem bNeedRings (T : Tx K mg) (Y : Ex K mg) (DIsBetween : Def P w K mg base CX0 2 "is_between" ["value", "least", "most"] (spIsBetween K)) : Def P w K mg base (L2.CX P w) 3 "_need_rings" ["places", "rings"] (spRingsX K) := by
  refine T.t_need_rings.defX (N := ["places", "rings", "seen", "ring", "place"]) scNeedRings (fun _ _ _ _ _ _ us hl => match us, hl with | [_, _], _ => rfl) ?_ ?_
  · intro vs H Q E h
    obtain ⟨n, x, rfl, _⟩ := h
    rfl
  · intro f cd A out s H vs Q E hr h
    have hr1 : Rm 2 _ := hr.le (by decide)
    have tk : Takes (cxOf (L2.CX P w) P w K mg base ["places", "rings", "seen", "ring", "place"] "_need_rings" (defScope sNeedRings) f cd A out s H E) (fun cls d _ H1 => E cls d H1) := takes_of rfl rfl rfl rfl
    obtain ⟨n, x, rfl, br, q⟩ := h
    refine ⟨_, (pss_cons (ps_if (pt_not (pt_val (pe_callB (cr_is .tup) rfl T.f_isinstance (by decide +kernel) (pa_cons (pv 1) (pa_cons (pe_ty .tup T.f_tuple (by decide +kernel)) pa_nil))))) (pss_one (ps_plain Y.op rfl tk)) pss_nil)
      (pss_cons (ps_set (i := 2) scNeedRings.nd rfl (Or.inl rfl) (pe_callTy0 (cr_set0W (w := w) rfl) rfl T.f_set (by decide +kernel)))
      (pss_one (ps_for (passes_of rfl) rfl (pi_tup (pv 1)) (pg_name (i := 3) scNeedRings.nd rfl (Or.inl rfl))
        (pss_cons (ps_if (PW.pt (pw_or (pt_not (pt_val (pe_callB (cr_is .tup) rfl T.f_isinstance (by decide +kernel) (pa_cons (pv 3) (pa_cons (pe_ty .tup T.f_tuple (by decide +kernel)) pa_nil))))) (pw_or1 (pt_cmpR op_eq (pe_callB call_len_seq rfl T.f_len (by decide +kernel) (pa_cons (pv 3) pa_nil)) pe_int (nomark _))))) (pss_one (ps_plain Y.op rfl tk)) pss_nil)
        (pss_one (ps_for (passes_of rfl) rfl (pi_tup (pv 3)) (pg_name (i := 4) scNeedRings.nd rfl (Or.inl rfl))
          (pss_cons (ps_if (PW.pt (pw_or (pt_not (pt_val (pe_d DIsBetween (hr1.le (by decide)) pass0 (pa_cons (pv 4) (pa_cons pe_int (pa_cons (pe_op op_sub (pv 0) pe_int) pa_nil)))))) (pw_or1 (pt_cmpR (or_sinW (w := w) rfl) (pv 4) (pv 2) rfl)))) (pss_one (ps_plain Y.op rfl tk)) pss_nil)
          (pss_one (ps_expr (pe_saddW (w := w) rfl (pv 2) (pa_cons (pv 4) pa_nil)))))))))))), ?_⟩
    rcases br with ⟨kn, hk, ne⟩ | ⟨a, us, os, rfl, S, len, rv, small, us1, bad⟩
    · refine ⟨_, rfl, _, _, rfl, hk, _, rfl, ?_⟩
      exact ifT (show (!kn.isa .tup) = true by rw [ne]; rfl) (q H (Same.refl H))
    refine ⟨_, rfl, _, _, rfl, .tup S, _, rfl, ?_⟩
    refine ifF rfl ?_
    refine ⟨rfl, fun G fG => ?_⟩
    have S1 : Same H (upd H G (SetO w G (fun _ => false) 0)) := same_new fG
    have G1 : SetN w G [] (upd H G (SetO w G (fun _ => false) 0)) := ⟨_, _, upd_same, Nat.le_refl _, fun x => by simp⟩
    have fG0 : ∀ b o, H b = some o → b ≠ G := fun b o e => ne_of_none e fG
    generalize upd H G _ = H1 at S1 G1 ⊢
    refine ⟨_, rfl, a, rfl, ⟨_, same_sqt S1 S⟩, for_tup (K := K) (a := a) (xs := us) (fun i σ H3 => Same H H3 ∧
        (∃ s, SetN w G s H3 ∧ ringsOk n s (os.drop i) = none ∧ s.length + tot (os.drop i) ≤ 1000) ∧
        ∃ x y, σ = [some (.int (n : Int)), some (.ref a), some (.ref G), x, y])
      ⟨S1, ⟨[], G1, by simpa using bad, by simpa using small⟩, _, _, rfl⟩ (fun i σ H3 _ h => same_sqt h.1 S) ?_ ?_⟩
    · rintro i v σ H3 hv ⟨S3, ⟨s, hG, bad3, sm3⟩, x, y, rfl⟩
      have li : i < os.length := by rw [← len]; exact (List.getElem?_eq_some_iff.mp hv).1
      have ho : os[i]? = some os[i] := List.getElem?_eq_getElem li
      have hv3 := rv i v _ hv ho
      have hd : os.drop i = os[i] :: os.drop (i + 1) := List.drop_eq_getElem_cons li
      rw [hd] at bad3 sm3
      generalize os[i] = o at hv3 bad3 sm3
      cases hv3 with
      | no hk ne =>
        refine ⟨_, rfl, _, _, rfl, hk.same S3, _, rfl, ?_⟩
        exact ifT (show (!Kn.isa _ .tup) = true by rw [ne]; rfl) (q _ S3)
      | yes St mem =>
        rename_i t xs
        have St3 := same_sqt S3 St
        have smx : s.length + (xs.length + tot (os.drop (i + 1))) ≤ 1000 := sm3
        refine ⟨_, rfl, _, _, rfl, .tup St3, _, rfl, ?_⟩
        refine ifF rfl ?_
        refine ⟨_, rfl, t, _, rfl, .inr St3, rfl, _, rfl, ?_⟩
        cases xs with
        | nil => exact ifT rfl (q _ S3)
        | cons x0 xr =>
          refine ifF (by rw [dInt]; exact decide_eq_false (by rw [List.length_cons]; omega)) ?_
          have bad4 : ((ringOk n s (x0 :: xr)).bind fun t => ringsOk n t (os.drop (i + 1))) = none := bad3
          generalize hxs : x0 :: xr = xs at *
          refine ⟨_, rfl, t, rfl, ⟨_, St3⟩, for_tup (K := K) (a := t) (xs := xs) (fun j σ H4 => Same H H4 ∧
              (∃ s, SetN w G s H4 ∧ ((ringOk n s (xs.drop j)).bind fun t => ringsOk n t (os.drop (i + 1))) = none ∧
                s.length + ((xs.drop j).length + tot (os.drop (i + 1))) ≤ 1000) ∧
              ∃ y, σ = [some (.int (n : Int)), some (.ref a), some (.ref G), some (.ref t), y])
            ⟨S3, ⟨s, hG, by simpa using bad4, by simpa using smx⟩, _, rfl⟩ (fun j σ H4 _ h => same_sqt h.1 St) ?_ ?_⟩
          · rintro j u σ H4 hu ⟨S4, ⟨s4, hG4, bad5, sm5⟩, y, rfl⟩
            obtain ⟨jl, eu⟩ := List.getElem?_eq_some_iff.mp hu
            obtain ⟨ku, hku⟩ := mem u (eu ▸ List.getElem_mem jl)
            have hdj : xs.drop j = u :: xs.drop (j + 1) := by rw [← eu]; exact List.drop_eq_getElem_cons jl
            rw [hdj] at bad5 sm5
            refine ⟨_, rfl, _, rfl, _, _, rfl, rfl, _, _, _, _, rfl, hku.same S4, ?_⟩
            refine ⟨_, rfl, ?_⟩
            cases eb : isB u 0 ((n : Int) - 1) with
            | false => exact ifT rfl (q _ S4)
            | true =>
              obtain ⟨ei, le⟩ := int_of eb
              obtain ⟨S9, c9, e9, l9, r9⟩ := id hG4
              refine ifF rfl ?_
              rw [ei]
              refine ⟨_, rfl, _, rfl, _, G, S9, c9, rfl, rfl, e9, ?_⟩
              refine ⟨_, rfl, ?_⟩
              by_cases ins : toN1 u ∈ s4
              · refine ifT (by rw [r9]; exact decide_eq_true ins) (q _ S4)
              · refine ifF (by rw [r9]; exact decide_eq_false ins) ?_
                have step : ringOk n s4 (u :: xs.drop (j + 1)) = ringOk n (s4 ++ [toN1 u]) (xs.drop (j + 1)) := if_pos ⟨eb, ins⟩
                rw [step] at bad5
                have room : c9 + 1 < scanBound := by
                  have : c9 ≤ 1000 := by omega
                  exact Nat.lt_of_le_of_lt (Nat.add_le_add_right this 1) (by decide)
                refine ⟨_, rfl, ⟨G, S9, c9, rfl, e9⟩, _, rfl, G, _, S9, c9, rfl, rfl, e9, room, ?_⟩
                have G6 := SetN.add (w := w) (a := G) (H := H4) (x := toN1 u) l9 r9
                refine ⟨fun b o e => (upd_ne (fG0 b o e)).trans (S4 b o e), ⟨s4 ++ [toN1 u], G6, bad5, ?_⟩, _, rfl⟩
                · rw [List.length_append]
                  rw [List.length_cons] at sm5
                  show s4.length + 1 + _ ≤ 1000
                  omega
          · rintro σ H4 ⟨S4, ⟨s4, hG4, bad5, sm5⟩, y, rfl⟩
            rw [List.drop_length] at bad5 sm5
            refine ⟨S4, ⟨s4, hG4, bad5, ?_⟩, _, _, rfl⟩
            have : s4.length + (0 + tot (os.drop (i + 1))) ≤ 1000 := sm5
            omega
    · rintro σ H3 ⟨S3, ⟨s, hG, bad3, sm3⟩, x, y, rfl⟩
      rw [len, List.drop_length] at bad3
      cases bad3
theorem BadR.same {H H' : Hp} {n : Nat} {x : V} (h : BadR K H n x) (s : Same H H') : BadR K H' n x := by
  rcases h with ⟨kn, hk, ne⟩ | ⟨a, us, os, rfl, S, len, rv, r⟩
  · exact .inl ⟨kn, hk.same s, ne⟩
  · exact .inr ⟨a, us, os, rfl, same_sqt s S, len, fun i v o h1 h2 => (rv i v o h1 h2).same s, r⟩
def spMoveOfX (K : PySem.W.Frag) : Sp := fun vs H _ E => ∃ x y, vs = [x, y] ∧ ((∃ kn, Kd K H x kn ∧ isB x 1 24 = false ∧ rNum K H x E) ∨
  (∃ n : Nat, x = .int (n : Int) ∧ 1 ≤ n ∧ n ≤ 24 ∧ BadR K H n y ∧ rOp K H E))
theorem bMoveOfCycles (T : Tx K mg) (Y : Ex K mg) (BNeedPlaces : Def P w K mg base (L2.CX P w) 4 "need_places" ["places"] (orS (spNeedPlaces K) (spPlX K))) (BNeedRings : Def P w K mg base (L2.CX P w) 3 "_need_rings" ["places", "rings"] (spRingsX K)) : Def P w K mg base (L2.CX P w) 5 "move_of_cycles" ["places", "rings"] (spMoveOfX K) := by
  refine T.t_move_of_cycles.defX (N := ["places", "rings", "move", "ring", "at", "place"]) scMoveOfCycles (fun _ _ _ _ _ _ us hl => match us, hl with | [_, _], _ => rfl) ?_ ?_
  · intro vs H Q E h
    obtain ⟨x, y, rfl, _⟩ := h
    rfl
  · intro f cd A out s H vs Q E hr h
    have hr2 : Rm 4 _ := hr.le (by decide)
    have tk : Takes (cxOf (L2.CX P w) P w K mg base ["places", "rings", "move", "ring", "at", "place"] "move_of_cycles" (defScope sMoveOfCycles) f cd A out s H E) (fun cls d _ H1 => E cls d H1) := takes_of rfl rfl rfl rfl
    obtain ⟨x, y, rfl, q⟩ := h
    refine ⟨_, (pss_cons (ps_expr (ME.pe_dS BNeedPlaces (hr2.le (by decide)) (passAt tk) (pa_cons (pv 0) pa_nil))) (pss_cons (ps_expr (ME.pe_dS BNeedRings (hr2.le (by decide)) (passAt tk) (pa_cons (pv 0) (pa_cons (pv 1) pa_nil)))) (pss_cons ps_never (pss_cons ps_never (pss_one ps_never))))), ?_⟩
    rcases q with ⟨kn, hk, bad, q⟩ | ⟨n, rfl, n1, n24, br, q⟩
    · exact ⟨_, rfl, .inr ⟨x, kn, rfl, hk, bad, q⟩⟩
    · refine ⟨_, rfl, .inl ⟨n, rfl, n1, n24, ?_⟩⟩
      exact ⟨_, rfl, _, rfl, n, y, rfl, br, q⟩
end
end K06


set_option Elab.async false
set_option linter.all false
set_option maxRecDepth 100000
set_option maxHeartbeats 2000000
namespace K06
open PySem PySem.Spec PyProof.Rows L2 MM LamX
/-! own words for the readings: a step, its side -/
local macro_rules | `(tactic| walk_at "side") => `(tactic| first
  | omega
  | exact ⟨by omega, by omega⟩
  | exact Or.inl ⟨by omega, by omega⟩
  | exact Or.inr ⟨by omega, by omega⟩
  | (show CPw _ _; decide +kernel)
  | (show (0 : Int) < _; decide +kernel)
  | (show CDivW _ _; first | assumption | exact ⟨by decide, by decide +kernel⟩))
local macro_rules | `(tactic| walk_at "here") => `(tactic| first
  | assumption
  | exact upd_same
  | exact Or.inl (Or.inl upd_same)
  | exact Or.inl upd_same)
local macro_rules | `(tactic| walk_at "one") => `(tactic| first
  | refine ⟨_, rfl, ?_⟩
  | refine Or.inl ⟨_, rfl, ?_⟩
  | refine Or.inr ⟨_, rfl, ?_⟩
  | refine ⟨_, _, rfl, rfl, (by walk_at "side"), ?_⟩
  | refine ⟨_, _, rfl, rfl, ?_⟩
  | refine ⟨_, _, rfl, Or.inl (by walk_at "here"), ?_⟩
  | refine ⟨_, _, rfl, Or.inr (by walk_at "here"), ?_⟩
  | refine ⟨_, _, rfl, (by walk_at "here"), ?_⟩
  | refine ⟨_, _, _, _, rfl, rfl, (by walk_at "here"), rfl, ?_⟩
  | refine ⟨_, _, rfl, ?_⟩
  | refine ifT (by rfl) ?_
  | refine ifF (by rfl) ?_
  | refine ifT (decide_eq_true (by omega)) ?_
  | refine ifF (decide_eq_false (by omega)) ?_)
local macro_rules | `(tactic| walk_at "st") => `(tactic| repeat (walk_at "one"))

section
variable {P : Program} {w : World} {K : PySem.W.Frag} {mg : Str → Option Value} {base : Heap}
/-! heaps in which tables of code objects grow -/
theorem sqtE {H H' : Hp} {a : Addr} {xs : List V} (h : SqT K H a xs) (e : ExtN H H') : SqT K H' a xs := by
  rcases h with (h | ⟨o, h⟩) | h
  · exact .inl (.inl (e _ _ h (fun ps z => by cases z)))
  · exact .inl (.inr ⟨o, e _ _ h (fun ps z => by cases z)⟩)
  · exact .inr h
theorem sqlE {H H' : Hp} {a : Addr} {xs : List V} (h : SqL K H a xs) (e : ExtN H H') : SqL K H' a xs := by
  rcases h with (h | ⟨o, h⟩) | h
  · exact .inl (.inl (e _ _ h (fun ps z => by cases z)))
  · exact .inl (.inr ⟨o, e _ _ h (fun ps z => by cases z)⟩)
  · exact .inr h
theorem kdE {H H' : Hp} {x : V} {n : Kn} (h : Kd K H x n) (e : ExtN H H') : Kd K H' x n := by
  cases h with
  | non => exact .non
  | bl b => exact .bl b
  | int i => exact .int i
  | str z => exact .str z
  | lst h => exact .lst (sqlE h e)
  | tup h => exact .tup (sqtE h e)
  | dct h => exact .dct (e _ _ h (fun ps z => by cases z))
theorem rvE {H H' : Hp} {x : V} {o : Option (List V)} (h : Rv K H x o) (e : ExtN H H') : Rv K H' x o := by
  cases h with
  | no hk ne => exact .no (kdE hk e) ne
  | yes S m => exact .yes (sqtE S e) fun y hy => let ⟨n, hk⟩ := m y hy; ⟨n, kdE hk e⟩
theorem badME {H H' : Hp} {x : V} (h : BadM K H x) (e : ExtN H H') : BadM K H' x :=
  let ⟨o, hv, b⟩ := h
  ⟨o, rvE hv e, b⟩
theorem badRE {H H' : Hp} {n : Nat} {x : V} (h : BadR K H n x) (e : ExtN H H') : BadR K H' n x := by
  rcases h with ⟨kn, hk, ne⟩ | ⟨a, us, os, rfl, S, len, rv, r⟩
  · exact .inl ⟨kn, kdE hk e, ne⟩
  · exact .inr ⟨a, us, os, rfl, sqtE S e, len, fun i v o h1 h2 => rvE (rv i v o h1 h2) e, r⟩
theorem ext_same {H H' : Hp} (s : Same H H') : ExtN H H' := fun b o h _ => s b o h
/-! the word for the error of a call -/
/-- a value whose text can be told -/
def Shows (K : PySem.W.Frag) (H : Hp) (v : V) (t : Str) : Prop :=
  ∃ d, Dp K H v d ∧ SeqAt.shaped d = true ∧ d.showable = true ∧ d.shown.length + 7 ≤ sizeLine ∧ d.shown = t
/-- what the clauses make of an error -/
def Caught (K : PySem.W.Frag) (Q : VK) : XK := fun cls d H' =>
  (cls = .ref (ga K "InvalidMove") ∧ Q (.str "move") H') ∨ (cls = .ref (ga K "InvalidOperation") ∧ Q (.str "operation") H') ∨
  (cls = .ref (ga K "InvalidNumber") ∧ ∃ dd v t, d = some dd ∧ H' dd = some (.xd [("given", v)]) ∧ Shows K H' v t ∧ Q (.str ("number " ++ t)) H')
def TTW (K : PySem.W.Frag) : (XK → Hp → VK → Prop) → Hp → VK → Prop := fun tl H Q => tl (Caught K Q) H (fun _ H' => Q (.str "fine") H')
theorem scWord : FnScope ["_law_call", "error"] ["_law_call"] (defScope sWordL) :=
  ⟨rfl, rfl, rfl, by decide +kernel, rfl, by decide +kernel, by decide +kernel⟩
theorem word_gives {X : Cx} {k : Nat} {q : Str} {g : Addr} {cd : Value} (T : Tx X.K X.mg) (Y : Ex X.K X.mg) (hr : Rm (k + 1) X.A) :
    GivesTo X ["_law_call", "error"] "_law_word" (defScope sWordL) g cd (defBody sWordL) "_law_call" q (TTW X.K) := by
  intro f c' s H Q tl act hc h
  have hrd : Rm k (X.A.deeper (envOfC "_law_word" (defScope sWordL) s.heap.objs.size g cd)) := hr.down
  refine ⟨_, pss_cons (ME.ps_try_cl (X := (cxOf C8.CX0 X.prog X.w X.K X.mg X.base ["_law_call", "error"] "_law_word" (defScope sWordL) g cd X.A X.stack s H C8.E0).nox)
    (Wout := fun _ _ _ _ => False)
    (tb := fun W D σ H => ∃ Ech : XK, (∀ cls d σ' H', Ech cls d H' → W cls d σ' H') ∧ σ[0]? = some (some (.ref f)) ∧ H c' = some (CodeO c' q) ∧ tl Ech H (fun _ H1 => D.nx σ H1))
    rfl rfl takes0
    (.no (c := .ref (ga X.K "InvalidMove")) ⟨rfl, by decide, .inl Y.mv.glo⟩ (fun _ _ _ _ _ _ _ => pss_one (ps_ret pe_str))
      (.no (c := .ref (ga X.K "InvalidOperation")) ⟨rfl, by decide, .inl Y.op.glo⟩ (fun _ _ _ _ _ _ _ => pss_one (ps_ret pe_str))
        (.as_ (i := 1) (c := .ref (ga X.K "InvalidNumber")) ⟨rfl, by decide, .inl Y.num.glo⟩ scWord.nd rfl rfl
          (fun a oe cls d pn hz hf => pss_one (ps_ret (pe_op op_add_str pe_str (pe_callB (show CallR _ _ (rRepr X.K) from cr_repr (hrd).still (hrd).hu66) rfl T.f_repr (by decide +kernel) (pa_cons (pe_xf Y.num.field Y.num.none_ hz hf (pv 1)) pa_nil)))))
          .nil)))
    (fun W pn xe tk _ => ?_)) (pss_one (ps_ret pe_str)), ?_⟩
  · refine ⟨fun pins s' σ H' D I h' => ?_⟩
    obtain ⟨Ech, hW, h1, h2, h3⟩ := h'
    exact (pss_one (ps_expr (act W pn xe Ech _ _ tk hW))).run pins s' σ H' D I ⟨h1, h2, h3⟩
  · refine ⟨Caught X.K Q, ?_, rfl, hc, h⟩
    rintro cls d σ' H' (⟨rfl, z⟩ | ⟨rfl, z⟩ | ⟨rfl, dd, v, t, rfl, ed, ⟨dt, h1, h2, h3, h4, rfl⟩, z⟩)
    · exact ⟨true, Y.e11, fun _ _ _ => z, fun n => nomatch n⟩
    · exact ⟨false, Y.e21, (fun n => nomatch n), fun _ => ⟨true, Y.e22, fun _ _ _ => z, fun n => nomatch n⟩⟩
    · refine ⟨false, Y.e31, (fun n => nomatch n), fun _ => ⟨false, Y.e32, (fun n => nomatch n), fun _ => ⟨true, Y.e33, fun _ a na len => ?_, fun n => nomatch n⟩⟩⟩
      have e1 : (σ'.set 1 (some (V.ref a)))[1]? = some (some (V.ref a)) := by
        have l2 : σ'.length = 2 := len
        rw [List.getElem?_set_self (by omega)]
      exact ⟨_, e1, rfl, rfl, dd, _, v, rfl, ed, rfl, _, dt, rfl, h1, h2, h3, by omega, _, _, rfl, rfl, by show 7 + _ ≤ _; omega, z⟩
end
end K06


set_option Elab.async false
set_option linter.all false
set_option maxRecDepth 100000
set_option maxHeartbeats 2000000
namespace K06
open PySem PySem.Spec PyProof.Rows L2 MM LamX
section
variable {P : Program} {w : World} {K : PySem.W.Frag} {mg : Str → Option Value} {base : Heap} {CX : CXT} {k : Nat} {x : Str} {ps : List Str} {sp : Sp} {st : Stmt}
/-- a def whose body makes lambdas: its code object is known -/
theorem defC {N : List Str} (T : At K mg x st) (S : FnScope N ps (defScope st))
    (hb : ∀ (kV doc pm : Value) (an : Option Addr) (cd ct : Value) (us : List Value), us.length = ps.length →
      bindArgs (PySem.W.fnOf x x (defArgs st) (defBody st) (defScope st) .none kV doc pm an cd ct) ⟨us, []⟩ = pure (ps.zip us))
    (arity : ∀ vs H Q E, sp vs H Q E → vs.length = ps.length)
    (body : ∀ (f : Addr) (cd : Value) (A : Around) (out : List Env) (s : Shared) (H : Hp) (vs : List V) (Q : VK) (E : XK),
      cd = .ref (He.codeOf K (x, none)) → Rm k (A.deeper (envOfC x (defScope st) s.heap.objs.size f cd)) → sp vs H Q E →
      ∃ t, PSs (cxOf CX P w K mg base N x (defScope st) f cd A out s H E).nox (defBody st) t ∧
        t { nx := fun _ H' => Q .non H', rt := Q } (start N vs) H) : Def P w K mg base CX (k + 1) x ps sp := by
  obtain ⟨fd, F⟩ := T.fn
  have F' := F
  have bnd := F.bindsN hb
  obtain ⟨oc, od, dV, kV, doc, pm, an, cd, ct, osl, rfl, lk, hcd, _, _⟩ := F.ex
  have ec : cd = .ref (He.codeOf K (x, none)) := by
    obtain ⟨c, rfl⟩ := He.codeIn_ref hcd
    rw [He.codeOf_eq (p := (x, none)) lk rfl]
  refine ⟨_, _, ⟨fun h => arity _ _ _ _ h, ?_⟩, T.glo, F'.kp, bnd, oc, od, osl, lk⟩
  intro A out s H ar us vs Q E hr e0 hbd hv h
  have nv := arity _ _ _ _ h
  have inK : K.In s.heap := e0.mod.kin.keeps (fun b o e => (e0.bs b o e).1)
  have nl : s.heap.NoLimit := e0.mod.nolimit.keeps (fun b o e => (e0.bs b o e).1)
  have kd : ∀ y ∈ ps.zip us, (defScope st).names.lookup y.1 = some .local ∨
      ((defScope st).names.lookup y.1 = some .cell ∧ ((cellsFrom (s.heap.objs.size + 1) (defScope st).names []).lookup y.1).isSome = true) := by
    rintro ⟨n, v⟩ hy
    cases S.par n (List.of_mem_zip hy).1 with
    | inl q => exact .inl q
    | inr q => exact .inr ⟨q, PySem.W.cellsFrom_some _ _ _ (.inl q)⟩
  refine codeAny_call_function hr.room.depth (inK _ _ lk) rfl S.co S.gen rfl (PySem.W.codeRec_of inK hcd) (hbd _ _ _ _ ?_)
  refine wpAny_newFunctionEnv_cells S.kind kd (fun env he s1 xc => ?_)
  subst he
  refine ⟨nl.keeps xc.toInCall.keep, codeAny_func ?_⟩
  obtain ⟨t, ht, hq⟩ := body _ cd A out s H vs Q E ec hr.down h
  have I := inv_start (CX := CX) (P := P) (w := w) (qual := x) (cd := cd) (f := He.ga K x) (E := E) S hr.room.hd e0 nv hv xc
  refine wpAny_mono (ht.nox.run [] s1 (start N vs) H _ I hq) (fun fl s' hs => ?_) (fun e s' hs => hs)
  cases fl with
  | ret u =>
    obtain ⟨v, σ', H', J, rv, q⟩ := hs
    exact ⟨v, H', J.os, J.bare, J.base, J.hok, rv, q⟩
  | next =>
    obtain ⟨σ', H', J, q⟩ := hs
    exact ⟨.non, H', J.os, J.bare, J.base, J.hok, rfl, q⟩
  | brk =>
    obtain ⟨_, _, _, q⟩ := hs
    exact q.elim
  | cont =>
    obtain ⟨_, _, _, q⟩ := hs
    exact q.elim
abbrev sMv : Str := "_law_moves_right"
abbrev sNr : Str := "_law_numbers_right"
/-- where lambdas are made: code object and table -/
abbrev cd1 (K : PySem.W.Frag) : Addr × Addr := He.cT K (sMv, none)
abbrev cd2 (K : PySem.W.Frag) : Addr × Addr := He.cT K (sNr, none)
abbrev q1 : Str := (envOfC sMv (defScope sMovesRightL) 0 0 .none).qual ++ "<lambda>"
abbrev q2 : Str := (envOfC sNr (defScope sNumbersRightL) 0 0 .none).qual ++ "<lambda>"
abbrev TL (K : PySem.W.Frag) : List (Addr × Str) := [((cd1 K).2, q1), ((cd2 K).2, q2)]
structure Tb (K : PySem.W.Frag) (mg : Str → Option Value) (base : Heap) : Prop where
  t1 : TabB base mg (cd1 K).1 (cd1 K).2
  t2 : TabB base mg (cd2 K).1 (cd2 K).2
  ne : (cd1 K).2 ≠ (cd2 K).2
theorem Tb.u1 (h : Tb K mg base) : ∀ p ∈ TL K, p.1 = (cd1 K).2 → p.2 = q1 := by
  intro p hp e
  rcases List.mem_cons.mp hp with rfl | hp
  · rfl
  · rcases List.mem_cons.mp hp with rfl | hp
    · exact absurd e.symm h.ne
    · cases hp
theorem Tb.u2 (h : Tb K mg base) : ∀ p ∈ TL K, p.1 = (cd2 K).2 → p.2 = q2 := by
  intro p hp e
  rcases List.mem_cons.mp hp with rfl | hp
  · exact absurd e h.ne
  · rcases List.mem_cons.mp hp with rfl | hp
    · rfl
    · cases hp
/-- a def of the text, as a value, that may raise -/
def Gf (P : Program) (w : World) (K : PySem.W.Frag) (mg : Str → Option Value) (base : Heap) (f : Addr) (sp : Sp) : Prop :=
  ∃ x ps, mg x = some (.ref f) ∧ Def P w K mg base (L2.CX P w) 6 x ps sp
theorem gf_ok {P : Program} {w : World} {K : PySem.W.Frag} {mg : Str → Option Value} {base : Heap} {A : Around} (hr : Rm 6 A) :
    ∀ f sp, Gf P w K mg base f sp → PySem.W.keepIn K (.ref f) = true ∧ ∃ fd k ps, FnG P w K mg base (L2.CX P w) k f fd ps sp ∧ Rm k A ∧ Binds K fd ps [] := by
  rintro f sp ⟨x, ps, g, f', fd, F, hm, hk, hb, _⟩
  rw [g] at hm
  cases hm
  exact ⟨hk, fd, 6, ps, F, hr, hb⟩
/-- one argument: wrong ones are refused -/
def One (P : Program) (w : World) (K : PySem.W.Frag) (mg : Str → Option Value) (base : Heap) (f : Addr) : Prop := ∃ sp, Gf P w K mg base f sp ∧
  (∀ H Q E x, BadM K H x → rMv K H E → sp [x] H Q E) ∧
  (∀ H (Q : VK) E a m, SqT K H a (mv m) → Mv m → (∀ H' v, Same H H' → Q v H') → sp [.ref a] H Q E)
/-- two arguments -/
def Two (P : Program) (w : World) (K : PySem.W.Frag) (mg : Str → Option Value) (base : Heap) (f : Addr) : Prop := ∃ sp, Gf P w K mg base f sp ∧
  (∀ H Q E x y, BadP K H x y E → sp [x, y] H Q E) ∧
  (∀ H (Q : VK) E a m, SqT K H a (mv m) → Mv m → (∀ H' v, Same H H' → Q v H') → sp [.ref a, .ref a] H Q E)
end
end K06

set_option Elab.async false
set_option linter.all false
set_option maxRecDepth 100000
set_option maxHeartbeats 2000000
namespace K06
open PySem PySem.Spec PyProof.Rows L2 MM LamX
section
variable {P : Program} {w : World} {K : PySem.W.Frag} {mg : Str → Option Value} {base : Heap}
/-- a list of words -/
abbrev Wd (H : Hp) (p : Addr) (ws : List Str) : Prop := H p = some (.lst (ws.map V.str))
/-- a heap behind H0, in which tables and the list at p have grown -/
structure On (K : PySem.W.Frag) (H0 : Hp) (p : Addr) (ws : List Str) (H : Hp) : Prop where
  ext : ExtN H0 H
  new : H0 p = none
  wd : Wd H p ws
  tab : Tabs (TL K) H
theorem On.same {H0 H H1 : Hp} {p : Addr} {ws : List Str} (h : On K H0 p ws H) (s : Same H H1) : On K H0 p ws H1 :=
  ⟨fun b o e n => s _ _ (h.ext b o e n), h.new, s _ _ h.wd, h.tab.ext s⟩
theorem On.step {H0 H H1 H2 : Hp} {p : Addr} {ws : List Str} {z : Str} (h : On K H0 p ws H) (e : ExtN H H1) (t : Tabs (TL K) H1) (s : Same H1 H2) :
    H2 p = some (.lst (ws.map V.str)) ∧ On K H0 p (ws ++ [z]) (upd H2 p (.lst (ws.map V.str ++ [.str z]))) := by
  have w2 : H2 p = some (.lst (ws.map V.str)) := s _ _ (e _ _ h.wd (fun ps z => by cases z))
  refine ⟨w2, fun b o hb nt => ?_, h.new, ?_, ?_⟩
  · have nb : b ≠ p := by
      rintro rfl
      rw [h.new] at hb
      cases hb
    rw [upd_ne nb]
    exact s _ _ (e _ _ (h.ext _ _ hb nt) nt)
  · show upd H2 p _ p = _
    rw [upd_same, List.map_append]
    rfl
  · have t2 := t.ext s
    intro q hq
    obtain ⟨ps, h1, h2, h3⟩ := t2 q hq
    have nq : q.1 ≠ p := by
      intro z
      rw [z, w2] at h1
      cases h1
    refine ⟨ps, by rw [upd_ne nq]; exact h1, h2, fun pos cv hc => ?_⟩
    obtain ⟨c, e1, e2⟩ := h3 pos cv hc
    have nc : c ≠ p := by
      rintro rfl
      rw [w2] at e2
      unfold CodeO at e2
      cases e2
    exact ⟨c, e1, by rw [upd_ne nc]; exact e2⟩
/-- without p -/
def wo (H : Hp) (p : Addr) : Hp := fun b => if b = p then none else H b
theorem wo_ne {H : Hp} {p b : Addr} (h : b ≠ p) : wo H p b = H b := if_neg h
theorem On.low {H0 H : Hp} {p : Addr} {ws : List Str} (h : On K H0 p ws H) : On K (wo H p) p ws H ∧ ExtN H0 (wo H p) := by
  refine ⟨⟨fun b o e _ => ?_, if_pos rfl, h.wd, h.tab⟩, fun b o e n => ?_⟩
  · by_cases hb : b = p
    · have : wo H p b = none := if_pos hb
      rw [this] at e
      cases e
    · rw [wo_ne hb] at e
      exact e
  · have nb : b ≠ p := by
      rintro rfl
      rw [h.new] at e
      cases e
    rw [wo_ne nb]
    exact h.ext b o e n
/-- told.append(word(lambda: ..)) -/
theorem stepW {H0 H : Hp} {p : Addr} {ws : List Str} {z : Str} {σ : L2.St} {i : Nat} {t : XK → TE} {D : Ends} (h : On K H0 p ws H)
    (hi : σ[i]? = some (some (.ref p))) (sz : ws.length < 100)
    (call : ∀ (H1 : Hp), ExtN H H1 → ∀ Q : VK, (∀ H2, Same H1 H2 → Q (.str z) H2) → TTW K (fun E H' Q' => t E σ H' Q') H1 Q)
    (next : ∀ H', On K H0 p (ws ++ [z]) H' → D.nx σ H') :
    tDrop (tBM K "list" rAppend (tVar i) (tCons (tLam (TL K) (TTW K) t) tNil)) D σ H := by
  refine ⟨_, hi, .inl ⟨rfl, _, .inl (.inl h.wd)⟩, ?_⟩
  refine ⟨h.tab, fun H1 e1 t1 => call H1 e1 _ fun H2 s2 => ?_⟩
  obtain ⟨w2, o2⟩ := h.step (z := z) e1 t1 s2
  refine ⟨p, _, _, rfl, rfl, w2, ?_, next _ o2⟩
  rw [List.length_map]
  exact Nat.lt_of_lt_of_le sz (by decide)
/-- [word(lambda: ..)] .. the first one is laid by itself -/
theorem one_bad {H1 : Hp} {σ : L2.St} {i j : Nat} {f : Addr} {x : V} {Q : VK} (o : One P w K mg base f) (hi : σ[i]? = some (some (.ref f)))
    (hj : σ[j]? = some (some x)) (bx : BadM K H1 x) (q : ∀ H2, Same H1 H2 → Q (.str "move") H2) :
    TTW K (fun E H' Q' => ME.tVia K i (Gf P w K mg base) (fun _ => E) (tCons (tVar j) tNil) σ H' Q') H1 Q := by
  obtain ⟨sp, g, bad, _⟩ := o
  exact ⟨f, sp, hi, g, x, hj, bad _ _ _ _ bx fun H2 s => .inl ⟨rfl, q H2 s⟩⟩
theorem one_good {H1 : Hp} {σ : L2.St} {i j : Nat} {f a : Addr} {m : List Nat} {Q : VK} (o : One P w K mg base f) (hi : σ[i]? = some (some (.ref f)))
    (hj : σ[j]? = some (some (.ref a))) (S : SqT K H1 a (mv m)) (hm : Mv m) (q : ∀ H2, Same H1 H2 → Q (.str "fine") H2) :
    TTW K (fun E H' Q' => ME.tVia K i (Gf P w K mg base) (fun _ => E) (tCons (tVar j) tNil) σ H' Q') H1 Q := by
  obtain ⟨sp, g, _, good⟩ := o
  exact ⟨f, sp, hi, g, _, hj, good _ _ _ _ _ S hm fun H2 v s => q H2 s⟩
theorem two_bad {H1 : Hp} {σ : L2.St} {i j k : Nat} {f : Addr} {x y : V} {Q : VK} (o : Two P w K mg base f) (hi : σ[i]? = some (some (.ref f)))
    (hj : σ[j]? = some (some x)) (hk : σ[k]? = some (some y)) (bp : BadP K H1 x y (Caught K Q)) :
    TTW K (fun E H' Q' => ME.tVia K i (Gf P w K mg base) (fun _ => E) (tCons (tVar j) (tCons (tVar k) tNil)) σ H' Q') H1 Q := by
  obtain ⟨sp, g, bad, _⟩ := o
  exact ⟨f, sp, hi, g, x, hj, y, hk, bad _ _ _ _ _ bp⟩
theorem two_good {H1 : Hp} {σ : L2.St} {i j : Nat} {f a : Addr} {m : List Nat} {Q : VK} (o : Two P w K mg base f) (hi : σ[i]? = some (some (.ref f)))
    (hj : σ[j]? = some (some (.ref a))) (S : SqT K H1 a (mv m)) (hm : Mv m) (q : ∀ H2, Same H1 H2 → Q (.str "fine") H2) :
    TTW K (fun E H' Q' => ME.tVia K i (Gf P w K mg base) (fun _ => E) (tCons (tVar j) (tCons (tVar j) tNil)) σ H' Q') H1 Q := by
  obtain ⟨sp, g, _, good⟩ := o
  exact ⟨f, sp, hi, g, _, hj, _, hj, good _ _ _ _ _ S hm fun H2 v s => q H2 s⟩
/-- lists of words against one another -/
def dW (ws : List Str) : PyData := .list (ws.map PyData.str)
theorem dp_strs {H : Hp} : ∀ ws : List Str, DpAll K H (ws.map V.str) (ws.map PyData.str)
  | [] => .nil
  | z :: r => .cons (.str z) (dp_strs r)
theorem dp_words {H : Hp} {p : Addr} {ws : List Str} (h : Wd H p ws) : Dp K H (.ref p) (dW ws) := .lst (.inl (.inl h)) (dp_strs ws)
end
end K06

set_option Elab.async false
set_option linter.all false
set_option maxRecDepth 100000
set_option maxHeartbeats 2000000
namespace K06
open PySem PySem.Spec PyProof.Rows L2 MM LamX
/-! own words for the readings: a step, its side -/
local macro_rules | `(tactic| walk_at "side") => `(tactic| first
  | omega
  | exact ⟨by omega, by omega⟩
  | exact Or.inl ⟨by omega, by omega⟩
  | exact Or.inr ⟨by omega, by omega⟩
  | (show CPw _ _; decide +kernel)
  | (show (0 : Int) < _; decide +kernel)
  | (show CDivW _ _; first | assumption | exact ⟨by decide, by decide +kernel⟩))
local macro_rules | `(tactic| walk_at "here") => `(tactic| first
  | assumption
  | exact upd_same
  | exact Or.inl (Or.inl upd_same)
  | exact Or.inl upd_same)
local macro_rules | `(tactic| walk_at "one") => `(tactic| first
  | refine ⟨_, rfl, ?_⟩
  | refine Or.inl ⟨_, rfl, ?_⟩
  | refine Or.inr ⟨_, rfl, ?_⟩
  | refine ⟨_, _, rfl, rfl, (by walk_at "side"), ?_⟩
  | refine ⟨_, _, rfl, rfl, ?_⟩
  | refine ⟨_, _, rfl, Or.inl (by walk_at "here"), ?_⟩
  | refine ⟨_, _, rfl, Or.inr (by walk_at "here"), ?_⟩
  | refine ⟨_, _, rfl, (by walk_at "here"), ?_⟩
  | refine ⟨_, _, _, _, rfl, rfl, (by walk_at "here"), rfl, ?_⟩
  | refine ⟨_, _, rfl, ?_⟩
  | refine ifT (by rfl) ?_
  | refine ifF (by rfl) ?_
  | refine ifT (decide_eq_true (by omega)) ?_
  | refine ifF (decide_eq_false (by omega)) ?_)
local macro_rules | `(tactic| walk_at "st") => `(tactic| repeat (walk_at "one"))

section
variable {P : Program} {w : World} {K : PySem.W.Frag} {mg : Str → Option Value} {base : Heap}
abbrev F1 (K : PySem.W.Frag) : List Addr := [ga K "undone", ga K "order_of", ga K "sign_of", ga K "cycles", ga K "still_places"]
abbrev F2 (K : PySem.W.Frag) : List Addr := [ga K "product_of", ga K "turned_move", ga K "turning_move"]
def wds (l : List Str) (n : Nat) : List Str := (List.replicate n l).flatten
theorem wds_succ (l : List Str) (n : Nat) : wds l (n + 1) = wds l n ++ l := by
  unfold wds
  rw [List.replicate_succ', List.flatten_append]
  simp
def spMovesR (K : PySem.W.Frag) : Sp := fun vs H Q _ => ∃ (g x : V) (a b : Addr) (m l : List Nat), vs = [g, x, .ref a, .ref b] ∧ BadM K H x ∧ SqT K H a (mv m) ∧ SqT K H b (mv l) ∧
  Mv m ∧ Mv l ∧ m.length ≠ l.length ∧ Tabs (TL K) H ∧ ∀ H', ExtN H H' → Tabs (TL K) H' → Q (.bl true) H'
theorem wds_len (l : List Str) (n : Nat) : (wds l n).length = n * l.length := by
  unfold wds
  simp
theorem scMovesRightL : FnScope ["_law_bag_here", "_law_none", "_law_one", "_law_far", "_law_told", "_law_call"] ["_law_bag_here", "_law_none", "_law_one", "_law_far"] (defScope sMovesRightL) :=
  ⟨rfl, rfl, rfl, by decide +kernel, rfl, by decide +kernel, by decide +kernel⟩
theorem dMovesRightL (T : Tx K mg) (Y : Ex K mg) (TB : Tb K mg base) (CIsTurningMove : Def P w K mg base (L2.CX P w) 6 "is_turning_move" ["one", "other", "value"] (orS (spIsTurning K) (spTurnX K))) (h1 : ∀ f ∈ F1 K, One P w K mg base f) (h2 : ∀ f ∈ F2 K, Two P w K mg base f) : Def P w K mg base CX0 9 "_law_moves_right" ["_law_bag_here", "_law_none", "_law_one", "_law_far"] (spMovesR K) := by
  refine defC T.t_law_moves_right (N := ["_law_bag_here", "_law_none", "_law_one", "_law_far", "_law_told", "_law_call"]) scMovesRightL (fun _ _ _ _ _ _ us hl => match us, hl with | [_, _, _, _], _ => rfl) ?_ ?_
  · intro vs H Q E h
    obtain ⟨g, x, a, b, m, l, rfl, _⟩ := h
    rfl
  · intro f cd A out s H vs Q E ec hr h
    subst ec
    obtain ⟨g, x, a, b, m, l, rfl, bx, Sa, Sb, hm, hl, ne, hT, q⟩ := h
    refine ⟨_, (pss_cons (ps_set (i := 4) scMovesRightL.nd rfl (Or.inl rfl) (pe_lst pa_nil))
      (pss_cons (ps_for PassesOwn.never rfl (pi_tup (pe_tup (pa_cons (C8.pe_gc (v := .ref (ga K "undone")) rfl ⟨_, T.t_undone.glo, rfl⟩) (pa_cons (C8.pe_gc (v := .ref (ga K "order_of")) rfl ⟨_, T.t_order_of.glo, rfl⟩) (pa_cons (C8.pe_gc (v := .ref (ga K "sign_of")) rfl ⟨_, T.t_sign_of.glo, rfl⟩) (pa_cons (C8.pe_gc (v := .ref (ga K "cycles")) rfl ⟨_, T.t_cycles.glo, rfl⟩) (pa_cons (C8.pe_gc (v := .ref (ga K "still_places")) rfl ⟨_, T.t_still_places.glo, rfl⟩) pa_nil))))))) (pg_name (i := 5) scMovesRightL.nd rfl (Or.inr rfl))
        (pss_cons (ps_expr (pe_bm PySem.F.plainAttrs_list PySem.F.slot_list_append PySem.F.type_list_append mt_append (pv 4) (pa_cons (ME.pe_lam (T := TL K) (TT := TTW K) (k := 6) (t := fun E1 => (ME.tVia K 5 (Gf P w K mg base) (fun _ => E1) (tCons (tVar 1) tNil))) T.t_law_word (fun _ _ _ _ _ _ us hl => match us, hl with | [_], _ => rfl) scWord rfl (Or.inl rfl) (fun g cd => word_gives (k := 1) T Y (hr.le (by decide))) TB.t1 rfl List.mem_cons_self TB.u1 (hr.le (by decide)) (show LamS _ _ from lamS_by (sc := defScope sMovesRightL) (by decide +kernel)) rfl (fun _ _ _ _ _ => rfl) (fun A1 o1 s1 H1 E1 f1 c1 hr9 => (show PE _ _ (ME.tVia K 5 (Gf P w K mg base) (fun _ => E1) (tCons (tVar 1) tNil)) from ME.pe_via (i := 5) (G := Gf P w K mg base) (gf_ok hr9) (passAt (takes_of rfl rfl rfl rfl)) (pa_cons (pv 1) pa_nil) rfl (Or.inr (Or.inr rfl))))) pa_nil)))
        (pss_one (ps_expr (pe_bm PySem.F.plainAttrs_list PySem.F.slot_list_append PySem.F.type_list_append mt_append (pv 4) (pa_cons (ME.pe_lam (T := TL K) (TT := TTW K) (k := 6) (t := fun E1 => (ME.tVia K 5 (Gf P w K mg base) (fun _ => E1) (tCons (tVar 2) tNil))) T.t_law_word (fun _ _ _ _ _ _ us hl => match us, hl with | [_], _ => rfl) scWord rfl (Or.inl rfl) (fun g cd => word_gives (k := 1) T Y (hr.le (by decide))) TB.t1 rfl List.mem_cons_self TB.u1 (hr.le (by decide)) (show LamS _ _ from lamS_by (sc := defScope sMovesRightL) (by decide +kernel)) rfl (fun _ _ _ _ _ => rfl) (fun A1 o1 s1 H1 E1 f1 c1 hr9 => (show PE _ _ (ME.tVia K 5 (Gf P w K mg base) (fun _ => E1) (tCons (tVar 2) tNil)) from ME.pe_via (i := 5) (G := Gf P w K mg base) (gf_ok hr9) (passAt (takes_of rfl rfl rfl rfl)) (pa_cons (pv 2) pa_nil) rfl (Or.inr (Or.inr rfl))))) pa_nil))))))
      (pss_cons (ps_if (pt_cmpR (op_neD hr.hu) (pv 4) (pe_op op_rep (pe_lst (pa_cons pe_str (pa_cons pe_str pa_nil))) pe_int) (nomark _)) (pss_one (ps_ret pe_bl)) pss_nil)
      (pss_cons (ps_set (i := 4) scMovesRightL.nd rfl (Or.inl rfl) (pe_lst pa_nil))
      (pss_cons (ps_for PassesOwn.never rfl (pi_tup (pe_tup (pa_cons (C8.pe_gc (v := .ref (ga K "product_of")) rfl ⟨_, T.t_product_of.glo, rfl⟩) (pa_cons (C8.pe_gc (v := .ref (ga K "turned_move")) rfl ⟨_, T.t_turned_move.glo, rfl⟩) (pa_cons (C8.pe_gc (v := .ref (ga K "turning_move")) rfl ⟨_, T.t_turning_move.glo, rfl⟩) pa_nil))))) (pg_name (i := 5) scMovesRightL.nd rfl (Or.inr rfl))
        (pss_cons (ps_expr (pe_bm PySem.F.plainAttrs_list PySem.F.slot_list_append PySem.F.type_list_append mt_append (pv 4) (pa_cons (ME.pe_lam (T := TL K) (TT := TTW K) (k := 6) (t := fun E1 => (ME.tVia K 5 (Gf P w K mg base) (fun _ => E1) (tCons (tVar 1) (tCons (tVar 1) tNil)))) T.t_law_word (fun _ _ _ _ _ _ us hl => match us, hl with | [_], _ => rfl) scWord rfl (Or.inl rfl) (fun g cd => word_gives (k := 1) T Y (hr.le (by decide))) TB.t1 rfl List.mem_cons_self TB.u1 (hr.le (by decide)) (show LamS _ _ from lamS_by (sc := defScope sMovesRightL) (by decide +kernel)) rfl (fun _ _ _ _ _ => rfl) (fun A1 o1 s1 H1 E1 f1 c1 hr9 => (show PE _ _ (ME.tVia K 5 (Gf P w K mg base) (fun _ => E1) (tCons (tVar 1) (tCons (tVar 1) tNil))) from ME.pe_via (i := 5) (G := Gf P w K mg base) (gf_ok hr9) (passAt (takes_of rfl rfl rfl rfl)) (pa_cons (pv 1) (pa_cons (pv 1) pa_nil)) rfl (Or.inr (Or.inr rfl))))) pa_nil)))
        (pss_cons (ps_expr (pe_bm PySem.F.plainAttrs_list PySem.F.slot_list_append PySem.F.type_list_append mt_append (pv 4) (pa_cons (ME.pe_lam (T := TL K) (TT := TTW K) (k := 6) (t := fun E1 => (ME.tVia K 5 (Gf P w K mg base) (fun _ => E1) (tCons (tVar 2) (tCons (tVar 1) tNil)))) T.t_law_word (fun _ _ _ _ _ _ us hl => match us, hl with | [_], _ => rfl) scWord rfl (Or.inl rfl) (fun g cd => word_gives (k := 1) T Y (hr.le (by decide))) TB.t1 rfl List.mem_cons_self TB.u1 (hr.le (by decide)) (show LamS _ _ from lamS_by (sc := defScope sMovesRightL) (by decide +kernel)) rfl (fun _ _ _ _ _ => rfl) (fun A1 o1 s1 H1 E1 f1 c1 hr9 => (show PE _ _ (ME.tVia K 5 (Gf P w K mg base) (fun _ => E1) (tCons (tVar 2) (tCons (tVar 1) tNil))) from ME.pe_via (i := 5) (G := Gf P w K mg base) (gf_ok hr9) (passAt (takes_of rfl rfl rfl rfl)) (pa_cons (pv 2) (pa_cons (pv 1) pa_nil)) rfl (Or.inr (Or.inr rfl))))) pa_nil)))
        (pss_cons (ps_expr (pe_bm PySem.F.plainAttrs_list PySem.F.slot_list_append PySem.F.type_list_append mt_append (pv 4) (pa_cons (ME.pe_lam (T := TL K) (TT := TTW K) (k := 6) (t := fun E1 => (ME.tVia K 5 (Gf P w K mg base) (fun _ => E1) (tCons (tVar 2) (tCons (tVar 3) tNil)))) T.t_law_word (fun _ _ _ _ _ _ us hl => match us, hl with | [_], _ => rfl) scWord rfl (Or.inl rfl) (fun g cd => word_gives (k := 1) T Y (hr.le (by decide))) TB.t1 rfl List.mem_cons_self TB.u1 (hr.le (by decide)) (show LamS _ _ from lamS_by (sc := defScope sMovesRightL) (by decide +kernel)) rfl (fun _ _ _ _ _ => rfl) (fun A1 o1 s1 H1 E1 f1 c1 hr9 => (show PE _ _ (ME.tVia K 5 (Gf P w K mg base) (fun _ => E1) (tCons (tVar 2) (tCons (tVar 3) tNil))) from ME.pe_via (i := 5) (G := Gf P w K mg base) (gf_ok hr9) (passAt (takes_of rfl rfl rfl rfl)) (pa_cons (pv 2) (pa_cons (pv 3) pa_nil)) rfl (Or.inr (Or.inr rfl))))) pa_nil)))
        (pss_one (ps_expr (pe_bm PySem.F.plainAttrs_list PySem.F.slot_list_append PySem.F.type_list_append mt_append (pv 4) (pa_cons (ME.pe_lam (T := TL K) (TT := TTW K) (k := 6) (t := fun E1 => (ME.tVia K 5 (Gf P w K mg base) (fun _ => E1) (tCons (tVar 2) (tCons (tVar 2) tNil)))) T.t_law_word (fun _ _ _ _ _ _ us hl => match us, hl with | [_], _ => rfl) scWord rfl (Or.inl rfl) (fun g cd => word_gives (k := 1) T Y (hr.le (by decide))) TB.t1 rfl List.mem_cons_self TB.u1 (hr.le (by decide)) (show LamS _ _ from lamS_by (sc := defScope sMovesRightL) (by decide +kernel)) rfl (fun _ _ _ _ _ => rfl) (fun A1 o1 s1 H1 E1 f1 c1 hr9 => (show PE _ _ (ME.tVia K 5 (Gf P w K mg base) (fun _ => E1) (tCons (tVar 2) (tCons (tVar 2) tNil))) from ME.pe_via (i := 5) (G := Gf P w K mg base) (gf_ok hr9) (passAt (takes_of rfl rfl rfl rfl)) (pa_cons (pv 2) (pa_cons (pv 2) pa_nil)) rfl (Or.inr (Or.inr rfl))))) pa_nil))))))))
      (pss_cons (ps_if (pt_cmpR (op_neD hr.hu) (pv 4) (pe_op op_rep (pe_lst (pa_cons pe_str (pa_cons pe_str (pa_cons pe_str (pa_cons pe_str pa_nil))))) pe_int) (nomark _)) (pss_one (ps_ret pe_bl)) pss_nil)
      (pss_cons (ps_set (i := 4) scMovesRightL.nd rfl (Or.inl rfl) (pe_lst (pa_cons (ME.pe_lam (T := TL K) (TT := TTW K) (k := 6) (t := fun E1 => (ME.tDS (orS (spIsTurning K) (spTurnX K)) (fun _ => E1) (tCons (tVar 1) (tCons (tVar 2) (tCons (tC .non) tNil))))) T.t_law_word (fun _ _ _ _ _ _ us hl => match us, hl with | [_], _ => rfl) scWord rfl (Or.inl rfl) (fun g cd => word_gives (k := 1) T Y (hr.le (by decide))) TB.t1 rfl List.mem_cons_self TB.u1 (hr.le (by decide)) (show LamS _ _ from lamS_by (sc := defScope sMovesRightL) (by decide +kernel)) rfl (fun _ _ _ _ _ => rfl) (fun A1 o1 s1 H1 E1 f1 c1 hr9 => (show PE _ _ (ME.tDS (orS (spIsTurning K) (spTurnX K)) (fun _ => E1) (tCons (tVar 1) (tCons (tVar 2) (tCons (tC .non) tNil)))) from ME.pe_dS CIsTurningMove (hr9.le (by decide)) (passAt (takes_of rfl rfl rfl rfl)) (pa_cons (pv 1) (pa_cons (pv 2) (pa_cons pe_non pa_nil)))))) pa_nil)))
      (pss_cons (ps_expr (pe_bm PySem.F.plainAttrs_list PySem.F.slot_list_append PySem.F.type_list_append mt_append (pv 4) (pa_cons (ME.pe_lam (T := TL K) (TT := TTW K) (k := 6) (t := fun E1 => (ME.tDS (orS (spIsTurning K) (spTurnX K)) (fun _ => E1) (tCons (tVar 2) (tCons (tVar 1) (tCons (tC .non) tNil))))) T.t_law_word (fun _ _ _ _ _ _ us hl => match us, hl with | [_], _ => rfl) scWord rfl (Or.inl rfl) (fun g cd => word_gives (k := 1) T Y (hr.le (by decide))) TB.t1 rfl List.mem_cons_self TB.u1 (hr.le (by decide)) (show LamS _ _ from lamS_by (sc := defScope sMovesRightL) (by decide +kernel)) rfl (fun _ _ _ _ _ => rfl) (fun A1 o1 s1 H1 E1 f1 c1 hr9 => (show PE _ _ (ME.tDS (orS (spIsTurning K) (spTurnX K)) (fun _ => E1) (tCons (tVar 2) (tCons (tVar 1) (tCons (tC .non) tNil)))) from ME.pe_dS CIsTurningMove (hr9.le (by decide)) (passAt (takes_of rfl rfl rfl rfl)) (pa_cons (pv 2) (pa_cons (pv 1) (pa_cons pe_non pa_nil)))))) pa_nil)))
      (pss_cons (ps_expr (pe_bm PySem.F.plainAttrs_list PySem.F.slot_list_append PySem.F.type_list_append mt_append (pv 4) (pa_cons (ME.pe_lam (T := TL K) (TT := TTW K) (k := 6) (t := fun E1 => (ME.tDS (orS (spIsTurning K) (spTurnX K)) (fun _ => E1) (tCons (tVar 2) (tCons (tVar 3) (tCons (tVar 1) tNil))))) T.t_law_word (fun _ _ _ _ _ _ us hl => match us, hl with | [_], _ => rfl) scWord rfl (Or.inl rfl) (fun g cd => word_gives (k := 1) T Y (hr.le (by decide))) TB.t1 rfl List.mem_cons_self TB.u1 (hr.le (by decide)) (show LamS _ _ from lamS_by (sc := defScope sMovesRightL) (by decide +kernel)) rfl (fun _ _ _ _ _ => rfl) (fun A1 o1 s1 H1 E1 f1 c1 hr9 => (show PE _ _ (ME.tDS (orS (spIsTurning K) (spTurnX K)) (fun _ => E1) (tCons (tVar 2) (tCons (tVar 3) (tCons (tVar 1) tNil)))) from ME.pe_dS CIsTurningMove (hr9.le (by decide)) (passAt (takes_of rfl rfl rfl rfl)) (pa_cons (pv 2) (pa_cons (pv 3) (pa_cons (pv 1) pa_nil)))))) pa_nil)))
      (pss_cons (ps_expr (pe_bm PySem.F.plainAttrs_list PySem.F.slot_list_append PySem.F.type_list_append mt_append (pv 4) (pa_cons (ME.pe_lam (T := TL K) (TT := TTW K) (k := 6) (t := fun E1 => (ME.tDS (orS (spIsTurning K) (spTurnX K)) (fun _ => E1) (tCons (tVar 2) (tCons (tVar 2) (tCons (tVar 1) tNil))))) T.t_law_word (fun _ _ _ _ _ _ us hl => match us, hl with | [_], _ => rfl) scWord rfl (Or.inl rfl) (fun g cd => word_gives (k := 1) T Y (hr.le (by decide))) TB.t1 rfl List.mem_cons_self TB.u1 (hr.le (by decide)) (show LamS _ _ from lamS_by (sc := defScope sMovesRightL) (by decide +kernel)) rfl (fun _ _ _ _ _ => rfl) (fun A1 o1 s1 H1 E1 f1 c1 hr9 => (show PE _ _ (ME.tDS (orS (spIsTurning K) (spTurnX K)) (fun _ => E1) (tCons (tVar 2) (tCons (tVar 2) (tCons (tVar 1) tNil)))) from ME.pe_dS CIsTurningMove (hr9.le (by decide)) (passAt (takes_of rfl rfl rfl rfl)) (pa_cons (pv 2) (pa_cons (pv 2) (pa_cons (pv 1) pa_nil)))))) pa_nil)))
      (pss_one (ps_ret (pe_cmpR (op_eqD hr.hu) (pv 4) (pe_lst (pa_cons pe_str (pa_cons pe_str (pa_cons pe_str (pa_cons pe_str pa_nil))))) (nomark _)))))))))))))), ?_⟩
    refine ⟨Nat.zero_le _, fun p fp => ?_⟩
    have o0 : On K H p [] (upd H p (.lst [])) := by
      refine ⟨fun b o e _ => ?_, fp, upd_same, hT.ext (same_new fp)⟩
      exact same_new fp b o e
    generalize upd H p (.lst []) = H1 at o0 ⊢
    refine ⟨by show 5 ≤ sizeLine; decide, fun t ft => ?_⟩
    have St : SqT K (upd H1 t (.tup ((F1 K).map V.ref))) t ((F1 K).map V.ref) := .inl (.inl upd_same)
    have o1 : On K H p [] (upd H1 t (.tup ((F1 K).map V.ref))) := o0.same (same_new ft)
    have tp : t ≠ p := by
      rintro rfl
      rw [o0.wd] at ft
      cases ft
    have et : (upd H1 t (.tup ((F1 K).map V.ref))) t = some (.tup ((F1 K).map V.ref)) := upd_same
    refine ⟨t, rfl, ⟨_, St⟩, ?_⟩
    obtain ⟨o2, eB⟩ := o1.low
    have SB : SqT K (wo (upd H1 t (.tup ((F1 K).map V.ref))) p) t ((F1 K).map V.ref) := .inl (.inl (by rw [wo_ne tp]; exact et))
    have bB := badME bx eB
    have aB := sqtE Sa eB
    generalize wo (upd H1 t (.tup ((F1 K).map V.ref))) p = B at o2 eB SB bB aB
    refine for_tup (K := K) (a := t) (xs := (F1 K).map V.ref) (fun i σ H3 => On K B p (wds ["move", "fine"] i) H3 ∧
      ∃ c, σ = [some g, some x, some (.ref a), some (.ref b), some (.ref p), c]) ⟨o2, _, rfl⟩ (fun i σ H3 _ h => sqtE SB h.1.ext) ?_ ?_
    · rintro i v σ H3 hv ⟨o3, c, rfl⟩
      obtain ⟨fn, hf, rfl⟩ : ∃ fn, fn ∈ F1 K ∧ v = .ref fn := by
        have := List.mem_of_getElem? hv
        obtain ⟨fn, hf, e⟩ := List.mem_map.mp this
        exact ⟨fn, hf, e.symm⟩
      have i5 : i < 5 := (List.getElem?_eq_some_iff.mp hv).1
      refine stepW (z := "move") o3 rfl (by rw [wds_len]; show i * 2 < 100; omega) (fun H4 e4 Q' q' => one_bad (h1 fn hf) rfl rfl (badME (badME bB o3.ext) e4) q') (fun H5 o5 => ?_)
      refine stepW (z := "fine") o5 rfl (by rw [List.length_append, wds_len]; show i * 2 + 1 < 100; omega) (fun H4 e4 Q' q' => one_good (h1 fn hf) rfl rfl (sqtE (sqtE aB o5.ext) e4) hm q') (fun H6 o6 => ?_)
      refine ⟨?_, _, rfl⟩
      rw [wds_succ]
      rw [List.append_assoc] at o6
      exact o6
    · rintro σ H3 ⟨o3, c, rfl⟩
      refine ⟨_, rfl, by show 2 ≤ sizeLine; decide, fun r fr => ?_⟩
      have o4 := o3.same (same_new fr (o := .lst [.str "move", .str "fine"]))
      have er : (upd H3 r (.lst [.str "move", .str "fine"])) r = some (.lst [.str "move", .str "fine"]) := upd_same
      refine ⟨r, 5, _, rfl, rfl, er, by decide, by decide, by decide, fun r2 fr2 => ?_⟩
      have o5 := o4.same (same_new fr2 (o := .lst (List.replicate (Int.toNat 5) [V.str "move", V.str "fine"]).flatten))
      refine ⟨dW (wds ["move", "fine"] 5), dW (wds ["move", "fine"] 5), dp_words o5.wd, dp_words (p := r2) upd_same, by decide +kernel, by decide +kernel, ?_⟩
      refine ⟨_, rfl, ?_⟩
      refine ifF (by decide +kernel) ?_
      generalize upd (upd H3 r _) r2 _ = H5 at o5 ⊢
      have e5 := o5.ext
      have T5 := o5.tab
      have ex5 : ExtN H H5 := eB.trans e5
      have b5 := badME bB e5
      have a5 := sqtE aB e5
      have c5 := sqtE (sqtE Sb eB) e5
      clear o5 o4 er fr fr2 o3 SB aB bB
      refine ⟨Nat.zero_le _, fun p2 fp2 => ?_⟩
      have o0 : On K H5 p2 [] (upd H5 p2 (.lst [])) := ⟨fun b o e _ => same_new fp2 b o e, fp2, upd_same, T5.ext (same_new fp2)⟩
      generalize upd H5 p2 (.lst []) = H6 at o0 ⊢
      refine ⟨by show 3 ≤ sizeLine; decide, fun t2 ft2 => ?_⟩
      have St2 : SqT K (upd H6 t2 (.tup ((F2 K).map V.ref))) t2 ((F2 K).map V.ref) := .inl (.inl upd_same)
      have o1 : On K H5 p2 [] (upd H6 t2 (.tup ((F2 K).map V.ref))) := o0.same (same_new ft2)
      have tp2 : t2 ≠ p2 := by
        rintro rfl
        rw [o0.wd] at ft2
        cases ft2
      have et2 : (upd H6 t2 (.tup ((F2 K).map V.ref))) t2 = some (.tup ((F2 K).map V.ref)) := upd_same
      refine ⟨t2, rfl, ⟨_, St2⟩, ?_⟩
      obtain ⟨o2, eB2⟩ := o1.low
      have SB : SqT K (wo (upd H6 t2 (.tup ((F2 K).map V.ref))) p2) t2 ((F2 K).map V.ref) := .inl (.inl (by rw [wo_ne tp2]; exact et2))
      have bB := badME b5 eB2
      have aB := sqtE a5 eB2
      have cB := sqtE c5 eB2
      have exB := ex5.trans eB2
      generalize wo (upd H6 t2 (.tup ((F2 K).map V.ref))) p2 = B2 at o2 eB2 SB bB aB cB exB
      refine for_tup (K := K) (a := t2) (xs := (F2 K).map V.ref) (fun i σ H3 => On K B2 p2 (wds ["move", "move", "operation", "fine"] i) H3 ∧
        ∃ c, σ = [some g, some x, some (.ref a), some (.ref b), some (.ref p2), c]) ⟨o2, _, rfl⟩ (fun i σ H3 _ h => sqtE SB h.1.ext) ?_ ?_
      · rintro i v σ H3 hv ⟨o3, c, rfl⟩
        obtain ⟨fn, hf, rfl⟩ : ∃ fn, fn ∈ F2 K ∧ v = .ref fn := by
          have := List.mem_of_getElem? hv
          obtain ⟨fn, hf, e⟩ := List.mem_map.mp this
          exact ⟨fn, hf, e.symm⟩
        have i3 : i < 3 := (List.getElem?_eq_some_iff.mp hv).1
        have z0 : (wds ["move", "move", "operation", "fine"] i).length = i * 4 := wds_len _ _
        refine stepW (z := "move") o3 rfl (by omega) (fun H4 e4 Q' q' => two_bad (h2 fn hf) rfl rfl rfl (.inl ⟨badME (badME bB o3.ext) e4, fun H7 s => .inl ⟨rfl, q' H7 s⟩⟩)) (fun H5 o5 => ?_)
        refine stepW (z := "move") o5 rfl (by simp only [List.length_append, List.length_cons, List.length_nil]; omega) (fun H4 e4 Q' q' => two_bad (h2 fn hf) rfl rfl rfl (.inr (.inl ⟨a, m, rfl, sqtE (sqtE aB o5.ext) e4, hm, badME (badME bB o5.ext) e4, fun H7 s => .inl ⟨rfl, q' H7 s⟩⟩))) (fun H6 o6 => ?_)
        refine stepW (z := "operation") o6 rfl (by simp only [List.length_append, List.length_cons, List.length_nil]; omega) (fun H4 e4 Q' q' => two_bad (h2 fn hf) rfl rfl rfl (.inr (.inr ⟨a, b, m, l, rfl, rfl, sqtE (sqtE aB o6.ext) e4, sqtE (sqtE cB o6.ext) e4, hm, hl, ne, fun H7 s => .inr (.inl ⟨rfl, q' H7 s⟩)⟩))) (fun H7 o7 => ?_)
        refine stepW (z := "fine") o7 rfl (by simp only [List.length_append, List.length_cons, List.length_nil]; omega) (fun H4 e4 Q' q' => two_good (h2 fn hf) rfl rfl (sqtE (sqtE aB o7.ext) e4) hm q') (fun H8 o8 => ?_)
        refine ⟨?_, _, rfl⟩
        rw [wds_succ]
        simp only [List.append_assoc, List.cons_append, List.nil_append] at o8
        exact o8
      · rintro σ H3 ⟨o3, c, rfl⟩
        refine ⟨_, rfl, by show 4 ≤ sizeLine; decide, fun r fr => ?_⟩
        have o4 := o3.same (same_new fr (o := .lst [.str "move", .str "move", .str "operation", .str "fine"]))
        have er : (upd H3 r (.lst [.str "move", .str "move", .str "operation", .str "fine"])) r = some (.lst [.str "move", .str "move", .str "operation", .str "fine"]) := upd_same
        refine ⟨r, 3, _, rfl, rfl, er, by decide, by decide, by decide, fun r2 fr2 => ?_⟩
        have o5 := o4.same (same_new fr2 (o := .lst (List.replicate (Int.toNat 3) [V.str "move", V.str "move", V.str "operation", V.str "fine"]).flatten))
        refine ⟨dW (wds ["move", "move", "operation", "fine"] 3), dW (wds ["move", "move", "operation", "fine"] 3), dp_words o5.wd, dp_words (p := r2) upd_same, by decide +kernel, by decide +kernel, ?_⟩
        refine ⟨_, rfl, ?_⟩
        refine ifF (by decide +kernel) ?_
        generalize upd (upd H3 r _) r2 _ = H9 at o5 ⊢
        have e9 := exB.trans o5.ext
        have b9 := badME bB o5.ext
        have a9 := sqtE aB o5.ext
        have c9 := sqtE cB o5.ext
        have T9 := o5.tab
        clear o5 o4 er fr fr2 o3 SB aB bB cB
        refine ⟨T9, fun H10 e10 t10 => ?_⟩
        refine ⟨_, rfl, _, rfl, .inr ⟨_, _, _, rfl, .inl ⟨badME b9 e10, fun H11 s11 => .inl ⟨rfl, ?_⟩⟩⟩⟩
        refine ⟨by show 1 ≤ sizeLine; decide, fun p3 fp3 => ?_⟩
        have o0 : On K H11 p3 ["move"] (upd H11 p3 (.lst [.str "move"])) := ⟨fun b o e _ => same_new fp3 b o e, fp3, upd_same, (t10.ext s11).ext (same_new fp3)⟩
        have e11 := (e9.trans e10).trans (ext_same s11)
        have bC := (badME b9 e10).same s11
        have aC := same_sqt s11 (sqtE a9 e10)
        have cC := same_sqt s11 (sqtE c9 e10)
        generalize upd H11 p3 (.lst [.str "move"]) = H12 at o0 ⊢
        refine stepW (z := "move") o0 rfl (by decide) (fun H4 e4 Q' q' => ⟨_, rfl, _, rfl, .inr ⟨_, _, _, rfl, .inr (.inl ⟨a, m, rfl, sqtE (sqtE aC o0.ext) e4, hm, badME (badME bC o0.ext) e4, fun H7 s => .inl ⟨rfl, q' H7 s⟩⟩)⟩⟩) (fun H5 o5 => ?_)
        refine stepW (z := "operation") o5 rfl (by decide) (fun H4 e4 Q' q' => ⟨_, rfl, _, rfl, _, rfl, .inr ⟨_, _, _, rfl, .inr (.inr ⟨a, b, m, l, rfl, rfl, sqtE (sqtE aC o5.ext) e4, sqtE (sqtE cC o5.ext) e4, hm, hl, ne, fun H7 s => .inr (.inl ⟨rfl, q' H7 s⟩)⟩)⟩⟩) (fun H6 o6 => ?_)
        refine stepW (z := "fine") o6 rfl (by decide) (fun H4 e4 Q' q' => ?_) (fun H7 o7 => ?_)
        · obtain ⟨ob, hv, _, small⟩ := badME (badME bC o6.ext) e4
          exact ⟨_, rfl, _, rfl, _, rfl, .inl ⟨a, a, m, m, _, ob, rfl, sqtE (sqtE aC o6.ext) e4, sqtE (sqtE aC o6.ext) e4, hm, hm, rfl, hv, small, fun H7 s => q' H7 s⟩⟩
        refine ⟨_, rfl, by show 4 ≤ sizeLine; decide, fun r fr => ?_⟩
        have o8 := o7.same (same_new fr (o := .lst [.str "move", .str "move", .str "operation", .str "fine"]))
        refine ⟨dW ["move", "move", "operation", "fine"], dW ["move", "move", "operation", "fine"], dp_words o8.wd, dp_words (p := r) (ws := ["move", "move", "operation", "fine"]) upd_same, by decide +kernel, by decide +kernel, ?_⟩
        have q2 := q _ (e11.trans o8.ext) o8.tab
        rw [show PyData.eqv (dW ["move", "move", "operation", "fine"]) (dW ["move", "move", "operation", "fine"]) = true by decide +kernel]
        exact q2
end
end K06


set_option Elab.async false
set_option linter.all false
set_option maxRecDepth 100000
set_option maxHeartbeats 2000000
namespace K06
open PySem PySem.Spec PyProof.Rows L2 MM LamX
section
variable {P : Program} {w : World} {K : PySem.W.Frag} {mg : Str → Option Value}
theorem lay_strs : ∀ ws : List Str, (∀ z ∈ ws, PyData.strOk z = true) → PyData.canLayAll0 (ws.map PyData.str) = true
  | [], _ => rfl
  | n :: r, h => by
    show (PyData.canLay0 (.str n) && PyData.canLayAll0 (r.map PyData.str)) = true
    rw [lay_strs r (fun z hz => h z (List.mem_cons_of_mem _ hz)), Bool.and_true]
    unfold PyData.canLay0
    exact h n List.mem_cons_self
theorem dep_strs : ∀ ws : List Str, PyData.depthAll (ws.map PyData.str) ≤ 1
  | [] => by decide
  | n :: r => by
    have := dep_strs r
    simp only [List.map_cons, PyData.depthAll, PyData.depth]
    omega
theorem shapedW (ws : List Str) (ok : ∀ z ∈ ws, PyData.strOk z = true) : SeqAt.shaped (dW ws) = true := by
  unfold SeqAt.shaped dW
  have h := dep_strs ws
  rw [show PyData.canLay0 (.list (ws.map PyData.str)) = true from lay_strs ws ok, Bool.true_and]
  refine decide_eq_true ?_
  simp only [PyData.depth]
  omega
theorem eqvW : ∀ ws : List Str, PyData.eqvAll (ws.map PyData.str) (ws.map PyData.str) = true
  | [] => rfl
  | n :: r => by
    show (PyData.eqv (.str n) (.str n) && PyData.eqvAll (r.map PyData.str) (r.map PyData.str)) = true
    rw [eqvW r, Bool.and_true]
    show (n == n) = true
    exact beq_self_eq_true n
/-- behind B, in which neither the bag at g nor the list at p stands -/
structure Onb (K : PySem.W.Frag) (B : Hp) (g p : Addr) (ws : List Str) (H : Hp) : Prop where
  ext : ExtN B H
  np : B p = none
  ng : B g = none
  gp : p ≠ g
  bag : BagAt H g
  wd : Wd H p ws
  tab : Tabs (TL K) H
theorem tab_upto {g : Addr} {H1 H2 : Hp} (t : Tabs (TL K) H1) (b : BagAt H1 g) (u : Upto g H1 H2) : Tabs (TL K) H2 := by
  obtain ⟨x, y, z, eb⟩ := b
  intro q hq
  obtain ⟨ps, h1, h2, h3⟩ := t q hq
  have nq : q.1 ≠ g := by
    intro z
    rw [z, eb] at h1
    cases h1
  refine ⟨ps, u.same _ _ nq h1, h2, fun pos cv hc => ?_⟩
  obtain ⟨c, e1, e2⟩ := h3 pos cv hc
  have nc : c ≠ g := by
    rintro rfl
    rw [eb] at e2
    unfold CodeO at e2
    cases e2
  exact ⟨c, e1, u.same _ _ nc e2⟩
theorem tab_list {p : Addr} {H : Hp} {xs ys : List V} (t : Tabs (TL K) H) (w2 : H p = some (.lst xs)) : Tabs (TL K) (upd H p (.lst ys)) := by
  intro q hq
  obtain ⟨ps, h1, h2, h3⟩ := t q hq
  have nq : q.1 ≠ p := by
    intro z
    rw [z, w2] at h1
    cases h1
  refine ⟨ps, by rw [upd_ne nq]; exact h1, h2, fun pos cv hc => ?_⟩
  obtain ⟨c, e1, e2⟩ := h3 pos cv hc
  have nc : c ≠ p := by
    rintro rfl
    rw [w2] at e2
    unfold CodeO at e2
    cases e2
  exact ⟨c, e1, by rw [upd_ne nc]; exact e2⟩
theorem bag_ext {g : Addr} {H H1 : Hp} (b : BagAt H g) (e : ExtN H H1) : BagAt H1 g :=
  let ⟨x, y, z, h⟩ := b
  ⟨x, y, z, e _ _ h (fun ps z => by cases z)⟩
theorem Onb.step {B H H1 H2 : Hp} {g p : Addr} {ws : List Str} {z : Str} (h : Onb K B g p ws H) (e : ExtN H H1) (t : Tabs (TL K) H1) (u : Upto g H1 H2) :
    H2 p = some (.lst (ws.map V.str)) ∧ Onb K B g p (ws ++ [z]) (upd H2 p (.lst (ws.map V.str ++ [.str z]))) := by
  have w2 : H2 p = some (.lst (ws.map V.str)) := u.same _ _ h.gp (e _ _ h.wd (fun ps z => by cases z))
  have t2 := tab_upto t (bag_ext h.bag e) u
  refine ⟨w2, fun b o hb nt => ?_, h.np, h.ng, h.gp, ?_, ?_, tab_list t2 w2⟩
  · have nb : b ≠ p := by
      rintro rfl
      rw [h.np] at hb
      cases hb
    have ng : b ≠ g := by
      rintro rfl
      rw [h.ng] at hb
      cases hb
    rw [upd_ne nb]
    exact u.same _ _ ng (e _ _ (h.ext _ _ hb nt) nt)
  · obtain ⟨x, y, v, eb⟩ := u.bag
    exact ⟨x, y, v, by rw [upd_ne (Ne.symm h.gp)]; exact eb⟩
  · show upd H2 p _ p = _
    rw [upd_same, List.map_append]
    rfl
theorem stepB {B H : Hp} {g p : Addr} {ws : List Str} {z : Str} {σ : L2.St} {i : Nat} {t : XK → TE} {D : Ends} (h : Onb K B g p ws H)
    (hi : σ[i]? = some (some (.ref p))) (sz : ws.length < 100)
    (call : ∀ (H1 : Hp), ExtN H H1 → BagAt H1 g → ∀ Q : VK, (∀ H2, Upto g H1 H2 → Q (.str z) H2) → TTW K (fun E H' Q' => t E σ H' Q') H1 Q)
    (next : ∀ H', Onb K B g p (ws ++ [z]) H' → D.nx σ H') :
    tDrop (tBM K "list" rAppend (tVar i) (tCons (tLam (TL K) (TTW K) t) tNil)) D σ H := by
  refine ⟨_, hi, .inl ⟨rfl, _, .inl (.inl h.wd)⟩, ?_⟩
  refine ⟨h.tab, fun H1 e1 t1 => call H1 e1 (bag_ext h.bag e1) _ fun H2 u2 => ?_⟩
  obtain ⟨w2, o2⟩ := h.step (z := z) e1 t1 u2
  refine ⟨p, _, _, rfl, rfl, w2, ?_, next _ o2⟩
  rw [List.length_map]
  exact Nat.lt_of_lt_of_le sz (by decide)
def txt (d : PyData) : Str := "number " ++ d.shown
/-- a value that is no number within the bounds, and its text -/
def NumV (K : PySem.W.Frag) (H : Hp) (v : V) (lo hi : Int) : Prop := ∃ kn d, Kd K H v kn ∧ isB v lo hi = false ∧ Dp K H v d ∧ SeqAt.shaped d = true ∧ d.showable = true ∧ d.shown.length ≤ 900 ∧ PyData.strOk (txt d) = true
theorem wo_some {H : Hp} {g b : Addr} {o : HO} (h : wo H g b = some o) : b ≠ g ∧ H b = some o := by
  by_cases e : b = g
  · have : wo H g b = none := if_pos e
    rw [this] at h
    cases h
  · rw [wo_ne e] at h
    exact ⟨e, h⟩
theorem wo_ext {H H' : Hp} {g : Addr} (u : Upto g H H') : ExtN (wo H g) (wo H' g) := by
  intro b o h _
  obtain ⟨n, e⟩ := wo_some h
  rw [wo_ne n]
  exact u.same _ _ n e
theorem low_ext {H H' : Hp} {g : Addr} (e : ExtN H H') : ExtN (wo H g) H' := fun b o h nt => e _ _ (wo_some h).2 nt
theorem sqt_wo {H : Hp} {g a : Addr} {xs : List V} (h : SqT K H a xs) (b : BagAt H g) : SqT K (wo H g) a xs := by
  obtain ⟨x, y, z, eb⟩ := b
  rcases h with (h | ⟨o, h⟩) | h
  · have n : a ≠ g := by
      rintro rfl
      rw [eb] at h
      cases h
    exact .inl (.inl (by rw [wo_ne n]; exact h))
  · have n : a ≠ g := by
      rintro rfl
      rw [eb] at h
      cases h
    exact .inl (.inr ⟨o, by rw [wo_ne n]; exact h⟩)
  · exact .inr h
theorem onb_start {H3 H4 H5 : Hp} {g p : Addr} {z : Str} (bag : BagAt H3 g) (e4 : ExtN H3 H4) (t4 : Tabs (TL K) H4) (s5 : Same H4 H5) (fp : H5 p = none) :
    Onb K (wo (wo (upd H5 p (.lst [.str z])) g) p) g p [z] (upd H5 p (.lst [.str z])) ∧ ExtN (wo H3 g) (wo (wo (upd H5 p (.lst [.str z])) g) p) := by
  have bag5 : BagAt H5 g := by
    obtain ⟨x, y, v, e⟩ := bag_ext bag e4
    exact ⟨x, y, v, s5 _ _ e⟩
  have pg : p ≠ g := by
    rintro rfl
    obtain ⟨x, y, v, e⟩ := bag5
    rw [e] at fp
    cases fp
  have bag6 : BagAt (upd H5 p (.lst [.str z])) g := by
    obtain ⟨x, y, v, e⟩ := bag5
    exact ⟨x, y, v, by rw [upd_ne (Ne.symm pg)]; exact e⟩
  refine ⟨⟨?_, if_pos rfl, ?_, pg, bag6, upd_same, (t4.ext s5).ext (same_new fp)⟩, ?_⟩
  · intro b o h _
    exact (wo_some (wo_some h).2).2
  · rw [wo_ne (Ne.symm pg)]
    exact if_pos rfl
  · intro b o h nt
    obtain ⟨n, e⟩ := wo_some h
    have e5 := s5 _ _ (e4 _ _ e nt)
    have np : b ≠ p := by
      rintro rfl
      rw [fp] at e5
      cases e5
    rw [wo_ne np, wo_ne n, upd_ne np]
    exact e5
/-- where a wrong number is caught -/
theorem caught_num {H1 : Hp} {g : Addr} {v : V} {d : PyData} {Q : VK} (b : BagAt H1 g) (hd : ∀ H2, Same H1 H2 → Dp K H2 v d) (h1 : SeqAt.shaped d = true)
    (h2 : d.showable = true) (h3 : d.shown.length ≤ 900) (q : ∀ H2, Upto g H1 H2 → Q (.str (txt d)) H2) : rNum K H1 v (Caught K Q) := by
  intro H' dd s fd ed
  refine .inr (.inr ⟨rfl, dd, v, d.shown, rfl, ed, ⟨d, hd H' s, h1, h2, ?_, rfl⟩, q H' (up_same b s)⟩)
  exact Nat.le_trans (Nat.add_le_add_right h3 7) (by decide)
end
end K06

set_option Elab.async false
set_option linter.all false
set_option maxRecDepth 100000
set_option maxHeartbeats 4000000
namespace K06
open PySem PySem.Spec PyProof.Rows L2 MM LamX
/-! own words for the readings: a step, its side -/
local macro_rules | `(tactic| walk_at "side") => `(tactic| first
  | omega
  | exact ⟨by omega, by omega⟩
  | exact Or.inl ⟨by omega, by omega⟩
  | exact Or.inr ⟨by omega, by omega⟩
  | (show CPw _ _; decide +kernel)
  | (show (0 : Int) < _; decide +kernel)
  | (show CDivW _ _; first | assumption | exact ⟨by decide, by decide +kernel⟩))
local macro_rules | `(tactic| walk_at "here") => `(tactic| first
  | assumption
  | exact upd_same
  | exact Or.inl (Or.inl upd_same)
  | exact Or.inl upd_same)
local macro_rules | `(tactic| walk_at "one") => `(tactic| first
  | refine ⟨_, rfl, ?_⟩
  | refine Or.inl ⟨_, rfl, ?_⟩
  | refine Or.inr ⟨_, rfl, ?_⟩
  | refine ⟨_, _, rfl, rfl, (by walk_at "side"), ?_⟩
  | refine ⟨_, _, rfl, rfl, ?_⟩
  | refine ⟨_, _, rfl, Or.inl (by walk_at "here"), ?_⟩
  | refine ⟨_, _, rfl, Or.inr (by walk_at "here"), ?_⟩
  | refine ⟨_, _, rfl, (by walk_at "here"), ?_⟩
  | refine ⟨_, _, _, _, rfl, rfl, (by walk_at "here"), rfl, ?_⟩
  | refine ⟨_, _, rfl, ?_⟩
  | refine ifT (by rfl) ?_
  | refine ifF (by rfl) ?_
  | refine ifT (decide_eq_true (by omega)) ?_
  | refine ifF (decide_eq_false (by omega)) ?_)
local macro_rules | `(tactic| walk_at "st") => `(tactic| repeat (walk_at "one"))

section
variable {P : Program} {w : World} {K : PySem.W.Frag} {mg : Str → Option Value} {base : Heap}
def spNumbersR (K : PySem.W.Frag) : Sp := fun vs H Q _ => ∃ (g : Addr) (x : V) (a : Addr) (m : List Nat), vs = [.ref g, x, .ref a] ∧ BagAt H g ∧ BadM K H x ∧ SqT K H a (mv m) ∧
  Mv m ∧ BadM K (wo H g) x ∧ Tabs (TL K) H ∧ ∀ H', ExtN (wo H g) H' → BagAt H' g → Tabs (TL K) H' → Q (.bl true) H'
theorem numHigh {t1 : Addr} {v : V} (h : v ∈ [V.non, .int (10 ^ 30 + 1), .int (-(10 ^ 30) - 1), .bl true, .str "2", .ref t1, .int (10 ^ 60)]) :
    ∃ kn d, isB v (-(10 ^ 30)) (10 ^ 30) = false ∧ SeqAt.shaped d = true ∧ d.showable = true ∧ d.shown.length ≤ 900 ∧ PyData.strOk (txt d) = true ∧ ∀ H', H' t1 = some (.tup [.int 2]) → Kd K H' v kn ∧ Dp K H' v d := by
  simp only [List.mem_cons, List.not_mem_nil, or_false] at h
  rcases h with rfl | rfl | rfl | rfl | rfl | rfl | rfl
  · exact ⟨_, _, rfl, by decide +kernel, by decide +kernel, by decide +kernel, by decide +kernel, fun H' e => ⟨.non, .non⟩⟩
  · exact ⟨_, _, by decide +kernel, by decide +kernel, by decide +kernel, by decide +kernel, by decide +kernel, fun H' e => ⟨.int _, .int _⟩⟩
  · exact ⟨_, _, by decide +kernel, by decide +kernel, by decide +kernel, by decide +kernel, by decide +kernel, fun H' e => ⟨.int _, .int _⟩⟩
  · exact ⟨_, _, rfl, by decide +kernel, by decide +kernel, by decide +kernel, by decide +kernel, fun H' e => ⟨.bl _, .bl _⟩⟩
  · exact ⟨_, _, rfl, by decide +kernel, by decide +kernel, by decide +kernel, by decide +kernel, fun H' e => ⟨.str _, .str _⟩⟩
  · exact ⟨_, _, rfl, by decide +kernel, by decide +kernel, by decide +kernel, by decide +kernel, fun H' e => ⟨.tup (.inl (.inl e)), .tup (.inl (.inl e)) (.cons (.int 2) .nil)⟩⟩
  · exact ⟨_, _, by decide +kernel, by decide +kernel, by decide +kernel, by decide +kernel, by decide +kernel, fun H' e => ⟨.int _, .int _⟩⟩
theorem numSize {t1 : Addr} {v : V} (h : v ∈ [V.non, .int 0, .int 25, .int (-1), .bl true, .str "3", .ref t1, .int (10 ^ 60)]) :
    ∃ kn d, isB v 1 24 = false ∧ SeqAt.shaped d = true ∧ d.showable = true ∧ d.shown.length ≤ 900 ∧ PyData.strOk (txt d) = true ∧ ∀ H', H' t1 = some (.lst [.int 3]) → Kd K H' v kn ∧ Dp K H' v d := by
  simp only [List.mem_cons, List.not_mem_nil, or_false] at h
  rcases h with rfl | rfl | rfl | rfl | rfl | rfl | rfl | rfl
  · exact ⟨_, _, rfl, by decide +kernel, by decide +kernel, by decide +kernel, by decide +kernel, fun H' e => ⟨.non, .non⟩⟩
  · exact ⟨_, _, by decide +kernel, by decide +kernel, by decide +kernel, by decide +kernel, by decide +kernel, fun H' e => ⟨.int _, .int _⟩⟩
  · exact ⟨_, _, by decide +kernel, by decide +kernel, by decide +kernel, by decide +kernel, by decide +kernel, fun H' e => ⟨.int _, .int _⟩⟩
  · exact ⟨_, _, by decide +kernel, by decide +kernel, by decide +kernel, by decide +kernel, by decide +kernel, fun H' e => ⟨.int _, .int _⟩⟩
  · exact ⟨_, _, rfl, by decide +kernel, by decide +kernel, by decide +kernel, by decide +kernel, fun H' e => ⟨.bl _, .bl _⟩⟩
  · exact ⟨_, _, rfl, by decide +kernel, by decide +kernel, by decide +kernel, by decide +kernel, fun H' e => ⟨.str _, .str _⟩⟩
  · exact ⟨_, _, rfl, by decide +kernel, by decide +kernel, by decide +kernel, by decide +kernel, fun H' e => ⟨.lst (.inl (.inl e)), .lst (.inl (.inl e)) (.cons (.int 3) .nil)⟩⟩
  · exact ⟨_, _, by decide +kernel, by decide +kernel, by decide +kernel, by decide +kernel, by decide +kernel, fun H' e => ⟨.int _, .int _⟩⟩
theorem ringsBad {J : Hp} {g : Addr} {u1 u2 u3 u4 u5 u6 u7 u8 u9 u10 u11 u12 u13 u14 u15 u16 u17 u18 u19 u20 : Addr} {v : V} (h : v ∈ [V.non, .int 0, .ref u2, .ref u4, .ref u7, .ref u9, .ref u11, .ref u13, .ref u15, .ref u16, .ref u18, .str "01", .ref u20])
    (e1 : J u1 = some (.tup [.int 0, .int 1])) (e2 : J u2 = some (.lst [.ref u1])) (e3 : J u3 = some (.tup [])) (e4 : J u4 = some (.tup [.ref u3])) (e5 : J u5 = some (.tup [.int 0, .int 1])) (e6 : J u6 = some (.tup [.int 1, .int 2])) (e7 : J u7 = some (.tup [.ref u5, .ref u6])) (e8 : J u8 = some (.tup [.int 0, .int 0])) (e9 : J u9 = some (.tup [.ref u8])) (e10 : J u10 = some (.tup [.int 0, .int 3])) (e11 : J u11 = some (.tup [.ref u10])) (e12 : J u12 = some (.tup [.int (-1)])) (e13 : J u13 = some (.tup [.ref u12])) (e14 : J u14 = some (.lst [.int 0, .int 1])) (e15 : J u15 = some (.tup [.ref u14])) (e16 : J u16 = some (.tup [.int 0, .int 1])) (e17 : J u17 = some (.tup [.bl true, .int 2])) (e18 : J u18 = some (.tup [.ref u17])) (e19 : J u19 = some (.tup [.int 0, .str "1"])) (e20 : J u20 = some (.tup [.ref u19]))
    (n1 : u1 ≠ g) (n2 : u2 ≠ g) (n3 : u3 ≠ g) (n4 : u4 ≠ g) (n5 : u5 ≠ g) (n6 : u6 ≠ g) (n7 : u7 ≠ g) (n8 : u8 ≠ g) (n9 : u9 ≠ g) (n10 : u10 ≠ g) (n11 : u11 ≠ g) (n12 : u12 ≠ g) (n13 : u13 ≠ g) (n14 : u14 ≠ g) (n15 : u15 ≠ g) (n16 : u16 ≠ g) (n17 : u17 ≠ g) (n18 : u18 ≠ g) (n19 : u19 ≠ g) (n20 : u20 ≠ g) :
    ∀ H', (∀ b o, b ≠ g → J b = some o → H' b = some o) → BadR K H' 3 v := by
  intro H' c
  simp only [List.mem_cons, List.not_mem_nil, or_false] at h
  rcases h with rfl | rfl | rfl | rfl | rfl | rfl | rfl | rfl | rfl | rfl | rfl | rfl | rfl
  · exact .inl ⟨_, .non, rfl⟩
  · exact .inl ⟨_, .int _, rfl⟩
  · exact .inl ⟨_, .lst (.inl (.inl (c _ _ n2 e2))), rfl⟩
  · refine .inr ⟨u4, _, [some []], rfl, .inl (.inl (c _ _ n4 e4)), rfl, ?_, by decide, (by simp only [List.length_cons, List.length_nil]; decide), by decide +kernel⟩
    intro i v o h1 h2
    match i, h1, h2 with
    | 0, h1, h2 =>
      cases h1; cases h2
      exact (Rv.yes (.inl (.inl (c _ _ n3 e3))) (fun y hy => by cases hy))
  · refine .inr ⟨u7, _, [some [V.int 0, V.int 1], some [V.int 1, V.int 2]], rfl, .inl (.inl (c _ _ n7 e7)), rfl, ?_, by decide, (by simp only [List.length_cons, List.length_nil]; decide), by decide +kernel⟩
    intro i v o h1 h2
    match i, h1, h2 with
    | 0, h1, h2 =>
      cases h1; cases h2
      exact (Rv.yes (.inl (.inl (c _ _ n5 e5))) (fun y hy => by
        simp only [List.mem_cons, List.not_mem_nil, or_false] at hy
        rcases hy with rfl | rfl
        · exact ⟨_, .int _⟩
        · exact ⟨_, .int _⟩))
    | 1, h1, h2 =>
      cases h1; cases h2
      exact (Rv.yes (.inl (.inl (c _ _ n6 e6))) (fun y hy => by
        simp only [List.mem_cons, List.not_mem_nil, or_false] at hy
        rcases hy with rfl | rfl
        · exact ⟨_, .int _⟩
        · exact ⟨_, .int _⟩))
  · refine .inr ⟨u9, _, [some [V.int 0, V.int 0]], rfl, .inl (.inl (c _ _ n9 e9)), rfl, ?_, by decide, (by simp only [List.length_cons, List.length_nil]; decide), by decide +kernel⟩
    intro i v o h1 h2
    match i, h1, h2 with
    | 0, h1, h2 =>
      cases h1; cases h2
      exact (Rv.yes (.inl (.inl (c _ _ n8 e8))) (fun y hy => by
        simp only [List.mem_cons, List.not_mem_nil, or_false] at hy
        rcases hy with rfl | rfl
        · exact ⟨_, .int _⟩
        · exact ⟨_, .int _⟩))
  · refine .inr ⟨u11, _, [some [V.int 0, V.int 3]], rfl, .inl (.inl (c _ _ n11 e11)), rfl, ?_, by decide, (by simp only [List.length_cons, List.length_nil]; decide), by decide +kernel⟩
    intro i v o h1 h2
    match i, h1, h2 with
    | 0, h1, h2 =>
      cases h1; cases h2
      exact (Rv.yes (.inl (.inl (c _ _ n10 e10))) (fun y hy => by
        simp only [List.mem_cons, List.not_mem_nil, or_false] at hy
        rcases hy with rfl | rfl
        · exact ⟨_, .int _⟩
        · exact ⟨_, .int _⟩))
  · refine .inr ⟨u13, _, [some [V.int (-1)]], rfl, .inl (.inl (c _ _ n13 e13)), rfl, ?_, by decide, (by simp only [List.length_cons, List.length_nil]; decide), by decide +kernel⟩
    intro i v o h1 h2
    match i, h1, h2 with
    | 0, h1, h2 =>
      cases h1; cases h2
      exact (Rv.yes (.inl (.inl (c _ _ n12 e12))) (fun y hy => by
        simp only [List.mem_cons, List.not_mem_nil, or_false] at hy
        subst hy; exact ⟨_, .int _⟩))
  · refine .inr ⟨u15, _, [none], rfl, .inl (.inl (c _ _ n15 e15)), rfl, ?_, by decide, (by simp only [List.length_cons, List.length_nil]; decide), by decide +kernel⟩
    intro i v o h1 h2
    match i, h1, h2 with
    | 0, h1, h2 =>
      cases h1; cases h2
      exact (Rv.no (.lst (.inl (.inl (c _ _ n14 e14)))) rfl)
  · refine .inr ⟨u16, _, [none, none], rfl, .inl (.inl (c _ _ n16 e16)), rfl, ?_, by decide, (by simp only [List.length_cons, List.length_nil]; decide), by decide +kernel⟩
    intro i v o h1 h2
    match i, h1, h2 with
    | 0, h1, h2 =>
      cases h1; cases h2
      exact (Rv.no (.int _) rfl)
    | 1, h1, h2 =>
      cases h1; cases h2
      exact (Rv.no (.int _) rfl)
  · refine .inr ⟨u18, _, [some [V.bl true, V.int 2]], rfl, .inl (.inl (c _ _ n18 e18)), rfl, ?_, by decide, (by simp only [List.length_cons, List.length_nil]; decide), by decide +kernel⟩
    intro i v o h1 h2
    match i, h1, h2 with
    | 0, h1, h2 =>
      cases h1; cases h2
      exact (Rv.yes (.inl (.inl (c _ _ n17 e17))) (fun y hy => by
        simp only [List.mem_cons, List.not_mem_nil, or_false] at hy
        rcases hy with rfl | rfl
        · exact ⟨_, .bl _⟩
        · exact ⟨_, .int _⟩))
  · exact .inl ⟨_, .str _, rfl⟩
  · refine .inr ⟨u20, _, [some [V.int 0, V.str "1"]], rfl, .inl (.inl (c _ _ n20 e20)), rfl, ?_, by decide, (by simp only [List.length_cons, List.length_nil]; decide), by decide +kernel⟩
    intro i v o h1 h2
    match i, h1, h2 with
    | 0, h1, h2 =>
      cases h1; cases h2
      exact (Rv.yes (.inl (.inl (c _ _ n19 e19))) (fun y hy => by
        simp only [List.mem_cons, List.not_mem_nil, or_false] at hy
        rcases hy with rfl | rfl
        · exact ⟨_, .int _⟩
        · exact ⟨_, .str _⟩))
theorem scNumbersRightL : FnScope ["_law_bag_here", "_law_none", "_law_one", "_law_high", "_law_size", "_law_rings", "_law_told", "_law_due"] ["_law_bag_here", "_law_none", "_law_one"] (defScope sNumbersRightL) :=
  ⟨rfl, rfl, rfl, by decide +kernel, rfl, by decide +kernel, by decide +kernel⟩
theorem dNumbersRightL (T : Tx K mg) (Y : Ex K mg) (TB : Tb K mg base) (DOneOfL : Def P w K mg base CX0 2 "_law_one_of" ["_law_bag_here", "_law_items"] (spOneOf K)) (CPowerOf : Def P w K mg base (L2.CX P w) 5 "power_of" ["move", "number"] (orS (spPowOf K) (spPowX K))) (CUnitOf : Def P w K mg base (L2.CX P w) 5 "unit_of" ["places"] (orS (spUnit K) (spPlX K))) (CIsMove : Def P w K mg base (L2.CX P w) 5 "is_move" ["places", "value"] (orS (spIsMove K) (spPl2X K))) (CMoveOfCycles : Def P w K mg base (L2.CX P w) 5 "move_of_cycles" ["places", "rings"] (orS (spMoveOf K) (spMoveOfX K))) : Def P w K mg base CX0 9 "_law_numbers_right" ["_law_bag_here", "_law_none", "_law_one"] (spNumbersR K) := by
  refine defC T.t_law_numbers_right (N := ["_law_bag_here", "_law_none", "_law_one", "_law_high", "_law_size", "_law_rings", "_law_told", "_law_due"]) scNumbersRightL (fun _ _ _ _ _ _ us hl => match us, hl with | [_, _, _], _ => rfl) ?_ ?_
  · intro vs H Q E h
    obtain ⟨g, x, a, m, rfl, _⟩ := h
    rfl
  · intro f cd A out s H vs Q E ec hr h
    subst ec
    have hr1 : Rm 2 _ := hr.le (by decide)
    obtain ⟨g, x, a, m, rfl, bag, bx, Sa, hm, bw, hT, q⟩ := h
    refine ⟨_, (pss_cons (ps_set (i := 3) scNumbersRightL.nd rfl (Or.inr rfl) (pe_d DOneOfL (hr1.le (by decide)) pass0 (pa_cons (pv 0) (pa_cons (pe_lst (pa_cons pe_non (pa_cons (pe_op op_add (pe_op op_pw pe_int pe_int) pe_int) (pa_cons (pe_op op_sub (pe_un un_neg (pe_op op_pw pe_int pe_int)) pe_int) (pa_cons pe_bl (pa_cons pe_str (pa_cons (pe_tup (pa_cons pe_int pa_nil)) (pa_cons (pe_op op_pw pe_int pe_int) pa_nil)))))))) pa_nil))))
      (pss_cons (ps_set (i := 4) scNumbersRightL.nd rfl (Or.inr rfl) (pe_d DOneOfL (hr1.le (by decide)) pass0 (pa_cons (pv 0) (pa_cons (pe_lst (pa_cons pe_non (pa_cons pe_int (pa_cons pe_int (pa_cons (pe_un un_neg pe_int) (pa_cons pe_bl (pa_cons pe_str (pa_cons (pe_lst (pa_cons pe_int pa_nil)) (pa_cons (pe_op op_pw pe_int pe_int) pa_nil))))))))) pa_nil))))
      (pss_cons (ps_set (i := 5) scNumbersRightL.nd rfl (Or.inr rfl) (pe_d DOneOfL (hr1.le (by decide)) pass0 (pa_cons (pv 0) (pa_cons (pe_lst (pa_cons pe_non (pa_cons pe_int (pa_cons (pe_lst (pa_cons (pe_tup (pa_cons pe_int (pa_cons pe_int pa_nil))) pa_nil)) (pa_cons (pe_tup (pa_cons (pe_tup pa_nil) pa_nil)) (pa_cons (pe_tup (pa_cons (pe_tup (pa_cons pe_int (pa_cons pe_int pa_nil))) (pa_cons (pe_tup (pa_cons pe_int (pa_cons pe_int pa_nil))) pa_nil))) (pa_cons (pe_tup (pa_cons (pe_tup (pa_cons pe_int (pa_cons pe_int pa_nil))) pa_nil)) (pa_cons (pe_tup (pa_cons (pe_tup (pa_cons pe_int (pa_cons pe_int pa_nil))) pa_nil)) (pa_cons (pe_tup (pa_cons (pe_tup (pa_cons (pe_un un_neg pe_int) pa_nil)) pa_nil)) (pa_cons (pe_tup (pa_cons (pe_lst (pa_cons pe_int (pa_cons pe_int pa_nil))) pa_nil)) (pa_cons (pe_tup (pa_cons pe_int (pa_cons pe_int pa_nil))) (pa_cons (pe_tup (pa_cons (pe_tup (pa_cons pe_bl (pa_cons pe_int pa_nil))) pa_nil)) (pa_cons pe_str (pa_cons (pe_tup (pa_cons (pe_tup (pa_cons pe_int (pa_cons pe_str pa_nil))) pa_nil)) pa_nil)))))))))))))) pa_nil))))
      (pss_cons (ps_set (i := 6) scNumbersRightL.nd rfl (Or.inl rfl) (pe_lst (pa_cons (ME.pe_lam (T := TL K) (TT := TTW K) (k := 6) (t := fun E1 => (ME.tDS (orS (spPowOf K) (spPowX K)) (fun _ => E1) (tCons (tVar 1) (tCons (tVar 3) tNil)))) T.t_law_word (fun _ _ _ _ _ _ us hl => match us, hl with | [_], _ => rfl) scWord rfl (Or.inl rfl) (fun g cd => word_gives (k := 1) T Y (hr.le (by decide))) TB.t2 rfl (List.mem_cons_of_mem _ List.mem_cons_self) TB.u2 (hr.le (by decide)) (show LamS _ _ from lamS_by (sc := defScope sNumbersRightL) (by decide +kernel)) rfl (fun _ _ _ _ _ => rfl) (fun A1 o1 s1 H1 E1 f1 c1 hr9 => (show PE _ _ (ME.tDS (orS (spPowOf K) (spPowX K)) (fun _ => E1) (tCons (tVar 1) (tCons (tVar 3) tNil))) from ME.pe_dS CPowerOf (hr9.le (by decide)) (passAt (takes_of rfl rfl rfl rfl)) (pa_cons (pv 1) (pa_cons (pv 3) pa_nil))))) pa_nil)))
      (pss_cons (ps_expr (pe_bm PySem.F.plainAttrs_list PySem.F.slot_list_append PySem.F.type_list_append mt_append (pv 6) (pa_cons (ME.pe_lam (T := TL K) (TT := TTW K) (k := 6) (t := fun E1 => (ME.tDS (orS (spPowOf K) (spPowX K)) (fun _ => E1) (tCons (tVar 2) (tCons (tVar 3) tNil)))) T.t_law_word (fun _ _ _ _ _ _ us hl => match us, hl with | [_], _ => rfl) scWord rfl (Or.inl rfl) (fun g cd => word_gives (k := 1) T Y (hr.le (by decide))) TB.t2 rfl (List.mem_cons_of_mem _ List.mem_cons_self) TB.u2 (hr.le (by decide)) (show LamS _ _ from lamS_by (sc := defScope sNumbersRightL) (by decide +kernel)) rfl (fun _ _ _ _ _ => rfl) (fun A1 o1 s1 H1 E1 f1 c1 hr9 => (show PE _ _ (ME.tDS (orS (spPowOf K) (spPowX K)) (fun _ => E1) (tCons (tVar 2) (tCons (tVar 3) tNil))) from ME.pe_dS CPowerOf (hr9.le (by decide)) (passAt (takes_of rfl rfl rfl rfl)) (pa_cons (pv 2) (pa_cons (pv 3) pa_nil))))) pa_nil)))
      (pss_cons (ps_expr (pe_bm PySem.F.plainAttrs_list PySem.F.slot_list_append PySem.F.type_list_append mt_append (pv 6) (pa_cons (ME.pe_lam (T := TL K) (TT := TTW K) (k := 6) (t := fun E1 => (ME.tDS (orS (spPowOf K) (spPowX K)) (fun _ => E1) (tCons (tVar 2) (tCons _ tNil)))) T.t_law_word (fun _ _ _ _ _ _ us hl => match us, hl with | [_], _ => rfl) scWord rfl (Or.inl rfl) (fun g cd => word_gives (k := 1) T Y (hr.le (by decide))) TB.t2 rfl (List.mem_cons_of_mem _ List.mem_cons_self) TB.u2 (hr.le (by decide)) (show LamS _ _ from lamS_by (sc := defScope sNumbersRightL) (by decide +kernel)) rfl (fun _ _ _ _ _ => rfl) (fun A1 o1 s1 H1 E1 f1 c1 hr9 => (show PE _ _ (ME.tDS (orS (spPowOf K) (spPowX K)) (fun _ => E1) (tCons (tVar 2) (tCons _ tNil))) from ME.pe_dS CPowerOf (hr9.le (by decide)) (passAt (takes_of rfl rfl rfl rfl)) (pa_cons (pv 2) (pa_cons (pe_d DOneOfL (hr9.le (by decide)) pass0 (pa_cons (pv 0) (pa_cons (pe_lst (pa_cons (pe_op op_pw pe_int pe_int) (pa_cons (pe_un un_neg (pe_op op_pw pe_int pe_int)) (pa_cons pe_int pa_nil)))) pa_nil))) pa_nil))))) pa_nil)))
      (pss_cons (ps_expr (pe_bm PySem.F.plainAttrs_list PySem.F.slot_list_append PySem.F.type_list_append mt_append (pv 6) (pa_cons (ME.pe_lam (T := TL K) (TT := TTW K) (k := 6) (t := fun E1 => (ME.tDS (orS (spUnit K) (spPlX K)) (fun _ => E1) (tCons (tVar 4) tNil))) T.t_law_word (fun _ _ _ _ _ _ us hl => match us, hl with | [_], _ => rfl) scWord rfl (Or.inl rfl) (fun g cd => word_gives (k := 1) T Y (hr.le (by decide))) TB.t2 rfl (List.mem_cons_of_mem _ List.mem_cons_self) TB.u2 (hr.le (by decide)) (show LamS _ _ from lamS_by (sc := defScope sNumbersRightL) (by decide +kernel)) rfl (fun _ _ _ _ _ => rfl) (fun A1 o1 s1 H1 E1 f1 c1 hr9 => (show PE _ _ (ME.tDS (orS (spUnit K) (spPlX K)) (fun _ => E1) (tCons (tVar 4) tNil)) from ME.pe_dS CUnitOf (hr9.le (by decide)) (passAt (takes_of rfl rfl rfl rfl)) (pa_cons (pv 4) pa_nil)))) pa_nil)))
      (pss_cons (ps_expr (pe_bm PySem.F.plainAttrs_list PySem.F.slot_list_append PySem.F.type_list_append mt_append (pv 6) (pa_cons (ME.pe_lam (T := TL K) (TT := TTW K) (k := 6) (t := fun E1 => (ME.tDS (orS (spUnit K) (spPlX K)) (fun _ => E1) (tCons _ tNil))) T.t_law_word (fun _ _ _ _ _ _ us hl => match us, hl with | [_], _ => rfl) scWord rfl (Or.inl rfl) (fun g cd => word_gives (k := 1) T Y (hr.le (by decide))) TB.t2 rfl (List.mem_cons_of_mem _ List.mem_cons_self) TB.u2 (hr.le (by decide)) (show LamS _ _ from lamS_by (sc := defScope sNumbersRightL) (by decide +kernel)) rfl (fun _ _ _ _ _ => rfl) (fun A1 o1 s1 H1 E1 f1 c1 hr9 => (show PE _ _ (ME.tDS (orS (spUnit K) (spPlX K)) (fun _ => E1) (tCons _ tNil)) from ME.pe_dS CUnitOf (hr9.le (by decide)) (passAt (takes_of rfl rfl rfl rfl)) (pa_cons (pe_d DOneOfL (hr9.le (by decide)) pass0 (pa_cons (pv 0) (pa_cons (pe_lst (pa_cons pe_int (pa_cons pe_int pa_nil))) pa_nil))) pa_nil)))) pa_nil)))
      (pss_cons (ps_expr (pe_bm PySem.F.plainAttrs_list PySem.F.slot_list_append PySem.F.type_list_append mt_append (pv 6) (pa_cons (ME.pe_lam (T := TL K) (TT := TTW K) (k := 6) (t := fun E1 => (ME.tDS (orS (spIsMove K) (spPl2X K)) (fun _ => E1) (tCons (tVar 4) (tCons (tVar 2) tNil)))) T.t_law_word (fun _ _ _ _ _ _ us hl => match us, hl with | [_], _ => rfl) scWord rfl (Or.inl rfl) (fun g cd => word_gives (k := 1) T Y (hr.le (by decide))) TB.t2 rfl (List.mem_cons_of_mem _ List.mem_cons_self) TB.u2 (hr.le (by decide)) (show LamS _ _ from lamS_by (sc := defScope sNumbersRightL) (by decide +kernel)) rfl (fun _ _ _ _ _ => rfl) (fun A1 o1 s1 H1 E1 f1 c1 hr9 => (show PE _ _ (ME.tDS (orS (spIsMove K) (spPl2X K)) (fun _ => E1) (tCons (tVar 4) (tCons (tVar 2) tNil))) from ME.pe_dS CIsMove (hr9.le (by decide)) (passAt (takes_of rfl rfl rfl rfl)) (pa_cons (pv 4) (pa_cons (pv 2) pa_nil))))) pa_nil)))
      (pss_cons (ps_expr (pe_bm PySem.F.plainAttrs_list PySem.F.slot_list_append PySem.F.type_list_append mt_append (pv 6) (pa_cons (ME.pe_lam (T := TL K) (TT := TTW K) (k := 6) (t := fun E1 => (ME.tDS (orS (spMoveOf K) (spMoveOfX K)) (fun _ => E1) (tCons (tVar 4) (tCons (tVar 5) tNil)))) T.t_law_word (fun _ _ _ _ _ _ us hl => match us, hl with | [_], _ => rfl) scWord rfl (Or.inl rfl) (fun g cd => word_gives (k := 1) T Y (hr.le (by decide))) TB.t2 rfl (List.mem_cons_of_mem _ List.mem_cons_self) TB.u2 (hr.le (by decide)) (show LamS _ _ from lamS_by (sc := defScope sNumbersRightL) (by decide +kernel)) rfl (fun _ _ _ _ _ => rfl) (fun A1 o1 s1 H1 E1 f1 c1 hr9 => (show PE _ _ (ME.tDS (orS (spMoveOf K) (spMoveOfX K)) (fun _ => E1) (tCons (tVar 4) (tCons (tVar 5) tNil))) from ME.pe_dS CMoveOfCycles (hr9.le (by decide)) (passAt (takes_of rfl rfl rfl rfl)) (pa_cons (pv 4) (pa_cons (pv 5) pa_nil))))) pa_nil)))
      (pss_cons (ps_expr (pe_bm PySem.F.plainAttrs_list PySem.F.slot_list_append PySem.F.type_list_append mt_append (pv 6) (pa_cons (ME.pe_lam (T := TL K) (TT := TTW K) (k := 6) (t := fun E1 => (ME.tDS (orS (spMoveOf K) (spMoveOfX K)) (fun _ => E1) (tCons (tC (.int 3)) (tCons (tVar 5) tNil)))) T.t_law_word (fun _ _ _ _ _ _ us hl => match us, hl with | [_], _ => rfl) scWord rfl (Or.inl rfl) (fun g cd => word_gives (k := 1) T Y (hr.le (by decide))) TB.t2 rfl (List.mem_cons_of_mem _ List.mem_cons_self) TB.u2 (hr.le (by decide)) (show LamS _ _ from lamS_by (sc := defScope sNumbersRightL) (by decide +kernel)) rfl (fun _ _ _ _ _ => rfl) (fun A1 o1 s1 H1 E1 f1 c1 hr9 => (show PE _ _ (ME.tDS (orS (spMoveOf K) (spMoveOfX K)) (fun _ => E1) (tCons (tC (.int 3)) (tCons (tVar 5) tNil))) from ME.pe_dS CMoveOfCycles (hr9.le (by decide)) (passAt (takes_of rfl rfl rfl rfl)) (pa_cons pe_int (pa_cons (pv 5) pa_nil))))) pa_nil)))
      (pss_cons (ps_expr (pe_bm PySem.F.plainAttrs_list PySem.F.slot_list_append PySem.F.type_list_append mt_append (pv 6) (pa_cons (ME.pe_lam (T := TL K) (TT := TTW K) (k := 6) (t := fun E1 => (ME.tDS (orS (spMoveOf K) (spMoveOfX K)) (fun _ => E1) (tCons (tC (.int 24)) (tCons _ tNil)))) T.t_law_word (fun _ _ _ _ _ _ us hl => match us, hl with | [_], _ => rfl) scWord rfl (Or.inl rfl) (fun g cd => word_gives (k := 1) T Y (hr.le (by decide))) TB.t2 rfl (List.mem_cons_of_mem _ List.mem_cons_self) TB.u2 (hr.le (by decide)) (show LamS _ _ from lamS_by (sc := defScope sNumbersRightL) (by decide +kernel)) rfl (fun _ _ _ _ _ => rfl) (fun A1 o1 s1 H1 E1 f1 c1 hr9 => (show PE _ _ (ME.tDS (orS (spMoveOf K) (spMoveOfX K)) (fun _ => E1) (tCons (tC (.int 24)) (tCons _ tNil))) from ME.pe_dS CMoveOfCycles (hr9.le (by decide)) (passAt (takes_of rfl rfl rfl rfl)) (pa_cons pe_int (pa_cons (pe_tup (pa_cons (pe_tup (pa_cons pe_int (pa_cons pe_int pa_nil))) (pa_cons (pe_tup (pa_cons pe_int pa_nil)) pa_nil))) pa_nil))))) pa_nil)))
      (pss_cons (ps_set (i := 7) scNumbersRightL.nd rfl (Or.inl rfl) (pe_lst (pa_cons pe_str (pa_cons (pe_op op_add_str pe_str (pe_callB (cr_repr hr.still hr.hu66) rfl T.f_repr (by decide +kernel) (pa_cons (pv 3) pa_nil))) (pa_cons pe_str (pa_cons (pe_op op_add_str pe_str (pe_callB (cr_repr hr.still hr.hu66) rfl T.f_repr (by decide +kernel) (pa_cons (pv 4) pa_nil))) (pa_cons pe_str pa_nil)))))))
      (pss_one (ps_ret (pe_cmpR (op_eqD hr.hu) (pv 6) (pe_op op_cat (pv 7) (pe_lst (pa_cons (pe_op op_add_str pe_str (pe_callB (cr_repr hr.still hr.hu66) rfl T.f_repr (by decide +kernel) (pa_cons (pv 4) pa_nil))) (pa_cons (pe_op op_add_str pe_str (pe_callB (cr_repr hr.still hr.hu66) rfl T.f_repr (by decide +kernel) (pa_cons (pv 4) pa_nil))) (pa_cons pe_str (pa_cons pe_str pa_nil)))))) (nomark _))))))))))))))))), ?_⟩
    obtain ⟨b0, b1, b2, eb⟩ := bag
    refine ⟨_, rfl, ?_⟩
    refine ⟨10, 30, rfl, rfl, (by show CPw _ _; decide +kernel), ?_⟩
    refine ⟨_, _, rfl, rfl, ?_⟩
    refine ⟨10, 30, rfl, rfl, (by show CPw _ _; decide +kernel), ?_⟩
    refine ⟨_, rfl, ?_⟩
    refine ⟨_, _, rfl, rfl, ?_⟩
    refine ⟨by show 1 ≤ sizeLine; decide, fun t1 ft1 => ?_⟩
    refine ⟨10, 60, rfl, rfl, (by show CPw _ _; decide +kernel), ?_⟩
    refine ⟨by show 7 ≤ sizeLine; decide, fun l1 fl1 => ?_⟩
    have s1 : Same H (upd (upd H t1 (.tup [.int 2])) l1 (.lst [.non, .int (10 ^ 30 + 1), .int (-(10 ^ 30) - 1), .bl true, .str "2", .ref t1, .int (10 ^ 60)])) := (same_new ft1).trans (same_new fl1)
    refine ⟨g, l1, b0, b1, b2, [.non, .int (10 ^ 30 + 1), .int (-(10 ^ 30) - 1), .bl true, .str "2", .ref t1, .int (10 ^ 60)], rfl, s1 _ _ eb, .inl (.inl upd_same), ?_, Nat.succ_pos _, by show 7 ≤ 1000; decide, fun vh h0 h1 h2 hv => ?_⟩
    · rintro rfl
      rw [same_new ft1 _ _ eb] at fl1
      cases fl1
    obtain ⟨kh, dh, bh, sh1, sh2, sh3, sh4, nh⟩ := numHigh (K := K) hv
    have U1 : Upto g H (upd (upd (upd H t1 (.tup [.int 2])) l1 (.lst [.non, .int (10 ^ 30 + 1), .int (-(10 ^ 30) - 1), .bl true, .str "2", .ref t1, .int (10 ^ 60)])) g (.lst [.int h0, .int h1, .int h2])) := by
      refine Upto.draw ⟨fun b o _ e => s1 b o e, ⟨_, _, _, s1 _ _ eb⟩⟩
    have t1g : t1 ≠ g := by
      rintro rfl
      rw [eb] at ft1
      cases ft1
    have et1 : (upd (upd (upd H t1 (.tup [.int 2])) l1 (.lst [.non, .int (10 ^ 30 + 1), .int (-(10 ^ 30) - 1), .bl true, .str "2", .ref t1, .int (10 ^ 60)])) g (.lst [.int h0, .int h1, .int h2])) t1 = some (.tup [.int 2]) := by
      rw [upd_ne t1g]
      exact same_new fl1 _ _ upd_same
    generalize eH : upd (upd (upd H t1 _) l1 _) g _ = H1
    replace U1 : Upto g H H1 := by rw [← eH]; exact U1
    replace et1 : H1 t1 = some (.tup [.int 2]) := by rw [← eH]; exact et1
    clear s1 fl1 ft1 eH
    obtain ⟨b0, b1, b2, eb1⟩ := U1.bag
    refine ⟨_, rfl, ?_⟩
    refine ⟨_, rfl, ?_⟩
    refine ⟨by show 1 ≤ sizeLine; decide, fun t2 ft2 => ?_⟩
    refine ⟨10, 60, rfl, rfl, (by show CPw _ _; decide +kernel), ?_⟩
    refine ⟨by show 8 ≤ sizeLine; decide, fun l2 fl2 => ?_⟩
    have s1 : Same H1 (upd (upd H1 t2 (.lst [.int 3])) l2 (.lst [.non, .int 0, .int 25, .int (-1), .bl true, .str "3", .ref t2, .int (10 ^ 60)])) := (same_new ft2).trans (same_new fl2)
    refine ⟨g, l2, b0, b1, b2, [.non, .int 0, .int 25, .int (-1), .bl true, .str "3", .ref t2, .int (10 ^ 60)], rfl, s1 _ _ eb1, .inl (.inl upd_same), ?_, Nat.succ_pos _, by show 8 ≤ 1000; decide, fun vs h0 h1 h2 hv => ?_⟩
    · rintro rfl
      rw [same_new ft2 _ _ eb1] at fl2
      cases fl2
    obtain ⟨ks, ds, bs, ss1, ss2, ss3, ss4, ns⟩ := numSize (K := K) hv
    have U2 : Upto g H1 (upd (upd (upd H1 t2 (.lst [.int 3])) l2 (.lst [.non, .int 0, .int 25, .int (-1), .bl true, .str "3", .ref t2, .int (10 ^ 60)])) g (.lst [.int h0, .int h1, .int h2])) := by
      refine Upto.draw ⟨fun b o _ e => s1 b o e, ⟨_, _, _, s1 _ _ eb1⟩⟩
    have t2g : t2 ≠ g := by
      rintro rfl
      rw [eb1] at ft2
      cases ft2
    have et2 : (upd (upd (upd H1 t2 (.lst [.int 3])) l2 (.lst [.non, .int 0, .int 25, .int (-1), .bl true, .str "3", .ref t2, .int (10 ^ 60)])) g (.lst [.int h0, .int h1, .int h2])) t2 = some (.lst [.int 3]) := by
      rw [upd_ne t2g]
      exact same_new fl2 _ _ upd_same
    generalize eH : upd (upd (upd H1 t2 _) l2 _) g _ = H2
    replace U2 : Upto g H1 H2 := by rw [← eH]; exact U2
    replace et2 : H2 t2 = some (.lst [.int 3]) := by rw [← eH]; exact et2
    clear s1 fl2 ft2 eH
    have et1' := U2.same _ _ t1g et1
    obtain ⟨b0, b1, b2, eg⟩ := U2.bag
    have SS : Same H2 H2 := Same.refl H2
    refine ⟨_, rfl, ?_⟩
    refine ⟨by show 2 ≤ sizeLine; decide, fun u1 f1 => ?_⟩
    have n1 : u1 ≠ g := by
      rintro rfl
      rw [eg] at f1
      cases f1
    generalize eH : upd H2 u1 _ = J1
    have S : Same H2 J1 := by rw [← eH]; exact same_new f1
    have e1 : J1 u1 = some (.tup [.int 0, .int 1]) := by rw [← eH]; exact upd_same
    replace eg := S _ _ eg
    replace SS := SS.trans S
    clear eH S f1
    refine ⟨by show 1 ≤ sizeLine; decide, fun u2 f2 => ?_⟩
    have n2 : u2 ≠ g := by
      rintro rfl
      rw [eg] at f2
      cases f2
    generalize eH : upd J1 u2 _ = J2
    have S : Same J1 J2 := by rw [← eH]; exact same_new f2
    have e2 : J2 u2 = some (.lst [.ref u1]) := by rw [← eH]; exact upd_same
    replace eg := S _ _ eg
    replace SS := SS.trans S
    replace e1 := S _ _ e1
    clear eH S f2
    refine ⟨by show 0 ≤ sizeLine; decide, fun u3 f3 => ?_⟩
    have n3 : u3 ≠ g := by
      rintro rfl
      rw [eg] at f3
      cases f3
    generalize eH : upd J2 u3 _ = J3
    have S : Same J2 J3 := by rw [← eH]; exact same_new f3
    have e3 : J3 u3 = some (.tup []) := by rw [← eH]; exact upd_same
    replace eg := S _ _ eg
    replace SS := SS.trans S
    replace e1 := S _ _ e1
    replace e2 := S _ _ e2
    clear eH S f3
    refine ⟨by show 1 ≤ sizeLine; decide, fun u4 f4 => ?_⟩
    have n4 : u4 ≠ g := by
      rintro rfl
      rw [eg] at f4
      cases f4
    generalize eH : upd J3 u4 _ = J4
    have S : Same J3 J4 := by rw [← eH]; exact same_new f4
    have e4 : J4 u4 = some (.tup [.ref u3]) := by rw [← eH]; exact upd_same
    replace eg := S _ _ eg
    replace SS := SS.trans S
    replace e1 := S _ _ e1
    replace e2 := S _ _ e2
    replace e3 := S _ _ e3
    clear eH S f4
    refine ⟨by show 2 ≤ sizeLine; decide, fun u5 f5 => ?_⟩
    have n5 : u5 ≠ g := by
      rintro rfl
      rw [eg] at f5
      cases f5
    generalize eH : upd J4 u5 _ = J5
    have S : Same J4 J5 := by rw [← eH]; exact same_new f5
    have e5 : J5 u5 = some (.tup [.int 0, .int 1]) := by rw [← eH]; exact upd_same
    replace eg := S _ _ eg
    replace SS := SS.trans S
    replace e1 := S _ _ e1
    replace e2 := S _ _ e2
    replace e3 := S _ _ e3
    replace e4 := S _ _ e4
    clear eH S f5
    refine ⟨by show 2 ≤ sizeLine; decide, fun u6 f6 => ?_⟩
    have n6 : u6 ≠ g := by
      rintro rfl
      rw [eg] at f6
      cases f6
    generalize eH : upd J5 u6 _ = J6
    have S : Same J5 J6 := by rw [← eH]; exact same_new f6
    have e6 : J6 u6 = some (.tup [.int 1, .int 2]) := by rw [← eH]; exact upd_same
    replace eg := S _ _ eg
    replace SS := SS.trans S
    replace e1 := S _ _ e1
    replace e2 := S _ _ e2
    replace e3 := S _ _ e3
    replace e4 := S _ _ e4
    replace e5 := S _ _ e5
    clear eH S f6
    refine ⟨by show 2 ≤ sizeLine; decide, fun u7 f7 => ?_⟩
    have n7 : u7 ≠ g := by
      rintro rfl
      rw [eg] at f7
      cases f7
    generalize eH : upd J6 u7 _ = J7
    have S : Same J6 J7 := by rw [← eH]; exact same_new f7
    have e7 : J7 u7 = some (.tup [.ref u5, .ref u6]) := by rw [← eH]; exact upd_same
    replace eg := S _ _ eg
    replace SS := SS.trans S
    replace e1 := S _ _ e1
    replace e2 := S _ _ e2
    replace e3 := S _ _ e3
    replace e4 := S _ _ e4
    replace e5 := S _ _ e5
    replace e6 := S _ _ e6
    clear eH S f7
    refine ⟨by show 2 ≤ sizeLine; decide, fun u8 f8 => ?_⟩
    have n8 : u8 ≠ g := by
      rintro rfl
      rw [eg] at f8
      cases f8
    generalize eH : upd J7 u8 _ = J8
    have S : Same J7 J8 := by rw [← eH]; exact same_new f8
    have e8 : J8 u8 = some (.tup [.int 0, .int 0]) := by rw [← eH]; exact upd_same
    replace eg := S _ _ eg
    replace SS := SS.trans S
    replace e1 := S _ _ e1
    replace e2 := S _ _ e2
    replace e3 := S _ _ e3
    replace e4 := S _ _ e4
    replace e5 := S _ _ e5
    replace e6 := S _ _ e6
    replace e7 := S _ _ e7
    clear eH S f8
    refine ⟨by show 1 ≤ sizeLine; decide, fun u9 f9 => ?_⟩
    have n9 : u9 ≠ g := by
      rintro rfl
      rw [eg] at f9
      cases f9
    generalize eH : upd J8 u9 _ = J9
    have S : Same J8 J9 := by rw [← eH]; exact same_new f9
    have e9 : J9 u9 = some (.tup [.ref u8]) := by rw [← eH]; exact upd_same
    replace eg := S _ _ eg
    replace SS := SS.trans S
    replace e1 := S _ _ e1
    replace e2 := S _ _ e2
    replace e3 := S _ _ e3
    replace e4 := S _ _ e4
    replace e5 := S _ _ e5
    replace e6 := S _ _ e6
    replace e7 := S _ _ e7
    replace e8 := S _ _ e8
    clear eH S f9
    refine ⟨by show 2 ≤ sizeLine; decide, fun u10 f10 => ?_⟩
    have n10 : u10 ≠ g := by
      rintro rfl
      rw [eg] at f10
      cases f10
    generalize eH : upd J9 u10 _ = J10
    have S : Same J9 J10 := by rw [← eH]; exact same_new f10
    have e10 : J10 u10 = some (.tup [.int 0, .int 3]) := by rw [← eH]; exact upd_same
    replace eg := S _ _ eg
    replace SS := SS.trans S
    replace e1 := S _ _ e1
    replace e2 := S _ _ e2
    replace e3 := S _ _ e3
    replace e4 := S _ _ e4
    replace e5 := S _ _ e5
    replace e6 := S _ _ e6
    replace e7 := S _ _ e7
    replace e8 := S _ _ e8
    replace e9 := S _ _ e9
    clear eH S f10
    refine ⟨by show 1 ≤ sizeLine; decide, fun u11 f11 => ?_⟩
    have n11 : u11 ≠ g := by
      rintro rfl
      rw [eg] at f11
      cases f11
    generalize eH : upd J10 u11 _ = J11
    have S : Same J10 J11 := by rw [← eH]; exact same_new f11
    have e11 : J11 u11 = some (.tup [.ref u10]) := by rw [← eH]; exact upd_same
    replace eg := S _ _ eg
    replace SS := SS.trans S
    replace e1 := S _ _ e1
    replace e2 := S _ _ e2
    replace e3 := S _ _ e3
    replace e4 := S _ _ e4
    replace e5 := S _ _ e5
    replace e6 := S _ _ e6
    replace e7 := S _ _ e7
    replace e8 := S _ _ e8
    replace e9 := S _ _ e9
    replace e10 := S _ _ e10
    clear eH S f11
    refine ⟨_, rfl, ?_⟩
    refine ⟨by show 1 ≤ sizeLine; decide, fun u12 f12 => ?_⟩
    have n12 : u12 ≠ g := by
      rintro rfl
      rw [eg] at f12
      cases f12
    generalize eH : upd J11 u12 _ = J12
    have S : Same J11 J12 := by rw [← eH]; exact same_new f12
    have e12 : J12 u12 = some (.tup [.int (-1)]) := by rw [← eH]; exact upd_same
    replace eg := S _ _ eg
    replace SS := SS.trans S
    replace e1 := S _ _ e1
    replace e2 := S _ _ e2
    replace e3 := S _ _ e3
    replace e4 := S _ _ e4
    replace e5 := S _ _ e5
    replace e6 := S _ _ e6
    replace e7 := S _ _ e7
    replace e8 := S _ _ e8
    replace e9 := S _ _ e9
    replace e10 := S _ _ e10
    replace e11 := S _ _ e11
    clear eH S f12
    refine ⟨by show 1 ≤ sizeLine; decide, fun u13 f13 => ?_⟩
    have n13 : u13 ≠ g := by
      rintro rfl
      rw [eg] at f13
      cases f13
    generalize eH : upd J12 u13 _ = J13
    have S : Same J12 J13 := by rw [← eH]; exact same_new f13
    have e13 : J13 u13 = some (.tup [.ref u12]) := by rw [← eH]; exact upd_same
    replace eg := S _ _ eg
    replace SS := SS.trans S
    replace e1 := S _ _ e1
    replace e2 := S _ _ e2
    replace e3 := S _ _ e3
    replace e4 := S _ _ e4
    replace e5 := S _ _ e5
    replace e6 := S _ _ e6
    replace e7 := S _ _ e7
    replace e8 := S _ _ e8
    replace e9 := S _ _ e9
    replace e10 := S _ _ e10
    replace e11 := S _ _ e11
    replace e12 := S _ _ e12
    clear eH S f13
    refine ⟨by show 2 ≤ sizeLine; decide, fun u14 f14 => ?_⟩
    have n14 : u14 ≠ g := by
      rintro rfl
      rw [eg] at f14
      cases f14
    generalize eH : upd J13 u14 _ = J14
    have S : Same J13 J14 := by rw [← eH]; exact same_new f14
    have e14 : J14 u14 = some (.lst [.int 0, .int 1]) := by rw [← eH]; exact upd_same
    replace eg := S _ _ eg
    replace SS := SS.trans S
    replace e1 := S _ _ e1
    replace e2 := S _ _ e2
    replace e3 := S _ _ e3
    replace e4 := S _ _ e4
    replace e5 := S _ _ e5
    replace e6 := S _ _ e6
    replace e7 := S _ _ e7
    replace e8 := S _ _ e8
    replace e9 := S _ _ e9
    replace e10 := S _ _ e10
    replace e11 := S _ _ e11
    replace e12 := S _ _ e12
    replace e13 := S _ _ e13
    clear eH S f14
    refine ⟨by show 1 ≤ sizeLine; decide, fun u15 f15 => ?_⟩
    have n15 : u15 ≠ g := by
      rintro rfl
      rw [eg] at f15
      cases f15
    generalize eH : upd J14 u15 _ = J15
    have S : Same J14 J15 := by rw [← eH]; exact same_new f15
    have e15 : J15 u15 = some (.tup [.ref u14]) := by rw [← eH]; exact upd_same
    replace eg := S _ _ eg
    replace SS := SS.trans S
    replace e1 := S _ _ e1
    replace e2 := S _ _ e2
    replace e3 := S _ _ e3
    replace e4 := S _ _ e4
    replace e5 := S _ _ e5
    replace e6 := S _ _ e6
    replace e7 := S _ _ e7
    replace e8 := S _ _ e8
    replace e9 := S _ _ e9
    replace e10 := S _ _ e10
    replace e11 := S _ _ e11
    replace e12 := S _ _ e12
    replace e13 := S _ _ e13
    replace e14 := S _ _ e14
    clear eH S f15
    refine ⟨by show 2 ≤ sizeLine; decide, fun u16 f16 => ?_⟩
    have n16 : u16 ≠ g := by
      rintro rfl
      rw [eg] at f16
      cases f16
    generalize eH : upd J15 u16 _ = J16
    have S : Same J15 J16 := by rw [← eH]; exact same_new f16
    have e16 : J16 u16 = some (.tup [.int 0, .int 1]) := by rw [← eH]; exact upd_same
    replace eg := S _ _ eg
    replace SS := SS.trans S
    replace e1 := S _ _ e1
    replace e2 := S _ _ e2
    replace e3 := S _ _ e3
    replace e4 := S _ _ e4
    replace e5 := S _ _ e5
    replace e6 := S _ _ e6
    replace e7 := S _ _ e7
    replace e8 := S _ _ e8
    replace e9 := S _ _ e9
    replace e10 := S _ _ e10
    replace e11 := S _ _ e11
    replace e12 := S _ _ e12
    replace e13 := S _ _ e13
    replace e14 := S _ _ e14
    replace e15 := S _ _ e15
    clear eH S f16
    refine ⟨by show 2 ≤ sizeLine; decide, fun u17 f17 => ?_⟩
    have n17 : u17 ≠ g := by
      rintro rfl
      rw [eg] at f17
      cases f17
    generalize eH : upd J16 u17 _ = J17
    have S : Same J16 J17 := by rw [← eH]; exact same_new f17
    have e17 : J17 u17 = some (.tup [.bl true, .int 2]) := by rw [← eH]; exact upd_same
    replace eg := S _ _ eg
    replace SS := SS.trans S
    replace e1 := S _ _ e1
    replace e2 := S _ _ e2
    replace e3 := S _ _ e3
    replace e4 := S _ _ e4
    replace e5 := S _ _ e5
    replace e6 := S _ _ e6
    replace e7 := S _ _ e7
    replace e8 := S _ _ e8
    replace e9 := S _ _ e9
    replace e10 := S _ _ e10
    replace e11 := S _ _ e11
    replace e12 := S _ _ e12
    replace e13 := S _ _ e13
    replace e14 := S _ _ e14
    replace e15 := S _ _ e15
    replace e16 := S _ _ e16
    clear eH S f17
    refine ⟨by show 1 ≤ sizeLine; decide, fun u18 f18 => ?_⟩
    have n18 : u18 ≠ g := by
      rintro rfl
      rw [eg] at f18
      cases f18
    generalize eH : upd J17 u18 _ = J18
    have S : Same J17 J18 := by rw [← eH]; exact same_new f18
    have e18 : J18 u18 = some (.tup [.ref u17]) := by rw [← eH]; exact upd_same
    replace eg := S _ _ eg
    replace SS := SS.trans S
    replace e1 := S _ _ e1
    replace e2 := S _ _ e2
    replace e3 := S _ _ e3
    replace e4 := S _ _ e4
    replace e5 := S _ _ e5
    replace e6 := S _ _ e6
    replace e7 := S _ _ e7
    replace e8 := S _ _ e8
    replace e9 := S _ _ e9
    replace e10 := S _ _ e10
    replace e11 := S _ _ e11
    replace e12 := S _ _ e12
    replace e13 := S _ _ e13
    replace e14 := S _ _ e14
    replace e15 := S _ _ e15
    replace e16 := S _ _ e16
    replace e17 := S _ _ e17
    clear eH S f18
    refine ⟨by show 2 ≤ sizeLine; decide, fun u19 f19 => ?_⟩
    have n19 : u19 ≠ g := by
      rintro rfl
      rw [eg] at f19
      cases f19
    generalize eH : upd J18 u19 _ = J19
    have S : Same J18 J19 := by rw [← eH]; exact same_new f19
    have e19 : J19 u19 = some (.tup [.int 0, .str "1"]) := by rw [← eH]; exact upd_same
    replace eg := S _ _ eg
    replace SS := SS.trans S
    replace e1 := S _ _ e1
    replace e2 := S _ _ e2
    replace e3 := S _ _ e3
    replace e4 := S _ _ e4
    replace e5 := S _ _ e5
    replace e6 := S _ _ e6
    replace e7 := S _ _ e7
    replace e8 := S _ _ e8
    replace e9 := S _ _ e9
    replace e10 := S _ _ e10
    replace e11 := S _ _ e11
    replace e12 := S _ _ e12
    replace e13 := S _ _ e13
    replace e14 := S _ _ e14
    replace e15 := S _ _ e15
    replace e16 := S _ _ e16
    replace e17 := S _ _ e17
    replace e18 := S _ _ e18
    clear eH S f19
    refine ⟨by show 1 ≤ sizeLine; decide, fun u20 f20 => ?_⟩
    have n20 : u20 ≠ g := by
      rintro rfl
      rw [eg] at f20
      cases f20
    generalize eH : upd J19 u20 _ = J20
    have S : Same J19 J20 := by rw [← eH]; exact same_new f20
    have e20 : J20 u20 = some (.tup [.ref u19]) := by rw [← eH]; exact upd_same
    replace eg := S _ _ eg
    replace SS := SS.trans S
    replace e1 := S _ _ e1
    replace e2 := S _ _ e2
    replace e3 := S _ _ e3
    replace e4 := S _ _ e4
    replace e5 := S _ _ e5
    replace e6 := S _ _ e6
    replace e7 := S _ _ e7
    replace e8 := S _ _ e8
    replace e9 := S _ _ e9
    replace e10 := S _ _ e10
    replace e11 := S _ _ e11
    replace e12 := S _ _ e12
    replace e13 := S _ _ e13
    replace e14 := S _ _ e14
    replace e15 := S _ _ e15
    replace e16 := S _ _ e16
    replace e17 := S _ _ e17
    replace e18 := S _ _ e18
    replace e19 := S _ _ e19
    clear eH S f20
    refine ⟨by show 13 ≤ sizeLine; decide, fun l3 fl3 => ?_⟩
    refine ⟨g, l3, b0, b1, b2, [.non, .int 0, .ref u2, .ref u4, .ref u7, .ref u9, .ref u11, .ref u13, .ref u15, .ref u16, .ref u18, .str "01", .ref u20], rfl, same_new fl3 _ _ eg, .inl (.inl upd_same), ?_, Nat.succ_pos _, by show 13 ≤ 1000; decide, fun vr h0 h1 h2 hv => ?_⟩
    · rintro rfl
      rw [eg] at fl3
      cases fl3
    have br : ∀ H', (∀ b o, b ≠ g → J20 b = some o → H' b = some o) → BadR K H' 3 vr := ringsBad hv e1 e2 e3 e4 e5 e6 e7 e8 e9 e10 e11 e12 e13 e14 e15 e16 e17 e18 e19 e20 n1 n2 n3 n4 n5 n6 n7 n8 n9 n10 n11 n12 n13 n14 n15 n16 n17 n18 n19 n20
    have eT1 := SS _ _ (U2.same _ _ t1g et1)
    have eT2 := SS _ _ et2
    have toH3 : ∀ b o, b ≠ g → J20 b = some o → (upd (upd J20 l3 (.lst [.non, .int 0, .ref u2, .ref u4, .ref u7, .ref u9, .ref u11, .ref u13, .ref u15, .ref u16, .ref u18, .str "01", .ref u20])) g (.lst [.int h0, .int h1, .int h2])) b = some o := by
      intro b o nb e
      rw [upd_ne nb]
      exact same_new fl3 _ _ e
    have U3 : Upto g H2 (upd (upd J20 l3 (.lst [.non, .int 0, .ref u2, .ref u4, .ref u7, .ref u9, .ref u11, .ref u13, .ref u15, .ref u16, .ref u18, .str "01", .ref u20])) g (.lst [.int h0, .int h1, .int h2])) :=
      ⟨fun b o nb e => toH3 b o nb (SS b o e), ⟨_, _, _, upd_same⟩⟩
    generalize eH : upd (upd J20 l3 _) g _ = H3
    replace U3 : Upto g H2 H3 := by rw [← eH]; exact U3
    replace toH3 : ∀ b o, b ≠ g → J20 b = some o → (wo H3 g) b = some o := by
      intro b o nb e
      rw [wo_ne nb, ← eH]
      exact toH3 b o nb e
    have bR := br _ toH3
    have t1W := toH3 _ _ t1g eT1
    have t2W := toH3 _ _ t2g eT2
    have U : Upto g H H3 := (U1.trans U2).trans U3
    have bag0 : BagAt H g := ⟨_, _, _, eb⟩
    have T3 := tab_upto hT bag0 U
    have bM := badME bw (wo_ext U)
    have aB := sqtE (sqt_wo Sa bag0) (wo_ext U)
    have bag3 := U.bag
    have W3 := wo_ext U
    clear eT1 eT2 br SS toH3 eH U1 U2 U3 U bw Sa bx
    refine ⟨T3, fun H4 e4 t4 => ?_⟩
    refine ⟨_, rfl, _, rfl, .inr ⟨_, _, rfl, .inl ⟨badME bM (low_ext e4), fun H5 s5 => .inl ⟨rfl, ?_⟩⟩⟩⟩
    refine ⟨by show 1 ≤ sizeLine; decide, fun p fp => ?_⟩
    obtain ⟨o1, eS⟩ := onb_start (z := "move") bag3 e4 t4 s5 fp
    replace bM := badME bM eS
    replace aB := sqtE aB eS
    replace bR := badRE bR eS
    replace t1W := eS _ _ t1W (by nofun)
    replace t2W := eS _ _ t2W (by nofun)
    replace W3 := W3.trans eS
    generalize wo (wo (upd H5 p (.lst [.str "move"])) g) p = B at o1 eS bM aB bR t1W t2W W3
    generalize upd H5 p (.lst [.str "move"]) = H6 at o1 ⊢
    clear T3 e4 t4 s5 fp bag3 bag0
    refine stepB (z := txt dh) o1 rfl (by decide) (fun H4 e4 b4 Q' q' => ?_) (fun H7 o2 => ?_)
    · have E := o1.ext.trans e4
      exact ⟨_, rfl, _, rfl, .inr ⟨_, _, rfl, .inr ⟨a, m, kh, rfl, sqtE aB E, hm, (nh H4 (E _ _ t1W (by nofun))).1, bh, caught_num b4 (fun H2 s => (nh H2 (s _ _ (E _ _ t1W (by nofun)))).2) sh1 sh2 sh3 q'⟩⟩⟩
    refine stepB (z := "fine") o2 rfl (by simp only [List.length_append, List.length_cons, List.length_nil]; decide) (fun H4 e4 b4 Q' q' => ?_) (fun H8 o3 => ?_)
    · have E := o2.ext.trans e4
      obtain ⟨c0, c1, c2, ec⟩ := id b4
      refine ⟨_, rfl, _, rfl, ?_⟩
      refine ⟨10, 30, rfl, rfl, (by show CPw _ _; decide +kernel), ?_⟩
      refine ⟨10, 30, rfl, rfl, (by show CPw _ _; decide +kernel), ?_⟩
      refine ⟨_, rfl, ?_⟩
      refine ⟨by show 3 ≤ sizeLine; decide, fun l fl => ?_⟩
      refine ⟨g, l, c0, c1, c2, [.int (10 ^ 30), .int (-(10 ^ 30)), .int 0], rfl, same_new fl _ _ ec, .inl (.inl upd_same), ?_, Nat.succ_pos _, by show 3 ≤ 1000; decide, fun v h0 h1 h2 hv => ?_⟩
      · rintro rfl
        rw [ec] at fl
        cases fl
      obtain ⟨e, rfl, lo, hi⟩ : ∃ e : Int, v = .int e ∧ -(10 ^ 30) ≤ e ∧ e ≤ 10 ^ 30 := by
        simp only [List.mem_cons, List.not_mem_nil, or_false] at hv
        rcases hv with rfl | rfl | rfl
        · exact ⟨_, rfl, by decide, by decide⟩
        · exact ⟨_, rfl, by decide, by decide⟩
        · exact ⟨_, rfl, by decide, by decide⟩
      have U := ((up_same b4 (same_new fl (o := .lst [.int (10 ^ 30), .int (-(10 ^ 30)), .int 0]))).draw (a := h0) (b := h1) (c := h2))
      have SA : SqT K _ a (mv m) := up_sqt U b4 (sqtE aB E)
      exact .inl ⟨a, m, e, rfl, SA, hm, lo, hi, fun H' t S' _ => q' H' (U.trans (up_same U.bag S'))⟩
    refine stepB (z := txt ds) o3 rfl (by simp only [List.length_append, List.length_cons, List.length_nil]; decide) (fun H4 e4 b4 Q' q' => ?_) (fun H9 o4 => ?_)
    · have E := o3.ext.trans e4
      exact ⟨_, rfl, .inr ⟨_, ks, rfl, (ns H4 (E _ _ t2W (by nofun))).1, bs, caught_num b4 (fun H2 s => (ns H2 (s _ _ (E _ _ t2W (by nofun)))).2) ss1 ss2 ss3 q'⟩⟩
    refine stepB (z := "fine") o4 rfl (by simp only [List.length_append, List.length_cons, List.length_nil]; decide) (fun H4 e4 b4 Q' q' => ?_) (fun H10 o5 => ?_)
    · obtain ⟨c0, c1, c2, ec⟩ := id b4
      refine ⟨_, rfl, ?_⟩
      refine ⟨by show 2 ≤ sizeLine; decide, fun l fl => ?_⟩
      refine ⟨g, l, c0, c1, c2, [.int 1, .int 24], rfl, same_new fl _ _ ec, .inl (.inl upd_same), ?_, Nat.succ_pos _, by show 2 ≤ 1000; decide, fun v h0 h1 h2 hv => ?_⟩
      · rintro rfl
        rw [ec] at fl
        cases fl
      have U := ((up_same b4 (same_new fl (o := .lst [.int 1, .int 24]))).draw (a := h0) (b := h1) (c := h2))
      obtain ⟨n, rfl, lo, hi⟩ : ∃ n : Nat, v = .int (n : Int) ∧ 1 ≤ n ∧ n ≤ 24 := by
        simp only [List.mem_cons, List.not_mem_nil, or_false] at hv
        rcases hv with rfl | rfl
        · exact ⟨1, rfl, by decide, by decide⟩
        · exact ⟨24, rfl, by decide, by decide⟩
      exact .inl ⟨n, rfl, lo, hi, fun t ft => q' _ (U.trans (up_same U.bag (same_new ft)))⟩
    refine stepB (z := txt ds) o5 rfl (by simp only [List.length_append, List.length_cons, List.length_nil]; decide) (fun H4 e4 b4 Q' q' => ?_) (fun H11 o6 => ?_)
    · have E := o5.ext.trans e4
      exact ⟨_, rfl, _, rfl, .inr ⟨_, ks, _, rfl, (ns H4 (E _ _ t2W (by nofun))).1, bs, caught_num b4 (fun H2 s => (ns H2 (s _ _ (E _ _ t2W (by nofun)))).2) ss1 ss2 ss3 q'⟩⟩
    refine stepB (z := txt ds) o6 rfl (by simp only [List.length_append, List.length_cons, List.length_nil]; decide) (fun H4 e4 b4 Q' q' => ?_) (fun H12 o7 => ?_)
    · have E := o6.ext.trans e4
      exact ⟨_, rfl, _, rfl, .inr ⟨_, _, rfl, .inl ⟨ks, (ns H4 (E _ _ t2W (by nofun))).1, bs, caught_num b4 (fun H2 s => (ns H2 (s _ _ (E _ _ t2W (by nofun)))).2) ss1 ss2 ss3 q'⟩⟩⟩
    refine stepB (z := "operation") o7 rfl (by simp only [List.length_append, List.length_cons, List.length_nil]; decide) (fun H4 e4 b4 Q' q' => ?_) (fun H13 o8 => ?_)
    · have E := o7.ext.trans e4
      exact ⟨_, rfl, .inr ⟨_, _, rfl, .inr ⟨3, rfl, by decide, by decide, badRE bR E, fun H2 s => .inr (.inl ⟨rfl, q' H2 (up_same b4 s)⟩)⟩⟩⟩
    refine stepB (z := "fine") o8 rfl (by simp only [List.length_append, List.length_cons, List.length_nil]; decide) (fun H4 e4 b4 Q' q' => ?_) (fun H14 o9 => ?_)
    · refine ⟨by show 2 ≤ sizeLine; decide, fun v1 f1 => ?_⟩
      refine ⟨by show 1 ≤ sizeLine; decide, fun v2 f2 => ?_⟩
      refine ⟨by show 2 ≤ sizeLine; decide, fun v3 f3 => ?_⟩
      have s3 := same_new f3 (o := .tup [.ref v1, .ref v2])
      have s2 := (same_new f2 (o := .tup [.int 5])).trans s3
      have s1 := (same_new f1 (o := .tup [.int 23, .int 0])).trans s2
      refine .inl ⟨24, v3, [.ref v1, .ref v2], [[23, 0], [5]], fun k => if k = 23 then 0 else if k = 0 then 23 else k, rfl, .inl (.inl upd_same), ?_, ?_, ?_, by decide, by decide, fun H' t S' _ => q' H' ((up_same b4 s1).trans (up_same (up_same b4 s1).bag S'))⟩
      · exact .cons ⟨v1, rfl, .inl (.inl (s2 _ _ upd_same))⟩ (.cons ⟨v2, rfl, .inl (.inl (s3 _ _ upd_same))⟩ .nil)
      · exact ⟨by decide, by decide, by decide⟩
      · exact ⟨by decide, by decide⟩
    have hT1 := o9.ext _ _ t1W (by nofun)
    have hT2 := o9.ext _ _ t2W (by nofun)
    have lH : dh.shown.length ≤ sizeLine := Nat.le_trans sh3 (by decide)
    have lS : ds.shown.length ≤ sizeLine := Nat.le_trans ss3 (by decide)
    have lH7 : ("number " : Str).length + dh.shown.length ≤ sizeLine := Nat.le_trans (Nat.add_le_add_left sh3 _) (by decide)
    have lS7 : ("number " : Str).length + ds.shown.length ≤ sizeLine := Nat.le_trans (Nat.add_le_add_left ss3 _) (by decide)
    refine ⟨_, rfl, _, dh, rfl, (nh _ hT1).2, sh1, sh2, lH, _, _, rfl, rfl, lH7, ?_⟩
    refine ⟨_, rfl, _, ds, rfl, (ns _ hT2).2, ss1, ss2, lS, _, _, rfl, rfl, lS7, ?_⟩
    refine ⟨by show 5 ≤ sizeLine; decide, fun w1 fw1 => ?_⟩
    have S1 := same_new fw1 (o := .lst [.str "move", .str (txt dh), .str "fine", .str (txt ds), .str "fine"])
    refine ⟨_, rfl, _, rfl, ?_⟩
    refine ⟨_, rfl, _, ds, rfl, (ns _ (S1 _ _ hT2)).2, ss1, ss2, lS, _, _, rfl, rfl, lS7, ?_⟩
    refine ⟨_, rfl, _, ds, rfl, (ns _ (S1 _ _ hT2)).2, ss1, ss2, lS, _, _, rfl, rfl, lS7, ?_⟩
    refine ⟨by show 4 ≤ sizeLine; decide, fun w2 fw2 => ?_⟩
    have S2 := same_new fw2 (o := .lst [.str (txt ds), .str (txt ds), .str "operation", .str "fine"])
    refine ⟨w1, w2, [.str "move", .str (txt dh), .str "fine", .str (txt ds), .str "fine"], [.str (txt ds), .str (txt ds), .str "operation", .str "fine"], rfl, rfl, S2 _ _ upd_same, upd_same, by show 5 + 4 ≤ sizeLine; decide, fun w3 fw3 => ?_⟩
    have S3 := same_new fw3 (o := .lst ([.str "move", .str (txt dh), .str "fine", .str (txt ds), .str "fine"] ++ [.str (txt ds), .str (txt ds), .str "operation", .str "fine"]))
    have SA := (S1.trans S2).trans S3
    have ok : ∀ z ∈ (["move", txt dh, "fine", txt ds, "fine", txt ds, txt ds, "operation", "fine"] : List Str), PyData.strOk z = true := by
      intro z hz
      simp only [List.mem_cons, List.not_mem_nil, or_false] at hz
      rcases hz with rfl | rfl | rfl | rfl | rfl | rfl | rfl | rfl | rfl <;> first | assumption | decide +kernel
    refine ⟨dW ["move", txt dh, "fine", txt ds, "fine", txt ds, txt ds, "operation", "fine"], dW ["move", txt dh, "fine", txt ds, "fine", txt ds, txt ds, "operation", "fine"], dp_words (SA _ _ o9.wd), dp_words (p := w3) (ws := ["move", txt dh, "fine", txt ds, "fine", txt ds, txt ds, "operation", "fine"]) upd_same, shapedW _ ok, shapedW _ ok, ?_⟩
    have q2 := q _ ((W3.trans o9.ext).trans (ext_same SA)) (up_same o9.bag SA).bag (o9.tab.ext SA)
    have ev : PyData.eqv (dW ["move", txt dh, "fine", txt ds, "fine", txt ds, txt ds, "operation", "fine"]) (dW ["move", txt dh, "fine", txt ds, "fine", txt ds, txt ds, "operation", "fine"]) = true := eqvW _
    rw [ev]
    exact q2
end
end K06


set_option Elab.async false
set_option linter.all false
set_option maxRecDepth 100000
set_option maxHeartbeats 4000000
namespace K06
open PySem PySem.Spec PyProof.Rows L2 MM LamX
/-! own words for the readings: a step, its side -/
local macro_rules | `(tactic| walk_at "side") => `(tactic| first
  | omega
  | exact ⟨by omega, by omega⟩
  | exact Or.inl ⟨by omega, by omega⟩
  | exact Or.inr ⟨by omega, by omega⟩
  | (show CPw _ _; decide +kernel)
  | (show (0 : Int) < _; decide +kernel)
  | (show CDivW _ _; first | assumption | exact ⟨by decide, by decide +kernel⟩))
local macro_rules | `(tactic| walk_at "here") => `(tactic| first
  | assumption
  | exact upd_same
  | exact Or.inl (Or.inl upd_same)
  | exact Or.inl upd_same)
local macro_rules | `(tactic| walk_at "one") => `(tactic| first
  | refine ⟨_, rfl, ?_⟩
  | refine Or.inl ⟨_, rfl, ?_⟩
  | refine Or.inr ⟨_, rfl, ?_⟩
  | refine ⟨_, _, rfl, rfl, (by walk_at "side"), ?_⟩
  | refine ⟨_, _, rfl, rfl, ?_⟩
  | refine ⟨_, _, rfl, Or.inl (by walk_at "here"), ?_⟩
  | refine ⟨_, _, rfl, Or.inr (by walk_at "here"), ?_⟩
  | refine ⟨_, _, rfl, (by walk_at "here"), ?_⟩
  | refine ⟨_, _, _, _, rfl, rfl, (by walk_at "here"), rfl, ?_⟩
  | refine ⟨_, _, rfl, ?_⟩
  | refine ifT (by rfl) ?_
  | refine ifF (by rfl) ?_
  | refine ifT (decide_eq_true (by omega)) ?_
  | refine ifF (decide_eq_false (by omega)) ?_)
local macro_rules | `(tactic| walk_at "st") => `(tactic| repeat (walk_at "one"))

section
variable {P : Program} {w : World} {K : PySem.W.Frag} {mg : Str → Option Value} {base : Heap}
theorem movesBad {J : Hp} {g : Addr} {u1 u2 u3 u4 u5 u6 u7 u8 u9 u10 u11 : Addr} {v : V} (h : v ∈ [V.non, .int 0, .ref u1, .ref u2, .ref u3, .ref u4, .ref u5, .ref u6, .str "01", .ref u7, .ref u8, .ref u9, .ref u11])
    (e1 : J u1 = some (.tup [])) (e2 : J u2 = some (.lst [.int 0, .int 1])) (e3 : J u3 = some (.tup [.int 0, .int 0])) (e4 : J u4 = some (.tup [.int 1, .int 2])) (e5 : J u5 = some (.tup [.int 0, .str "1"])) (e6 : J u6 = some (.tup [.bl true, .int 0])) (e7 : J u7 = some (.dK [])) (e8 : J u8 = some (.tup (rgV 0 25))) (e9 : J u9 = some (.tup [.int 0, .non])) (e10 : J u10 = some (.tup [.int 0, .int 1])) (e11 : J u11 = some (.tup [.ref u10]))
    (n1 : u1 ≠ g) (n2 : u2 ≠ g) (n3 : u3 ≠ g) (n4 : u4 ≠ g) (n5 : u5 ≠ g) (n6 : u6 ≠ g) (n7 : u7 ≠ g) (n8 : u8 ≠ g) (n9 : u9 ≠ g) (n10 : u10 ≠ g) (n11 : u11 ≠ g) :
    ∀ H', (∀ b o, b ≠ g → J b = some o → H' b = some o) → BadM K H' v := by
  intro H' c
  simp only [List.mem_cons, List.not_mem_nil, or_false] at h
  rcases h with rfl | rfl | rfl | rfl | rfl | rfl | rfl | rfl | rfl | rfl | rfl | rfl | rfl
  · exact ⟨none, .no .non rfl, rfl, nofun⟩
  · exact ⟨none, .no (.int _) rfl, rfl, nofun⟩
  · exact ⟨some [], .yes (.inl (.inl (c _ _ n1 e1))) (fun y hy => by cases hy), by decide +kernel, fun xs e => by cases e; show 0 ≤ 1000; decide⟩
  · exact ⟨none, .no (.lst (.inl (.inl (c _ _ n2 e2)))) rfl, rfl, nofun⟩
  · exact ⟨some [V.int 0, V.int 0], .yes (.inl (.inl (c _ _ n3 e3))) (fun y hy => by
      simp only [List.mem_cons, List.not_mem_nil, or_false] at hy
      rcases hy with rfl | rfl
      · exact ⟨_, .int _⟩
      · exact ⟨_, .int _⟩), by decide +kernel, fun xs e => by cases e; show 2 ≤ 1000; decide⟩
  · exact ⟨some [V.int 1, V.int 2], .yes (.inl (.inl (c _ _ n4 e4))) (fun y hy => by
      simp only [List.mem_cons, List.not_mem_nil, or_false] at hy
      rcases hy with rfl | rfl
      · exact ⟨_, .int _⟩
      · exact ⟨_, .int _⟩), by decide +kernel, fun xs e => by cases e; show 2 ≤ 1000; decide⟩
  · exact ⟨some [V.int 0, V.str "1"], .yes (.inl (.inl (c _ _ n5 e5))) (fun y hy => by
      simp only [List.mem_cons, List.not_mem_nil, or_false] at hy
      rcases hy with rfl | rfl
      · exact ⟨_, .int _⟩
      · exact ⟨_, .str _⟩), by decide +kernel, fun xs e => by cases e; show 2 ≤ 1000; decide⟩
  · exact ⟨some [V.bl true, V.int 0], .yes (.inl (.inl (c _ _ n6 e6))) (fun y hy => by
      simp only [List.mem_cons, List.not_mem_nil, or_false] at hy
      rcases hy with rfl | rfl
      · exact ⟨_, .bl _⟩
      · exact ⟨_, .int _⟩), by decide +kernel, fun xs e => by cases e; show 2 ≤ 1000; decide⟩
  · exact ⟨none, .no (.str _) rfl, rfl, nofun⟩
  · exact ⟨none, .no (.dct (c _ _ n7 e7)) rfl, rfl, nofun⟩
  · refine ⟨some (rgV 0 25), .yes (.inl (.inl (c _ _ n8 e8))) (fun y hy => ?_), by decide +kernel, fun xs e => by cases e; decide +kernel⟩
    obtain ⟨k, _, rfl⟩ := List.mem_map.mp hy
    exact ⟨_, .int _⟩
  · exact ⟨some [V.int 0, V.non], .yes (.inl (.inl (c _ _ n9 e9))) (fun y hy => by
      simp only [List.mem_cons, List.not_mem_nil, or_false] at hy
      rcases hy with rfl | rfl
      · exact ⟨_, .int _⟩
      · exact ⟨_, .non⟩), by decide +kernel, fun xs e => by cases e; show 2 ≤ 1000; decide⟩
  · exact ⟨some [V.ref u10], .yes (.inl (.inl (c _ _ n11 e11))) (fun y hy => by
      simp only [List.mem_cons, List.not_mem_nil, or_false] at hy
      subst hy
      exact ⟨_, .tup (.inl (.inl (c _ _ n10 e10)))⟩), rfl, fun xs e => by cases e; show 1 ≤ 1000; decide⟩
theorem wo_ext2 {H H' : Hp} {g : Addr} (e : ExtN H H') : ExtN (wo H g) (wo H' g) := by
  intro b o h nt
  obtain ⟨n, e1⟩ := wo_some h
  rw [wo_ne n]
  exact e _ _ e1 nt
def spLawT (K : PySem.W.Frag) : Sp := fun vs H Q _ => ∃ (a : Addr) (ns : List Int), vs = [.ref a] ∧ SqL K H a (ns.map V.int) ∧ ns.length ≤ 1000 ∧ Tabs (TL K) H ∧ ∀ H', Q (.bl true) H'
theorem scLaw : FnScope ["_law_script", "_law_spot", "_law_bag_here", "_law_none", "_law_one", "_law_far"] ["_law_script"] (defScope sLaw) :=
  ⟨rfl, rfl, rfl, by decide +kernel, rfl, by decide +kernel, by decide +kernel⟩
theorem dLaw (T : Tx K mg) (DBagL : Def P w K mg base CX0 1 "_law_bag" ["_law_script", "_law_spot"] (spBag K)) (DOneOfL : Def P w K mg base CX0 2 "_law_one_of" ["_law_bag_here", "_law_items"] (spOneOf K)) (DMixedL : Def P w K mg base CX0 2 "_law_mixed" ["_law_bag_here", "_law_items"] (spMixed K)) (DGrabL : Def P w K mg base CX0 1 "_law_grab" ["_law_bag_here", "_law_total"] spGrab) (DNumbersRightL : Def P w K mg base CX0 9 "_law_numbers_right" ["_law_bag_here", "_law_none", "_law_one"] (spNumbersR K)) (DMovesRightL : Def P w K mg base CX0 9 "_law_moves_right" ["_law_bag_here", "_law_none", "_law_one", "_law_far"] (spMovesR K)) : Def P w K mg base CX0 10 "law" ["_law_script"] (spLawT K) := by
  refine T.t_law.def_ (N := ["_law_script", "_law_spot", "_law_bag_here", "_law_none", "_law_one", "_law_far"]) scLaw (fun _ _ _ _ _ _ us hl => match us, hl with | [_], _ => rfl) ?_ ?_
  · intro vs H Q E h
    obtain ⟨a, ns, rfl, _⟩ := h
    rfl
  · intro f cd A out s H vs Q E hr h
    have hr1 : Rm 9 _ := hr.le (by decide)
    obtain ⟨a, ns, rfl, hS, hl, hT, q⟩ := h
    refine ⟨_, (pss_cons (ps_for PassesOwn.never rfl (pi_range1 rfl T.f_range (pa_cons (pe_callB (call_max2 rfl) rfl T.f_max (by decide +kernel) (pa_cons pe_int (pa_cons (pe_callB (call_min2 rfl) rfl T.f_min (by decide +kernel) (pa_cons pe_int (pa_cons (pe_callB call_len_seq rfl T.f_len (by decide +kernel) (pa_cons (pv 0) pa_nil)) pa_nil))) pa_nil))) pa_nil)) (pg_name (i := 1) scLaw.nd rfl (Or.inl rfl))
        (pss_cons (ps_set (i := 2) scLaw.nd rfl (Or.inl rfl) (pe_d DBagL (hr1.le (by decide)) pass0 (pa_cons (pv 0) (pa_cons (pv 1) pa_nil))))
        (pss_cons (ps_set (i := 3) scLaw.nd rfl (Or.inl rfl) (pe_d DOneOfL (hr1.le (by decide)) pass0 (pa_cons (pv 2) (pa_cons (pe_lst (pa_cons pe_non (pa_cons pe_int (pa_cons (pe_tup pa_nil) (pa_cons (pe_lst (pa_cons pe_int (pa_cons pe_int pa_nil))) (pa_cons (pe_tup (pa_cons pe_int (pa_cons pe_int pa_nil))) (pa_cons (pe_tup (pa_cons pe_int (pa_cons pe_int pa_nil))) (pa_cons (pe_tup (pa_cons pe_int (pa_cons pe_str pa_nil))) (pa_cons (pe_tup (pa_cons pe_bl (pa_cons pe_int pa_nil))) (pa_cons pe_str (pa_cons pe_dnewK (pa_cons (pe_tupRg rfl rfl T.f_tuple (prg_1 rfl T.f_range pe_int)) (pa_cons (pe_tup (pa_cons pe_int (pa_cons pe_non pa_nil))) (pa_cons (pe_tup (pa_cons (pe_tup (pa_cons pe_int (pa_cons pe_int pa_nil))) pa_nil)) pa_nil)))))))))))))) pa_nil))))
        (pss_cons (ps_set (i := 4) scLaw.nd rfl (Or.inl rfl) (pe_callTy call_tuple_of rfl T.f_tuple (by decide +kernel) (pa_cons (pe_d DMixedL (hr1.le (by decide)) pass0 (pa_cons (pv 2) (pa_cons (pe_listRg rfl rfl T.f_list (prg_1 rfl T.f_range (pe_op op_add pe_int (pe_d DGrabL (hr1.le (by decide)) pass0 (pa_cons (pv 2) (pa_cons pe_int pa_nil)))))) pa_nil))) pa_nil)))
        (pss_cons (ps_set (i := 5) scLaw.nd rfl (Or.inl rfl) (pe_callTy call_tuple_of rfl T.f_tuple (by decide +kernel) (pa_cons (pe_d DMixedL (hr1.le (by decide)) pass0 (pa_cons (pv 2) (pa_cons (pe_listRg rfl rfl T.f_list (prg_1 rfl T.f_range (pe_op op_add (pe_op op_add (pe_callB call_len_seq rfl T.f_len (by decide +kernel) (pa_cons (pv 4) pa_nil)) pe_int) (pe_d DGrabL (hr1.le (by decide)) pass0 (pa_cons (pv 2) (pa_cons pe_int pa_nil)))))) pa_nil))) pa_nil)))
        (pss_one (ps_if (PW.pt (pw_or (pt_not (pt_val (pe_d DMovesRightL (hr1.le (by decide)) pass0 (pa_cons (pv 2) (pa_cons (pv 3) (pa_cons (pv 4) (pa_cons (pv 5) pa_nil))))))) (pw_or1 (pt_not (pt_val (pe_d DNumbersRightL (hr1.le (by decide)) pass0 (pa_cons (pv 2) (pa_cons (pv 3) (pa_cons (pv 4) pa_nil))))))))) (pss_one (ps_ret pe_bl)) pss_nil)))))))
      (pss_one (ps_ret (pe_and (pe_cmpR op_eq (C8.pe_gc rfl T.c_MAX_PLACES) pe_int (nomark _)) (pe_one (pe_cmpR op_eq (C8.pe_gc rfl T.c_MAX_POWER) (pe_op op_pw pe_int pe_int) (nomark _))))))), ?_⟩
    refine ⟨_, rfl, a, _, rfl, .inl hS, _, _, rfl, _, _, rfl, ?_⟩
    obtain ⟨j, ej, j1, j2⟩ : ∃ j : Int, j = (if (if ((ns.map V.int).length : Int) < 3 then ((ns.map V.int).length : Int) else 3) > 1 then (if ((ns.map V.int).length : Int) < 3 then ((ns.map V.int).length : Int) else 3) else 1) ∧ 1 ≤ j ∧ j ≤ 3 := by
      refine ⟨_, rfl, ?_, ?_⟩
      all_goals
        split
        · split <;> omega
        · omega
    refine ⟨j, by rw [ej], by omega, by omega, for_range (fun i σ H' => SqL K H' a (ns.map V.int) ∧ Tabs (TL K) H' ∧ ∃ x1 x2 x3 x4 x5, σ = [some (.ref a), x1, x2, x3, x4, x5]) ⟨hS, hT, none, none, none, none, none, rfl⟩ ?_ ?_⟩
    · rintro i σ H0 hi ⟨hS, hT, x1, x2, x3, x4, x5, rfl⟩
      refine ⟨_, rfl, _, rfl, a, i, ns, ?_, hS, by omega, fun H1 p sm np hb => ?_⟩
      · show [V.ref a, V.int (0 + (i : Int))] = _
        rw [Int.zero_add]
      obtain ⟨b0, b1, b2, eg⟩ := id hb
      have SS : Same H1 H1 := Same.refl H1
      refine ⟨_, rfl, ?_⟩
      refine ⟨by show 0 ≤ sizeLine; decide, fun u1 f1 => ?_⟩
      have n1 : u1 ≠ p := by
        rintro rfl
        rw [eg] at f1
        cases f1
      generalize eH : upd H1 u1 _ = J1
      have S : Same H1 J1 := by rw [← eH]; exact same_new f1
      have e1 : J1 u1 = some (.tup []) := by rw [← eH]; exact upd_same
      replace eg := S _ _ eg
      replace SS := SS.trans S
      clear eH S f1
      refine ⟨by show 2 ≤ sizeLine; decide, fun u2 f2 => ?_⟩
      have n2 : u2 ≠ p := by
        rintro rfl
        rw [eg] at f2
        cases f2
      generalize eH : upd J1 u2 _ = J2
      have S : Same J1 J2 := by rw [← eH]; exact same_new f2
      have e2 : J2 u2 = some (.lst [.int 0, .int 1]) := by rw [← eH]; exact upd_same
      replace eg := S _ _ eg
      replace SS := SS.trans S
      replace e1 := S _ _ e1
      clear eH S f2
      refine ⟨by show 2 ≤ sizeLine; decide, fun u3 f3 => ?_⟩
      have n3 : u3 ≠ p := by
        rintro rfl
        rw [eg] at f3
        cases f3
      generalize eH : upd J2 u3 _ = J3
      have S : Same J2 J3 := by rw [← eH]; exact same_new f3
      have e3 : J3 u3 = some (.tup [.int 0, .int 0]) := by rw [← eH]; exact upd_same
      replace eg := S _ _ eg
      replace SS := SS.trans S
      replace e1 := S _ _ e1
      replace e2 := S _ _ e2
      clear eH S f3
      refine ⟨by show 2 ≤ sizeLine; decide, fun u4 f4 => ?_⟩
      have n4 : u4 ≠ p := by
        rintro rfl
        rw [eg] at f4
        cases f4
      generalize eH : upd J3 u4 _ = J4
      have S : Same J3 J4 := by rw [← eH]; exact same_new f4
      have e4 : J4 u4 = some (.tup [.int 1, .int 2]) := by rw [← eH]; exact upd_same
      replace eg := S _ _ eg
      replace SS := SS.trans S
      replace e1 := S _ _ e1
      replace e2 := S _ _ e2
      replace e3 := S _ _ e3
      clear eH S f4
      refine ⟨by show 2 ≤ sizeLine; decide, fun u5 f5 => ?_⟩
      have n5 : u5 ≠ p := by
        rintro rfl
        rw [eg] at f5
        cases f5
      generalize eH : upd J4 u5 _ = J5
      have S : Same J4 J5 := by rw [← eH]; exact same_new f5
      have e5 : J5 u5 = some (.tup [.int 0, .str "1"]) := by rw [← eH]; exact upd_same
      replace eg := S _ _ eg
      replace SS := SS.trans S
      replace e1 := S _ _ e1
      replace e2 := S _ _ e2
      replace e3 := S _ _ e3
      replace e4 := S _ _ e4
      clear eH S f5
      refine ⟨by show 2 ≤ sizeLine; decide, fun u6 f6 => ?_⟩
      have n6 : u6 ≠ p := by
        rintro rfl
        rw [eg] at f6
        cases f6
      generalize eH : upd J5 u6 _ = J6
      have S : Same J5 J6 := by rw [← eH]; exact same_new f6
      have e6 : J6 u6 = some (.tup [.bl true, .int 0]) := by rw [← eH]; exact upd_same
      replace eg := S _ _ eg
      replace SS := SS.trans S
      replace e1 := S _ _ e1
      replace e2 := S _ _ e2
      replace e3 := S _ _ e3
      replace e4 := S _ _ e4
      replace e5 := S _ _ e5
      clear eH S f6
      intro u7 f7
      have n7 : u7 ≠ p := by
        rintro rfl
        rw [eg] at f7
        cases f7
      generalize eH : upd J6 u7 _ = J7
      have S : Same J6 J7 := by rw [← eH]; exact same_new f7
      have e7 : J7 u7 = some (.dK []) := by rw [← eH]; exact upd_same
      replace eg := S _ _ eg
      replace SS := SS.trans S
      replace e1 := S _ _ e1
      replace e2 := S _ _ e2
      replace e3 := S _ _ e3
      replace e4 := S _ _ e4
      replace e5 := S _ _ e5
      replace e6 := S _ _ e6
      clear eH S f7
      refine ⟨_, rfl, ⟨by decide, by decide, by decide, by decide, by decide⟩, fun u8 f8 => ?_⟩
      have n8 : u8 ≠ p := by
        rintro rfl
        rw [eg] at f8
        cases f8
      generalize eH : upd J7 u8 _ = J8
      have S : Same J7 J8 := by rw [← eH]; exact same_new f8
      have e8 : J8 u8 = some (.tup (rgV 0 25)) := by rw [← eH]; exact upd_same
      replace eg := S _ _ eg
      replace SS := SS.trans S
      replace e1 := S _ _ e1
      replace e2 := S _ _ e2
      replace e3 := S _ _ e3
      replace e4 := S _ _ e4
      replace e5 := S _ _ e5
      replace e6 := S _ _ e6
      replace e7 := S _ _ e7
      clear eH S f8
      refine ⟨by show 2 ≤ sizeLine; decide, fun u9 f9 => ?_⟩
      have n9 : u9 ≠ p := by
        rintro rfl
        rw [eg] at f9
        cases f9
      generalize eH : upd J8 u9 _ = J9
      have S : Same J8 J9 := by rw [← eH]; exact same_new f9
      have e9 : J9 u9 = some (.tup [.int 0, .non]) := by rw [← eH]; exact upd_same
      replace eg := S _ _ eg
      replace SS := SS.trans S
      replace e1 := S _ _ e1
      replace e2 := S _ _ e2
      replace e3 := S _ _ e3
      replace e4 := S _ _ e4
      replace e5 := S _ _ e5
      replace e6 := S _ _ e6
      replace e7 := S _ _ e7
      replace e8 := S _ _ e8
      clear eH S f9
      refine ⟨by show 2 ≤ sizeLine; decide, fun u10 f10 => ?_⟩
      have n10 : u10 ≠ p := by
        rintro rfl
        rw [eg] at f10
        cases f10
      generalize eH : upd J9 u10 _ = J10
      have S : Same J9 J10 := by rw [← eH]; exact same_new f10
      have e10 : J10 u10 = some (.tup [.int 0, .int 1]) := by rw [← eH]; exact upd_same
      replace eg := S _ _ eg
      replace SS := SS.trans S
      replace e1 := S _ _ e1
      replace e2 := S _ _ e2
      replace e3 := S _ _ e3
      replace e4 := S _ _ e4
      replace e5 := S _ _ e5
      replace e6 := S _ _ e6
      replace e7 := S _ _ e7
      replace e8 := S _ _ e8
      replace e9 := S _ _ e9
      clear eH S f10
      refine ⟨by show 1 ≤ sizeLine; decide, fun u11 f11 => ?_⟩
      have n11 : u11 ≠ p := by
        rintro rfl
        rw [eg] at f11
        cases f11
      generalize eH : upd J10 u11 _ = J11
      have S : Same J10 J11 := by rw [← eH]; exact same_new f11
      have e11 : J11 u11 = some (.tup [.ref u10]) := by rw [← eH]; exact upd_same
      replace eg := S _ _ eg
      replace SS := SS.trans S
      replace e1 := S _ _ e1
      replace e2 := S _ _ e2
      replace e3 := S _ _ e3
      replace e4 := S _ _ e4
      replace e5 := S _ _ e5
      replace e6 := S _ _ e6
      replace e7 := S _ _ e7
      replace e8 := S _ _ e8
      replace e9 := S _ _ e9
      replace e10 := S _ _ e10
      clear eH S f11
      refine ⟨by show 13 ≤ sizeLine; decide, fun l3 fl3 => ?_⟩
      refine ⟨p, l3, b0, b1, b2, [.non, .int 0, .ref u1, .ref u2, .ref u3, .ref u4, .ref u5, .ref u6, .str "01", .ref u7, .ref u8, .ref u9, .ref u11], rfl, same_new fl3 _ _ eg, .inl (.inl upd_same), ?_, Nat.succ_pos _, by show 13 ≤ 1000; decide, fun vn h0 h1 h2 hv => ?_⟩
      · rintro rfl
        rw [eg] at fl3
        cases fl3
      have bm : ∀ H', (∀ b o, b ≠ p → J11 b = some o → H' b = some o) → BadM K H' vn := movesBad hv e1 e2 e3 e4 e5 e6 e7 e8 e9 e10 e11 n1 n2 n3 n4 n5 n6 n7 n8 n9 n10 n11
      have toH : ∀ b o, b ≠ p → J11 b = some o → (upd (upd J11 l3 (.lst [.non, .int 0, .ref u1, .ref u2, .ref u3, .ref u4, .ref u5, .ref u6, .str "01", .ref u7, .ref u8, .ref u9, .ref u11])) p (.lst [.int h0, .int h1, .int h2])) b = some o := by
        intro b o nb e
        rw [upd_ne nb]
        exact same_new fl3 _ _ e
      have up : Upto p H1 (upd (upd J11 l3 (.lst [.non, .int 0, .ref u1, .ref u2, .ref u3, .ref u4, .ref u5, .ref u6, .str "01", .ref u7, .ref u8, .ref u9, .ref u11])) p (.lst [.int h0, .int h1, .int h2])) :=
        ⟨fun b o nb e => toH b o nb (SS b o e), ⟨_, _, _, upd_same⟩⟩
      generalize eH : upd (upd J11 l3 _) p _ = H2
      replace up : Upto p H1 H2 := by rw [← eH]; exact up
      have bW : BadM K (wo H2 p) vn := bm _ (fun b o nb e => by rw [wo_ne nb, ← eH]; exact toH b o nb e)
      have E0 : ExtN H0 (wo H2 p) := by
        intro b o h _
        have nb : b ≠ p := ne_of_none h np
        rw [wo_ne nb]
        exact up.same _ _ nb (sm _ _ h)
      have T2 := tab_upto (hT.ext sm) hb up
      have bag2 := up.bag
      clear bm toH eH up SS
      refine ⟨_, rfl, ?_⟩
      obtain ⟨c0, c1, c2, ec⟩ := id bag2
      refine ⟨_, rfl, p, 5, c0, c1, c2, rfl, ec, ⟨by decide, by decide⟩, fun r g' m' c' r0 r1 => ?_⟩
      have up := (Upto.refl bag2).draw (a := g') (b := m') (c := c')
      generalize upd H2 p _ = H3 at up ⊢
      obtain ⟨n, rfl⟩ : ∃ n : Nat, r = (n : Int) := ⟨r.toNat, by omega⟩
      refine ⟨_, _, rfl, rfl, ?_⟩
      refine ⟨_, rfl, ⟨by omega, by omega, by omega, by omega, by omega⟩, fun l fl => ?_⟩
      rw [show (1 : Int) + (n : Int) = ((n + 1 : Nat) : Int) by omega, rg_mv]
      have np1 : l ≠ p := (up.free fl).1
      replace up := up.new (o := .lst (mv (List.range (n + 1)))) fl
      have L : (upd H3 l (.lst (mv (List.range (n + 1))))) l = some (.lst (mv (List.range (n + 1)))) := upd_same
      generalize upd H3 l _ = H4 at up L ⊢
      refine ⟨p, l, _, rfl, up.bag, .inl (.inl L), np1, by rw [mv_len, List.length_range]; omega, fun H5 t ys up5 ft pm ht => ?_⟩
      obtain ⟨m, rfl, pm2⟩ := mv_range_perm pm
      obtain ⟨hm, lm⟩ := mv_of_perm pm2 (by omega) (by omega)
      replace up := up.trans up5
      refine ⟨t, _, rfl, .inl ⟨.inl (.inl ht), fun v1 fv1 => ?_⟩⟩
      have nv1 := (up.free fv1).1
      replace up := up.new (o := .tup (mv m)) fv1
      have V1 : (upd H5 v1 (.tup (mv m))) v1 = some (.tup (mv m)) := upd_same
      generalize upd H5 v1 _ = H6 at up V1 ⊢
      refine ⟨_, rfl, ?_⟩
      refine ⟨_, rfl, v1, _, rfl, .inr (.inl (.inl V1)), ?_⟩
      refine ⟨_, _, rfl, rfl, ?_⟩
      obtain ⟨d0, d1, d2, ed⟩ := id up.bag
      refine ⟨_, rfl, p, 9, d0, d1, d2, rfl, ed, ⟨by decide, by decide⟩, fun r g' m' c' r0 r1 => ?_⟩
      replace up := up.draw (a := g') (b := m') (c := c')
      replace V1 := (upd_ne (o := .lst [.int g', .int m', .int c']) nv1).trans V1
      generalize upd H6 p _ = H7 at up V1 ⊢
      obtain ⟨k, rfl⟩ : ∃ k : Nat, r = (k : Int) := ⟨r.toNat, by omega⟩
      refine ⟨_, _, rfl, rfl, ?_⟩
      refine ⟨_, rfl, ⟨by omega, by omega, by rw [mv_len]; omega, by rw [mv_len]; omega, by rw [mv_len]; omega⟩, fun l2 fl2 => ?_⟩
      rw [show ((mv m).length : Int) + 1 + (k : Int) = ((m.length + 1 + k : Nat) : Int) by rw [mv_len]; omega, rg_mv]
      have np2 : l2 ≠ p := (up.free fl2).1
      replace up := up.new (o := .lst (mv (List.range (m.length + 1 + k)))) fl2
      have L2' : (upd H7 l2 (.lst (mv (List.range (m.length + 1 + k))))) l2 = some (.lst (mv (List.range (m.length + 1 + k)))) := upd_same
      replace V1 := same_new (o := .lst (mv (List.range (m.length + 1 + k)))) fl2 _ _ V1
      generalize upd H7 l2 _ = H8 at up L2' V1 ⊢
      refine ⟨p, l2, _, rfl, up.bag, .inl (.inl L2'), np2, by rw [mv_len, List.length_range]; omega, fun H9 t2 ys2 up9 ft2 pm9 ht2 => ?_⟩
      obtain ⟨m2, rfl, pm3⟩ := mv_range_perm pm9
      obtain ⟨hm2, lm2⟩ := mv_of_perm pm3 (by omega) (by omega)
      replace up := up.trans up9
      replace V1 := up9.same _ _ nv1 V1
      refine ⟨t2, _, rfl, .inl ⟨.inl (.inl ht2), fun v2 fv2 => ?_⟩⟩
      have nv2 := (up.free fv2).1
      replace up := up.new (o := .tup (mv m2)) fv2
      have V2 : (upd H9 v2 (.tup (mv m2))) v2 = some (.tup (mv m2)) := upd_same
      replace V1 := same_new (o := .tup (mv m2)) fv2 _ _ V1
      generalize upd H9 v2 _ = HA at up V2 V1 ⊢
      have TA := tab_upto T2 bag2 up
      have bA := badME bW (wo_ext up)
      have EA := E0.trans (wo_ext up)
      have bagA := up.bag
      have bA' : BadM K HA vn := badME bA (low_ext (ExtN.refl _))
      refine ⟨_, rfl, _, rfl, _, rfl, _, rfl, .ref p, vn, v1, v2, m, m2, rfl, bA', .inl (.inl V1), .inl (.inl V2), hm, hm2, by omega, TA, fun HB eB TB' => ?_⟩
      refine ⟨_, rfl, ?_⟩
      refine ifF rfl ?_
      have V1B := eB _ _ V1 (by nofun)
      have bB := badME bA (wo_ext2 (g := p) eB)
      refine ⟨_, rfl, _, rfl, _, rfl, p, vn, v1, m, rfl, bag_ext bagA eB, badME bA' eB, .inl (.inl V1B), hm, bB, TB', fun HC eC bC TC => ?_⟩
      refine ⟨_, rfl, ?_⟩
      refine ifF rfl ?_
      exact ⟨sqlE hS ((EA.trans (wo_ext2 (g := p) eB)).trans eC), TC, _, _, _, _, _, rfl⟩
    · rintro σ H' ⟨hS, hT, x1, x2, x3, x4, x5, rfl⟩
      refine ⟨rfl, _, rfl, ?_⟩
      refine ifT rfl ?_
      refine ⟨10, 30, rfl, rfl, (by show CPw _ _; decide +kernel), ?_⟩
      refine ⟨rfl, ?_⟩
      exact q _
end
end K06


set_option Elab.async false
set_option linter.all false
set_option maxRecDepth 100000
set_option maxHeartbeats 2000000
namespace K06
open PySem PySem.Spec PyProof.Rows L2 MM LamX
/-- the row of the class of wrong numbers, asked -/
def numRow (K : PySem.W.Frag) (C : Addr) : Bool :=
  match K.lookup C with
  | some ⟨.type "type", _, .cls cd, sl⟩ =>
    (match cd.mro with
     | .ref C' :: bm => decide (C' = C) && PySem.W.excTail ieTop bm
     | _ => false) && (match sl.toList with
     | [_, _, _, _, some (.builtin n), _] => decide (n = "IndexError.__new__")
     | _ => false) && !cd.hasDel && cd.hasDict
  | _ => false
theorem numRow_ok {K : PySem.W.Frag} {C : Addr} (h : numRow K C = true) : ∃ nm q N bs bm sn sub ab col dd k0 k1 k2 k3 k5,
    K.lookup C = some (excClassObj nm q C N bs bm true sn sub ab col dd k0 k1 k2 k3 k5 "IndexError.__new__") ∧ PySem.W.excTail ieTop bm = true := by
  unfold numRow at h
  split at h
  · rename_i dd cd sl lk
    obtain ⟨nm, bs, mro, ns, qn, hd, sn, sub, ab, col, del⟩ := cd
    simp only [Bool.and_eq_true, Bool.not_eq_true'] at h
    obtain ⟨⟨⟨h1, h2⟩, h3⟩, h4⟩ := h
    subst h3 h4
    split at h1
    · rename_i C' bm
      rw [Bool.and_eq_true, decide_eq_true_eq] at h1
      obtain ⟨rfl, ht⟩ := h1
      split at h2
      · rename_i k0 k1 k2 k3 n k5 e2
        have e3 : n = "IndexError.__new__" := of_decide_eq_true h2
        subst e3
        have e4 : sl = #[k0, k1, k2, k3, some (.builtin "IndexError.__new__"), k5] := by
          obtain ⟨l⟩ := sl
          simp only at e2
          rw [e2]
        subst e4
        exact ⟨nm, qn, ns, bs, bm, sn, sub, ab, col, dd, k0, k1, k2, k3, k5, lk, ht⟩
      · cases h2
    · cases h1
  · cases h
def exB (K : PySem.W.Frag) (x y : Str) (b : Bool) : Bool := decide (PySem.W.exmOne K (.ref (ga K x)) (.ref (ga K y)) = some b)
def numB (K : PySem.W.Frag) : Bool :=
  numRow K (ga K "InvalidNumber") && decide (PySem.W.findIn K (.ref (ga K "InvalidNumber")) "__setattr__" = some (some (.builtin "object.__setattr__"))) &&
    decide (PySem.W.subIn K (.ref (ga K "InvalidNumber")) (.type "BaseException") = some true) &&
    decide (PySem.W.typeIn K (.ref (ga K "InvalidNumber")) = some (.type "type")) && PySem.W.keepIn K (.ref (ga K "InvalidNumber")) &&
    decide (PySem.W.findIn K (.ref (ga K "InvalidNumber")) "given" = some none) && xfB K (ga K "InvalidNumber") &&
    decide (PySem.W.findIn K (.ref (ga K "InvalidNumber")) "__init__" = some (some (.ref (He.ma K (ga K "InvalidNumber") "__init__")))) &&
    decide (PySem.W.typeIn K (.ref (He.ma K (ga K "InvalidNumber") "__init__")) = some (.type "function"))
def allB (K : PySem.W.Frag) : Bool :=
  plainB K "InvalidMove" && plainB K "InvalidOperation" && numB K && exB K "InvalidMove" "InvalidMove" true && exB K "InvalidOperation" "InvalidMove" false &&
    exB K "InvalidOperation" "InvalidOperation" true && exB K "InvalidNumber" "InvalidMove" false && exB K "InvalidNumber" "InvalidOperation" false &&
    exB K "InvalidNumber" "InvalidNumber" true && decide ((cd1 K).2 ≠ (cd2 K).2)
theorem ex_ok {K : PySem.W.Frag} {mg : Str → Option Value} (h : allB K = true) (g1 : mg "InvalidMove" = some (.ref (ga K "InvalidMove")))
    (g2 : mg "InvalidOperation" = some (.ref (ga K "InvalidOperation"))) (g3 : mg "InvalidNumber" = some (.ref (ga K "InvalidNumber")))
    (ie : mg "IndexError" = none)
    (F : ∃ fd, FunD K "__init__" "InvalidNumber.__init__" (defArgs sInit) (defBody sInit) (defScope sInit) [] [] (He.ma K (ga K "InvalidNumber") "__init__") fd) :
    Ex K mg ∧ (cd1 K).2 ≠ (cd2 K).2 := by
  unfold allB at h
  simp only [Bool.and_eq_true, decide_eq_true_eq] at h
  obtain ⟨⟨⟨⟨⟨⟨⟨⟨⟨m, o⟩, n⟩, a1⟩, a2⟩, a3⟩, a4⟩, a5⟩, a6⟩, d⟩ := h
  unfold numB at n
  simp only [Bool.and_eq_true, decide_eq_true_eq] at n
  obtain ⟨⟨⟨⟨⟨⟨⟨⟨r1, r2⟩, r3⟩, r4⟩, r5⟩, r6⟩, r7⟩, r8⟩, r9⟩ := n
  obtain ⟨fd, F⟩ := F
  exact ⟨⟨plain_ok g1 m, plain_ok g2 o, ⟨g3, ⟨PySem.F.excBase_IndexError, PySem.F.store_IndexError, numRow_ok r1, r2, r3, r4, r5⟩, r6, xfB_ok r7, ⟨_, fd, r8, r9, F⟩⟩, ie,
    of_decide_eq_true a1, of_decide_eq_true a2, of_decide_eq_true a3, of_decide_eq_true a4, of_decide_eq_true a5, of_decide_eq_true a6⟩, d⟩
end K06

set_option Elab.async false
set_option linter.all false
set_option maxRecDepth 100000
set_option maxHeartbeats 0
namespace K06
open PySem PySem.Spec PyProof.Rows L2 MM LamX
theorem law_def {P : Program} {w : World} {K : PySem.W.Frag} {mg : Str → Option Value} {base : Heap} (T : Tx K mg) (Y : Ex K mg) (TB : Tb K mg base) : Def P w K mg base CX0 10 "law" ["_law_script"] (spLawT K) := by
  have DIsWhole := dIsWhole (P := P) (w := w) (base := base) T 
  have DIsBetween := dIsBetween (P := P) (w := w) (base := base) T DIsWhole
  have DIsArrangement := dIsArrangement (P := P) (w := w) (base := base) T DIsBetween
  have DNeedMove := dNeedMove (P := P) (w := w) (base := base) T DIsArrangement
  have DTurnedBack := dTurnedBack (P := P) (w := w) (base := base) T 
  have DUndone := dUndone (P := P) (w := w) (base := base) T DNeedMove DTurnedBack
  have DCyclesU := dCyclesU (P := P) (w := w) (base := base) T 
  have DOrderOf := dOrderOf (P := P) (w := w) (base := base) T DNeedMove DCyclesU
  have DSignOf := dSignOf (P := P) (w := w) (base := base) T DNeedMove DCyclesU
  have DCycles := dCycles (P := P) (w := w) (base := base) T DNeedMove DCyclesU
  have DStillPlaces := dStillPlaces (P := P) (w := w) (base := base) T DNeedMove
  have DNeedPair := dNeedPair (P := P) (w := w) (base := base) T DNeedMove
  have DFollowed := dFollowed (P := P) (w := w) (base := base) T 
  have DProductOf := dProductOf (P := P) (w := w) (base := base) T DNeedPair DFollowed
  have DTurned := dTurned (P := P) (w := w) (base := base) T DFollowed DTurnedBack
  have DTurnedMove := dTurnedMove (P := P) (w := w) (base := base) T DNeedPair DTurned
  have DTurningMove := dTurningMove (P := P) (w := w) (base := base) T DNeedPair DCyclesU
  have DIsTurningMove := dIsTurningMove (P := P) (w := w) (base := base) T DNeedPair DIsArrangement DTurned
  have DNeedBetween := dNeedBetween (P := P) (w := w) (base := base) T DIsBetween
  have DPowerOf := dPowerOf (P := P) (w := w) (base := base) T DNeedMove DNeedBetween DCyclesU
  have DNeedPlaces := dNeedPlaces (P := P) (w := w) (base := base) T DNeedBetween
  have DUnitOf := dUnitOf (P := P) (w := w) (base := base) T DNeedPlaces
  have DIsMove := dIsMove (P := P) (w := w) (base := base) T DNeedPlaces DIsArrangement
  have DNeedRings := dNeedRings (P := P) (w := w) (base := base) T DIsBetween
  have DMoveOfCycles := dMoveOfCycles (P := P) (w := w) (base := base) T DNeedPlaces DNeedRings
  have DBagL := dBagL (P := P) (w := w) (base := base) T 
  have DGrabL := dGrabL (P := P) (w := w) (base := base) T 
  have DOneOfL := dOneOfL (P := P) (w := w) (base := base) T DGrabL
  have DMixedL := dMixedL (P := P) (w := w) (base := base) T DGrabL
  have BNeedMove := bNeedMove (P := P) (w := w) (base := base) T Y DIsArrangement
  have CNeedMove := def_or DNeedMove BNeedMove (l := 4) (by decide) (by decide)
  have BNeedPair := bNeedPair (P := P) (w := w) (base := base) T Y CNeedMove
  have BUndone := bUndone (P := P) (w := w) (base := base) T Y CNeedMove
  have CUndone := def_or DUndone BUndone (l := 6) (by decide) (by decide)
  have BOrderOf := bOrderOf (P := P) (w := w) (base := base) T Y CNeedMove
  have COrderOf := def_or DOrderOf BOrderOf (l := 6) (by decide) (by decide)
  have BSignOf := bSignOf (P := P) (w := w) (base := base) T Y CNeedMove
  have CSignOf := def_or DSignOf BSignOf (l := 6) (by decide) (by decide)
  have BCycles := bCycles (P := P) (w := w) (base := base) T Y CNeedMove
  have CCycles := def_or DCycles BCycles (l := 6) (by decide) (by decide)
  have BStillPlaces := bStillPlaces (P := P) (w := w) (base := base) T Y CNeedMove
  have CStillPlaces := def_or DStillPlaces BStillPlaces (l := 6) (by decide) (by decide)
  have BProductOf := bProductOf (P := P) (w := w) (base := base) T Y BNeedPair
  have CProductOf := def_or DProductOf BProductOf (l := 6) (by decide) (by decide)
  have BTurnedMove := bTurnedMove (P := P) (w := w) (base := base) T Y BNeedPair
  have CTurnedMove := def_or DTurnedMove BTurnedMove (l := 6) (by decide) (by decide)
  have BTurningMove := bTurningMove (P := P) (w := w) (base := base) T Y BNeedPair
  have CTurningMove := def_or DTurningMove BTurningMove (l := 6) (by decide) (by decide)
  have BIsTurningMove := bIsTurningMove (P := P) (w := w) (base := base) T Y BNeedPair
  have CIsTurningMove := def_or DIsTurningMove BIsTurningMove (l := 6) (by decide) (by decide)
  have BNeedBetween := bNeedBetween (P := P) (w := w) (base := base) T Y DIsBetween
  have BNeedPlaces := bNeedPlaces (P := P) (w := w) (base := base) T Y BNeedBetween
  have CNeedPlaces := def_or DNeedPlaces BNeedPlaces (l := 4) (by decide) (by decide)
  have BUnitOf := bUnitOf (P := P) (w := w) (base := base) T Y BNeedPlaces
  have CUnitOf := def_or DUnitOf BUnitOf (l := 5) (by decide) (by decide)
  have BIsMove := bIsMove (P := P) (w := w) (base := base) T Y BNeedPlaces
  have CIsMove := def_or DIsMove BIsMove (l := 5) (by decide) (by decide)
  have BPowerOf := bPowerOf (P := P) (w := w) (base := base) T Y CNeedMove BNeedBetween
  have CPowerOf := def_or DPowerOf BPowerOf (l := 5) (by decide) (by decide)
  have BNeedRings := bNeedRings (P := P) (w := w) (base := base) T Y DIsBetween
  have BMoveOfCycles := bMoveOfCycles (P := P) (w := w) (base := base) T Y CNeedPlaces BNeedRings
  have CMoveOfCycles := def_or DMoveOfCycles BMoveOfCycles (l := 5) (by decide) (by decide)
  have h1 : ∀ f ∈ F1 K, One P w K mg base f := by
    intro f hf
    simp only [List.mem_cons, List.not_mem_nil, or_false] at hf
    rcases hf with rfl | rfl | rfl | rfl | rfl
    · exact ⟨_, ⟨"undone", ["move"], T.t_undone.glo, CUndone⟩, (fun _ _ _ x bx q => .inr ⟨x, rfl, bx, q⟩), fun _ _ _ a m S hm q => .inl ⟨a, m, rfl, S, hm, fun H' t s _ => q H' _ s⟩⟩
    · exact ⟨_, ⟨"order_of", ["move"], T.t_order_of.glo, COrderOf⟩, (fun _ _ _ x bx q => .inr ⟨x, rfl, bx, q⟩), fun _ _ _ a m S hm q => .inl ⟨a, m, rfl, S, hm, (fun i => Nat.lt_of_le_of_lt (ord_small (pm_of hm) hm.2.2.2 i) (by decide)), fun H' s => q H' _ s⟩⟩
    · exact ⟨_, ⟨"sign_of", ["move"], T.t_sign_of.glo, CSignOf⟩, (fun _ _ _ x bx q => .inr ⟨x, rfl, bx, q⟩), fun _ _ _ a m S hm q => .inl ⟨a, m, rfl, S, hm, fun H' s => q H' _ s⟩⟩
    · exact ⟨_, ⟨"cycles", ["move"], T.t_cycles.glo, CCycles⟩, (fun _ _ _ x bx q => .inr ⟨x, rfl, bx, q⟩), fun _ _ _ a m S hm q => .inl ⟨a, m, rfl, S, hm, fun H' t us s _ _ => q H' _ s⟩⟩
    · exact ⟨_, ⟨"still_places", ["move"], T.t_still_places.glo, CStillPlaces⟩, (fun _ _ _ x bx q => .inr ⟨x, rfl, bx, q⟩), fun _ _ _ a m S hm q => .inl ⟨a, m, rfl, S, hm, fun H' t s _ => q H' _ s⟩⟩
  have h2 : ∀ f ∈ F2 K, Two P w K mg base f := by
    intro f hf
    simp only [List.mem_cons, List.not_mem_nil, or_false] at hf
    rcases hf with rfl | rfl | rfl
    · exact ⟨_, ⟨"product_of", ["one", "other"], T.t_product_of.glo, CProductOf⟩, (fun _ _ _ x y q => .inr ⟨x, y, rfl, q⟩), fun _ _ _ a m S hm q => .inl ⟨a, a, m, m, rfl, S, S, hm, hm, rfl, fun H' t s _ => q H' _ s⟩⟩
    · exact ⟨_, ⟨"turned_move", ["move", "by"], T.t_turned_move.glo, CTurnedMove⟩, (fun _ _ _ x y q => .inr ⟨x, y, rfl, q⟩), fun _ _ _ a m S hm q => .inl ⟨a, a, m, m, rfl, S, S, hm, hm, rfl, fun H' t s _ => q H' _ s⟩⟩
    · exact ⟨_, ⟨"turning_move", ["one", "other"], T.t_turning_move.glo, CTurningMove⟩, (fun _ _ _ x y q => .inr ⟨x, y, rfl, q⟩), fun _ _ _ a m S hm q => .inl ⟨a, a, m, m, rfl, S, S, hm, hm, rfl, fun _ H' t g s _ _ _ _ => q H' _ s, fun _ H' s => q H' _ s⟩⟩
  have DMovesRightL := dMovesRightL (P := P) (w := w) (base := base) T Y TB CIsTurningMove h1 h2
  have DNumbersRightL := dNumbersRightL (P := P) (w := w) (base := base) T Y TB DOneOfL CPowerOf CUnitOf CIsMove CMoveOfCycles
  exact dLaw T DBagL DOneOfL DMixedL DGrabL DNumbersRightL DMovesRightL
def dd (x : Str) (st : Stmt) : He.DefD := ⟨(x, none), x, x, defArgs st, defBody st, defScope st, [], []⟩
def fn : List He.DefD := [dd "is_whole" sIsWhole, dd "is_between" sIsBetween, dd "need_between" sNeedBetween, dd "is_arrangement" sIsArrangement, dd "need_places" sNeedPlaces, dd "is_move" sIsMove, dd "unit_of" sUnitOf, dd "_need_move" sNeedMove, dd "_need_pair" sNeedPair, dd "followed" sFollowed, dd "turned_back" sTurnedBack, dd "product_of" sProductOf, dd "undone" sUndone, dd "_cycles" sCyclesU, dd "power_of" sPowerOf, dd "order_of" sOrderOf, dd "sign_of" sSignOf, dd "cycles" sCycles, dd "still_places" sStillPlaces, dd "_need_rings" sNeedRings, dd "move_of_cycles" sMoveOfCycles, dd "_turned" sTurned, dd "turned_move" sTurnedMove, dd "turning_move" sTurningMove, dd "is_turning_move" sIsTurningMove, dd "_law_bag" sBagL, dd "_law_grab" sGrabL, dd "_law_one_of" sOneOfL, dd "_law_mixed" sMixedL, dd "_law_word" sWordL, dd "_law_moves_right" sMovesRightL, dd "_law_numbers_right" sNumbersRightL, dd "law" sLaw, ⟨("InvalidNumber", some "__init__"), "__init__", "InvalidNumber.__init__", defArgs sInit, defBody sInit, defScope sInit, [], []⟩]
def fa : List He.Fa := [.glo "is_whole", .glo "is_between", .glo "need_between", .glo "is_arrangement", .glo "need_places", .glo "is_move", .glo "unit_of", .glo "_need_move", .glo "_need_pair", .glo "followed", .glo "turned_back", .glo "product_of", .glo "undone", .glo "_cycles", .glo "power_of", .glo "order_of", .glo "sign_of", .glo "cycles", .glo "still_places", .glo "_need_rings", .glo "move_of_cycles", .glo "_turned", .glo "turned_move", .glo "turning_move", .glo "is_turning_move", .glo "_law_bag", .glo "_law_grab", .glo "_law_one_of", .glo "_law_mixed", .glo "_law_word", .glo "_law_moves_right", .glo "_law_numbers_right", .glo "law", .free "IndexError", .free "abs", .free "all", .free "bool", .free "enumerate", .free "int", .free "isinstance", .free "len", .free "list", .free "max", .free "min", .free "range", .free "repr", .free "set", .free "sorted", .free "str", .free "sum", .free "tuple", .free "zip", .int "MAX_PLACES" (24), .int "MAX_POWER" (10 ^ 30), .glo "InvalidMove", .glo "InvalidOperation", .glo "InvalidNumber"]
def ex (K : PySem.W.Frag) : Bool := allB K && He.eqO (PySem.W.nsIn K mainGlobals "lcm") (some (some (.builtin "math.lcm")))
theorem tx {K : PySem.W.Frag} {h : Heap} {mg : Str → Option Value} (X : K.In h) (G : h.Ns mainGlobals mg) (c : He.SaysD fa fn K) (e0 : ex K = true) : Tx K mg := by
  have e := (He.ba e0).2
  exact {
    t_is_whole := ⟨c.def_ 0 rfl, He.glo_ok X G (c.fact 0 rfl)⟩
    t_is_between := ⟨c.def_ 1 rfl, He.glo_ok X G (c.fact 1 rfl)⟩
    t_need_between := ⟨c.def_ 2 rfl, He.glo_ok X G (c.fact 2 rfl)⟩
    t_is_arrangement := ⟨c.def_ 3 rfl, He.glo_ok X G (c.fact 3 rfl)⟩
    t_need_places := ⟨c.def_ 4 rfl, He.glo_ok X G (c.fact 4 rfl)⟩
    t_is_move := ⟨c.def_ 5 rfl, He.glo_ok X G (c.fact 5 rfl)⟩
    t_unit_of := ⟨c.def_ 6 rfl, He.glo_ok X G (c.fact 6 rfl)⟩
    t_need_move := ⟨c.def_ 7 rfl, He.glo_ok X G (c.fact 7 rfl)⟩
    t_need_pair := ⟨c.def_ 8 rfl, He.glo_ok X G (c.fact 8 rfl)⟩
    t_followed := ⟨c.def_ 9 rfl, He.glo_ok X G (c.fact 9 rfl)⟩
    t_turned_back := ⟨c.def_ 10 rfl, He.glo_ok X G (c.fact 10 rfl)⟩
    t_product_of := ⟨c.def_ 11 rfl, He.glo_ok X G (c.fact 11 rfl)⟩
    t_undone := ⟨c.def_ 12 rfl, He.glo_ok X G (c.fact 12 rfl)⟩
    t_cyclesU := ⟨c.def_ 13 rfl, He.glo_ok X G (c.fact 13 rfl)⟩
    t_power_of := ⟨c.def_ 14 rfl, He.glo_ok X G (c.fact 14 rfl)⟩
    t_order_of := ⟨c.def_ 15 rfl, He.glo_ok X G (c.fact 15 rfl)⟩
    t_sign_of := ⟨c.def_ 16 rfl, He.glo_ok X G (c.fact 16 rfl)⟩
    t_cycles := ⟨c.def_ 17 rfl, He.glo_ok X G (c.fact 17 rfl)⟩
    t_still_places := ⟨c.def_ 18 rfl, He.glo_ok X G (c.fact 18 rfl)⟩
    t_need_rings := ⟨c.def_ 19 rfl, He.glo_ok X G (c.fact 19 rfl)⟩
    t_move_of_cycles := ⟨c.def_ 20 rfl, He.glo_ok X G (c.fact 20 rfl)⟩
    t_turned := ⟨c.def_ 21 rfl, He.glo_ok X G (c.fact 21 rfl)⟩
    t_turned_move := ⟨c.def_ 22 rfl, He.glo_ok X G (c.fact 22 rfl)⟩
    t_turning_move := ⟨c.def_ 23 rfl, He.glo_ok X G (c.fact 23 rfl)⟩
    t_is_turning_move := ⟨c.def_ 24 rfl, He.glo_ok X G (c.fact 24 rfl)⟩
    t_law_bag := ⟨c.def_ 25 rfl, He.glo_ok X G (c.fact 25 rfl)⟩
    t_law_grab := ⟨c.def_ 26 rfl, He.glo_ok X G (c.fact 26 rfl)⟩
    t_law_one_of := ⟨c.def_ 27 rfl, He.glo_ok X G (c.fact 27 rfl)⟩
    t_law_mixed := ⟨c.def_ 28 rfl, He.glo_ok X G (c.fact 28 rfl)⟩
    t_law_word := ⟨c.def_ 29 rfl, He.glo_ok X G (c.fact 29 rfl)⟩
    t_law_moves_right := ⟨c.def_ 30 rfl, He.glo_ok X G (c.fact 30 rfl)⟩
    t_law_numbers_right := ⟨c.def_ 31 rfl, He.glo_ok X G (c.fact 31 rfl)⟩
    t_law := ⟨c.def_ 32 rfl, He.glo_ok X G (c.fact 32 rfl)⟩
    f_IndexError := He.free_ok X G (c.fact 33 rfl)
    f_abs := He.free_ok X G (c.fact 34 rfl)
    f_all := He.free_ok X G (c.fact 35 rfl)
    f_bool := He.free_ok X G (c.fact 36 rfl)
    f_enumerate := He.free_ok X G (c.fact 37 rfl)
    f_int := He.free_ok X G (c.fact 38 rfl)
    f_isinstance := He.free_ok X G (c.fact 39 rfl)
    f_len := He.free_ok X G (c.fact 40 rfl)
    f_list := He.free_ok X G (c.fact 41 rfl)
    f_max := He.free_ok X G (c.fact 42 rfl)
    f_min := He.free_ok X G (c.fact 43 rfl)
    f_range := He.free_ok X G (c.fact 44 rfl)
    f_repr := He.free_ok X G (c.fact 45 rfl)
    f_set := He.free_ok X G (c.fact 46 rfl)
    f_sorted := He.free_ok X G (c.fact 47 rfl)
    f_str := He.free_ok X G (c.fact 48 rfl)
    f_sum := He.free_ok X G (c.fact 49 rfl)
    f_tuple := He.free_ok X G (c.fact 50 rfl)
    f_zip := He.free_ok X G (c.fact 51 rfl)
    c_MAX_PLACES := by
      obtain ⟨t, e⟩ := He.int_ok X G (c.fact 52 rfl)
      exact ⟨_, e, t, rfl⟩
    c_MAX_POWER := by
      obtain ⟨t, e⟩ := He.int_ok X G (c.fact 53 rfl)
      exact ⟨_, e, t, rfl⟩
    b_lcm := PySem.W.mg_of X G (He.eqO_ok e)
    }
theorem exs {K : PySem.W.Frag} {h : Heap} {mg : Str → Option Value} (X : K.In h) (G : h.Ns mainGlobals mg) (c : He.SaysD fa fn K) (e : ex K = true) : Ex K mg ∧ (cd1 K).2 ≠ (cd2 K).2 :=
  ex_ok (He.ba e).1 (He.glo_ok X G (c.fact 54 rfl)) (He.glo_ok X G (c.fact 55 rfl)) (He.glo_ok X G (c.fact 56 rfl)) (tx X G c e).f_IndexError (c.def_ 33 rfl)
abbrev tf : List He.Defn := [(sMv, none), (sNr, none)]
abbrev cs (K : PySem.W.Frag) : List (Addr × Addr) := [cd1 K, cd2 K]
abbrev R : PySem.W.OpenRow := PySem.W.OpenLaw.row PySem.Challenge.rw_movemarks_k06_errors_of_moves
theorem law_ends {P : Program} {w : World} {K : PySem.W.Frag} {h : Heap} {mg : Str → Option Value} {f : Addr} (X : K.In h) (G : h.Ns mainGlobals mg) (hfa : mg ("law" : Str) = some (.ref f)) (c : He.SaysD fa fn K) (e : ex K = true) :
    ∃ fd : FuncData, (∀ (s : Shared) (v : Value), BindsTo s fd ⟨[v], []⟩ [("_law_script", v)]) ∧ ∀ base : Heap, K.In base → base.Ns mainGlobals mg → (∀ p ∈ cs K, TabB base mg p.1 p.2) → FnG P w K mg base CX0 10 f fd ["_law_script"] (spLawT K) := by
  have T : Tx K mg := tx X G c e
  obtain ⟨Y, ne⟩ := exs X G c e
  obtain ⟨fd, F⟩ := T.t_law.fn
  have b := FunD.bindsA (ps := ["_law_script"]) F fun _ _ _ _ _ _ us hl => match us, hl with | [_], _ => rfl
  refine ⟨fd, fun s v => b s [v] rfl, fun base _ _ tb => ?_⟩
  have TB : Tb K mg base := ⟨tb (cd1 K) List.mem_cons_self, tb (cd2 K) (List.mem_cons_of_mem _ List.mem_cons_self), ne⟩
  obtain ⟨oc, od, _, _, _, _, _, _, _, osl, _, lk, _⟩ := F.ex
  obtain ⟨f2, fd2, F2, hm, _, _, oc2, od2, sl2, lk2⟩ := law_def (P := P) (w := w) (base := base) T Y TB
  have e1 : f2 = f := by
    rw [hfa] at hm
    injection hm with hm
    injection hm with hm
    exact hm.symm
  have e2 : He.ga K "law" = f := by
    have g := T.t_law.glo
    rw [hfa] at g
    injection g with g
    injection g with g
    exact g.symm
  subst e1
  rw [e2] at lk
  rw [lk] at lk2
  injection lk2 with lk2
  injection lk2 with z1 z2 z3 z4
  injection z3 with z3
  subst z3
  exact F2
abbrev hk : PySem.W.Hook := He.hookX 4 fa fn [] tf ex
def ob (s : PySem.W.SharedT) : He.AlX := He.obsX 4 fa fn [] tf ex (HandSHeadRun.getT s)
theorem ob_eq (s : PySem.W.SharedT) : ob s = hk.obs s.abs := He.obsX_eq (HandSHeadRun.getT_eq s)
def names : List PySem.Str := (["MarkError", "InvalidMove", "InvalidOperation", "InvalidNumber", "is_whole", "is_between", "need_between", "MAX_PLACES", "MAX_POWER", "is_arrangement", "need_places", "is_move", "unit_of", "_need_move", "_need_pair", "followed", "turned_back", "product_of", "undone", "_cycles", "power_of", "order_of", "sign_of", "cycles", "still_places", "_need_rings", "move_of_cycles", "_turned", "turned_move", "turning_move", "is_turning_move", "_law_bag", "_law_grab", "_law_one_of", "_law_mixed", "_law_word", "_law_moves_right", "_law_numbers_right"] : List String).map PySem.Str.ofString
end K06

set_option Elab.async false
set_option linter.all false
set_option maxRecDepth 100000
set_option maxHeartbeats 0
namespace K06
open PySem PySem.Spec PyProof.Rows L2 MM
theorem run (w : World) : HandSHeadRun.RunEqI R (PySem.W.view R.prog [0, 43]) hk ob 3000 names w := by
  unfold HandSHeadRun.RunEqI
  kernel_rfl
end K06
open PySem PySem.W PySem.Calls PyProof.Rows
theorem PySem.Challenge.cw_movemarks_k06_errors_of_moves_holds : PySem.Challenge.rw_movemarks_k06_errors_of_moves.Holds := by
  w_on; o_law
  refine HandSHeadRun.head_imp (r := OpenLaw.row PySem.Challenge.rw_movemarks_k06_errors_of_moves) (q := view (OpenLaw.row PySem.Challenge.rw_movemarks_k06_errors_of_moves).prog [0, 43]) (H := K06.hk) (ob := K06.ob) (M := 3000) (loose := K06.names)
    (d := HandSHeadRun.topDef (OpenLaw.row PySem.Challenge.rw_movemarks_k06_errors_of_moves).prog 43) (kwd := []) K06.ob_eq K06.run (by kernel_rfl) (by kernel_rfl) (by kernel_rfl) (by rfl) (by first | assumption | decide +kernel) (by decide +kernel) ⟨rfl, rfl, rfl, rfl, rfl, by decide +kernel⟩ ?hw ?hc
  case hw => w_witness2
  case hc =>
    refine ME.walk_tab (l := PySem.Challenge.rw_movemarks_k06_errors_of_moves) (n := 63) (k := 10) (x := "_law_script") (CX := fun _ => L2.CX0) rfl (by decide) (by kernel_rfl) ⟨⟨rfl, by decide, by decide⟩, rfl⟩ ?F (fun _ _ _ _ _ z => z)
    intro w mg fa h Y G hmg0
    obtain ⟨K, KX, c⟩ := Y
    have hmg : mg ("law" : PySem.Str) = some (.ref fa) := by
      have e : (HandSHeadRun.topDef (OpenLaw.row PySem.Challenge.rw_movemarks_k06_errors_of_moves).prog 43).name = ("law" : PySem.Str) := by kernel_rfl
      rw [← e]
      exact hmg0
    obtain ⟨fd, hb, hF⟩ := K06.law_ends (P := (PySem.Challenge.rw_movemarks_k06_errors_of_moves).prog) (w := w) KX G hmg c.t.d c.more
    have m1 : ((K06.sMv, none) : He.Defn) ∈ K06.tf := List.mem_cons_self
    have m2 : ((K06.sNr, none) : He.Defn) ∈ K06.tf := List.mem_cons_of_mem _ List.mem_cons_self
    have both : ∀ (φ : PySem.Addr × PySem.Addr → Prop), φ (K06.cd1 K) → φ (K06.cd2 K) → ∀ p ∈ K06.cs K, φ p := by
      intro φ a b p hp
      rcases List.mem_cons.mp hp with rfl | hp
      · exact a
      rcases List.mem_cons.mp hp with rfl | hp
      · exact b
      · cases hp
    refine ⟨K, fd, K06.spLawT K, K06.cs K, KX, both _ (c.empty _ m1) (c.empty _ m2), both _ (c.out _ m1) (c.out _ m2),
      both _ (PySem.W.codeHd_of_K KX (c.hd _ m1)) (PySem.W.codeHd_of_K KX (c.hd _ m2)), hb, fun H a ns hl ht hS => ?_, hF⟩
    refine ⟨a, ns, rfl, hS, by omega, ?_, fun _ => rfl⟩
    intro p hp
    rcases List.mem_cons.mp hp with rfl | hp
    · exact LamX.TabS.nil (ht (K06.cd1 K) List.mem_cons_self)
    rcases List.mem_cons.mp hp with rfl | hp
    · exact LamX.TabS.nil (ht (K06.cd2 K) (List.mem_cons_of_mem _ List.mem_cons_self))
    · cases hp
