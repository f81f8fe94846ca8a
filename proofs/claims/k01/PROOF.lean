import PyProof.Rows.All
import Wide.All
import OpenK.AllK
import Wide.FinOn
import HandS.ForMost
import HandS.Exc
import HandS.Defaults
import HandS.More
import HandS.Flow
import HandS.Wide
import HandS.IsInst
import HandS.Codes
import HandS.Conv
import HandS.SortInts
import HandS.TupAny
import HandS.TupMul
import HandS.DictComp
import HandS.Style
import HandS.Small
import PyProof.ReprRoads
import HandS.HeadHook1
import HandS.HeadHook2
import HandS.HeadHook3
import HandS.HeadHook4
import HandS.Gcd
import PyProof.Rows.RuleB_pow
import HandS.DeepEq
import HandS.Head0
import HandS.Head1
import HandS.Head2
import HandS.Head3
import HandS.Head4
import HandS.HeadEnd
import KE.KStateDown
import PySem.Challenge.RW_movemarks_k01_whole_integers_and_ratios
set_option Elab.async false
set_option maxRecDepth 100000
set_option maxHeartbeats 2000000
set_option linter.all false
namespace MM
open PySem PySem.Spec PyProof.Rows L2

/-! room, with nothing under way that is being shown -/
structure Rm (k : Nat) (A : Around) : Prop where
  room : Room k A
  still : A.guards = some []
theorem Rm.le {j k : Nat} {A : Around} (h : Rm k A) (le : j ≤ k) : Rm j A := ⟨h.room.mono le, h.still⟩
theorem Rm.down {k : Nat} {A : Around} {v : Env} (h : Rm (k + 1) A) : Rm k (A.deeper v) := ⟨h.room.deeper v, h.still⟩
theorem Rm.hu {k : Nat} {A : Around} (h : Rm k A) : A.units + 64 < cLine := h.room.units
theorem Rm.hu66 {k : Nat} {A : Around} (h : Rm k A) : A.units + 66 < cLine := by have := h.room.un; omega
theorem Rm.hu1 {k : Nat} {A : Around} (h : Rm k A) : A.units + 1 < cLine := by have := h.room.un; omega

/-- a def keeps its promise wherever nothing is being shown -/
structure FnG (P : Program) (w : World) (K : PySem.W.Frag) (mg : Str → Option Value) (base : Heap)
    (CX : CXT) (k : Nat) (f : Addr) (fd : FuncData) (ps : List Str) (sp : Sp) : Prop where
  arity : ∀ {vs H Q E}, sp vs H Q E → vs.length = ps.length
  runs : ∀ {A : Around} {out : List Env} {s : Shared} {H : Hp} {ar : Args} {us : List Value} {vs : List V} {Q : VK} {E : XK},
    Rm k A → Env0 P w K mg base A out s H → BindsTo s fd ar (ps.zip us) → Vals vs us → sp vs H Q E →
      codeAny (model P w) A (.call (.ref f) ar) (CR CX out P w H s Q E) s

section
variable {P : Program} {w : World} {K : PySem.W.Frag} {mg : Str → Option Value} {base : Heap} {CX : CXT}
  {j k : Nat} {f : Addr} {fd : FuncData} {ps : List Str} {sp : Sp}
theorem FnG.le (F : FnG P w K mg base CX j f fd ps sp) (h : j ≤ k) : FnG P w K mg base CX k f fd ps sp :=
  ⟨F.arity, fun r => F.runs (r.le h)⟩
theorem FnG.of (F : FnOk P w K mg base CX k f fd ps sp) : FnG P w K mg base CX k f fd ps sp :=
  ⟨fun h => F.len _ _ _ _ h, fun r e b v h => F.run _ _ _ _ _ _ _ _ _ r.room e b v h⟩

/-- by its body -/
theorem FnG.body {x qual : Str} {pa : Arguments} {bd : List Stmt} {sc : Scope} {N : List Str}
    (F : FunD K x qual pa bd sc [] [] f fd) (S : FnScope N ps sc)
    (arity : ∀ vs H Q E, sp vs H Q E → vs.length = ps.length)
    (hb : ∀ (cd : Value) (A : Around) (out : List Env) (s : Shared) (H : Hp) (vs : List V) (Q : VK) (E : XK),
      Rm k (A.deeper (envOfC qual sc s.heap.objs.size f cd)) → sp vs H Q E →
      ∃ t, PSs (cxOf CX P w K mg base N qual sc f cd A out s H E) bd t ∧
        t { nx := fun _ H' => Q .non H', rt := Q } (start N vs) H) :
    FnG P w K mg base CX (k + 1) f fd ps sp := by
  obtain ⟨oc, od, dV, kV, doc, pm, an, cd, ct, osl, rfl, lk, hcd, _, _⟩ := F.ex
  refine ⟨fun h => arity _ _ _ _ h, ?_⟩
  intro A out s H ar us vs Q E hr e0 hbd hv h
  have nv := arity _ _ _ _ h
  have inK : K.In s.heap := e0.mod.kin.keeps (fun b o e => (e0.bs b o e).1)
  have nl : s.heap.NoLimit := e0.mod.nolimit.keeps (fun b o e => (e0.bs b o e).1)
  have kd : ∀ y ∈ ps.zip us, sc.names.lookup y.1 = some .local ∨
      (sc.names.lookup y.1 = some .cell ∧ ((cellsFrom (s.heap.objs.size + 1) sc.names []).lookup y.1).isSome = true) := by
    rintro ⟨n, v⟩ hy
    cases S.par n (List.of_mem_zip hy).1 with
    | inl q => exact .inl q
    | inr q => exact .inr ⟨q, PySem.W.cellsFrom_some _ _ _ (.inl q)⟩
  refine codeAny_call_function hr.room.depth (inK _ _ lk) rfl S.co S.gen rfl (PySem.W.codeRec_of inK hcd) (hbd _ _ _ _ ?_)
  refine wpAny_newFunctionEnv_cells S.kind kd (fun env he s1 xc => ?_)
  subst he
  refine ⟨nl.keeps xc.toInCall.keep, codeAny_func ?_⟩
  obtain ⟨t, ht, hq⟩ := hb cd A out s H vs Q E hr.down h
  have I := inv_start (CX := CX) (P := P) (w := w) (qual := qual) (cd := cd) (f := f) (E := E) S hr.room.hd e0 nv hv xc
  refine wpAny_mono (ht.run [] s1 (start N vs) H _ I hq) (fun fl s' hs => ?_) (fun e s' hs => hs)
  cases fl with
  | ret u =>
    obtain ⟨v, σ', H', J, rv, q⟩ := hs
    exact ⟨v, H', J.os, J.bare, J.base, J.hok, rv, q⟩
  | next =>
    obtain ⟨σ', H', J, q⟩ := hs
    exact ⟨.non, H', J.os, J.bare, J.base, J.hok, rfl, q⟩
  | brk =>
    obtain ⟨_, _, _, q⟩ := hs
    exact q.elim
  | cont =>
    obtain ⟨_, _, _, q⟩ := hs
    exact q.elim
end

section
variable {X : Cx} {CX : CXT} {k : Nat} {f : Addr} {fd : FuncData} {ps : List Str} {sp : Sp} {E : XK}
  {x : Str} {p pos : Pos} {e : Expr} {es : List Expr} {t : TA}
theorem call_g {pins : List (Addr × Obj)} {σ : L2.St} {H : Hp} {s : Shared} {Q : VK} {us : List Value} {vs : List V}
    (F : FnG X.prog X.w X.K X.mg X.base CX k f fd ps sp) (hr : Rm k X.A) (hb : Binds X.K fd ps [])
    (hx : Passes CX X E) (I : Inv X pins σ H s) (r : Vals vs us) (h : sp vs H Q E) :
    wpAny (model X.prog X.w) X.A (call (.ref f) us) (EP X pins σ Q) X.xe s := by
  have nl : (us ++ []).length = ps.length := by
    rw [List.append_nil, ← r.length]
    exact F.arity h
  have bd := hb s us I.kIn nl
  rw [List.append_nil] at bd
  refine wpAny_call (codeAny_mono (F.runs hr I.env0 bd r h) ?_)
  intro res s' hq
  cases res with
  | error e => exact hx pins σ H s e s' I hq
  | ok fl =>
    cases fl with
    | ret u => exact I.after hq
    | next => exact hq.elim
    | brk => exact hq.elim
    | cont => exact hq.elim
/-- f(e, ..), f a def of the text -/
theorem pe_g (F : FnG X.prog X.w X.K X.mg X.base CX k f fd ps sp) (hr : Rm k X.A) (hm : X.mg x = some (.ref f))
    (hk : PySem.W.keepIn X.K (.ref f) = true) (hb : Binds X.K fd ps []) (hx : Passes CX X E) (ha : PA X (e :: es) t) (hg : Gl X x := by rfl)
    (hdb : (x == ("__debug__" : Str)) = false := by decide)
    (he : starEach (e :: es) X.env = (false, eval e X.env) :: starEach es X.env := by rfl)
    (hpl : (backTo pos (starEach es X.env)).any (·.1) = false := by rfl) :
    PE X (.Call (.Name x p) (e :: es) [] pos) (fun σ H Q => t σ H fun vs H1 => sp vs H1 Q E) := by
  constructor
  intro pins s σ H Q I h
  refine wpAny_Call_Name_kw (ld_glob I hg hm ?_ hdb)
  refine PySem.W.callWith_K (h₀ := X.base) I.ok.mod.kin hk ?_ he hpl
  exact thn (ha.run pos pins s σ H _ I h) fun us s1 ⟨vs, H1, I1, r, q⟩ => ⟨I1.kIn, call_g F hr hb hx I1 r q⟩
end

/-! the law's own end: its def is called where nothing is under way -/
section
variable {P : Program} {w : World} {K : PySem.W.Frag} {mg mb : Str → Option Value} {CX : CXT} {k : Nat} {fa a : Addr}
  {fd : FuncData} {x : Str} {sp : Sp} {s : Shared} {vs : List Value} {ns : List Int}
/-- the goal behind the call -/
def LawEnd (s : Shared) (r : Result) (t : Shared) : Prop :=
  r = .ok (.ret (.bool true)) ∧ OldK s.heap t.heap ∧ t.os = s.os ∧ AllBare t.gens
theorem law_core {H : Hp}
    (KX : K.In s.heap) (hns : s.heap.Ns mainGlobals mg) (hb : s.heap.Ns builtinsNs mb)
    (hbb : ∀ y : Str, y ≠ "__name__" → mb y = bootBuiltins y) (nl : s.heap.NoLimit) (hg : s.gens = #[])
    (ha : s.heap.get? a = some { cls := .type "list", data := .seq vs.toArray }) (hr : Rm k callerA)
    (F : ∀ base : Heap, K.In base → base.Ns mainGlobals mg → FnG P w K mg base CX k fa fd [x] sp)
    (hbind : ∀ (s : Shared) (u : Value), BindsTo s fd ⟨[u], []⟩ [(x, u)])
    (hsp : sp [.ref a] H (fun v _ => v = .bl true) fun _ _ _ => False)
    (hCX : ∀ e s', CX [] H s (fun _ _ _ => False) e s' → False)
    (only : Only H) (ok : HOk P w H s.heap) (at_a : ∀ b, H b ≠ none → b = a) (out : H a ≠ none → K.lookup a = none) :
    codeAny (model P w) callerA (.call (.ref fa) ⟨[.ref a], []⟩) (LawEnd s) s := by
  have ne_a : ∀ {b : Addr} {o : Obj}, s.heap.get? b = some o → (∀ y n, o.data ≠ .seq y n) → H b = none := by
    intro b o e no
    by_cases hb : H b = none
    · exact hb
    · rw [at_a b hb, ha] at e
      exact absurd (congrArg Obj.data (Option.some.inj e)).symm (no _ _)
  have sees : ∀ {b : Addr} {m : Str → Option Value}, s.heap.Ns b m → (hidT s.heap H).Ns b m := by
    rintro b m ⟨o, es, ep, e, d, r⟩
    refine ⟨o, es, ep, hidT_get e (ne_a e ?_), d, r⟩
    intro y n z
    rw [d] at z
    cases z
  have inB : K.In (hidT s.heap H) := by
    intro b o e
    refine hidT_get (KX b o e) ?_
    by_cases hb : H b = none
    · exact hb
    · have eb := at_a b hb
      subst eb
      rw [out hb] at e
      cases e
  obtain ⟨mc, l1, l2⟩ := nl
  have md : Mod K mg (hidT s.heap H) := ⟨inB, sees hns, ⟨mb, sees hb, hbb⟩, ⟨mc, sees l1, l2⟩⟩
  have e0 : Env0 P w K mg (hidT s.heap H) callerA [] s H := by
    refine ⟨rfl, md, fun b o e => of_hidT e, Nat.le_of_eq (hidT_size _ _), trivial, ?_, ok, .of_eq hg⟩
    intro b z
    cases z
  have vv : Vals [V.ref a] [Value.ref a] := .cons rfl .nil
  refine codeAny_mono ((F _ inB (sees hns)).runs (us := [.ref a]) hr e0 (hbind s (.ref a)) vv hsp) ?_
  intro r t h
  cases r with
  | error e => exact (hCX e t h).elim
  | ok fl =>
    cases fl with
    | next => exact h.elim
    | brk => exact h.elim
    | cont => exact h.elim
    | ret u =>
      obtain ⟨v, H', os, bare, un, ok', rv, q⟩ := h
      have q2 : v = .bl true := q
      subst q2
      have eu : u = Value.bool true := rv
      subst eu
      refine ⟨rfl, OldK.of_keep ?_, os, bare⟩
      intro b o e
      cases hb : H b with
      | none => exact un.keep b o e hb (by intro z; cases z) (by intro z; cases z)
      | some y =>
        cases only b with
        | inl z => exact absurd (hb.symm.trans z) (by intro z; cases z)
        | inr z =>
          obtain ⟨ob, xs, z⟩ := z
          have e1 := (ok b _ z).1
          have e2 := (ok' b _ (un.frzs b ob _ z)).1
          rw [e] at e1
          cases e1
          exact e2
theorem law_g
    (KX : K.In s.heap) (hns : s.heap.Ns mainGlobals mg) (hb : s.heap.Ns builtinsNs mb)
    (hbb : ∀ y : Str, y ≠ "__name__" → mb y = bootBuiltins y) (nl : s.heap.NoLimit) (hg : s.gens = #[])
    (ha : s.heap.get? a = some { cls := .type "list", data := .seq vs.toArray }) (hi : IntsAre vs ns) (hl : ns.length ≤ sizeLine)
    (hr : Rm k callerA)
    (F : ∀ base : Heap, K.In base → base.Ns mainGlobals mg → FnG P w K mg base CX k fa fd [x] sp)
    (hbind : ∀ (s : Shared) (u : Value), BindsTo s fd ⟨[u], []⟩ [(x, u)])
    (hsp : ∀ H : Hp, Only H → SqL K H a (ns.map V.int) → sp [.ref a] H (fun v _ => v = .bl true) fun _ _ _ => False)
    (hCX : ∀ H e s', CX [] H s (fun _ _ _ => False) e s' → False) :
    codeAny (model P w) callerA (.call (.ref fa) ⟨[.ref a], []⟩) (LawEnd s) s := by
  have rv := vals_ints hi
  have nv := hi.length
  cases free : K.lookup a with
  | some o =>
    have e := KX a o free
    rw [ha] at e
    cases e
    have only : Only (fun _ => none) := fun _ => .inl rfl
    refine law_core KX hns hb hbb nl hg ha hr F hbind (hsp _ only (.inr ⟨_, vs.toArray, _, free, rfl, rfl, rfl, ?_, by simpa using rv⟩))
      (hCX _) only (fun b u z => nomatch (show (none : Option HO) = some u from z)) (fun b z => absurd rfl z) (fun z => absurd rfl z)
    rw [List.size_toArray, nv]
    exact hl
  | none =>
    have only : Only (fun b => if b = a then some (.frz { cls := .type "list", data := .seq vs.toArray } (.lst (ns.map V.int))) else none) := by
      intro b
      by_cases e : b = a
      · exact .inr ⟨_, _, if_pos e⟩
      · exact .inl (if_neg e)
    refine law_core KX hns hb hbb nl hg ha hr F hbind (hsp _ only (.inl (.inr ⟨_, if_pos rfl⟩))) (hCX _) only ?_ ?_ (fun _ => free)
    · intro b u z
      by_cases e : b = a
      · have z1 := (if_pos e).symm.trans z
        cases z1
        subst e
        refine ⟨ha, ?_, vs, _, rv, ha⟩
        rw [List.length_map]
        exact hl
      · have z1 := (if_neg e).symm.trans z
        cases z1
    · intro b z
      by_cases e : b = a
      · exact e
      · exact absurd (if_neg e) z
end
/-- the head's end: what is known behind the top gives the law's promise -/
theorem walk_g {l : PySem.W.OpenLaw} {n k : Nat} {q : Program} {loose : List Str} {XP : (Str → Option Value) → Heap → Prop}
    {YP : World → Heap → Prop} {d : DefRec} {CX : CXT} {x : Str}
    (hn : l.most = some n) (hn2 : n ≤ sizeLine) (hdf : d.params.defaults = []) (hr : Rm k callerA)
    (F : ∀ (w : World) (mg : Str → Option Value) (fa : Addr) (h : Heap), YP w h → h.Ns mainGlobals mg → mg d.name = some (.ref fa) →
      ∃ (K : PySem.W.Frag) (fd : FuncData) (sp : Sp), K.In h ∧ (∀ (s : Shared) (u : Value), BindsTo s fd ⟨[u], []⟩ [(x, u)]) ∧
        (∀ (H : Hp) (a : Addr) (ns : List Int), ns.length ≤ n → SqL K H a (ns.map V.int) →
          sp [.ref a] H (fun v _ => v = .bl true) fun _ _ _ => False) ∧
        ∀ base : Heap, K.In base → base.Ns mainGlobals mg → FnG l.prog w K mg base CX k fa fd [x] sp)
    (hCX : ∀ (H : Hp) (s : Shared) (e : Value) (s' : Shared), CX [] H s (fun _ _ _ => False) e s' → False) :
    PySem.W.WalkO q loose XP YP l.row.toRowW d [] (fun f vs => PySem.call f vs) := by
  refine Att.attach_call hn hdf ?_
  intro w s0 s1 mg mb fa o pm cd doc a vs ns G Y ho hd hcd hmg hobj hints hlen hg
  obtain ⟨K, fd, sp, KX, hb, hsp, hF⟩ := F w mg fa _ Y G.T.g hmg
  exact law_g KX G.T.g G.T.b G.T.builtins G.T.nolimit hg hobj hints (Nat.le_trans hlen hn2) hr hF hb
    (fun H _ hS => hsp H a ns hlen hS) (fun H e s' => hCX H s1 e s')
end MM

set_option Elab.async false
set_option maxRecDepth 100000
set_option maxHeartbeats 2000000
set_option linter.all false
namespace MM
open PySem PySem.Spec PyProof.Rows L2

/-! a def of the text under its name -/
def Def (P : Program) (w : World) (K : PySem.W.Frag) (mg : Str → Option Value) (base : Heap) (CX : CXT) (k : Nat) (x : Str) (ps : List Str) (sp : Sp) : Prop :=
  ∃ f fd, FnG P w K mg base CX k f fd ps sp ∧ mg x = some (.ref f) ∧ PySem.W.keepIn K (.ref f) = true ∧ L2.Binds K fd ps [] ∧ ∃ oc od sl, K.lookup f = some ⟨oc, od, .func fd, sl⟩
/-- a def of the text as it stands behind the top -/
structure At (K : PySem.W.Frag) (mg : Str → Option Value) (x : Str) (st : Stmt) : Prop where
  fn : ∃ fd, FunD K x x (defArgs st) (defBody st) (defScope st) [] [] (He.ga K x) fd
  glo : mg x = some (.ref (He.ga K x))
section
variable {P : Program} {w : World} {K : PySem.W.Frag} {mg : Str → Option Value} {base : Heap} {CX : CXT} {j k : Nat} {x : Str} {ps : List Str} {sp : Sp} {st : Stmt}
theorem Def.le (D : Def P w K mg base CX j x ps sp) (h : j ≤ k) : Def P w K mg base CX k x ps sp :=
  let ⟨f, fd, F, r⟩ := D
  ⟨f, fd, F.le h, r⟩
theorem At.defX {N : List Str} (T : At K mg x st) (S : FnScope N ps (defScope st))
    (hb : ∀ (kV doc pm : Value) (an : Option Addr) (cd ct : Value) (us : List Value), us.length = ps.length →
      bindArgs (PySem.W.fnOf x x (defArgs st) (defBody st) (defScope st) .none kV doc pm an cd ct) ⟨us, []⟩ = pure (ps.zip us))
    (arity : ∀ vs H Q E, sp vs H Q E → vs.length = ps.length)
    (body : ∀ (f : Addr) (cd : Value) (A : Around) (out : List Env) (s : Shared) (H : Hp) (vs : List V) (Q : VK) (E : XK),
      Rm k (A.deeper (envOfC x (defScope st) s.heap.objs.size f cd)) → sp vs H Q E →
      ∃ t, PSs (cxOf CX P w K mg base N x (defScope st) f cd A out s H E) (defBody st) t ∧
        t { nx := fun _ H' => Q .non H', rt := Q } (start N vs) H) : Def P w K mg base CX (k + 1) x ps sp := by
  obtain ⟨fd, F⟩ := T.fn
  obtain ⟨oc, od, _, _, _, _, _, _, _, osl, _, lk, _⟩ := F.ex
  exact ⟨_, fd, FnG.body F S arity (body _), T.glo, F.kp, F.bindsN hb, oc, od, osl, lk⟩
/-- the same for a def that nothing leaves -/
theorem At.def_ {N : List Str} (T : At K mg x st) (S : FnScope N ps (defScope st))
    (hb : ∀ (kV doc pm : Value) (an : Option Addr) (cd ct : Value) (us : List Value), us.length = ps.length →
      bindArgs (PySem.W.fnOf x x (defArgs st) (defBody st) (defScope st) .none kV doc pm an cd ct) ⟨us, []⟩ = pure (ps.zip us))
    (arity : ∀ vs H Q E, sp vs H Q E → vs.length = ps.length)
    (body : ∀ (f : Addr) (cd : Value) (A : Around) (out : List Env) (s : Shared) (H : Hp) (vs : List V) (Q : VK) (E : XK),
      Rm k (A.deeper (envOfC x (defScope st) s.heap.objs.size f cd)) → sp vs H Q E →
      ∃ t, PSs (cxOf CX P w K mg base N x (defScope st) f cd A out s H E).nox (defBody st) t ∧
        t { nx := fun _ H' => Q .non H', rt := Q } (start N vs) H) : Def P w K mg base CX (k + 1) x ps sp := by
  refine T.defX S hb arity (fun f cd A out s H vs Q E hr h => ?_)
  obtain ⟨t, d, q⟩ := body f cd A out s H vs Q E hr h
  exact ⟨t, d.nox, q⟩
end
section
variable {X : Cx} {CX : CXT} {k : Nat} {ps : List Str} {sp : Sp} {E : XK} {x : Str} {p pos : Pos} {e : Expr} {es : List Expr} {t : TA}
/-- f(e, ..) -/
def tD (sp : Sp) (E : XK) (t : TA) : TE := fun σ H Q => t σ H fun vs H1 => sp vs H1 Q E
theorem pe_d (D : Def X.prog X.w X.K X.mg X.base CX k x ps sp) (hr : Rm k X.A) (hx : Passes CX X E) (ha : PA X (e :: es) t) (hg : Gl X x := by rfl)
    (hdb : (x == ("__debug__" : Str)) = false := by decide)
    (he : starEach (e :: es) X.env = (false, eval e X.env) :: starEach es X.env := by rfl)
    (hpl : (backTo pos (starEach es X.env)).any (·.1) = false := by rfl) : PE X (.Call (.Name x p) (e :: es) [] pos) (tD sp E t) := by
  obtain ⟨f, fd, F, hm, hk, hb, _⟩ := D
  exact pe_g F hr hm hk hb hx ha hg hdb he hpl
end

/-! tests whose answer is known -/
theorem ifT {c : Bool} {A B : Prop} (h : c = true) (a : A) : if c = true then A else B := by
  rw [if_pos h]
  exact a
theorem ifF {c : Bool} {A B : Prop} (h : c = false) (b : B) : if c = true then A else B := by
  rw [h, if_neg Bool.false_ne_true]
  exact b
theorem dInt (a b : Int) : decide (V.int a = V.int b) = decide (a = b) := by
  by_cases e : a = b
  · rw [e, decide_eq_true rfl, decide_eq_true rfl]
  · rw [decide_eq_false e, decide_eq_false (fun z => e (V.int.inj z))]
/-! more rules by values -/
section
variable {X : Cx}
/-- ** of great numbers -/
def CPw (i j : Int) : Prop := 0 ≤ j ∧ (Builtin.Int.intBits i : Int) * j ≤ 2 ^ 27
instance (i j : Int) : Decidable (CPw i j) := inferInstanceAs (Decidable (_ ∧ _))
instance (i j : Int) : Decidable (CDivW i j) := inferInstanceAs (Decidable (_ ∧ _))
theorem op_pw : OpR X (binaryOp .Pow) (rI CPw fun i j => .int (i ^ j.toNat)) := opI fun _ _ _ _ _ _ _ hc q => pow_int hc.1 hc.2 q
/-- repr of data -/
def rRepr (K : PySem.W.Frag) : List V → Hp → VK → Prop := fun xs H Q =>
  ∃ x d, xs = [x] ∧ Dp K H x d ∧ SeqAt.shaped d = true ∧ d.showable = true ∧ d.shown.length ≤ sizeLine ∧ Q (.str d.shown) H
theorem cr_repr (hg : X.A.guards = some []) (hu : X.A.units + 66 < cLine) : CallR X (.builtin "repr") (rRepr X.K) := by
  intro pins s σ H xs us Q I r h
  obtain ⟨x, d, rfl, hd, hs, hw, hz, q⟩ := h
  obtain ⟨u, rfl, ru⟩ := vals1 r
  have hdep := SeqAt.depth_of_shaped hs
  have hno := PyData.hasDict_of_canLay d (SeqAt.canLay_of_shaped hs)
  obtain ⟨as, rd⟩ := Dp.reads I d x u hd ru
  have fin : ∀ (h' : Heap) (z : Tok) (tk : Nat), (∀ b o, s.heap.get? b = some o → h'.get? b = some o) →
      EP X pins σ Q (.str d.shown z) { s with heap := h', toks := tk } := fun h' z tk hk => ⟨.str _, H, I.kept hk, ⟨_, rfl⟩, q⟩
  cases hd with
  | non =>
    cases ru
    exact PySem.P.repr_of_none (fin s.heap _ _ fun _ _ e => e)
  | bl b =>
    cases ru
    exact PySem.P.repr_of_bool (fin s.heap _ _ fun _ _ e => e)
  | int i =>
    obtain ⟨t, rfl⟩ := ru
    exact PySem.P.repr_of_int (of_decide_eq_true hw) (fin s.heap _ _ fun _ _ e => e)
  | str z =>
    obtain ⟨t, rfl⟩ := ru
    exact PySem.P.repr_of_str (fin s.heap _ _ fun _ _ e => e) hz
  | lst h1 h2 =>
    cases ru
    exact repr_of_reads' rd hw (PyData.noDict_hsm hno) hg (by omega) (fun _ _ e => e) (fun h' z tk hk => fin h' z tk hk) hz
  | tup h1 h2 =>
    cases ru
    exact repr_of_reads' rd hw (PyData.noDict_hsm hno) hg (by omega) (fun _ _ e => e) (fun h' z tk hk => fin h' z tk hk) hz
end
end MM

set_option Elab.async false
set_option maxRecDepth 100000
set_option maxHeartbeats 2000000
set_option linter.all false
namespace MM
open PySem PySem.Spec PyProof.Rows L2
/-! what kind a value is of -/
inductive Kn where
  | non | bl | int | str | lst | tup | dct
def Kn.name : Kn → String
  | .non => "NoneType"
  | .bl => "bool"
  | .int => "int"
  | .str => "str"
  | .lst => "list"
  | .tup => "tuple"
  | .dct => "dict"
def Kn.isa : Kn → Kn → Bool
  | .bl, .int => true
  | .non, .non => true
  | .bl, .bl => true
  | .int, .int => true
  | .str, .str => true
  | .lst, .lst => true
  | .tup, .tup => true
  | .dct, .dct => true
  | _, _ => false
theorem Kn.isa_ok (n m : Kn) : kitB n.name m.name = some (n.isa m) := by cases n <;> cases m <;> decide +kernel
inductive Kd (K : PySem.W.Frag) (H : Hp) : V → Kn → Prop where
  | non : Kd K H .non .non
  | bl (b : Bool) : Kd K H (.bl b) .bl
  | int (i : Int) : Kd K H (.int i) .int
  | str (z : Str) : Kd K H (.str z) .str
  | lst {a : Addr} {xs : List V} (h : SqL K H a xs) : Kd K H (.ref a) .lst
  | tup {a : Addr} {xs : List V} (h : SqT K H a xs) : Kd K H (.ref a) .tup
  | dct {a : Addr} {kvs : List (Key × V)} (h : H a = some (.dK kvs)) : Kd K H (.ref a) .dct
theorem Kd.ty {K : PySem.W.Frag} {H : Hp} {x : V} {n : Kn} (h : Kd K H x n) : TyX K H x (.type n.name) := by
  cases h with
  | non => exact .base .non
  | bl b => exact .base (.bl b)
  | int i => exact .base (.int i)
  | str z => exact .base (.str z)
  | lst h =>
    rcases h with (h | ⟨o, h⟩) | ⟨o, its, k, h, c, _⟩
    · exact .base (.lst h)
    · exact .base (.frz h)
    · exact .kList h c
  | tup h =>
    rcases h with h | h
    · rcases h with h | ⟨o, h⟩
      · exact .base (.tup h)
      · exact .fTuple h
    · obtain ⟨o, its, k, h, c, _⟩ := h
      exact .kTuple h c
  | dct h => exact .base (.dK h)
/-- an int, and no bool -/
def isW : V → Bool
  | .int _ => true
  | _ => false
section
variable {X : Cx}
def rIs (K : PySem.W.Frag) (m : Kn) : List V → Hp → VK → Prop := fun xs H Q => ∃ x n, xs = [x, .ty m.name] ∧ Kd K H x n ∧ Q (.bl (n.isa m)) H
theorem cr_is (m : Kn) : CallR X (.builtin "isinstance") (rIs X.K m) := by
  intro pins s σ H xs us Q I r h
  obtain ⟨x, n, rfl, hk, q⟩ := h
  exact call_isi pins s σ H _ us Q I r ⟨x, .ty m.name, .type n.name, .type m.name, n.isa m, rfl, .ty _, hk.ty, kit_ty (n.isa_ok m), q⟩
/-- a built-in class by its name -/
theorem pe_ty (m : Kn) {x : Str} {pos : Pos} (hm : X.mg x = none) (hv : bootBuiltins x = some (.type m.name)) (hg : Gl X x := by rfl) (hn : x ≠ "__name__" := by decide)
    (hdb : (x == ("__debug__" : Str)) = false := by decide) : PE X (.Name x pos) (tC (.ty m.name)) := pe_bltn hg hm hv rfl hn hdb
end
/-! heaps -/
theorem same_new {H : Hp} {p : Addr} {o : HO} (h : H p = none) : Same H (upd H p o) := fun b x e => by
  rw [upd_ne (ne_of_none e h)]
  exact e
theorem sql_new {K : PySem.W.Frag} {H : Hp} {p l : Addr} {xs : List V} {o : HO} (h : SqL K H l xs) (n : H p = none) : SqL K (upd H p o) l xs := (same_new n).seq h
theorem same_sqt {K : PySem.W.Frag} {H H' : Hp} {a : Addr} {xs : List V} (e : Same H H') (h : SqT K H a xs) : SqT K H' a xs := by
  rcases h with (h | ⟨o, h⟩) | h
  · exact .inl (.inl (e _ _ h))
  · exact .inl (.inr ⟨o, e _ _ h⟩)
  · exact .inr h
theorem sqt_new {K : PySem.W.Frag} {H : Hp} {p l : Addr} {xs : List V} {o : HO} (h : SqT K H l xs) (n : H p = none) : SqT K (upd H p o) l xs := same_sqt (same_new n) h
theorem sql_upd {K : PySem.W.Frag} {H : Hp} {p l : Addr} {xs : List V} {o : HO} (h : SqL K H l xs) (ne : l ≠ p) : SqL K (upd H p o) l xs := by
  rcases h with (h | ⟨u, h⟩) | h
  · exact .inl (.inl (by rw [upd_ne ne]; exact h))
  · exact .inl (.inr ⟨u, by rw [upd_ne ne]; exact h⟩)
  · exact .inr h
theorem sqt_upd {K : PySem.W.Frag} {H : Hp} {p l : Addr} {xs : List V} {o : HO} (h : SqT K H l xs) (ne : l ≠ p) : SqT K (upd H p o) l xs := by
  rcases h with (h | ⟨u, h⟩) | h
  · exact .inl (.inl (by rw [upd_ne ne]; exact h))
  · exact .inl (.inr ⟨u, by rw [upd_ne ne]; exact h⟩)
  · exact .inr h
theorem Kd.same {K : PySem.W.Frag} {H H' : Hp} {x : V} {n : Kn} (e : Same H H') (h : Kd K H x n) : Kd K H' x n := by
  cases h with
  | non => exact .non
  | bl b => exact .bl b
  | int i => exact .int i
  | str z => exact .str z
  | lst h => exact .lst (e.seq h)
  | tup h => exact .tup (same_sqt e h)
  | dct h => exact .dct (e _ _ h)
/-! a list comprehension whose elements are reckoned without a new object -/
section
variable {K : PySem.W.Frag} {v : Nat} {te : TE} {σ : L2.St} {H1 : Hp} {D : Addr} {Qd : Hp → Prop} {n : Nat}
/-- what tLc asks of its walk -/
def LcW (J : It) (g : TG) (tt : TT) (te : TE) (vs : List Nat) (σ : L2.St) (H1 : Hp) (D : Addr) (Qd : Hp → Prop) : Prop :=
  ∃ W : Nat → Nat → Hp → Prop, (∃ m, W 0 m (upd H1 D (.lst []))) ∧ ∀ i m H, W i m H →
    (J.stop i H ∧ Qd H) ∨ (J.go i H ∧ ∃ Nx : Hp → Prop, (∀ H', Nx H' → ∃ m', m' < m ∧ W (i + 1) m' H') ∧
      ∀ x H', J.yld i H x H' → g x (wipe σ vs) H' fun σ2 H2 => wipe σ2 vs = wipe σ vs ∧ tt σ2 H2 fun b H3 =>
        if b = true then te σ2 H3 fun y H4 => ∃ acc, H4 D = some (.lst acc) ∧ acc.length < sizeLine ∧ Nx (upd H4 D (.lst (acc ++ [y]))) else Nx H3)
theorem yes_ {H : Hp} {A B : Hp → Prop} (h : A H) : tYes σ H fun b H3 => if b = true then A H3 else B H3 := by
  show (if true = true then A H else B H)
  rw [if_pos rfl]
  exact h
theorem wipe_one {x : Option V} : wipe ((wipe σ [v]).set v x) [v] = wipe σ [v] := by
  show ((σ.set v none).set v x).set v none = σ.set v none
  rw [List.set_set, List.set_set]
theorem lc_rng {lo : Int} (f : Nat → V) (hn : n ≤ sizeLine)
    (hs : ∀ i acc, i < n → ∀ Q : VK, Q (f i) (upd H1 D (.lst acc)) → te ((wipe σ [v]).set v (some (.int (lo + i)))) (upd H1 D (.lst acc)) Q)
    (hd : Qd (upd H1 D (.lst ((List.range n).map f)))) : LcW (Itr lo n) (gName v) tYes te [v] σ H1 D Qd := by
  refine lc_range (Pv := fun i H => H = upd H1 D (.lst ((List.range i).map f))) rfl ?_ (fun H e => by rw [e]; exact hd)
  intro i H hi e
  subst e
  refine ⟨wipe_one, yes_ ?_⟩
  refine hs i _ hi _ ⟨_, upd_same, ?_, ?_⟩
  · rw [List.length_map, List.length_range]
    exact Nat.lt_of_lt_of_le hi hn
  · rw [upd_upd, List.range_succ, List.map_append]
    rfl
theorem lc_seq {a : Addr} {xs : List V} (f : V → V) (hx : SqL K H1 a xs) (nD : H1 D = none) (hn : xs.length ≤ sizeLine)
    (hs : ∀ x acc, x ∈ xs → ∀ Q : VK, Q (f x) (upd H1 D (.lst acc)) → te ((wipe σ [v]).set v (some x)) (upd H1 D (.lst acc)) Q)
    (hd : Qd (upd H1 D (.lst (xs.map f)))) : LcW (Itl K a) (gName v) tYes te [v] σ H1 D Qd := by
  refine lc_list (xs := xs) (Pv := fun i H => H = upd H1 D (.lst ((xs.take i).map f))) rfl (fun i H _ e => by rw [e]; exact sql_new hx nD) ?_ (fun H e => by rw [e, List.take_length]; exact hd)
  intro i x H hi e
  subst e
  have lt : i < xs.length := (List.getElem?_eq_some_iff.mp hi).1
  refine ⟨wipe_one, yes_ ?_⟩
  refine hs x _ (List.mem_of_getElem? hi) _ ⟨_, upd_same, ?_, ?_⟩
  · rw [List.length_map, List.length_take]
    omega
  · rw [upd_upd, List.take_add_one, hi, List.map_append]
    rfl
theorem lc_tpl {a : Addr} {xs : List V} (f : V → V) (hx : SqT K H1 a xs) (nD : H1 D = none) (hn : xs.length ≤ sizeLine)
    (hs : ∀ x acc, x ∈ xs → ∀ Q : VK, Q (f x) (upd H1 D (.lst acc)) → te ((wipe σ [v]).set v (some x)) (upd H1 D (.lst acc)) Q)
    (hd : Qd (upd H1 D (.lst (xs.map f)))) : LcW (Itt K a) (gName v) tYes te [v] σ H1 D Qd := by
  refine lc_tup (xs := xs) (Pv := fun i H => H = upd H1 D (.lst ((xs.take i).map f))) rfl (fun i H _ e => by rw [e]; exact sqt_new hx nD) ?_ (fun H e => by rw [e, List.take_length]; exact hd)
  intro i x H hi e
  subst e
  have lt : i < xs.length := (List.getElem?_eq_some_iff.mp hi).1
  refine ⟨wipe_one, yes_ ?_⟩
  refine hs x _ (List.mem_of_getElem? hi) _ ⟨_, upd_same, ?_, ?_⟩
  · rw [List.length_map, List.length_take]
    omega
  · rw [upd_upd, List.take_add_one, hi, List.map_append]
    rfl
/-- with a test -/
theorem lc_rngF {tt : TT} {lo : Int} (p : Nat → Bool) (f : Nat → V) (hn : n ≤ sizeLine)
    (ht : ∀ i acc, i < n → ∀ Q : Bool → Hp → Prop, Q (p i) (upd H1 D (.lst acc)) → tt ((wipe σ [v]).set v (some (.int (lo + i)))) (upd H1 D (.lst acc)) Q)
    (hs : ∀ i acc, i < n → p i = true → ∀ Q : VK, Q (f i) (upd H1 D (.lst acc)) → te ((wipe σ [v]).set v (some (.int (lo + i)))) (upd H1 D (.lst acc)) Q)
    (hd : Qd (upd H1 D (.lst (((List.range n).filter p).map f)))) : LcW (Itr lo n) (gName v) tt te [v] σ H1 D Qd := by
  refine lc_range (Pv := fun i H => H = upd H1 D (.lst (((List.range i).filter p).map f))) rfl ?_ (fun H e => by rw [e]; exact hd)
  intro i H hi e
  subst e
  have le : (((List.range i).filter p).map f).length ≤ i := by
    rw [List.length_map]
    exact Nat.le_trans (List.length_filter_le _ _) (Nat.le_of_eq List.length_range)
  refine ⟨wipe_one, ht i _ hi _ ?_⟩
  cases e : p i with
  | true =>
    rw [if_pos rfl]
    refine hs i _ hi e _ ⟨_, upd_same, Nat.lt_of_le_of_lt le (Nat.lt_of_lt_of_le hi hn), ?_⟩
    rw [upd_upd, List.range_succ, List.filter_append, List.map_append]
    simp [e]
  | false =>
    rw [if_neg Bool.false_ne_true, List.range_succ, List.filter_append, List.map_append]
    simp [e]
end
/-! data: ints and bools in lists and tuples -/
section
variable {K : PySem.W.Frag} {H : Hp}
theorem dp_ints : ∀ ns : List Int, DpAll K H (ns.map V.int) (ns.map PyData.int)
  | [] => .nil
  | n :: r => .cons (.int n) (dp_ints r)
theorem dp_bools : ∀ bs : List Bool, DpAll K H (bs.map V.bl) (bs.map PyData.bool)
  | [] => .nil
  | b :: r => .cons (.bl b) (dp_bools r)
end
theorem lay_ints : ∀ ns : List Int, PyData.canLayAll0 (ns.map PyData.int) = true
  | [] => rfl
  | n :: r => by
    show (PyData.canLay0 (.int n) && PyData.canLayAll0 (r.map PyData.int)) = true
    rw [lay_ints r]
    rfl
theorem dep_ints : ∀ ns : List Int, PyData.depthAll (ns.map PyData.int) ≤ 1
  | [] => by decide
  | n :: r => by
    have := dep_ints r
    simp only [List.map_cons, PyData.depthAll, PyData.depth]
    omega
theorem shaped_ints (ns : List Int) : SeqAt.shaped (.list (ns.map PyData.int)) = true := by
  unfold SeqAt.shaped
  have h := dep_ints ns
  rw [show PyData.canLay0 (.list (ns.map PyData.int)) = true from lay_ints ns, Bool.true_and]
  refine decide_eq_true ?_
  simp only [PyData.depth]
  omega
theorem lay_bools : ∀ bs : List Bool, PyData.canLayAll0 (bs.map PyData.bool) = true
  | [] => rfl
  | b :: r => by
    show (PyData.canLay0 (.bool b) && PyData.canLayAll0 (r.map PyData.bool)) = true
    rw [lay_bools r]
    rfl
theorem dep_bools : ∀ bs : List Bool, PyData.depthAll (bs.map PyData.bool) ≤ 1
  | [] => by decide
  | n :: r => by
    have := dep_bools r
    simp only [List.map_cons, PyData.depthAll, PyData.depth]
    omega
theorem shaped_bools (bs : List Bool) : SeqAt.shaped (.list (bs.map PyData.bool)) = true := by
  unfold SeqAt.shaped
  have h := dep_bools bs
  rw [show PyData.canLay0 (.list (bs.map PyData.bool)) = true from lay_bools bs, Bool.true_and]
  refine decide_eq_true ?_
  simp only [PyData.depth]
  omega
theorem shapedT_ints (ns : List Int) : SeqAt.shaped (.tuple (ns.map PyData.int)) = true := by
  unfold SeqAt.shaped
  have h := dep_ints ns
  rw [show PyData.canLay0 (.tuple (ns.map PyData.int)) = true from lay_ints ns, Bool.true_and]
  refine decide_eq_true ?_
  simp only [PyData.depth]
  omega
theorem eqvAll_ints : ∀ ns ms : List Int, PyData.eqvAll (ns.map PyData.int) (ms.map PyData.int) = decide (ns = ms)
  | [], [] => rfl
  | [], _ :: _ => rfl
  | _ :: _, [] => rfl
  | n :: r, m :: q => by
    show (PyData.eqv (.int n) (.int m) && PyData.eqvAll (r.map PyData.int) (q.map PyData.int)) = _
    rw [eqvAll_ints r q]
    show ((n == m) && decide (r = q)) = _
    by_cases e : n = m
    · subst e
      by_cases f : r = q
      · subst f
        simp
      · simp [f]
    · simp [e]
end MM

set_option Elab.async false
set_option linter.all false
set_option maxRecDepth 100000
set_option maxHeartbeats 2000000
namespace K01
open PySem PySem.Spec PyProof.Rows L2 MM
def topS (i : Nat) : Stmt := PySem.Challenge.pw_movemarks_k01_whole_integers_and_ratios.main.body.getD i (.Pass ⟨0, 0, 0, 0⟩)
/-! own words for the readings: a step, its side -/
local macro_rules | `(tactic| walk_at "side") => `(tactic| first
  | omega
  | exact ⟨by omega, by omega⟩
  | exact Or.inl ⟨by omega, by omega⟩
  | exact Or.inr ⟨by omega, by omega⟩
  | (show CPw _ _; decide +kernel)
  | (show (0 : Int) < _; decide +kernel)
  | (show CDivW _ _; first | assumption | exact ⟨by decide, by decide +kernel⟩))
local macro_rules | `(tactic| walk_at "here") => `(tactic| first
  | assumption
  | exact upd_same
  | exact Or.inl (Or.inl upd_same)
  | exact Or.inl upd_same)
local macro_rules | `(tactic| walk_at "one") => `(tactic| first
  | refine ⟨_, rfl, ?_⟩
  | refine Or.inl ⟨_, rfl, ?_⟩
  | refine Or.inr ⟨_, rfl, ?_⟩
  | refine ⟨_, _, rfl, rfl, (by walk_at "side"), ?_⟩
  | refine ⟨_, _, rfl, rfl, ?_⟩
  | refine ⟨_, _, rfl, Or.inl (by walk_at "here"), ?_⟩
  | refine ⟨_, _, rfl, Or.inr (by walk_at "here"), ?_⟩
  | refine ⟨_, _, rfl, (by walk_at "here"), ?_⟩
  | refine ⟨_, _, _, _, rfl, rfl, (by walk_at "here"), rfl, ?_⟩
  | refine ⟨_, _, rfl, ?_⟩
  | refine ifT (by rfl) ?_
  | refine ifF (by rfl) ?_
  | refine ifT (decide_eq_true (by omega)) ?_
  | refine ifF (decide_eq_false (by omega)) ?_)
local macro_rules | `(tactic| walk_at "st") => `(tactic| repeat (walk_at "one"))

abbrev sIsWhole : Stmt := topS 10
abbrev sIsInteger : Stmt := topS 11
abbrev sIsBetween : Stmt := topS 12
abbrev sNeedBetween : Stmt := topS 13
abbrev sIsPrime : Stmt := topS 14
abbrev sNeedPrime : Stmt := topS 15
abbrev sIsRatio : Stmt := topS 16
abbrev sPrimeFactors : Stmt := topS 17
abbrev sNeedDivided : Stmt := topS 18
abbrev sPartAt : Stmt := topS 19
abbrev sNeedNumbers : Stmt := topS 20
abbrev sCommonDivisor : Stmt := topS 21
abbrev sCommonMultiple : Stmt := topS 22
abbrev sReduced : Stmt := topS 23
abbrev sLowest : Stmt := topS 24
abbrev sBagL : Stmt := topS 26
abbrev sGrabL : Stmt := topS 27
abbrev sOneOfL : Stmt := topS 28
abbrev sNbDivisorL : Stmt := topS 29
abbrev sNbFactorsL : Stmt := topS 30
abbrev sNbIsShortL : Stmt := topS 31
abbrev sNbIsPrimeL : Stmt := topS 32
abbrev sNbIsRatioL : Stmt := topS 33
abbrev sNbDrawnL : Stmt := topS 34
abbrev sJudgedRightL : Stmt := topS 35
abbrev sFactorsRightL : Stmt := topS 36
abbrev sCommonsRightL : Stmt := topS 37
abbrev sLaw : Stmt := topS 38
structure Tx (K : PySem.W.Frag) (mg : Str → Option Value) : Prop where
  t_is_whole : At K mg "is_whole" sIsWhole
  t_is_integer : At K mg "is_integer" sIsInteger
  t_is_between : At K mg "is_between" sIsBetween
  t_need_between : At K mg "need_between" sNeedBetween
  t_is_prime : At K mg "is_prime" sIsPrime
  t_need_prime : At K mg "need_prime" sNeedPrime
  t_is_ratio : At K mg "is_ratio" sIsRatio
  t_prime_factors : At K mg "prime_factors" sPrimeFactors
  t_need_divided : At K mg "_need_divided" sNeedDivided
  t_part_at : At K mg "part_at" sPartAt
  t_need_numbers : At K mg "_need_numbers" sNeedNumbers
  t_common_divisor : At K mg "common_divisor" sCommonDivisor
  t_common_multiple : At K mg "common_multiple" sCommonMultiple
  t_reduced : At K mg "reduced" sReduced
  t_lowest : At K mg "lowest" sLowest
  t_law_bag : At K mg "_law_bag" sBagL
  t_law_grab : At K mg "_law_grab" sGrabL
  t_law_one_of : At K mg "_law_one_of" sOneOfL
  t_law_nb_divisor : At K mg "_law_nb_divisor" sNbDivisorL
  t_law_nb_factors : At K mg "_law_nb_factors" sNbFactorsL
  t_law_nb_is_short : At K mg "_law_nb_is_short" sNbIsShortL
  t_law_nb_is_prime : At K mg "_law_nb_is_prime" sNbIsPrimeL
  t_law_nb_is_ratio : At K mg "_law_nb_is_ratio" sNbIsRatioL
  t_law_nb_drawn : At K mg "_law_nb_drawn" sNbDrawnL
  t_law_judged_right : At K mg "_law_judged_right" sJudgedRightL
  t_law_factors_right : At K mg "_law_factors_right" sFactorsRightL
  t_law_commons_right : At K mg "_law_commons_right" sCommonsRightL
  t_law : At K mg "law" sLaw
  f_abs : mg "abs" = none
  f_all : mg "all" = none
  f_bool : mg "bool" = none
  f_enumerate : mg "enumerate" = none
  f_int : mg "int" = none
  f_isinstance : mg "isinstance" = none
  f_len : mg "len" = none
  f_list : mg "list" = none
  f_max : mg "max" = none
  f_min : mg "min" = none
  f_range : mg "range" = none
  f_repr : mg "repr" = none
  f_sorted : mg "sorted" = none
  f_str : mg "str" = none
  f_sum : mg "sum" = none
  f_tuple : mg "tuple" = none
  c_MAX_PRIME : ∃ u, mg "MAX_PRIME" = some u ∧ RelV (.int (100)) u
  c_MAX_FACTORED : ∃ u, mg "MAX_FACTORED" = some u ∧ RelV (.int (10 ^ 9)) u
  c_MOST_NUMBERS : ∃ u, mg "MOST_NUMBERS" = some u ∧ RelV (.int (1000)) u
  c_TOO_LONG : ∃ u, mg "_TOO_LONG" = some u ∧ RelV (.int (10 ^ 60)) u
  b_gcd : mg "gcd" = some (.builtin "math.gcd")
  b_lcm : mg "lcm" = some (.builtin "math.lcm")

section
variable {P : Program} {w : World} {K : PySem.W.Frag} {mg : Str → Option Value} {base : Heap}
/-- a bag of draws -/
def BagAt (H : Hp) (p : Addr) : Prop := ∃ g m c : Int, H p = some (.lst [.int g, .int m, .int c])
def spBag (K : PySem.W.Frag) : Sp := fun vs H Q _ => ∃ (a : Addr) (n : Nat) (ns : List Int), vs = [.ref a, .int n] ∧ SqL K H a (ns.map V.int) ∧ n ≤ 100 ∧
  ∀ (H' : Hp) (p : Addr), Same H H' → H p = none → BagAt H' p → Q (.ref p) H'
theorem scBagL : FnScope ["_law_script", "_law_spot", "_law_cell", "_law_great", "_law_mixed"] ["_law_script", "_law_spot"] (defScope sBagL) :=
  ⟨rfl, rfl, rfl, by decide +kernel, rfl, by decide +kernel, by decide +kernel⟩
theorem dBagL (T : Tx K mg) : Def P w K mg base CX0 1 "_law_bag" ["_law_script", "_law_spot"] (spBag K) := by
  refine T.t_law_bag.def_ (N := ["_law_script", "_law_spot", "_law_cell", "_law_great", "_law_mixed"]) scBagL (fun _ _ _ _ _ _ us hl => match us, hl with | [_, _], _ => rfl) ?_ ?_
  · intro vs H Q E h
    obtain ⟨a, n, ns, rfl, _⟩ := h
    rfl
  · intro f cd A out s H vs Q E hr h
    obtain ⟨a, n, ns, rfl, hS, hn, q⟩ := h
    refine ⟨_, (pss_cons (ps_set (i := 2) scBagL.nd rfl (Or.inl rfl) (pe_ifExp (pt_cmpR op_lt (pv 1) (pe_callB call_len_seq rfl T.f_len (by decide +kernel) (pa_cons (pv 0) pa_nil)) (nomark _)) (pe_ix ix_list (pv 0) (pv 1) (fun _ _ => rfl)) (pe_op op_add (pe_op op_add (pe_callB (cr_sum rfl) rfl T.f_sum (by decide +kernel) (pa_cons (pe_slice sl_list (pv 0) po_none (po_some pe_int)) pa_nil)) (pe_op op_mul pe_int (pv 1))) pe_int)))
      (pss_cons (ps_set (i := 3) scBagL.nd rfl (Or.inl rfl) (pe_op op_mod (pe_callTy call_int1 rfl T.f_int (by decide +kernel) (pa_cons (pe_callB call_abs rfl T.f_abs (by decide +kernel) (pa_cons (pv 2) pa_nil)) pa_nil)) (pe_op op_pw (pe_op op_pw pe_int pe_int) pe_int)))
      (pss_cons (ps_set (i := 4) scBagL.nd rfl (Or.inl rfl) (pe_op op_add (pe_op op_add (pe_op op_add (pe_op op_mul (pe_op op_mod (pe_callTy call_int1 rfl T.f_int (by decide +kernel) (pa_cons (pv 3) pa_nil)) pe_int) pe_int) (pe_op op_mul pe_int (pv 1))) (pe_op op_mul pe_int (pe_callTy call_int1 rfl T.f_int (by decide +kernel) (pa_cons (pe_cmpR op_lt (pv 2) pe_int (nomark _)) pa_nil)))) pe_int))
      (pss_one (ps_ret (pe_lst (pa_cons (pe_callB (call_max2 rfl) rfl T.f_max (by decide +kernel) (pa_cons pe_int (pa_cons (pe_op op_sub (pv 3) (pe_op op_pw pe_int pe_int)) pa_nil))) (pa_cons (pe_op op_mod (pe_callTy call_int1 rfl T.f_int (by decide +kernel) (pa_cons (pv 4) pa_nil)) pe_int) (pa_cons pe_int pa_nil))))))))), ?_⟩
    -- behind the cell: whatever it is
    have fin : ∀ (H1 : Hp) (u v : Int), Same H H1 → ∀ p, H1 p = none → Q (.ref p) (upd H1 p (.lst [.int u, .int v, .int 0])) := by
      intro H1 u v sm p hp
      refine q _ p ?_ (sm.free hp) ⟨u, v, 0, upd_same⟩
      intro b o e
      rw [upd_ne (ne_of_none (sm b o e) hp)]
      exact sm b o e
    walk_at "st"
    refine ite2 (fun c => ?_) (fun c => ?_)
    · have lt : n < ns.length := by
        have := of_decide_eq_true c
        rw [List.length_map] at this
        omega
      refine ⟨_, rfl, _, rfl, a, _, _, _, rfl, rfl, hS, atI_cell lt, ?_⟩
      walk_at "st"
      exact ⟨by show 3 ≤ sizeLine; decide, fin H _ _ (Same.refl H)⟩
    · walk_at "st"
      intro p hp
      have sm : Same H (upd H p (.lst (cutV (ns.map V.int) none (some 1)))) := by
        intro b o e
        rw [upd_ne (ne_of_none e hp)]
        exact e
      have ec : cutV (ns.map V.int) none (some 1) = (ns.take 1).map V.int := by
        unfold cutV
        rw [HT.sIx_none, show HT.sIx (ns.map V.int).length (ns.map V.int).length (some 1) = min 1 (ns.map V.int).length from HT.sIx_nat _ _ 1, List.map_take, List.drop_zero, Nat.sub_zero]
        cases ns with
        | nil => rfl
        | cons x r => simp
      refine ⟨_, ns.take 1, rfl, ?_, ?_⟩
      · rw [← ec]
        exact .inl (.inl upd_same)
      walk_at "st"
      exact ⟨by show 3 ≤ sizeLine; decide, fin _ _ _ sm⟩
def spGrab : Sp := fun vs H Q _ => ∃ (p : Addr) (t g m c : Int), vs = [.ref p, .int t] ∧ H p = some (.lst [.int g, .int m, .int c]) ∧ CDivW 0 t ∧
  ∀ r g' m' c' : Int, 0 ≤ r → r < t → Q (.int r) (upd H p (.lst [.int g', .int m', .int c']))
theorem grab_out {H : Hp} {p : Addr} {t r : Int} {xs : List V} {Q : VK} (q : ∀ r g' m' c' : Int, 0 ≤ r → r < t → Q (.int r) (upd H p (.lst [.int g', .int m', .int c'])))
    (ht : 0 < t) (z : Int) (e : r = z % t) (ex : ∃ g' m' c', xs = [V.int g', V.int m', V.int c']) : Q (.int r) (upd H p (.lst xs)) := by
  obtain ⟨g', m', c', rfl⟩ := ex
  rw [e]
  exact q _ _ _ _ (Int.emod_nonneg _ (by omega)) (Int.emod_lt_of_pos _ ht)
theorem scGrabL : FnScope ["_law_bag_here", "_law_total", "_law_found", "_law_one", "_law_two"] ["_law_bag_here", "_law_total"] (defScope sGrabL) :=
  ⟨rfl, rfl, rfl, by decide +kernel, rfl, by decide +kernel, by decide +kernel⟩
theorem dGrabL (T : Tx K mg) : Def P w K mg base CX0 1 "_law_grab" ["_law_bag_here", "_law_total"] spGrab := by
  refine T.t_law_grab.def_ (N := ["_law_bag_here", "_law_total", "_law_found", "_law_one", "_law_two"]) scGrabL (fun _ _ _ _ _ _ us hl => match us, hl with | [_, _], _ => rfl) ?_ ?_
  · intro vs H Q E h
    obtain ⟨p, t, g, m, c, rfl, _⟩ := h
    rfl
  · intro f cd A out s H vs Q E hr h
    obtain ⟨p, t, g, m, c, rfl, hp, ht, q⟩ := h
    have ht0 : 0 < t := ht.1
    have hS : SqL K H p _ := .inl (.inl hp)
    have hd : ∀ i, CDivW i t := fun _ => ht
    refine ⟨_, (pss_cons (ps_if (pt_cmpR op_gt (pe_ix ix_list (pv 0) pe_int (fun _ _ => rfl)) pe_int (nomark _)) (pss_cons (ps_set (i := 2) scGrabL.nd rfl (Or.inl rfl) (pe_op op_mod (pe_callTy call_int1 rfl T.f_int (by decide +kernel) (pa_cons (pe_ix ix_list (pv 0) pe_int (fun _ _ => rfl)) pa_nil)) (pv 1)))
        (pss_cons (ps_asg (pe_op op_fdivW (pe_ix ix_list (pv 0) pe_int (fun _ _ => rfl)) (pv 1)) (pg_sub (pv 0) pe_int set_list))
        (pss_one (ps_ret (pv 2))))) pss_nil)
      (pss_cons (ps_asg (pe_op op_add (pe_ix ix_list (pv 0) pe_int (fun _ _ => rfl)) pe_int) (pg_sub (pv 0) pe_int set_list))
      (pss_cons (ps_set (i := 3) scGrabL.nd rfl (Or.inl rfl) (pe_op op_mod (pe_callTy call_int1 rfl T.f_int (by decide +kernel) (pa_cons (pe_op op_add (pe_ix ix_list (pv 0) pe_int (fun _ _ => rfl)) (pe_op op_mul pe_int (pe_ix ix_list (pv 0) pe_int (fun _ _ => rfl)))) pa_nil)) pe_int))
      (pss_cons (ps_set (i := 4) scGrabL.nd rfl (Or.inl rfl) (pe_op op_add (pe_op op_mul (pe_op op_mod (pe_callTy call_int1 rfl T.f_int (by decide +kernel) (pa_cons (pe_op op_mul (pv 3) (pv 3)) pa_nil)) pe_int) (pv 3)) (pe_op op_mul pe_int (pe_ix ix_list (pv 0) pe_int (fun _ _ => rfl)))))
      (pss_one (ps_ret (pe_op op_mod (pe_callTy call_int1 rfl T.f_int (by decide +kernel) (pa_cons (pe_op op_fdivW (pe_op op_mod (pe_callTy call_int1 rfl T.f_int (by decide +kernel) (pa_cons (pv 4) pa_nil)) pe_int) pe_int) pa_nil)) (pv 1)))))))), ?_⟩
    walk_at "st"
    refine ite2 (fun c => ?_) (fun c => ?_)
    · walk_at "st"
      refine grab_out q ht0 g rfl ⟨_, _, _, rfl⟩
    · walk_at "st"
      refine grab_out q ht0 _ rfl ⟨_, _, _, rfl⟩
theorem sql_upd {K : PySem.W.Frag} {H : Hp} {p l : Addr} {xs : List V} {o : HO} (h : SqL K H l xs) (ne : l ≠ p) : SqL K (upd H p o) l xs := by
  rcases h with (h | ⟨u, h⟩) | h
  · exact .inl (.inl (by rw [upd_ne ne]; exact h))
  · exact .inl (.inr ⟨u, by rw [upd_ne ne]; exact h⟩)
  · exact .inr h
theorem at_in {xs : List V} {r : Int} (h0 : 0 ≤ r) (h1 : r < xs.length) : ∃ v, v ∈ xs ∧ atI xs r = some v := by
  have lt : r.toNat < xs.length := by omega
  refine ⟨xs[r.toNat], List.getElem_mem lt, ?_⟩
  have e : ((r.toNat : Nat) : Int) = r := by omega
  have q := atI_nat (xs := xs) (j := r.toNat) (List.getElem?_eq_getElem lt)
  rw [e] at q
  exact q
theorem div_small {n : Nat} (h0 : 0 < n) (h : n ≤ 100000) : CDivW 0 (n : Int) := by
  refine wide_div (b := 20) (by omega) ?_ (by decide) (by decide)
  have e : ((n : Int)).natAbs = n := Int.natAbs_natCast n
  rw [e]
  exact Nat.lt_of_le_of_lt h (by decide)
def spOneOf (K : PySem.W.Frag) : Sp := fun vs H Q _ => ∃ (p l : Addr) (g m c : Int) (xs : List V), vs = [.ref p, .ref l] ∧ H p = some (.lst [.int g, .int m, .int c]) ∧ SqL K H l xs ∧
  l ≠ p ∧ 0 < xs.length ∧ xs.length ≤ 1000 ∧ ∀ v g' m' c', v ∈ xs → Q v (upd H p (.lst [.int g', .int m', .int c']))
theorem scOneOfL : FnScope ["_law_bag_here", "_law_items"] ["_law_bag_here", "_law_items"] (defScope sOneOfL) :=
  ⟨rfl, rfl, rfl, by decide +kernel, rfl, by decide +kernel, by decide +kernel⟩
theorem dOneOfL (T : Tx K mg) (DGrabL : Def P w K mg base CX0 1 "_law_grab" ["_law_bag_here", "_law_total"] spGrab) : Def P w K mg base CX0 2 "_law_one_of" ["_law_bag_here", "_law_items"] (spOneOf K) := by
  refine T.t_law_one_of.def_ (N := ["_law_bag_here", "_law_items"]) scOneOfL (fun _ _ _ _ _ _ us hl => match us, hl with | [_, _], _ => rfl) ?_ ?_
  · intro vs H Q E h
    obtain ⟨p, l, g, m, c, xs, rfl, _⟩ := h
    rfl
  · intro f cd A out s H vs Q E hr h
    have hr1 : Rm 1 _ := hr.le (by decide)
    obtain ⟨p, l, g, m, c, xs, rfl, hp, hS, ne, h0, h1, q⟩ := h
    refine ⟨_, (pss_one (ps_ret (pe_ix ix_list (pv 1) (pe_d DGrabL (hr1.le (by decide)) pass0 (pa_cons (pv 0) (pa_cons (pe_callB call_len_seq rfl T.f_len (by decide +kernel) (pa_cons (pv 1) pa_nil)) pa_nil))) (fun _ _ => rfl)))), ?_⟩
    walk_at "st"
    refine ⟨p, _, g, m, c, rfl, hp, div_small h0 (by omega), fun r g' m' c' r0 r1 => ?_⟩
    obtain ⟨v, hv, e⟩ := at_in r0 r1
    exact ⟨_, _, _, v, rfl, rfl, sql_upd hS ne, e, q v g' m' c' hv⟩
end
end K01


set_option Elab.async false
set_option linter.all false
set_option maxRecDepth 100000
set_option maxHeartbeats 2000000
namespace K01
open PySem PySem.Spec PyProof.Rows L2 MM
/-! own words for the readings: a step, its side -/
local macro_rules | `(tactic| walk_at "side") => `(tactic| first
  | omega
  | exact ⟨by omega, by omega⟩
  | exact Or.inl ⟨by omega, by omega⟩
  | exact Or.inr ⟨by omega, by omega⟩
  | (show CPw _ _; decide +kernel)
  | (show (0 : Int) < _; decide +kernel)
  | (show CDivW _ _; first | assumption | exact ⟨by decide, by decide +kernel⟩))
local macro_rules | `(tactic| walk_at "here") => `(tactic| first
  | assumption
  | exact upd_same
  | exact Or.inl (Or.inl upd_same)
  | exact Or.inl upd_same)
local macro_rules | `(tactic| walk_at "one") => `(tactic| first
  | refine ⟨_, rfl, ?_⟩
  | refine Or.inl ⟨_, rfl, ?_⟩
  | refine Or.inr ⟨_, rfl, ?_⟩
  | refine ⟨_, _, rfl, rfl, (by walk_at "side"), ?_⟩
  | refine ⟨_, _, rfl, rfl, ?_⟩
  | refine ⟨_, _, rfl, Or.inl (by walk_at "here"), ?_⟩
  | refine ⟨_, _, rfl, Or.inr (by walk_at "here"), ?_⟩
  | refine ⟨_, _, rfl, (by walk_at "here"), ?_⟩
  | refine ⟨_, _, _, _, rfl, rfl, (by walk_at "here"), rfl, ?_⟩
  | refine ⟨_, _, rfl, ?_⟩
  | refine ifT (by rfl) ?_
  | refine ifF (by rfl) ?_
  | refine ifT (decide_eq_true (by omega)) ?_
  | refine ifF (decide_eq_false (by omega)) ?_)
local macro_rules | `(tactic| walk_at "st") => `(tactic| repeat (walk_at "one"))

section
variable {P : Program} {w : World} {K : PySem.W.Frag} {mg : Str → Option Value} {base : Heap}
def spIsWhole (K : PySem.W.Frag) : Sp := fun vs H Q _ => ∃ x n, vs = [x] ∧ Kd K H x n ∧ Q (.bl (isW x)) H
theorem scIsWhole : FnScope ["value"] ["value"] (defScope sIsWhole) :=
  ⟨rfl, rfl, rfl, by decide +kernel, rfl, by decide +kernel, by decide +kernel⟩
theorem dIsWhole (T : Tx K mg) : Def P w K mg base CX0 1 "is_whole" ["value"] (spIsWhole K) := by
  refine T.t_is_whole.def_ (N := ["value"]) scIsWhole (fun _ _ _ _ _ _ us hl => match us, hl with | [_], _ => rfl) ?_ ?_
  · intro vs H Q E h
    obtain ⟨x, n, rfl, _⟩ := h
    rfl
  · intro f cd A out s H vs Q E hr h
    obtain ⟨x, n, rfl, hk, q⟩ := h
    refine ⟨_, (pss_one (ps_ret (pe_and (pe_callB (cr_is .int) rfl T.f_isinstance (by decide +kernel) (pa_cons (pv 0) (pa_cons (pe_ty .int T.f_int (by decide +kernel)) pa_nil))) (pe_one (pe_not (pe_callB (cr_is .bl) rfl T.f_isinstance (by decide +kernel) (pa_cons (pv 0) (pa_cons (pe_ty .bl T.f_bool (by decide +kernel)) pa_nil)))))))), ?_⟩
    refine ⟨_, rfl, _, _, rfl, hk, _, rfl, ?_⟩
    cases hk
    all_goals walk_at "st"
    all_goals first
      | exact q
      | (refine ⟨_, _, rfl, .int _, ?_⟩; walk_at "st"; exact q)
      | (refine ⟨_, _, rfl, .bl _, ?_⟩; walk_at "st"; exact q)
def isI : V → Bool
  | .int i => decide (-10 ^ 60 < i) && decide (i < 10 ^ 60)
  | _ => false
def spIsInteger (K : PySem.W.Frag) : Sp := fun vs H Q _ => ∃ x n, vs = [x] ∧ Kd K H x n ∧ Q (.bl (isI x)) H
theorem scIsInteger : FnScope ["value"] ["value"] (defScope sIsInteger) :=
  ⟨rfl, rfl, rfl, by decide +kernel, rfl, by decide +kernel, by decide +kernel⟩
theorem dIsInteger (T : Tx K mg) (DIsWhole : Def P w K mg base CX0 1 "is_whole" ["value"] (spIsWhole K)) : Def P w K mg base CX0 2 "is_integer" ["value"] (spIsInteger K) := by
  refine T.t_is_integer.def_ (N := ["value"]) scIsInteger (fun _ _ _ _ _ _ us hl => match us, hl with | [_], _ => rfl) ?_ ?_
  · intro vs H Q E h
    obtain ⟨x, n, rfl, _⟩ := h
    rfl
  · intro f cd A out s H vs Q E hr h
    have hr1 : Rm 1 _ := hr.le (by decide)
    obtain ⟨x, n, rfl, hk, q⟩ := h
    refine ⟨_, (pss_one (ps_ret (pe_and (pe_d DIsWhole (hr1.le (by decide)) pass0 (pa_cons (pv 0) pa_nil)) (pe_one (pe_chain op_lt op_lt (pe_un un_neg (C8.pe_gc rfl T.c_TOO_LONG)) (pv 0) (C8.pe_gc rfl T.c_TOO_LONG)))))), ?_⟩
    refine ⟨_, rfl, _, n, rfl, hk, _, rfl, ?_⟩
    cases hk
    all_goals walk_at "st"
    all_goals first
      | exact q
      | skip
    rename_i i
    refine ite2 (fun c => ?_) (fun c => ?_)
    · walk_at "st"
      have q' : Q (.bl (decide (-10 ^ 60 < i) && decide (i < 10 ^ 60))) H := q
      rw [show decide (-10 ^ 60 < i) = true from c, Bool.true_and] at q'
      exact q'
    · have q' : Q (.bl (decide (-10 ^ 60 < i) && decide (i < 10 ^ 60))) H := q
      rw [show decide (-10 ^ 60 < i) = false from Bool.eq_false_iff.mpr c, Bool.false_and] at q'
      exact q'
def isB (x : V) (l m : Int) : Bool := match x with
  | .int i => decide (l ≤ i) && decide (i ≤ m)
  | _ => false
def spIsBetween (K : PySem.W.Frag) : Sp := fun vs H Q _ => ∃ x n l m, vs = [x, .int l, .int m] ∧ Kd K H x n ∧ Q (.bl (isB x l m)) H
theorem scIsBetween : FnScope ["value", "least", "most"] ["value", "least", "most"] (defScope sIsBetween) :=
  ⟨rfl, rfl, rfl, by decide +kernel, rfl, by decide +kernel, by decide +kernel⟩
theorem dIsBetween (T : Tx K mg) (DIsWhole : Def P w K mg base CX0 1 "is_whole" ["value"] (spIsWhole K)) : Def P w K mg base CX0 2 "is_between" ["value", "least", "most"] (spIsBetween K) := by
  refine T.t_is_between.def_ (N := ["value", "least", "most"]) scIsBetween (fun _ _ _ _ _ _ us hl => match us, hl with | [_, _, _], _ => rfl) ?_ ?_
  · intro vs H Q E h
    obtain ⟨x, n, l, m, rfl, _⟩ := h
    rfl
  · intro f cd A out s H vs Q E hr h
    have hr1 : Rm 1 _ := hr.le (by decide)
    obtain ⟨x, n, l, m, rfl, hk, q⟩ := h
    refine ⟨_, (pss_one (ps_ret (pe_and (pe_d DIsWhole (hr1.le (by decide)) pass0 (pa_cons (pv 0) pa_nil)) (pe_one (pe_chain op_le op_le (pv 1) (pv 0) (pv 2)))))), ?_⟩
    refine ⟨_, rfl, _, n, rfl, hk, _, rfl, ?_⟩
    cases hk
    all_goals walk_at "st"
    all_goals first
      | exact q
      | skip
    rename_i i
    refine ite2 (fun c => ?_) (fun c => ?_)
    · walk_at "st"
      have q' : Q (.bl (decide (l ≤ i) && decide (i ≤ m))) H := q
      rw [show decide (l ≤ i) = true from c, Bool.true_and] at q'
      exact q'
    · have q' : Q (.bl (decide (l ≤ i) && decide (i ≤ m))) H := q
      rw [show decide (l ≤ i) = false from Bool.eq_false_iff.mpr c, Bool.false_and] at q'
      exact q'
def spNeedBetween (K : PySem.W.Frag) : Sp := fun vs H Q _ => ∃ i l m : Int, vs = [.int i, .int l, .int m] ∧ l ≤ i ∧ i ≤ m ∧ Q .non H
theorem scNeedBetween : FnScope ["value", "least", "most"] ["value", "least", "most"] (defScope sNeedBetween) :=
  ⟨rfl, rfl, rfl, by decide +kernel, rfl, by decide +kernel, by decide +kernel⟩
theorem dNeedBetween (T : Tx K mg) (DIsBetween : Def P w K mg base CX0 2 "is_between" ["value", "least", "most"] (spIsBetween K)) : Def P w K mg base CX0 3 "need_between" ["value", "least", "most"] (spNeedBetween K) := by
  refine T.t_need_between.def_ (N := ["value", "least", "most"]) scNeedBetween (fun _ _ _ _ _ _ us hl => match us, hl with | [_, _, _], _ => rfl) ?_ ?_
  · intro vs H Q E h
    obtain ⟨i, l, m, rfl, _⟩ := h
    rfl
  · intro f cd A out s H vs Q E hr h
    have hr1 : Rm 2 _ := hr.le (by decide)
    obtain ⟨i, l, m, rfl, h1, h2, q⟩ := h
    refine ⟨_, (pss_one (ps_if (pt_not (pt_val (pe_d DIsBetween (hr1.le (by decide)) pass0 (pa_cons (pv 0) (pa_cons (pv 1) (pa_cons (pv 2) pa_nil)))))) (pss_one ps_never) pss_nil)), ?_⟩
    refine ⟨_, rfl, _, rfl, _, rfl, _, .int, l, m, rfl, .int i, _, rfl, ?_⟩
    refine ifF ?_ q
    show (!(decide (l ≤ i) && decide (i ≤ m))) = false
    rw [decide_eq_true h1, decide_eq_true h2] <;> rfl
def noDiv (i : Int) : Bool := ((List.range (i - 2).toNat).map fun (k : Nat) => !decide (i % (2 + (k : Int)) = 0)).all id
def isP : V → Bool
  | .int i => decide (2 ≤ i) && decide (i ≤ 99) && noDiv i
  | _ => false
def spIsPrime (K : PySem.W.Frag) : Sp := fun vs H Q _ => ∃ x n, vs = [x] ∧ Kd K H x n ∧ ∀ H', Same H H' → Q (.bl (isP x)) H'
theorem scIsPrime : FnScope ["value", "divisor"] ["value"] (defScope sIsPrime) :=
  ⟨rfl, rfl, rfl, by decide +kernel, rfl, by decide +kernel, by decide +kernel⟩
theorem dIsPrime (T : Tx K mg) (DIsBetween : Def P w K mg base CX0 2 "is_between" ["value", "least", "most"] (spIsBetween K)) : Def P w K mg base CX0 3 "is_prime" ["value"] (spIsPrime K) := by
  refine T.t_is_prime.def_ (N := ["value", "divisor"]) scIsPrime (fun _ _ _ _ _ _ us hl => match us, hl with | [_], _ => rfl) ?_ ?_
  · intro vs H Q E h
    obtain ⟨x, n, rfl, _⟩ := h
    rfl
  · intro f cd A out s H vs Q E hr h
    have hr1 : Rm 2 _ := hr.le (by decide)
    obtain ⟨x, n, rfl, hk, q⟩ := h
    refine ⟨_, (pss_cons (ps_if (pt_not (pt_val (pe_d DIsBetween (hr1.le (by decide)) pass0 (pa_cons (pv 0) (pa_cons pe_int (pa_cons (pe_op op_sub (C8.pe_gc rfl T.c_MAX_PRIME) pe_int) pa_nil)))))) (pss_one (ps_ret pe_bl)) pss_nil)
      (pss_one (ps_ret (pe_callB (cr_all rfl) rfl T.f_all (by decide +kernel) (pa_cons (pe_lc (own := [("divisor", 1)]) (g := gName 1) (tt := tYes) rfl scIsPrime.nd (pi_range2 rfl T.f_range (pa_cons pe_int (pa_cons (pv 0) pa_nil))) (blkOk_by (N := ["value", "divisor"]) (sc := defScope sIsPrime) (by decide +kernel)) (fun _ _ _ _ _ => pg_name (i := 1) scIsPrime.nd rfl (Or.inl rfl)) (fun _ _ _ _ _ => pts_nil) (fun _ _ _ _ _ => (pe_cmpR op_ne (pe_op op_mod (pv 0) (pv 1)) pe_int (nomark _)))) pa_nil))))), ?_⟩
    refine ⟨_, rfl, _, _, rfl, rfl, _, n, _, _, rfl, hk, _, rfl, ?_⟩
    show (if (!isB x 2 (100 - 1)) = true then _ else _)
    cases e : isB x 2 99 with
    | false =>
      refine ifT (by rw [show (100 - 1 : Int) = 99 from rfl, e]; rfl) ?_
      have e2 : isP x = false := by
        cases hk <;> first | rfl | (rename_i i; show (isB (.int i) 2 99 && noDiv i) = false; rw [e]; rfl)
      have q' := q H (Same.refl H)
      rw [e2] at q'
      exact q'
    | true =>
      refine ifF (by rw [show (100 - 1 : Int) = 99 from rfl, e]; rfl) ?_
      obtain ⟨i, rfl⟩ : ∃ i, x = .int i := by
        cases hk <;> first | exact ⟨_, rfl⟩ | cases e
      have bd : 2 ≤ i ∧ i ≤ 99 := by
        have e' : (decide (2 ≤ i) && decide (i ≤ 99)) = true := e
        rw [Bool.and_eq_true] at e'
        exact ⟨of_decide_eq_true e'.1, of_decide_eq_true e'.2⟩
      refine ⟨_, rfl, 2, i, rfl, by omega, ?_⟩
      intro D nD
      refine lc_rng (fun k => .bl (!decide (i % (2 + (k : Int)) = 0))) ?_ ?_ ?_
      · exact Nat.le_of_lt (small1000 (by omega))
      · intro k acc hk' Q' q'
        refine ⟨_, rfl, _, rfl, _, _, rfl, rfl, by omega, rfl, ?_⟩
        show Q' (.bl (!decide (V.int (i % (2 + (k : Int))) = V.int 0))) _
        rw [dInt]
        exact q'
      · refine ⟨D, (List.range (i - 2).toNat).map fun (k : Nat) => !decide (i % (2 + (k : Int)) = 0), rfl, .inl (.inl (Eq.trans upd_same ?_)), ?_⟩
        · rw [List.map_map]
          rfl
        · have q' := q _ (same_new (o := .lst ((List.range (i - 2).toNat).map fun (k : Nat) => V.bl (!decide (i % (2 + (k : Int)) = 0)))) nD)
          have e2 : isP (.int i) = noDiv i := by
            show (isB (.int i) 2 99 && noDiv i) = noDiv i
            rw [e, Bool.true_and]
          rw [e2] at q'
          exact q'
def spNeedPrime (K : PySem.W.Frag) : Sp := fun vs H Q _ => ∃ i, vs = [.int i] ∧ isP (.int i) = true ∧ ∀ H', Same H H' → Q .non H'
theorem scNeedPrime : FnScope ["prime"] ["prime"] (defScope sNeedPrime) :=
  ⟨rfl, rfl, rfl, by decide +kernel, rfl, by decide +kernel, by decide +kernel⟩
theorem dNeedPrime (T : Tx K mg) (DIsPrime : Def P w K mg base CX0 3 "is_prime" ["value"] (spIsPrime K)) : Def P w K mg base CX0 4 "need_prime" ["prime"] (spNeedPrime K) := by
  refine T.t_need_prime.def_ (N := ["prime"]) scNeedPrime (fun _ _ _ _ _ _ us hl => match us, hl with | [_], _ => rfl) ?_ ?_
  · intro vs H Q E h
    obtain ⟨i, rfl, _⟩ := h
    rfl
  · intro f cd A out s H vs Q E hr h
    have hr1 : Rm 3 _ := hr.le (by decide)
    obtain ⟨i, rfl, hp, q⟩ := h
    refine ⟨_, (pss_one (ps_if (pt_not (pt_val (pe_d DIsPrime (hr1.le (by decide)) pass0 (pa_cons (pv 0) pa_nil)))) (pss_one ps_never) pss_nil)), ?_⟩
    refine ⟨_, rfl, _, .int, rfl, .int i, ?_⟩
    intro H' sm
    refine ⟨_, rfl, ?_⟩
    refine ifF ?_ (q H' sm)
    rw [hp] <;> rfl
/-- a value, and its members if it is a tuple -/
inductive Rv (K : PySem.W.Frag) (H : Hp) : V → Option (List V) → Prop where
  | no {x : V} {n : Kn} (h : Kd K H x n) (ne : n.isa .tup = false) : Rv K H x none
  | yes {a : Addr} {xs : List V} (h : SqT K H a xs) (m : ∀ y, y ∈ xs → ∃ n, Kd K H y n) : Rv K H (.ref a) (some xs)
def rat2 : V → V → Bool
  | .int i, .int j => isI (.int i) && (isI (.int j) && (decide (0 < j) && decide (Nat.gcd i.natAbs j.natAbs = 1)))
  | _, _ => false
def isRat : Option (List V) → Bool
  | some [x, y] => rat2 x y
  | _ => false
def spIsRatio (K : PySem.W.Frag) : Sp := fun vs H Q _ => ∃ x o, vs = [x] ∧ Rv K H x o ∧ Q (.bl (isRat o)) H
theorem scIsRatio : FnScope ["value"] ["value"] (defScope sIsRatio) :=
  ⟨rfl, rfl, rfl, by decide +kernel, rfl, by decide +kernel, by decide +kernel⟩
theorem dIsRatio (T : Tx K mg) (DIsInteger : Def P w K mg base CX0 2 "is_integer" ["value"] (spIsInteger K)) : Def P w K mg base CX0 3 "is_ratio" ["value"] (spIsRatio K) := by
  refine T.t_is_ratio.def_ (N := ["value"]) scIsRatio (fun _ _ _ _ _ _ us hl => match us, hl with | [_], _ => rfl) ?_ ?_
  · intro vs H Q E h
    obtain ⟨x, o, rfl, _⟩ := h
    rfl
  · intro f cd A out s H vs Q E hr h
    have hr1 : Rm 2 _ := hr.le (by decide)
    obtain ⟨x, o, rfl, hv, q⟩ := h
    refine ⟨_, (pss_cons (ps_if (PW.pt (pw_or (pt_not (pt_val (pe_callB (cr_is .tup) rfl T.f_isinstance (by decide +kernel) (pa_cons (pv 0) (pa_cons (pe_ty .tup T.f_tuple (by decide +kernel)) pa_nil))))) (pw_or1 (pt_cmpR op_ne (pe_callB call_len_seq rfl T.f_len (by decide +kernel) (pa_cons (pv 0) pa_nil)) pe_int (nomark _))))) (pss_one (ps_ret pe_bl)) pss_nil)
      (pss_cons (ps_if (PW.pt (pw_or (pt_not (pt_val (pe_d DIsInteger (hr1.le (by decide)) pass0 (pa_cons (pe_ix ix_tup (pv 0) pe_int (fun _ _ => rfl)) pa_nil)))) (pw_or1 (pt_not (pt_val (pe_d DIsInteger (hr1.le (by decide)) pass0 (pa_cons (pe_ix ix_tup (pv 0) pe_int (fun _ _ => rfl)) pa_nil))))))) (pss_one (ps_ret pe_bl)) pss_nil)
      (pss_one (ps_ret (pe_and (pe_cmpR op_gt (pe_ix ix_tup (pv 0) pe_int (fun _ _ => rfl)) pe_int (nomark _)) (pe_one (pe_cmpR op_eq (pe_callBfun cr_gcd rfl T.b_gcd (pa_cons (pe_ix ix_tup (pv 0) pe_int (fun _ _ => rfl)) (pa_cons (pe_ix ix_tup (pv 0) pe_int (fun _ _ => rfl)) pa_nil))) pe_int (nomark _)))))))), ?_⟩
    cases hv with
    | no hk ne =>
      refine ⟨_, rfl, _, _, rfl, hk, _, rfl, ?_⟩
      refine ifT (by rw [ne]; rfl) ?_
      refine ifT rfl ?_
      exact q
    | yes h m =>
      rename_i a xs
      refine ⟨_, rfl, _, _, rfl, .tup h, _, rfl, ?_⟩
      refine ifF rfl ?_
      refine ⟨_, rfl, _, _, rfl, .inr h, rfl, _, rfl, ?_⟩
      show (if (!decide (V.int (xs.length : Int) = V.int 2)) = true then _ else _)
      rw [dInt]
      by_cases c : xs.length = 2
      · match xs, c, h, m, q with
        | [u, v], _, h, m, q =>
        refine ifF (by rfl) ?_
        obtain ⟨n1, k1⟩ := m u (by simp)
        obtain ⟨n2, k2⟩ := m v (by simp)
        refine ⟨_, rfl, a, _, _, _, rfl, rfl, h, rfl, _, n1, rfl, k1, _, rfl, ?_⟩
        have nb : ∀ z n, Kd K H z n → isI z = true → ∃ i, z = V.int i := by
          intro z n hz hi
          cases hz <;> first | exact ⟨_, rfl⟩ | cases hi
        cases e1 : isI u with
        | false =>
          have e : isRat (some [u, v]) = false := by
            cases k1 <;> first | rfl | (cases k2 <;> first | rfl | (show (isI _ && _) = false; rw [e1]; rfl))
          rw [e] at q
          exact q
        | true =>
          obtain ⟨i, rfl⟩ := nb u _ k1 e1
          refine ⟨_, rfl, a, _, _, _, rfl, rfl, h, rfl, _, n2, rfl, k2, _, rfl, ?_⟩
          cases e2 : isI v with
          | false =>
            have e : isRat (some [V.int i, v]) = false := by
              cases k2 <;> first | rfl | (show (isI _ && (isI _ && _)) = false; rw [e1, e2]; rfl)
            rw [e] at q
            exact q
          | true =>
            obtain ⟨j, rfl⟩ := nb v _ k2 e2
            have e : isRat (some [V.int i, V.int j]) = (decide (0 < j) && decide (Nat.gcd i.natAbs j.natAbs = 1)) := by
              show (isI _ && (isI _ && _)) = _
              rw [e1, e2, Bool.true_and, Bool.true_and]
            rw [e] at q
            refine ⟨_, rfl, a, _, _, _, rfl, rfl, h, rfl, _, _, rfl, rfl, _, rfl, ?_⟩
            refine ite2 (fun c => ?_) (fun c => ?_)
            · have c' : decide (0 < j) = true := c
              rw [c', Bool.true_and] at q
              refine ⟨_, rfl, a, _, _, _, rfl, rfl, h, rfl, _, rfl, a, _, _, _, rfl, rfl, h, rfl, i, j, rfl, rfl, ?_⟩
              show Q (V.bl (decide (V.int ↑(i.natAbs.gcd j.natAbs) = V.int 1))) H
              rw [dInt, show decide (((i.natAbs.gcd j.natAbs : Nat) : Int) = 1) = decide (Nat.gcd i.natAbs j.natAbs = 1) from decide_eq_decide.mpr (by omega)]
              exact q
            · have c' : decide (0 < j) = false := Bool.eq_false_iff.mpr c
              rw [c', Bool.false_and] at q
              exact q
      · refine ifT (by rw [decide_eq_false (by omega)]; rfl) ?_
        have e : isRat (some xs) = false := by
          match xs, c with
          | [], _ => rfl
          | [_], _ => rfl
          | [_, _], c => exact absurd rfl c
          | _ :: _ :: _ :: _, _ => rfl
        rw [e] at q
        exact q
end
end K01


set_option Elab.async false
set_option linter.all false
set_option maxRecDepth 100000
set_option maxHeartbeats 2000000
namespace K01
open PySem PySem.Spec PyProof.Rows L2 MM
/-! own words for the readings: a step, its side -/
local macro_rules | `(tactic| walk_at "side") => `(tactic| first
  | omega
  | exact ⟨by omega, by omega⟩
  | exact Or.inl ⟨by omega, by omega⟩
  | exact Or.inr ⟨by omega, by omega⟩
  | (show CPw _ _; decide +kernel)
  | (show (0 : Int) < _; decide +kernel)
  | (show CDivW _ _; first | assumption | exact ⟨by decide, by decide +kernel⟩))
local macro_rules | `(tactic| walk_at "here") => `(tactic| first
  | assumption
  | exact upd_same
  | exact Or.inl (Or.inl upd_same)
  | exact Or.inl upd_same)
local macro_rules | `(tactic| walk_at "one") => `(tactic| first
  | refine ⟨_, rfl, ?_⟩
  | refine Or.inl ⟨_, rfl, ?_⟩
  | refine Or.inr ⟨_, rfl, ?_⟩
  | refine ⟨_, _, rfl, rfl, (by walk_at "side"), ?_⟩
  | refine ⟨_, _, rfl, rfl, ?_⟩
  | refine ⟨_, _, rfl, Or.inl (by walk_at "here"), ?_⟩
  | refine ⟨_, _, rfl, Or.inr (by walk_at "here"), ?_⟩
  | refine ⟨_, _, rfl, (by walk_at "here"), ?_⟩
  | refine ⟨_, _, _, _, rfl, rfl, (by walk_at "here"), rfl, ?_⟩
  | refine ⟨_, _, rfl, ?_⟩
  | refine ifT (by rfl) ?_
  | refine ifF (by rfl) ?_
  | refine ifT (decide_eq_true (by omega)) ?_
  | refine ifF (decide_eq_false (by omega)) ?_)
local macro_rules | `(tactic| walk_at "st") => `(tactic| repeat (walk_at "one"))

section
variable {P : Program} {w : World} {K : PySem.W.Frag} {mg : Str → Option Value} {base : Heap}
def gcdL (ns : List Int) : Nat := ns.foldl (fun g n => Nat.gcd g n.natAbs) 0
theorem gcdL_more {ns : List Int} {i : Nat} {n : Int} (h : ns[i]? = some n) : gcdL (ns.take (i + 1)) = Nat.gcd (gcdL (ns.take i)) n.natAbs := by
  unfold gcdL
  rw [List.take_add_one, h, List.foldl_append]
  rfl
theorem abs_nat (n : Int) : (if n < 0 then -n else n) = ((n.natAbs : Nat) : Int) := by
  split <;> omega
theorem map_int {ns : List Int} {i : Nat} {x : V} (h : (ns.map V.int)[i]? = some x) : ∃ n, ns[i]? = some n ∧ x = V.int n := by
  rw [List.getElem?_map] at h
  cases e : ns[i]? with
  | none =>
    rw [e] at h
    cases h
  | some n =>
    rw [e] at h
    exact ⟨n, rfl, (Option.some.inj h).symm⟩
def spGcd (K : PySem.W.Frag) : Sp := fun vs H Q _ => ∃ a ns, vs = [.ref a] ∧ SqT K H a (ns.map V.int) ∧ Q (.int (gcdL ns : Nat)) H
theorem scNbDivisorL : FnScope ["_law_numbers", "_law_found", "_law_number", "_law_one"] ["_law_numbers"] (defScope sNbDivisorL) :=
  ⟨rfl, rfl, rfl, by decide +kernel, rfl, by decide +kernel, by decide +kernel⟩
theorem dNbDivisorL (T : Tx K mg) : Def P w K mg base CX0 1 "_law_nb_divisor" ["_law_numbers"] (spGcd K) := by
  refine T.t_law_nb_divisor.def_ (N := ["_law_numbers", "_law_found", "_law_number", "_law_one"]) scNbDivisorL (fun _ _ _ _ _ _ us hl => match us, hl with | [_], _ => rfl) ?_ ?_
  · intro vs H Q E h
    obtain ⟨a, ns, rfl, _⟩ := h
    rfl
  · intro f cd A out s H vs Q E hr h
    obtain ⟨a, ns, rfl, hS, q⟩ := h
    refine ⟨_, (pss_cons (ps_set (i := 1) scNbDivisorL.nd rfl (Or.inl rfl) pe_int)
      (pss_cons (ps_for PassesOwn.never rfl (pi_tup (pv 0)) (pg_name (i := 2) scNbDivisorL.nd rfl (Or.inl rfl))
        (pss_cons (ps_set (i := 3) scNbDivisorL.nd rfl (Or.inl rfl) (pe_callB call_abs rfl T.f_abs (by decide +kernel) (pa_cons (pv 2) pa_nil)))
        (pss_one (ps_while PassesOwn.never (pt_cmpR op_gt (pv 3) pe_int (nomark _))
          (pss_one (ps_par (i := 1) (j := 3) rfl scNbDivisorL.nd rfl rfl (by decide) rfl rfl (pa_cons (pv 3) (pa_cons (pe_op op_mod (pv 1) (pv 3)) pa_nil)) (by rfl)))))))
      (pss_one (ps_ret (pv 1))))), ?_⟩
    refine ⟨_, rfl, a, rfl, ⟨_, hS⟩, for_tup (K := K) (a := a) (xs := ns.map V.int)
      (fun i σ H' => H' = H ∧ ∃ y z, σ = [some (.ref a), some (.int (gcdL (ns.take i) : Nat)), y, z]) ⟨rfl, none, none, rfl⟩ (fun i σ H' _ e => by rw [e.1]; exact hS) ?_ ?_⟩
    · rintro i x σ H' hi ⟨rfl, y, z, rfl⟩
      obtain ⟨n, hn, rfl⟩ := map_int hi
      refine ⟨_, rfl, _, rfl, ?_⟩
      refine while_by (fun σ H2 => H2 = H' ∧ ∃ f o : Nat, σ = [some (.ref a), some (.int (f : Int)), some (.int n), some (.int (o : Int))] ∧ Nat.gcd f o = gcdL (ns.take (i + 1)))
        (fun σ _ => match σ with | [_, _, _, some (.int o)] => o.toNat | _ => 0) ⟨rfl, gcdL (ns.take i), n.natAbs, ?_, (gcdL_more hn).symm⟩ ?_ ?_
      · show [_, _, _, some (V.int (if n < 0 then -n else n))] = _
        rw [abs_nat]
      · rintro σ H2 ⟨rfl, f, o, rfl, eg⟩
        walk_at "st"
        refine ite2 (fun c => ?_) (fun c => ?_)
        · have o0 : 0 < o := by
            have := of_decide_eq_true c
            omega
          walk_at "st"
          refine ⟨⟨rfl, o, f % o, rfl, ?_⟩, ?_⟩
          · rw [← eg, Nat.gcd_comm f o, Nat.gcd_rec o f, Nat.gcd_comm]
          · show ((f : Int) % (o : Int)).toNat < ((o : Nat) : Int).toNat
            have := Int.emod_lt_of_pos (f : Int) (by omega : (0 : Int) < o)
            have := Int.emod_nonneg (f : Int) (by omega : (o : Int) ≠ 0)
            omega
        · have o0 : o = 0 := by
            by_cases e : o = 0
            · exact e
            · exact absurd (decide_eq_true (by omega : (0 : Int) < o)) c
          subst o0
          rw [Nat.gcd_zero_right] at eg
          exact ⟨rfl, some (.int n), some (.int 0), by rw [eg]; rfl⟩
      · rintro σ H2 Q1 Q2 m ⟨v, hv, i, j, e1, e2, k, e3, q⟩
        exact ⟨v, hv, i, j, e1, e2, k, e3, m _ _ q⟩
    · rintro σ H' ⟨rfl, y, z, rfl⟩
      rw [List.length_map, List.take_length]
      exact ⟨_, rfl, q⟩
theorem isI_abs (i : Int) : decide ((if i < 0 then -i else i) < (10 : Int) ^ 60) = isI (.int i) := by
  show _ = (decide (-10 ^ 60 < i) && decide (i < 10 ^ 60))
  by_cases h : i < 0
  · rw [if_pos h]
    by_cases c : -10 ^ 60 < i
    · rw [decide_eq_true (by omega : -i < 10 ^ 60), decide_eq_true c, decide_eq_true (by omega : i < 10 ^ 60)] <;> rfl
    · rw [decide_eq_false (by omega : ¬ -i < 10 ^ 60), decide_eq_false c] <;> rfl
  · rw [if_neg h, decide_eq_true (by omega : -10 ^ 60 < i), Bool.true_and]
theorem scNbIsShortL : FnScope ["_law_value"] ["_law_value"] (defScope sNbIsShortL) :=
  ⟨rfl, rfl, rfl, by decide +kernel, rfl, by decide +kernel, by decide +kernel⟩
theorem dNbIsShortL (T : Tx K mg) : Def P w K mg base CX0 1 "_law_nb_is_short" ["_law_value"] (spIsInteger K) := by
  refine T.t_law_nb_is_short.def_ (N := ["_law_value"]) scNbIsShortL (fun _ _ _ _ _ _ us hl => match us, hl with | [_], _ => rfl) ?_ ?_
  · intro vs H Q E h
    obtain ⟨x, n, rfl, _⟩ := h
    rfl
  · intro f cd A out s H vs Q E hr h
    obtain ⟨x, n, rfl, hk, q⟩ := h
    refine ⟨_, (pss_one (ps_ret (pe_and (pe_callB (cr_is .int) rfl T.f_isinstance (by decide +kernel) (pa_cons (pv 0) (pa_cons (pe_ty .int T.f_int (by decide +kernel)) pa_nil))) (pe_and (pe_not (pe_callB (cr_is .bl) rfl T.f_isinstance (by decide +kernel) (pa_cons (pv 0) (pa_cons (pe_ty .bl T.f_bool (by decide +kernel)) pa_nil)))) (pe_one (pe_cmpR op_lt (pe_callB call_abs rfl T.f_abs (by decide +kernel) (pa_cons (pv 0) pa_nil)) (pe_op op_pw pe_int pe_int) (nomark _))))))), ?_⟩
    refine ⟨_, rfl, _, n, rfl, hk, _, rfl, ?_⟩
    cases hk
    all_goals walk_at "st"
    all_goals first
      | exact q
      | skip
    · refine ⟨_, _, rfl, .bl _, _, rfl, ?_⟩
      walk_at "st"
      exact q
    · rename_i i
      refine ⟨_, _, rfl, .int _, _, rfl, ?_⟩
      walk_at "st"
      rw [← isI_abs] at q
      exact q
theorem noDiv_filter (i : Int) : (PyData.eqv (.list ((((List.range (i - 2).toNat).filter fun (k : Nat) => decide (i % (2 + (k : Int)) = 0)).map fun (k : Nat) => 2 + (k : Int)).map PyData.int)) (.list [])) = noDiv i := by
  unfold noDiv
  generalize (i - 2).toNat = n
  have key : ∀ l : List Nat, PyData.eqv (.list (((l.filter fun (k : Nat) => decide (i % (2 + (k : Int)) = 0)).map fun (k : Nat) => 2 + (k : Int)).map PyData.int)) (.list []) =
      (l.map fun (k : Nat) => !decide (i % (2 + (k : Int)) = 0)).all id := by
    intro l
    induction l with
    | nil => rfl
    | cons k r ih =>
      by_cases c : i % (2 + (k : Int)) = 0
      · simp [c, PyData.eqv, PyData.eqvAll]
      · rw [List.filter_cons_of_neg (by simpa using c), ih]
        simp [c]
  exact key _
theorem scNbIsPrimeL : FnScope ["_law_value", "_law_part"] ["_law_value"] (defScope sNbIsPrimeL) :=
  ⟨rfl, rfl, rfl, by decide +kernel, rfl, by decide +kernel, by decide +kernel⟩
theorem dNbIsPrimeL (T : Tx K mg) (DNbIsShortL : Def P w K mg base CX0 1 "_law_nb_is_short" ["_law_value"] (spIsInteger K)) : Def P w K mg base CX0 3 "_law_nb_is_prime" ["_law_value"] (spIsPrime K) := by
  refine T.t_law_nb_is_prime.def_ (N := ["_law_value", "_law_part"]) scNbIsPrimeL (fun _ _ _ _ _ _ us hl => match us, hl with | [_], _ => rfl) ?_ ?_
  · intro vs H Q E h
    obtain ⟨x, n, rfl, _⟩ := h
    rfl
  · intro f cd A out s H vs Q E hr h
    have hr1 : Rm 1 _ := hr.le (by decide)
    obtain ⟨x, n, rfl, hk, q⟩ := h
    refine ⟨_, (pss_one (ps_ret (pe_and (pe_d DNbIsShortL (hr1.le (by decide)) pass0 (pa_cons (pv 0) pa_nil)) (pe_and (pe_chain op_le op_lt pe_int (pv 0) pe_int) (pe_one (pe_cmpR (op_eqD hr.hu) (pe_lc (own := [("_law_part", 1)]) (g := gName 1) rfl scNbIsPrimeL.nd (pi_range2 rfl T.f_range (pa_cons pe_int (pa_cons (pv 0) pa_nil))) (blkOk_by (N := ["_law_value", "_law_part"]) (sc := defScope sNbIsPrimeL) (by decide +kernel)) (fun _ _ _ _ _ => pg_name (i := 1) scNbIsPrimeL.nd rfl (Or.inl rfl)) (fun _ _ _ _ _ => (pts_one (pt_cmpR op_eq (pe_op op_mod (pv 0) (pv 1)) pe_int (nomark _)))) (fun _ _ _ _ _ => (pv 1))) (pe_lst pa_nil) (nomark _))))))), ?_⟩
    refine ⟨_, rfl, _, n, rfl, hk, _, rfl, ?_⟩
    cases e1 : isI x with
    | false =>
      have e2 : isP x = false := by
        cases hk <;> first | rfl | skip
        rename_i i
        show (decide (2 ≤ i) && decide (i ≤ 99) && noDiv i) = false
        have e1' : (decide (-10 ^ 60 < i) && decide (i < 10 ^ 60)) = false := e1
        by_cases c : i < 10 ^ 60
        · rw [decide_eq_true c, Bool.and_true] at e1'
          have := of_decide_eq_false e1'
          rw [decide_eq_false (by omega : ¬ 2 ≤ i)] <;> rfl
        · rw [decide_eq_false (by omega : ¬ i ≤ 99), Bool.and_false] <;> rfl
      have q' := q H (Same.refl H)
      rw [e2] at q'
      exact q'
    | true =>
      obtain ⟨i, rfl⟩ : ∃ i, x = .int i := by
        cases hk <;> first | exact ⟨_, rfl⟩ | cases e1
      refine ⟨_, rfl, _, _, rfl, rfl, _, rfl, ?_⟩
      refine ite2 (fun c => ?_) (fun c => ?_)
      · have c2 : 2 ≤ i := of_decide_eq_true c
        walk_at "st"
        refine ite2 (fun d => ?_) (fun d => ?_)
        · have d2 : i < 100 := of_decide_eq_true d
          refine ⟨_, rfl, 2, i, rfl, by omega, ?_⟩
          intro D nD
          refine lc_rngF (fun (k : Nat) => decide (i % (2 + (k : Int)) = 0)) (fun (k : Nat) => V.int (2 + (k : Int))) ?_ ?_ ?_ ?_
          · exact Nat.le_of_lt (small1000 (by omega))
          · intro k acc hk' Q' q'
            refine ⟨_, rfl, _, rfl, _, _, rfl, rfl, by omega, rfl, _, rfl, ?_⟩
            show Q' (decide (V.int (i % (2 + (k : Int))) = V.int 0)) _
            rw [dInt]
            exact q'
          · intro k acc hk' _ Q' q'
            exact ⟨_, rfl, q'⟩
          · refine ⟨by decide, fun p hp => ?_⟩
            have nDp : D ≠ p := ne_of_none upd_same hp
            refine ⟨.list ((((List.range (i - 2).toNat).filter fun (k : Nat) => decide (i % (2 + (k : Int)) = 0)).map fun (k : Nat) => 2 + (k : Int)).map PyData.int), .list [],
              .lst (.inl (.inl (Eq.trans (upd_ne nDp) (Eq.trans upd_same ?_)))) (dp_ints _), .lst (.inl (.inl upd_same)) .nil, ?_, by decide, ?_⟩
            · rw [List.map_map]
              rfl
            · exact shaped_ints _
            · rw [noDiv_filter]
              have q' := q _ ((same_new (o := .lst (((List.range (i - 2).toNat).filter fun (k : Nat) => decide (i % (2 + (k : Int)) = 0)).map fun (k : Nat) => V.int (2 + (k : Int)))) nD).trans (same_new (o := .lst []) hp))
              rw [show isP (.int i) = noDiv i from (by show (decide (2 ≤ i) && decide (i ≤ 99) && noDiv i) = noDiv i; rw [decide_eq_true c2, decide_eq_true (by omega : i ≤ 99)]; rfl)] at q'
              exact q'
        · have d2 : ¬ i < 100 := fun z => d (decide_eq_true z)
          have q' := q H (Same.refl H)
          rw [show isP (.int i) = false from (by show (decide (2 ≤ i) && decide (i ≤ 99) && noDiv i) = false; rw [decide_eq_false (by omega : ¬ i ≤ 99), Bool.and_false]; rfl)] at q'
          exact q'
      · have c2 : ¬ 2 ≤ i := fun z => c (decide_eq_true z)
        have q' := q H (Same.refl H)
        rw [show isP (.int i) = false from (by show (decide (2 ≤ i) && decide (i ≤ 99) && noDiv i) = false; rw [decide_eq_false c2]; rfl)] at q'
        exact ⟨_, rfl, q'⟩
theorem scNbIsRatioL : FnScope ["_law_value"] ["_law_value"] (defScope sNbIsRatioL) :=
  ⟨rfl, rfl, rfl, by decide +kernel, rfl, by decide +kernel, by decide +kernel⟩
theorem dNbIsRatioL (T : Tx K mg) (DNbIsShortL : Def P w K mg base CX0 1 "_law_nb_is_short" ["_law_value"] (spIsInteger K)) (DNbDivisorL : Def P w K mg base CX0 1 "_law_nb_divisor" ["_law_numbers"] (spGcd K)) : Def P w K mg base CX0 2 "_law_nb_is_ratio" ["_law_value"] (spIsRatio K) := by
  refine T.t_law_nb_is_ratio.def_ (N := ["_law_value"]) scNbIsRatioL (fun _ _ _ _ _ _ us hl => match us, hl with | [_], _ => rfl) ?_ ?_
  · intro vs H Q E h
    obtain ⟨x, o, rfl, _⟩ := h
    rfl
  · intro f cd A out s H vs Q E hr h
    have hr1 : Rm 1 _ := hr.le (by decide)
    obtain ⟨x, o, rfl, hv, q⟩ := h
    refine ⟨_, (pss_cons (ps_if (PW.pt (pw_or (pt_not (pt_val (pe_callB (cr_is .tup) rfl T.f_isinstance (by decide +kernel) (pa_cons (pv 0) (pa_cons (pe_ty .tup T.f_tuple (by decide +kernel)) pa_nil))))) (pw_or (pt_cmpR op_ne (pe_callB call_len_seq rfl T.f_len (by decide +kernel) (pa_cons (pv 0) pa_nil)) pe_int (nomark _)) (pw_or (pt_not (pt_val (pe_d DNbIsShortL (hr1.le (by decide)) pass0 (pa_cons (pe_ix ix_tup (pv 0) pe_int (fun _ _ => rfl)) pa_nil)))) (pw_or1 (pt_not (pt_val (pe_d DNbIsShortL (hr1.le (by decide)) pass0 (pa_cons (pe_ix ix_tup (pv 0) pe_int (fun _ _ => rfl)) pa_nil))))))))) (pss_one (ps_ret pe_bl)) pss_nil)
      (pss_one (ps_ret (pe_and (pe_cmpR op_gt (pe_ix ix_tup (pv 0) pe_int (fun _ _ => rfl)) pe_int (nomark _)) (pe_one (pe_cmpR op_eq (pe_d DNbDivisorL (hr1.le (by decide)) pass0 (pa_cons (pv 0) pa_nil)) pe_int (nomark _))))))), ?_⟩
    cases hv with
    | no hk ne =>
      refine ⟨_, rfl, _, _, rfl, hk, _, rfl, ?_⟩
      refine ifT (by rw [ne]; rfl) ?_
      exact q
    | yes h m =>
      rename_i a xs
      refine ⟨_, rfl, _, _, rfl, .tup h, _, rfl, ?_⟩
      refine ifF rfl ?_
      refine ⟨_, rfl, _, _, rfl, .inr h, rfl, _, rfl, ?_⟩
      show (if (!decide (V.int (xs.length : Int) = V.int 2)) = true then _ else _)
      rw [dInt]
      by_cases c : xs.length = 2
      · match xs, c, h, m, q with
        | [u, v], _, h, m, q =>
        refine ifF (by rfl) ?_
        obtain ⟨n1, k1⟩ := m u (by simp)
        obtain ⟨n2, k2⟩ := m v (by simp)
        refine ⟨_, rfl, a, _, _, _, rfl, rfl, h, rfl, _, n1, rfl, k1, _, rfl, ?_⟩
        have nb : ∀ z n, Kd K H z n → isI z = true → ∃ i, z = V.int i := by
          intro z n hz hi
          cases hz <;> first | exact ⟨_, rfl⟩ | cases hi
        cases e1 : isI u with
        | false =>
          have e : isRat (some [u, v]) = false := by
            cases k1 <;> first | rfl | (cases k2 <;> first | rfl | (show (isI _ && _) = false; rw [e1]; rfl))
          rw [e] at q
          exact q
        | true =>
          obtain ⟨i, rfl⟩ := nb u _ k1 e1
          refine ⟨_, rfl, a, _, _, _, rfl, rfl, h, rfl, _, n2, rfl, k2, _, rfl, ?_⟩
          cases e2 : isI v with
          | false =>
            have e : isRat (some [V.int i, v]) = false := by
              cases k2 <;> first | rfl | (show (isI _ && (isI _ && _)) = false; rw [e1, e2]; rfl)
            rw [e] at q
            exact q
          | true =>
            obtain ⟨j, rfl⟩ := nb v _ k2 e2
            have e : isRat (some [V.int i, V.int j]) = (decide (0 < j) && decide (Nat.gcd i.natAbs j.natAbs = 1)) := by
              show (isI _ && (isI _ && _)) = _
              rw [e1, e2, Bool.true_and, Bool.true_and]
            rw [e] at q
            refine ⟨_, rfl, a, _, _, _, rfl, rfl, h, rfl, _, _, rfl, rfl, _, rfl, ?_⟩
            refine ite2 (fun c => ?_) (fun c => ?_)
            · have c' : decide (0 < j) = true := c
              rw [c', Bool.true_and] at q
              refine ⟨_, rfl, a, [i, j], rfl, h, rfl, ?_⟩
              show Q (V.bl (decide (V.int ((gcdL [i, j] : Nat) : Int) = V.int 1))) H
              rw [dInt, show decide (((gcdL [i, j] : Nat) : Int) = 1) = decide (Nat.gcd i.natAbs j.natAbs = 1) from decide_eq_decide.mpr (by
                show ((Nat.gcd (Nat.gcd 0 i.natAbs) j.natAbs : Nat) : Int) = 1 ↔ _
                rw [Nat.gcd_zero_left]
                omega)]
              exact q
            · have c' : decide (0 < j) = false := Bool.eq_false_iff.mpr c
              rw [c', Bool.false_and] at q
              exact q
      · refine ifT (by rw [decide_eq_false (by omega)]; rfl) ?_
        have e : isRat (some xs) = false := by
          match xs, c with
          | [], _ => rfl
          | [_], _ => rfl
          | [_, _], c => exact absurd rfl c
          | _ :: _ :: _ :: _, _ => rfl
        rw [e] at q
        exact q
end
end K01


set_option Elab.async false
set_option linter.all false
set_option maxRecDepth 100000
namespace K01
open PySem PySem.Spec PyProof.Rows L2 MM
/-! factors: prime numbers with how often each one divides -/
abbrev Fs := List (Nat × Nat)
def look (fs : Fs) (d : Nat) : Nat := ((fs.find? fun p => decide (p.1 = d)).map (·.2)).getD 0
def bump (fs : Fs) (d : Nat) : Fs :=
  if (fs.any fun p => decide (p.1 = d)) = true then fs.map (fun p => if p.1 = d then (p.1, look fs d + 1) else p) else fs ++ [(d, look fs d + 1)]
def toK (fs : Fs) : List (Key × V) := fs.map fun p => (Sum.inl (p.1 : Int), V.int (p.2 : Int))
theorem key_nat (a d : Nat) : decide ((Sum.inl (a : Int) : Key) = Sum.inl (d : Int)) = decide (a = d) := by
  refine decide_eq_decide.mpr ⟨fun z => ?_, fun z => by rw [z]⟩
  have := Sum.inl.inj z
  omega
theorem valV_toK (fs : Fs) (d : Nat) : valV (toK fs) (Sum.inl (d : Int)) = (fs.find? fun p => decide (p.1 = d)).map fun p => V.int (p.2 : Int) := by
  unfold valV toK
  rw [List.find?_map, Option.map_map]
  have e : ((fun kv : Key × V => decide (kv.1 = Sum.inl (d : Int))) ∘ fun p : Nat × Nat => ((Sum.inl (p.1 : Int) : Key), V.int (p.2 : Int))) = fun p => decide (p.1 = d) := by
    funext p
    exact key_nat p.1 d
  rw [e]
  rfl
theorem get_toK (fs : Fs) (d : Nat) : (valV (toK fs) (Sum.inl (d : Int))).getD (.int 0) = .int (look fs d : Nat) := by
  rw [valV_toK]
  unfold look
  cases fs.find? fun p => decide (p.1 = d) <;> rfl
theorem put_toK (fs : Fs) (d : Nat) : putK (toK fs) (Sum.inl (d : Int)) (.int (((look fs d : Nat) : Int) + 1)) = toK (bump fs d) := by
  have e1 : ((toK fs).any fun kv => decide (kv.1 = (Sum.inl (d : Int) : Key))) = fs.any fun p => decide (p.1 = d) := by
    unfold toK
    rw [List.any_map]
    congr 1
    funext p
    exact key_nat p.1 d
  unfold putK bump
  rw [e1]
  by_cases c : (fs.any fun p => decide (p.1 = d)) = true
  · rw [if_pos c, if_pos c]
    unfold toK
    rw [List.map_map, List.map_map]
    refine List.map_congr_left fun p _ => ?_
    by_cases z : p.1 = d
    · have z2 : (Sum.inl (p.1 : Int) : Key) = Sum.inl (d : Int) := by rw [z]
      simp only [Function.comp_apply, z2, z, if_true]
      rfl
    · have z2 : ¬ (Sum.inl (p.1 : Int) : Key) = Sum.inl (d : Int) := fun q => z (by have := Sum.inl.inj q; omega)
      simp only [Function.comp_apply, z2, z, if_false]
  · rw [if_neg c, if_neg c]
    unfold toK
    rw [List.map_append]
    rfl
theorem toK_len (fs : Fs) : (toK fs).length = fs.length := List.length_map _
theorem toK_keys (fs : Fs) : (toK fs).map (·.1) = (fs.map fun p => (p.1 : Int)).map Sum.inl := by
  unfold toK
  rw [List.map_map, List.map_map]
  rfl
/-- the inner loop -/
def inn (fs : Fs) (r d : Nat) : Fs × Nat :=
  if h : 2 ≤ d ∧ 0 < r ∧ r % d = 0 then inn (bump fs d) (r / d) d else (fs, r)
termination_by r
decreasing_by exact Nat.div_lt_self h.2.1 h.1
theorem inn_le (fs : Fs) (r d : Nat) : (inn fs r d).2 ≤ r := by
  rw [inn]
  split
  · rename_i h
    have lt := Nat.div_lt_self h.2.1 h.1
    exact Nat.le_trans (inn_le (bump fs d) (r / d) d) (Nat.le_of_lt lt)
  · exact Nat.le_refl _
termination_by r
decreasing_by assumption
theorem inn_pos (fs : Fs) (r d : Nat) (h0 : 0 < r) : 0 < (inn fs r d).2 := by
  rw [inn]
  split
  · rename_i h
    have lt := Nat.div_lt_self h.2.1 h.1
    refine inn_pos (bump fs d) (r / d) d (Nat.div_pos (Nat.le_of_dvd h.2.1 (Nat.dvd_of_mod_eq_zero h.2.2)) (by omega))
  · exact h0
termination_by r
decreasing_by assumption
/-- the outer loop and what stands behind it -/
def outer (fs : Fs) (r d : Nat) : Fs :=
  if h : 2 ≤ d ∧ d * d ≤ r then outer (inn fs r d).1 (inn fs r d).2 (d + 1) else if 1 < r then bump fs r else fs
termination_by r - d
decreasing_by
  have := inn_le fs r d
  have h2 : 2 * d ≤ d * d := Nat.mul_le_mul_right d h.1
  omega
def facs (n : Nat) : Fs := outer [] n 2
/-! what the loops keep: keys ascend, none is above d; 2 ** how many, times the rest -/
def Asc (fs : Fs) (d : Nat) : Prop := (fs.map (·.1)).Pairwise (· < ·) ∧ ∀ p ∈ fs, p.1 ≤ d
theorem bump_asc {fs : Fs} {d : Nat} (h : Asc fs d) : Asc (bump fs d) d := by
  unfold bump
  by_cases c : (fs.any fun p => decide (p.1 = d)) = true
  · rw [if_pos c]
    have e : ((fs.map fun p => if p.1 = d then (p.1, look fs d + 1) else p).map (·.1)) = fs.map (·.1) := by
      rw [List.map_map]
      refine List.map_congr_left fun p _ => ?_
      by_cases z : p.1 = d <;> simp [z]
    refine ⟨by rw [e]; exact h.1, fun p hp => ?_⟩
    obtain ⟨q, hq, rfl⟩ := List.mem_map.mp hp
    have := h.2 q hq
    by_cases z : q.1 = d <;> simp [z] <;> omega
  · rw [if_neg c]
    refine ⟨?_, fun p hp => ?_⟩
    · rw [List.map_append, List.pairwise_append]
      refine ⟨h.1, by simp, fun a ha b hb => ?_⟩
      obtain ⟨p, hp, rfl⟩ := List.mem_map.mp ha
      have eb : b = d := by simpa using hb
      have h1 := h.2 p hp
      have h2 : p.1 ≠ d := fun z => c (List.any_eq_true.mpr ⟨p, hp, decide_eq_true z⟩)
      omega
    · rcases List.mem_append.mp hp with hp | hp
      · exact h.2 p hp
      · have : p = (d, look fs d + 1) := by simpa using hp
        rw [this]
        exact Nat.le_refl _
theorem bump_len (fs : Fs) (d : Nat) : (bump fs d).length ≤ fs.length + 1 := by
  unfold bump
  split
  · rw [List.length_map]
    omega
  · rw [List.length_append]
    exact Nat.le_refl _
theorem inn_asc (fs : Fs) (r d : Nat) (h : Asc fs d) : Asc (inn fs r d).1 d := by
  rw [inn]
  split
  · rename_i c
    have lt := Nat.div_lt_self c.2.1 c.1
    exact inn_asc (bump fs d) (r / d) d (bump_asc h)
  · exact h
termination_by r
decreasing_by assumption
theorem inn_big (fs : Fs) (r d N : Nat) (h : 2 ^ fs.length * r ≤ N) : 2 ^ (inn fs r d).1.length * (inn fs r d).2 ≤ N := by
  rw [inn]
  split
  · rename_i c
    have lt := Nat.div_lt_self c.2.1 c.1
    refine inn_big (bump fs d) (r / d) d N (Nat.le_trans ?_ h)
    have h1 : 2 ^ (bump fs d).length ≤ 2 ^ (fs.length + 1) := Nat.pow_le_pow_right (by decide) (bump_len fs d)
    have h2 : 2 * (r / d) ≤ r := Nat.le_trans (Nat.mul_le_mul_right _ c.1) (Nat.mul_div_le r d)
    calc 2 ^ (bump fs d).length * (r / d) ≤ 2 ^ (fs.length + 1) * (r / d) := Nat.mul_le_mul_right _ h1
      _ = 2 ^ fs.length * (2 * (r / d)) := by rw [Nat.pow_succ, Nat.mul_assoc]
      _ ≤ 2 ^ fs.length * r := Nat.mul_le_mul_left _ h2
  · exact h
termination_by r
decreasing_by assumption
theorem inn_dvd (fs : Fs) (r d : Nat) : (inn fs r d).2 ∣ r := by
  rw [inn]
  split
  · rename_i c
    have lt := Nat.div_lt_self c.2.1 c.1
    exact Nat.dvd_trans (inn_dvd (bump fs d) (r / d) d) (Nat.div_dvd_of_dvd (Nat.dvd_of_mod_eq_zero c.2.2))
  · exact Nat.dvd_refl _
termination_by r
decreasing_by assumption
theorem inn_not (fs : Fs) (r d : Nat) (h2 : 2 ≤ d) (h0 : 0 < r) : (inn fs r d).2 % d ≠ 0 := by
  rw [inn]
  split
  · rename_i c
    have lt := Nat.div_lt_self c.2.1 c.1
    exact inn_not (bump fs d) (r / d) d h2 (Nat.div_pos (Nat.le_of_dvd c.2.1 (Nat.dvd_of_mod_eq_zero c.2.2)) (by omega))
  · rename_i c
    exact fun z => c ⟨h2, h0, z⟩
termination_by r
decreasing_by assumption
theorem outer_ok (fs : Fs) (r d N : Nat) (h2 : 2 ≤ d) (h0 : 0 < r) (ha : Asc fs (d - 1)) (hb : 2 ^ fs.length * r ≤ N) (hd : ∀ k, 2 ≤ k → k < d → r % k ≠ 0) :
    ((outer fs r d).map (·.1)).Pairwise (· < ·) ∧ 2 ^ (outer fs r d).length ≤ N := by
  rw [outer]
  split
  · rename_i c
    have dec : (inn fs r d).2 - (d + 1) < r - d := by
      have := inn_le fs r d
      have h2 : 2 * d ≤ d * d := Nat.mul_le_mul_right d c.1
      omega
    refine outer_ok _ _ (d + 1) N (by omega) (inn_pos fs r d h0) ?_ (inn_big fs r d N hb) ?_
    · exact inn_asc fs r d ⟨ha.1, fun p hp => by have := ha.2 p hp; omega⟩
    · intro k k2 kd z
      by_cases e : k = d
      · subst e
        exact inn_not fs r k h2 h0 z
      · refine hd k k2 (by omega) ?_
        exact Nat.mod_eq_zero_of_dvd (Nat.dvd_trans (Nat.dvd_of_mod_eq_zero z) (inn_dvd fs r d))
  · split
    · rename_i c1 c
      have rd : d ≤ r := by
        by_cases e : d ≤ r
        · exact e
        · exact absurd (Nat.mod_self r) (hd r (by omega) (by omega))
      refine ⟨(bump_asc (d := r) ⟨ha.1, fun p hp => by have := ha.2 p hp; omega⟩).1, Nat.le_trans ?_ hb⟩
      calc 2 ^ (bump fs r).length ≤ 2 ^ (fs.length + 1) := Nat.pow_le_pow_right (by decide) (bump_len fs r)
        _ = 2 ^ fs.length * 2 := Nat.pow_succ ..
        _ ≤ 2 ^ fs.length * r := Nat.mul_le_mul_left _ c
    · refine ⟨ha.1, Nat.le_trans ?_ hb⟩
      exact Nat.le_mul_of_pos_right _ h0
termination_by r - d
decreasing_by assumption
theorem facs_ok {n : Nat} (h0 : 0 < n) : ((facs n).map (·.1)).Pairwise (· < ·) ∧ 2 ^ (facs n).length ≤ n :=
  outer_ok [] n 2 n (by decide) h0 ⟨by simp, fun p hp => by cases hp⟩ (by simp) (fun k k2 kd => by omega)
/-- at the end the rest is no key as yet -/
theorem outer_new {fs : Fs} {r d : Nat} (ha : Asc fs (d - 1)) (h2 : 2 ≤ d) (hd : ∀ k, 2 ≤ k → k < d → r % k ≠ 0) (h1 : 1 < r) : look fs r = 0 := by
  have rd : d ≤ r := by
    by_cases e : d ≤ r
    · exact e
    · exact absurd (Nat.mod_self r) (hd r (by omega) (by omega))
  unfold look
  rw [List.find?_eq_none.mpr]
  · rfl
  · intro p hp z
    have := ha.2 p hp
    have := of_decide_eq_true z
    omega
end K01

set_option Elab.async false
set_option linter.all false
set_option maxRecDepth 100000
set_option maxHeartbeats 2000000
namespace K01
open PySem PySem.Spec PyProof.Rows L2 MM
/-! own words for the readings: a step, its side -/
local macro_rules | `(tactic| walk_at "side") => `(tactic| first
  | omega
  | exact ⟨by omega, by omega⟩
  | exact Or.inl ⟨by omega, by omega⟩
  | exact Or.inr ⟨by omega, by omega⟩
  | (show CPw _ _; decide +kernel)
  | (show (0 : Int) < _; decide +kernel)
  | (show CDivW _ _; first | assumption | exact ⟨by decide, by decide +kernel⟩))
local macro_rules | `(tactic| walk_at "here") => `(tactic| first
  | assumption
  | exact upd_same
  | exact Or.inl (Or.inl upd_same)
  | exact Or.inl upd_same)
local macro_rules | `(tactic| walk_at "one") => `(tactic| first
  | refine ⟨_, rfl, ?_⟩
  | refine Or.inl ⟨_, rfl, ?_⟩
  | refine Or.inr ⟨_, rfl, ?_⟩
  | refine ⟨_, _, rfl, rfl, (by walk_at "side"), ?_⟩
  | refine ⟨_, _, rfl, rfl, ?_⟩
  | refine ⟨_, _, rfl, Or.inl (by walk_at "here"), ?_⟩
  | refine ⟨_, _, rfl, Or.inr (by walk_at "here"), ?_⟩
  | refine ⟨_, _, rfl, (by walk_at "here"), ?_⟩
  | refine ⟨_, _, _, _, rfl, rfl, (by walk_at "here"), rfl, ?_⟩
  | refine ⟨_, _, rfl, ?_⟩
  | refine ifT (by rfl) ?_
  | refine ifF (by rfl) ?_
  | refine ifT (decide_eq_true (by omega)) ?_
  | refine ifF (decide_eq_false (by omega)) ?_)
local macro_rules | `(tactic| walk_at "st") => `(tactic| repeat (walk_at "one"))

section
variable {P : Program} {w : World} {K : PySem.W.Frag} {mg : Str → Option Value} {base : Heap}
def spFacs : Sp := fun vs H Q _ => ∃ n : Nat, vs = [.int (n : Int)] ∧ 0 < n ∧ n ≤ 10 ^ 9 ∧ ∀ p, H p = none → Q (.ref p) (upd H p (.dK (toK (facs n))))
theorem len_small {fs : Fs} {r n : Nat} (h : 2 ^ fs.length * r ≤ n) (h0 : 0 < r) (hn : n ≤ 10 ^ 9) : fs.length < 30 := by
  have h1 : 2 ^ fs.length ≤ n := Nat.le_trans (Nat.le_mul_of_pos_right _ h0) h
  by_cases c : fs.length < 30
  · exact c
  · have h2 : 2 ^ 30 ≤ 2 ^ fs.length := Nat.pow_le_pow_right (by decide) (by omega)
    have h3 : (2 : Nat) ^ 30 ≤ 10 ^ 9 := Nat.le_trans h2 (Nat.le_trans h1 hn)
    exact absurd h3 (by decide)
theorem scPrimeFactors : FnScope ["number", "factors", "rest", "divisor"] ["number"] (defScope sPrimeFactors) :=
  ⟨rfl, rfl, rfl, by decide +kernel, rfl, by decide +kernel, by decide +kernel⟩
theorem dPrimeFactors (T : Tx K mg) (DNeedBetween : Def P w K mg base CX0 3 "need_between" ["value", "least", "most"] (spNeedBetween K)) : Def P w K mg base CX0 4 "prime_factors" ["number"] spFacs := by
  refine T.t_prime_factors.def_ (N := ["number", "factors", "rest", "divisor"]) scPrimeFactors (fun _ _ _ _ _ _ us hl => match us, hl with | [_], _ => rfl) ?_ ?_
  · intro vs H Q E h
    obtain ⟨n, rfl, _⟩ := h
    rfl
  · intro f cd A out s H vs Q E hr h
    have hu := hr.hu1
    have hr1 : Rm 3 _ := hr.le (by decide)
    obtain ⟨n, rfl, h0, hn, q⟩ := h
    refine ⟨_, (pss_cons (ps_expr (pe_d DNeedBetween (hr1.le (by decide)) pass0 (pa_cons (pv 0) (pa_cons pe_int (pa_cons (C8.pe_gc rfl T.c_MAX_FACTORED) pa_nil)))))
      (pss_cons (ps_set (i := 1) scPrimeFactors.nd rfl (Or.inl rfl) pe_dnewK)
      (pss_cons (ps_set (i := 2) scPrimeFactors.nd rfl (Or.inl rfl) (pv 0))
      (pss_cons (ps_set (i := 3) scPrimeFactors.nd rfl (Or.inl rfl) pe_int)
      (pss_cons (ps_while PassesOwn.never (pt_cmpR op_le (pe_op op_mul (pv 3) (pv 3)) (pv 2) (nomark _))
        (pss_cons (ps_while PassesOwn.never (pt_cmpR op_eq (pe_op op_mod (pv 2) (pv 3)) pe_int (nomark _))
          (pss_cons (ps_dput hu (pv 1) (pv 3) (pe_op op_add (pe_dget2 hu (pv 1) (pv 3) pe_int ⟨rfl, rfl, rfl, rfl⟩) pe_int) rfl)
          (pss_one (ps_set (i := 2) scPrimeFactors.nd rfl (Or.inl rfl) (pe_op op_fdivW (pv 2) (pv 3))))))
        (pss_one (ps_aug (i := 3) scPrimeFactors.nd rfl (Or.inl rfl) pe_int ip_add))))
      (pss_cons (ps_if (pt_cmpR op_gt (pv 2) pe_int (nomark _)) (pss_one (ps_dput hu (pv 1) (pv 2) pe_int rfl)) pss_nil)
      (pss_one (ps_ret (pv 1))))))))), ?_⟩
    refine ⟨_, rfl, (n : Int), 1, 10 ^ 9, rfl, by omega, by omega, ?_⟩
    intro p hp
    refine ⟨_, rfl, ?_⟩
    refine while_by (fun σ H2 => ∃ (fs : Fs) (r d : Nat), σ = [some (.int (n : Int)), some (.ref p), some (.int (r : Int)), some (.int (d : Int))] ∧ H2 = upd H p (.dK (toK fs)) ∧
        2 ≤ d ∧ d ≤ n + 2 ∧ 0 < r ∧ r ≤ n ∧ outer fs r d = facs n ∧ Asc fs (d - 1) ∧ 2 ^ fs.length * r ≤ n ∧ ∀ k, 2 ≤ k → k < d → r % k ≠ 0)
      (fun σ _ => match σ with | [_, _, some (.int r), some (.int d)] => (r - d).toNat | _ => 0) ?_ ?_ ?_
    · exact ⟨[], n, 2, rfl, rfl, by omega, by omega, h0, Nat.le_refl _, rfl, ⟨by simp, fun p hp => by cases hp⟩, by simp, fun k k2 kd => by omega⟩
    · rintro σ H2 ⟨fs, r, d, rfl, rfl, d2, dn, r0, rn, eo, ha, hb, hd⟩
      refine ⟨_, rfl, _, rfl, _, _, rfl, rfl, .inl ⟨by omega, by omega⟩, _, rfl, _, _, rfl, rfl, _, rfl, ?_⟩
      refine ite2 (fun c => ?_) (fun c => ?_)
      · have c2 : d * d ≤ r := by
          have := of_decide_eq_true c
          omega
        refine while_by (fun σ H2 => ∃ (fs1 : Fs) (r1 : Nat), σ = [some (.int (n : Int)), some (.ref p), some (.int (r1 : Int)), some (.int (d : Int))] ∧ H2 = upd H p (.dK (toK fs1)) ∧
            0 < r1 ∧ r1 ≤ r ∧ inn fs1 r1 d = inn fs r d ∧ 2 ^ fs1.length * r1 ≤ n)
          (fun σ _ => match σ with | [_, _, some (.int r), _] => r.toNat | _ => 0) ⟨fs, r, rfl, rfl, r0, Nat.le_refl _, rfl, hb⟩ ?_ ?_
        · rintro σ H2 ⟨fs1, r1, rfl, rfl, r10, r1r, ei, hb1⟩
          refine ⟨_, rfl, _, rfl, _, _, rfl, rfl, by omega, rfl, _, rfl, ?_⟩
          show (if decide (V.int ((r1 : Int) % (d : Int)) = V.int 0) = true then _ else _)
          rw [dInt, show decide ((r1 : Int) % (d : Int) = 0) = decide (r1 % d = 0) from decide_eq_decide.mpr (by omega)]
          by_cases z : r1 % d = 0
          · refine ifT (decide_eq_true z) ?_
            have e1 := ei
            rw [inn, dif_pos ⟨d2, r10, z⟩] at e1
            have lt := Nat.div_lt_self r10 d2
            have hb2 : 2 ^ (bump fs1 d).length * (r1 / d) ≤ n := by
              refine Nat.le_trans ?_ hb1
              have h1 : 2 ^ (bump fs1 d).length ≤ 2 ^ (fs1.length + 1) := Nat.pow_le_pow_right (by decide) (bump_len fs1 d)
              have h2 : 2 * (r1 / d) ≤ r1 := Nat.le_trans (Nat.mul_le_mul_right _ d2) (Nat.mul_div_le r1 d)
              calc 2 ^ (bump fs1 d).length * (r1 / d) ≤ 2 ^ (fs1.length + 1) * (r1 / d) := Nat.mul_le_mul_right _ h1
                _ = 2 ^ fs1.length * (2 * (r1 / d)) := by rw [Nat.pow_succ, Nat.mul_assoc]
                _ ≤ 2 ^ fs1.length * r1 := Nat.mul_le_mul_left _ h2
            have ll := len_small hb1 r10 hn
            have dl : (d : Nat) ≤ 10 ^ 9 + 2 := by omega
            refine ⟨_, rfl, _, rfl, .inl ⟨_, .inl upd_same⟩, _, rfl, _, DGet.k (k := Sum.inl (d : Int)) upd_same, _, _, get_toK fs1 d, rfl, ?_⟩
            refine ⟨_, rfl, _, rfl, p, _, rfl, DPut.k (k := Sum.inl (d : Int)) upd_same (small1000 (by rw [toK_len]; omega)), ?_⟩
            refine ⟨_, rfl, _, rfl, _, _, rfl, rfl, wide_div (b := 40) (by omega) (by rw [Int.natAbs_natCast]; omega) (by decide) (by decide), ?_⟩
            refine ⟨⟨bump fs1 d, r1 / d, ?_, ?_, Nat.div_pos (Nat.le_of_dvd r10 (Nat.dvd_of_mod_eq_zero z)) (by omega), by omega, e1, hb2⟩, ?_⟩
            · show [some (V.int (n : Int)), some (V.ref p), some (V.int ((r1 : Int) / (d : Int))), some (V.int (d : Int))] = _
              rw [Int.natCast_ediv]
            · rw [upd_upd, put_toK]
            · show ((r1 : Int) / (d : Int)).toNat < ((r1 : Int)).toNat
              rw [← Int.natCast_ediv]
              omega
          · refine ifF (decide_eq_false z) ?_
            have e1 := ei
            rw [inn, dif_neg (fun q => z q.2.2)] at e1
            have el : inn fs r d = (fs1, r1) := e1.symm
            have ir := inn_dvd fs r d
            rw [el] at ir
            have eo2 := eo
            rw [outer, dif_pos ⟨d2, c2⟩, el] at eo2
            have dd : d ≤ d * d := Nat.le_mul_self d
            refine ⟨_, rfl, (d : Int), 1, rfl, rfl, ⟨fs1, r1, d + 1, rfl, rfl, by omega, by omega, r10, by omega, eo2, ?_, hb1, ?_⟩, ?_⟩
            · have := inn_asc fs r d ⟨ha.1, fun p hp => by have := ha.2 p hp; omega⟩
              rw [el] at this
              exact this
            · intro k k2 kd q
              by_cases e : k = d
              · subst e
                exact z q
              · exact hd k k2 (by omega) (Nat.mod_eq_zero_of_dvd (Nat.dvd_trans (Nat.dvd_of_mod_eq_zero q) ir))
            · show ((r1 : Int) - ((d : Int) + 1)).toNat < ((r : Int) - (d : Int)).toNat
              have h2 : 2 * d ≤ d * d := Nat.mul_le_mul_right d d2
              omega
        · rintro σ H2 Q1 Q2 m ⟨v, hv, v2, hv2, i, j, e1, e2, cc, sc, k, e5, q⟩
          exact ⟨v, hv, v2, hv2, i, j, e1, e2, cc, sc, k, e5, m _ _ q⟩
      · have c2 : ¬ d * d ≤ r := fun z => c (decide_eq_true (by
          have z2 : ((d * d : Nat) : Int) ≤ (r : Int) := Int.ofNat_le.mpr z
          simpa using z2))
        have eo2 := eo
        rw [outer, dif_neg (fun q => c2 q.2)] at eo2
        have ll := len_small hb r0 hn
        refine ⟨_, rfl, _, _, rfl, rfl, _, rfl, ?_⟩
        refine ite2 (fun e => ?_) (fun e => ?_)
        · have e1 : 1 < r := by
            have := of_decide_eq_true e
            omega
          rw [if_pos e1] at eo2
          have lk := outer_new ha d2 hd e1
          refine ⟨_, rfl, _, rfl, p, _, rfl, DPut.k (k := Sum.inl (r : Int)) upd_same (small1000 (by rw [toK_len]; omega)), _, rfl, ?_⟩
          have ep := put_toK fs r
          rw [lk] at ep
          rw [upd_upd, show (V.int 1) = V.int (((0 : Nat) : Int) + 1) from rfl, ep, eo2]
          exact q p hp
        · have e1 : ¬ 1 < r := fun z => e (decide_eq_true (by omega))
          rw [if_neg e1] at eo2
          refine ⟨_, rfl, ?_⟩
          rw [eo2]
          exact q p hp
    · rintro σ H2 Q1 Q2 m ⟨v, hv, v2, hv2, i, j, e1, e2, cc, v3, hv3, i2, j2, e3, e4, k, e5, q⟩
      exact ⟨v, hv, v2, hv2, i, j, e1, e2, cc, v3, hv3, i2, j2, e3, e4, k, e5, m _ _ q⟩
def spFacs2 : Sp := fun vs H Q _ => ∃ n : Nat, vs = [.int (n : Int)] ∧ 0 < n ∧ n ≤ 10 ^ 9 ∧ ∀ H' p, Same H H' → H p = none → H' p = some (.dK (toK (facs n))) → Q (.ref p) H'
theorem scNbFactorsL : FnScope ["_law_number", "_law_found", "_law_left", "_law_part"] ["_law_number"] (defScope sNbFactorsL) :=
  ⟨rfl, rfl, rfl, by decide +kernel, rfl, by decide +kernel, by decide +kernel⟩
theorem dNbFactorsL (T : Tx K mg) : Def P w K mg base CX0 1 "_law_nb_factors" ["_law_number"] spFacs2 := by
  refine T.t_law_nb_factors.def_ (N := ["_law_number", "_law_found", "_law_left", "_law_part"]) scNbFactorsL (fun _ _ _ _ _ _ us hl => match us, hl with | [_], _ => rfl) ?_ ?_
  · intro vs H Q E h
    obtain ⟨n, rfl, _⟩ := h
    rfl
  · intro f cd A out s H vs Q E hr h
    have hu := hr.hu1
    obtain ⟨n, rfl, h0, hn, q⟩ := h
    refine ⟨_, (pss_cons (ps_par3 (i := 1) (j := 2) (l := 3) rfl scNbFactorsL.nd rfl rfl rfl (by decide) (by decide) (by decide) rfl rfl rfl (pa_cons pe_dnewK (pa_cons (pv 0) (pa_cons pe_int pa_nil))) (by rfl))
      (pss_cons (ps_while PassesOwn.never (pt_cmpR op_le (pe_op op_mul (pv 3) (pv 3)) (pv 2) (nomark _))
        (pss_cons (ps_while PassesOwn.never (pt_cmpR op_eq (pe_op op_mod (pv 2) (pv 3)) pe_int (nomark _))
          (pss_one (ps_asg (pe_tup (pa_cons (pe_op op_add (pe_dget2 hu (pv 1) (pv 3) pe_int ⟨rfl, rfl, rfl, rfl⟩) pe_int) (pa_cons (pe_op op_fdivW (pv 2) (pv 3)) pa_nil))) (pg_tup rfl (pgs_cons (pg_sub (pv 1) (pv 3) (set_dict hu)) (pgs_cons (pg_name (i := 2) scNbFactorsL.nd rfl (Or.inl rfl)) pgs_nil))))))
        (pss_one (ps_set (i := 3) scNbFactorsL.nd rfl (Or.inl rfl) (pe_op op_add (pv 3) pe_int)))))
      (pss_cons (ps_if (pt_cmpR op_gt (pv 2) pe_int (nomark _)) (pss_one (ps_dput hu (pv 1) (pv 2) (pe_op op_add (pe_dget2 hu (pv 1) (pv 2) pe_int ⟨rfl, rfl, rfl, rfl⟩) pe_int) rfl)) pss_nil)
      (pss_one (ps_ret (pv 1)))))), ?_⟩
    intro p hp
    refine ⟨_, rfl, _, _, _, rfl, ?_⟩
    refine while_by (fun σ H2 => ∃ (fs : Fs) (r d : Nat), σ = [some (.int (n : Int)), some (.ref p), some (.int (r : Int)), some (.int (d : Int))] ∧ (Same H H2 ∧ H2 p = some (.dK (toK fs))) ∧
        2 ≤ d ∧ d ≤ n + 2 ∧ 0 < r ∧ r ≤ n ∧ outer fs r d = facs n ∧ Asc fs (d - 1) ∧ 2 ^ fs.length * r ≤ n ∧ ∀ k, 2 ≤ k → k < d → r % k ≠ 0)
      (fun σ _ => match σ with | [_, _, some (.int r), some (.int d)] => (r - d).toNat | _ => 0) ?_ ?_ ?_
    · exact ⟨[], n, 2, rfl, ⟨same_new hp, upd_same⟩, by omega, by omega, h0, Nat.le_refl _, rfl, ⟨by simp, fun p hp => by cases hp⟩, by simp, fun k k2 kd => by omega⟩
    · rintro σ H2 ⟨fs, r, d, rfl, ⟨sm, ep⟩, d2, dn, r0, rn, eo, ha, hb, hd⟩
      refine ⟨_, rfl, _, rfl, _, _, rfl, rfl, .inl ⟨by omega, by omega⟩, _, rfl, _, _, rfl, rfl, _, rfl, ?_⟩
      refine ite2 (fun c => ?_) (fun c => ?_)
      · have c2 : d * d ≤ r := by
          have := of_decide_eq_true c
          omega
        refine while_by (fun σ H3 => ∃ (fs1 : Fs) (r1 : Nat), σ = [some (.int (n : Int)), some (.ref p), some (.int (r1 : Int)), some (.int (d : Int))] ∧ (Same H H3 ∧ H3 p = some (.dK (toK fs1))) ∧
            0 < r1 ∧ r1 ≤ r ∧ inn fs1 r1 d = inn fs r d ∧ 2 ^ fs1.length * r1 ≤ n)
          (fun σ _ => match σ with | [_, _, some (.int r), _] => r.toNat | _ => 0) ⟨fs, r, rfl, ⟨sm, ep⟩, r0, Nat.le_refl _, rfl, hb⟩ ?_ ?_
        · rintro σ H3 ⟨fs1, r1, rfl, ⟨sm1, ep1⟩, r10, r1r, ei, hb1⟩
          refine ⟨_, rfl, _, rfl, _, _, rfl, rfl, by omega, rfl, _, rfl, ?_⟩
          show (if decide (V.int ((r1 : Int) % (d : Int)) = V.int 0) = true then _ else _)
          rw [dInt, show decide ((r1 : Int) % (d : Int) = 0) = decide (r1 % d = 0) from decide_eq_decide.mpr (by omega)]
          by_cases z : r1 % d = 0
          · refine ifT (decide_eq_true z) ?_
            have e1 := ei
            rw [inn, dif_pos ⟨d2, r10, z⟩] at e1
            have lt := Nat.div_lt_self r10 d2
            have hb2 : 2 ^ (bump fs1 d).length * (r1 / d) ≤ n := by
              refine Nat.le_trans ?_ hb1
              have h1 : 2 ^ (bump fs1 d).length ≤ 2 ^ (fs1.length + 1) := Nat.pow_le_pow_right (by decide) (bump_len fs1 d)
              have h2 : 2 * (r1 / d) ≤ r1 := Nat.le_trans (Nat.mul_le_mul_right _ d2) (Nat.mul_div_le r1 d)
              calc 2 ^ (bump fs1 d).length * (r1 / d) ≤ 2 ^ (fs1.length + 1) * (r1 / d) := Nat.mul_le_mul_right _ h1
                _ = 2 ^ fs1.length * (2 * (r1 / d)) := by rw [Nat.pow_succ, Nat.mul_assoc]
                _ ≤ 2 ^ fs1.length * r1 := Nat.mul_le_mul_left _ h2
            have ll := len_small hb1 r10 hn
            have dl : (d : Nat) ≤ 10 ^ 9 + 2 := by omega
            refine ⟨_, rfl, _, rfl, .inl ⟨_, .inl ep1⟩, _, rfl, _, DGet.k (k := Sum.inl (d : Int)) ep1, _, _, get_toK fs1 d, rfl, ?_⟩
            refine ⟨_, rfl, _, rfl, _, _, rfl, rfl, wide_div (b := 40) (by omega) (by rw [Int.natAbs_natCast]; omega) (by decide) (by decide), ?_⟩
            refine ⟨by (show 2 ≤ sizeLine); decide, fun t ht => ?_⟩
            have pt : p ≠ t := ne_of_none ep1 ht
            have ep2 : (upd H3 t (.tup [.int ((look fs1 d : Int) + 1), .int ((r1 : Int) / (d : Int))])) p = some (.dK (toK fs1)) := by
              rw [upd_ne pt]
              exact ep1
            refine ⟨t, _, rfl, .inl (.inl upd_same), rfl, _, _, rfl, ?_⟩
            refine ⟨_, rfl, _, rfl, p, _, rfl, DPut.k (k := Sum.inl (d : Int)) ep2 (small1000 (by rw [toK_len]; omega)), _, _, rfl, rfl, ?_⟩
            refine ⟨⟨bump fs1 d, r1 / d, ?_, ⟨?_, ?_⟩, Nat.div_pos (Nat.le_of_dvd r10 (Nat.dvd_of_mod_eq_zero z)) (by omega), by omega, e1, hb2⟩, ?_⟩
            · show [some (V.int (n : Int)), some (V.ref p), some (V.int ((r1 : Int) / (d : Int))), some (V.int (d : Int))] = _
              rw [Int.natCast_ediv]
            · intro b o e
              have bp : b ≠ p := ne_of_none e hp
              rw [upd_ne bp, upd_ne (ne_of_none (sm1 b o e) ht)]
              exact sm1 b o e
            · rw [put_toK]
              exact upd_same
            · show ((r1 : Int) / (d : Int)).toNat < ((r1 : Int)).toNat
              rw [← Int.natCast_ediv]
              omega
          · refine ifF (decide_eq_false z) ?_
            have e1 := ei
            rw [inn, dif_neg (fun q => z q.2.2)] at e1
            have el : inn fs r d = (fs1, r1) := e1.symm
            have ir := inn_dvd fs r d
            rw [el] at ir
            have eo2 := eo
            rw [outer, dif_pos ⟨d2, c2⟩, el] at eo2
            have dd : d ≤ d * d := Nat.le_mul_self d
            refine ⟨_, rfl, _, _, rfl, rfl, ⟨fs1, r1, d + 1, rfl, ⟨sm1, ep1⟩, by omega, by omega, r10, by omega, eo2, ?_, hb1, ?_⟩, ?_⟩
            · have := inn_asc fs r d ⟨ha.1, fun p hp => by have := ha.2 p hp; omega⟩
              rw [el] at this
              exact this
            · intro k k2 kd q
              by_cases e : k = d
              · subst e
                exact z q
              · exact hd k k2 (by omega) (Nat.mod_eq_zero_of_dvd (Nat.dvd_trans (Nat.dvd_of_mod_eq_zero q) ir))
            · show ((r1 : Int) - ((d : Int) + 1)).toNat < ((r : Int) - (d : Int)).toNat
              have h2 : 2 * d ≤ d * d := Nat.mul_le_mul_right d d2
              omega
        · rintro σ H2 Q1 Q2 m ⟨v, hv, v2, hv2, i, j, e1, e2, cc, sc, k, e5, q⟩
          exact ⟨v, hv, v2, hv2, i, j, e1, e2, cc, sc, k, e5, m _ _ q⟩
      · have c2 : ¬ d * d ≤ r := fun z => c (decide_eq_true (by
          have z2 : ((d * d : Nat) : Int) ≤ (r : Int) := Int.ofNat_le.mpr z
          simpa using z2))
        have eo2 := eo
        rw [outer, dif_neg (fun q => c2 q.2)] at eo2
        have ll := len_small hb r0 hn
        refine ⟨_, rfl, _, _, rfl, rfl, _, rfl, ?_⟩
        refine ite2 (fun e => ?_) (fun e => ?_)
        · have e1 : 1 < r := by
            have := of_decide_eq_true e
            omega
          rw [if_pos e1] at eo2
          refine ⟨_, rfl, _, rfl, .inl ⟨_, .inl ep⟩, _, rfl, _, DGet.k (k := Sum.inl (r : Int)) ep, _, _, get_toK fs r, rfl, ?_⟩
          refine ⟨_, rfl, _, rfl, p, _, rfl, DPut.k (k := Sum.inl (r : Int)) ep (small1000 (by rw [toK_len]; omega)), _, rfl, ?_⟩
          refine q _ p ?_ hp ?_
          · intro b o e
            rw [upd_ne (ne_of_none e hp)]
            exact sm b o e
          · rw [put_toK, eo2]
            exact upd_same
        · have e1 : ¬ 1 < r := fun z => e (decide_eq_true (by omega))
          rw [if_neg e1] at eo2
          refine ⟨_, rfl, ?_⟩
          rw [eo2] at ep
          exact q _ p sm hp ep
    · rintro σ H2 Q1 Q2 m ⟨v, hv, v2, hv2, i, j, e1, e2, cc, v3, hv3, i2, j2, e3, e4, k, e5, q⟩
      exact ⟨v, hv, v2, hv2, i, j, e1, e2, cc, v3, hv3, i2, j2, e3, e4, k, e5, m _ _ q⟩
end
end K01


set_option Elab.async false
set_option linter.all false
set_option maxRecDepth 100000
namespace K01
open PySem PySem.Spec PyProof.Rows L2 MM
/-! the greatest power of p that divides m, from t on -/
def grow (p m t : Nat) : Nat :=
  if h : 2 ≤ p ∧ 0 < t ∧ 0 < m ∧ m % (t * p) = 0 then grow p m (t * p) else t
termination_by m - t
decreasing_by
  have h1 : t * p ≤ m := Nat.le_of_dvd h.2.2.1 (Nat.dvd_of_mod_eq_zero h.2.2.2)
  have h2 : t * 2 ≤ t * p := Nat.mul_le_mul_left t h.1
  omega
theorem mod_abs (n : Int) (k : Nat) : (n % (k : Int) = 0) ↔ n.natAbs % k = 0 := by
  rw [← Int.dvd_iff_emod_eq_zero, ← Nat.dvd_iff_mod_eq_zero]
  exact ⟨fun h => by simpa using Int.natAbs_dvd_natAbs.mpr h, fun h => Int.natAbs_dvd_natAbs.mp (by simpa using h)⟩
def stepP (p m t : Nat) : Nat := if m % (t * p) = 0 then t * p else t
def iterP (p m : Nat) : Nat → Nat → Nat
  | 0, t => t
  | k + 1, t => iterP p m k (stepP p m t)
theorem iterP_snoc (p m : Nat) : ∀ k t, iterP p m (k + 1) t = stepP p m (iterP p m k t)
  | 0, _ => rfl
  | k + 1, t => iterP_snoc p m k (stepP p m t)
theorem iterP_stay {p m t : Nat} (h : ¬ m % (t * p) = 0) : ∀ k, iterP p m k t = t
  | 0 => rfl
  | k + 1 => by
    show iterP p m k (stepP p m t) = t
    have e : stepP p m t = t := if_neg h
    rw [e]
    exact iterP_stay h k
theorem iterP_grow {p m : Nat} (hp : 2 ≤ p) (hm : 0 < m) : ∀ k t, 0 < t → t ≤ m → m < t * p ^ k → iterP p m k t = grow p m t
  | 0, t, h0, hle, hlt => by
    rw [Nat.pow_zero, Nat.mul_one] at hlt
    omega
  | k + 1, t, h0, hle, hlt => by
    by_cases c : m % (t * p) = 0
    · rw [grow, dif_pos ⟨hp, h0, hm, c⟩]
      show iterP p m k (stepP p m t) = _
      have e : stepP p m t = t * p := if_pos c
      rw [e]
      refine iterP_grow hp hm k (t * p) (Nat.mul_pos h0 (by omega)) (Nat.le_of_dvd hm (Nat.dvd_of_mod_eq_zero c)) ?_
      rw [Nat.pow_succ, Nat.mul_comm (p ^ k) p, ← Nat.mul_assoc] at hlt
      exact hlt
    · rw [grow, dif_neg (fun q => c q.2.2.2)]
      exact iterP_stay c (k + 1)
theorem grow_pos (p m t : Nat) (h0 : 0 < t) : 0 < grow p m t := by
  rw [grow]
  split
  · rename_i h
    have h1 : t * p ≤ m := Nat.le_of_dvd h.2.2.1 (Nat.dvd_of_mod_eq_zero h.2.2.2)
    have h2 : t * 2 ≤ t * p := Nat.mul_le_mul_left t h.1
    have dec : m - t * p < m - t := by omega
    exact grow_pos p m (t * p) (Nat.mul_pos h0 (by omega))
  · exact h0
termination_by m - t
decreasing_by assumption
theorem grow_dvd (p m t : Nat) (h0 : t ∣ m) : grow p m t ∣ m := by
  rw [grow]
  split
  · rename_i h
    have h1 : t * p ≤ m := Nat.le_of_dvd h.2.2.1 (Nat.dvd_of_mod_eq_zero h.2.2.2)
    have h2 : t * 2 ≤ t * p := Nat.mul_le_mul_left t h.1
    have dec : m - t * p < m - t := by omega
    exact grow_dvd p m (t * p) (Nat.dvd_of_mod_eq_zero h.2.2.2)
  · exact h0
termination_by m - t
decreasing_by assumption
theorem grow_pw (p m t : Nat) (h : ∃ j, t = p ^ j) : ∃ k, grow p m t = p ^ k := by
  rw [grow]
  split
  · rename_i c
    have h1 : t * p ≤ m := Nat.le_of_dvd c.2.2.1 (Nat.dvd_of_mod_eq_zero c.2.2.2)
    have h2 : t * 2 ≤ t * p := Nat.mul_le_mul_left t c.1
    have dec : m - t * p < m - t := by omega
    exact grow_pw p m (t * p) (by
      obtain ⟨j, e⟩ := h
      exact ⟨j + 1, by rw [e, Nat.pow_succ]⟩)
  · exact h
termination_by m - t
decreasing_by assumption
theorem grow_self {p : Nat} (hp : 2 ≤ p) (k : Nat) : ∀ i j, i + j = k → grow p (p ^ k) (p ^ j) = p ^ k
  | 0, j, e => by
    have ej : j = k := by omega
    subst ej
    rw [grow, dif_neg]
    rintro ⟨_, h0, _, c⟩
    have h1 := Nat.le_of_dvd h0 (Nat.dvd_of_mod_eq_zero c)
    have h2 : p ^ j * 2 ≤ p ^ j * p := Nat.mul_le_mul_left _ hp
    omega
  | i + 1, j, e => by
    have h0 : 0 < p ^ j := Nat.pow_pos (by omega)
    have hk : 0 < p ^ k := Nat.pow_pos (by omega)
    have hz : p ^ k % (p ^ j * p) = 0 := by
      rw [← Nat.pow_succ]
      exact Nat.mod_eq_zero_of_dvd (Nat.pow_dvd_pow p (by omega))
    rw [grow, dif_pos ⟨hp, h0, hk, hz⟩]
    exact grow_self hp k i (j + 1) (by omega)
theorem grow_twice {p m : Nat} (hp : 2 ≤ p) : grow p (grow p m 1) 1 = grow p m 1 := by
  obtain ⟨k, e⟩ := grow_pw p m 1 ⟨0, rfl⟩
  rw [e]
  exact grow_self hp k k 0 rfl
theorem grow_one {p : Nat} (hp : 2 ≤ p) : grow p 1 1 = 1 := grow_self hp 0 0 0 rfl
end K01

set_option Elab.async false
set_option linter.all false
set_option maxRecDepth 100000
set_option maxHeartbeats 2000000
namespace K01
open PySem PySem.Spec PyProof.Rows L2 MM
/-! own words for the readings: a step, its side -/
local macro_rules | `(tactic| walk_at "side") => `(tactic| first
  | omega
  | exact ⟨by omega, by omega⟩
  | exact Or.inl ⟨by omega, by omega⟩
  | exact Or.inr ⟨by omega, by omega⟩
  | (show CPw _ _; decide +kernel)
  | (show (0 : Int) < _; decide +kernel)
  | (show CDivW _ _; first | assumption | exact ⟨by decide, by decide +kernel⟩))
local macro_rules | `(tactic| walk_at "here") => `(tactic| first
  | assumption
  | exact upd_same
  | exact Or.inl (Or.inl upd_same)
  | exact Or.inl upd_same)
local macro_rules | `(tactic| walk_at "one") => `(tactic| first
  | refine ⟨_, rfl, ?_⟩
  | refine Or.inl ⟨_, rfl, ?_⟩
  | refine Or.inr ⟨_, rfl, ?_⟩
  | refine ⟨_, _, rfl, rfl, (by walk_at "side"), ?_⟩
  | refine ⟨_, _, rfl, rfl, ?_⟩
  | refine ⟨_, _, rfl, Or.inl (by walk_at "here"), ?_⟩
  | refine ⟨_, _, rfl, Or.inr (by walk_at "here"), ?_⟩
  | refine ⟨_, _, rfl, (by walk_at "here"), ?_⟩
  | refine ⟨_, _, _, _, rfl, rfl, (by walk_at "here"), rfl, ?_⟩
  | refine ⟨_, _, rfl, ?_⟩
  | refine ifT (by rfl) ?_
  | refine ifF (by rfl) ?_
  | refine ifT (decide_eq_true (by omega)) ?_
  | refine ifF (decide_eq_false (by omega)) ?_)
local macro_rules | `(tactic| walk_at "st") => `(tactic| repeat (walk_at "one"))

section
variable {P : Program} {w : World} {K : PySem.W.Frag} {mg : Str → Option Value} {base : Heap}
def spNeedDivided : Sp := fun vs H Q _ => ∃ n : Int, vs = [.int n] ∧ isI (.int n) = true ∧ n ≠ 0 ∧ Q .non H
theorem scNeedDivided : FnScope ["number"] ["number"] (defScope sNeedDivided) :=
  ⟨rfl, rfl, rfl, by decide +kernel, rfl, by decide +kernel, by decide +kernel⟩
theorem dNeedDivided (T : Tx K mg) (DIsInteger : Def P w K mg base CX0 2 "is_integer" ["value"] (spIsInteger K)) : Def P w K mg base CX0 3 "_need_divided" ["number"] spNeedDivided := by
  refine T.t_need_divided.def_ (N := ["number"]) scNeedDivided (fun _ _ _ _ _ _ us hl => match us, hl with | [_], _ => rfl) ?_ ?_
  · intro vs H Q E h
    obtain ⟨n, rfl, _⟩ := h
    rfl
  · intro f cd A out s H vs Q E hr h
    have hr1 : Rm 2 _ := hr.le (by decide)
    obtain ⟨n, rfl, hi, h0, q⟩ := h
    refine ⟨_, (pss_one (ps_if (PW.pt (pw_or (pt_not (pt_val (pe_d DIsInteger (hr1.le (by decide)) pass0 (pa_cons (pv 0) pa_nil)))) (pw_or1 (pt_cmpR op_eq (pv 0) pe_int (nomark _))))) (pss_one ps_never) pss_nil)), ?_⟩
    refine ⟨_, rfl, _, .int, rfl, .int n, _, rfl, ?_⟩
    refine ifF (by rw [hi]; rfl) ?_
    refine ⟨_, rfl, rfl, _, rfl, ?_⟩
    refine ifF ?_ q
    show decide (V.int n = V.int 0) = false
    rw [dInt]
    exact decide_eq_false h0
def spPartAt : Sp := fun vs H Q _ => ∃ (p : Nat) (n : Int), vs = [.int (p : Int), .int n] ∧ isP (.int (p : Int)) = true ∧ isI (.int n) = true ∧ n ≠ 0 ∧ ∀ H', Same H H' → Q (.int (grow p n.natAbs 1 : Nat)) H'
theorem isP_bd {p : Nat} (h : isP (.int (p : Int)) = true) : 2 ≤ p ∧ p ≤ 99 := by
  have h1 : (decide (2 ≤ (p : Int)) && decide ((p : Int) ≤ 99) && noDiv p) = true := h
  rw [Bool.and_eq_true, Bool.and_eq_true] at h1
  have a := of_decide_eq_true h1.1.1
  have b := of_decide_eq_true h1.1.2
  omega
theorem scPartAt : FnScope ["prime", "number", "part"] ["prime", "number"] (defScope sPartAt) :=
  ⟨rfl, rfl, rfl, by decide +kernel, rfl, by decide +kernel, by decide +kernel⟩
theorem dPartAt (T : Tx K mg) (DNeedPrime : Def P w K mg base CX0 4 "need_prime" ["prime"] (spNeedPrime K)) (DNeedDivided : Def P w K mg base CX0 3 "_need_divided" ["number"] spNeedDivided) : Def P w K mg base CX0 5 "part_at" ["prime", "number"] spPartAt := by
  refine T.t_part_at.def_ (N := ["prime", "number", "part"]) scPartAt (fun _ _ _ _ _ _ us hl => match us, hl with | [_, _], _ => rfl) ?_ ?_
  · intro vs H Q E h
    obtain ⟨p, n, rfl, _⟩ := h
    rfl
  · intro f cd A out s H vs Q E hr h
    have hr1 : Rm 4 _ := hr.le (by decide)
    obtain ⟨p, n, rfl, hp, hi, h0, q⟩ := h
    obtain ⟨p2, p99⟩ := isP_bd hp
    refine ⟨_, (pss_cons (ps_expr (pe_d DNeedPrime (hr1.le (by decide)) pass0 (pa_cons (pv 0) pa_nil)))
      (pss_cons (ps_expr (pe_d DNeedDivided (hr1.le (by decide)) pass0 (pa_cons (pv 1) pa_nil)))
      (pss_cons (ps_set (i := 2) scPartAt.nd rfl (Or.inl rfl) pe_int)
      (pss_cons (ps_while PassesOwn.never (pt_cmpR op_eq (pe_op op_mod (pv 1) (pe_op op_mul (pv 2) (pv 0))) pe_int (nomark _))
        (pss_one (ps_set (i := 2) scPartAt.nd rfl (Or.inl rfl) (pe_op op_mul (pv 2) (pv 0)))))
      (pss_one (ps_ret (pv 2))))))), ?_⟩
    refine ⟨_, rfl, (p : Int), rfl, hp, ?_⟩
    intro H' sm
    refine ⟨_, rfl, n, rfl, hi, h0, ?_⟩
    have m0 : 0 < n.natAbs := by omega
    refine while_by (fun σ H2 => H2 = H' ∧ ∃ t : Nat, σ = [some (.int (p : Int)), some (.int n), some (.int (t : Int))] ∧ 0 < t ∧ t ≤ n.natAbs ∧ grow p n.natAbs t = grow p n.natAbs 1)
      (fun σ _ => match σ with | [_, _, some (.int t)] => n.natAbs - t.toNat | _ => 0) ⟨rfl, 1, rfl, by omega, by omega, rfl⟩ ?_ ?_
    · rintro σ H2 ⟨rfl, t, rfl, t0, tm, eg⟩
      have tp : 0 < t * p := Nat.mul_pos t0 (by omega)
      refine ⟨_, rfl, _, rfl, _, rfl, _, _, rfl, rfl, .inr ⟨by omega, by omega⟩, _, _, rfl, rfl, ?_, rfl, _, rfl, ?_⟩
      · show (0 : Int) < (t : Int) * (p : Int)
        rw [← Int.natCast_mul]
        omega
      show (if decide (V.int (n % ((t : Int) * (p : Int))) = V.int 0) = true then _ else _)
      rw [dInt, ← Int.natCast_mul, show decide (n % ((t * p : Nat) : Int) = 0) = decide (n.natAbs % (t * p) = 0) from decide_eq_decide.mpr (mod_abs n (t * p))]
      by_cases z : n.natAbs % (t * p) = 0
      · refine ifT (decide_eq_true z) ?_
        have e1 := eg
        rw [grow, dif_pos ⟨p2, t0, m0, z⟩] at e1
        have le := Nat.le_of_dvd m0 (Nat.dvd_of_mod_eq_zero z)
        have h2 : t * 2 ≤ t * p := Nat.mul_le_mul_left t p2
        refine ⟨_, rfl, _, rfl, _, _, rfl, rfl, .inr ⟨by omega, by omega⟩, ⟨rfl, t * p, ?_, tp, le, e1⟩, ?_⟩
        · show [some (V.int (p : Int)), some (V.int n), some (V.int ((t : Int) * (p : Int)))] = _
          rw [← Int.natCast_mul]
        · show n.natAbs - ((t : Int) * (p : Int)).toNat < n.natAbs - ((t : Int)).toNat
          rw [← Int.natCast_mul]
          omega
      · refine ifF (decide_eq_false z) ?_
        have e1 := eg
        rw [grow, dif_neg (fun q => z q.2.2.2)] at e1
        refine ⟨_, rfl, ?_⟩
        rw [e1]
        exact q _ sm
    · rintro σ H2 Q1 Q2 m ⟨v, hv, v2, hv2, v3, hv3, i, j, e1, e2, cc, i2, j2, e3, e4, c2, sc, k, e5, q⟩
      exact ⟨v, hv, v2, hv2, v3, hv3, i, j, e1, e2, cc, i2, j2, e3, e4, c2, sc, k, e5, m _ _ q⟩
end
end K01


set_option Elab.async false
set_option linter.all false
set_option maxRecDepth 100000
set_option maxHeartbeats 2000000
namespace K01
open PySem PySem.Spec PyProof.Rows L2 MM
/-! math.lcm -/
section
variable {X : Cx}
def rLcm : List V → Hp → VK → Prop := fun vs H Q => ∃ a b : Int, vs = [.int a, .int b] ∧ a.natAbs < 2 ^ 13000 ∧ b.natAbs < 2 ^ 13000 ∧ Q (.int ((Nat.lcm a.natAbs b.natAbs : Nat) : Int)) H
theorem log_ok {n : Nat} (h : n < 2 ^ 13000) : ¬ n.log2 / 30 + 1 > 450 := by
  have := PySem.W.mg_log (n := n) (k := 12999) h
  omega
theorem lcm_ok {a b : Nat} (ha : a < 2 ^ 13000) (hb : b < 2 ^ 13000) : (Nat.lcm a b).log2 < bitsLine := by
  have h1 : Nat.lcm a b ≤ a * b := Nat.div_le_self _ _
  have h2 : a * b < 2 ^ 26000 := by
    rw [show (26000 : Nat) = 13000 + 13000 from rfl, Nat.pow_add]
    exact Nat.mul_lt_mul'' ha hb
  have h3 := PySem.W.mg_log (n := Nat.lcm a b) (k := 25999) (Nat.lt_of_le_of_lt h1 h2)
  exact Nat.lt_of_le_of_lt h3 (by decide +kernel)
theorem cr_lcm : CallR X (.builtin "math.lcm") rLcm := by
  intro pins s σ H vs us Q I r h
  obtain ⟨a, b, rfl, ha, hb, q⟩ := h
  obtain ⟨t, u, rfl⟩ := Vals.int2 r
  have e : (Nat.lcm 1 a.natAbs).lcm b.natAbs = Nat.lcm a.natAbs b.natAbs := by rw [Nat.lcm_one_left]
  refine PySem.call_function_meets PySem.W.MGF.kind_lcm PySem.W.MGF.plain_lcm PySem.W.MGF.entry_lcm (PySem.W.MGF.args_lcm _ _) (PySem.W.mg_run_lcm a t b u (log_ok ?_) (log_ok ?_) ?_).meets ?_
  · exact Nat.max_lt.mpr ⟨by exact Nat.one_lt_two_pow (by decide), ha⟩
  · exact Nat.max_lt.mpr ⟨ha, hb⟩
  · rw [e, Int.natAbs_natCast]
    exact lcm_ok ha hb
  · rw [e]
    exact ⟨.int _, H, I.tok _, ⟨_, rfl⟩, q⟩
/-- // by a divisor that is not 0 -/
def CDivG (_ j : Int) : Prop := j ≠ 0 ∧ j.natAbs.log2 < 9000
theorem op_fdivG : OpR X (binaryOp .FloorDiv) (rI CDivG fun i j => .int (i.fdiv j)) := opI fun i j _ _ _ _ _ hc q =>
  floordiv_int hc.1 q (.inl (PyProof.noPylong_of_log2 hc.2))
theorem divG {i j : Int} (h0 : j ≠ 0) (h : j.natAbs < 2 ^ 8999) : CDivG i j := ⟨h0, Nat.lt_of_lt_of_le (PySem.Flt.log2_lt_of (by decide) h) (by decide)⟩
end
/-! least common multiples -/
def lcmL (ns : List Int) : Nat := ns.foldl (fun g n => Nat.lcm g n.natAbs) 1
theorem lcmL_more {ns : List Int} {i : Nat} {n : Int} (h : ns[i]? = some n) : lcmL (ns.take (i + 1)) = Nat.lcm (lcmL (ns.take i)) n.natAbs := by
  unfold lcmL
  rw [List.take_add_one, h, List.foldl_append]
  rfl
end K01

set_option Elab.async false
set_option linter.all false
set_option maxRecDepth 100000
set_option maxHeartbeats 2000000
namespace K01
open PySem PySem.Spec PyProof.Rows L2 MM
/-! own words for the readings: a step, its side -/
local macro_rules | `(tactic| walk_at "side") => `(tactic| first
  | omega
  | exact ⟨by omega, by omega⟩
  | exact Or.inl ⟨by omega, by omega⟩
  | exact Or.inr ⟨by omega, by omega⟩
  | (show CPw _ _; decide +kernel)
  | (show (0 : Int) < _; decide +kernel)
  | (show CDivW _ _; first | assumption | exact ⟨by decide, by decide +kernel⟩))
local macro_rules | `(tactic| walk_at "here") => `(tactic| first
  | assumption
  | exact upd_same
  | exact Or.inl (Or.inl upd_same)
  | exact Or.inl upd_same)
local macro_rules | `(tactic| walk_at "one") => `(tactic| first
  | refine ⟨_, rfl, ?_⟩
  | refine Or.inl ⟨_, rfl, ?_⟩
  | refine Or.inr ⟨_, rfl, ?_⟩
  | refine ⟨_, _, rfl, rfl, (by walk_at "side"), ?_⟩
  | refine ⟨_, _, rfl, rfl, ?_⟩
  | refine ⟨_, _, rfl, Or.inl (by walk_at "here"), ?_⟩
  | refine ⟨_, _, rfl, Or.inr (by walk_at "here"), ?_⟩
  | refine ⟨_, _, rfl, (by walk_at "here"), ?_⟩
  | refine ⟨_, _, _, _, rfl, rfl, (by walk_at "here"), rfl, ?_⟩
  | refine ⟨_, _, rfl, ?_⟩
  | refine ifT (by rfl) ?_
  | refine ifF (by rfl) ?_
  | refine ifT (decide_eq_true (by omega)) ?_
  | refine ifF (decide_eq_false (by omega)) ?_)
local macro_rules | `(tactic| walk_at "st") => `(tactic| repeat (walk_at "one"))

section
variable {P : Program} {w : World} {K : PySem.W.Frag} {mg : Str → Option Value} {base : Heap}
def Ints (K : PySem.W.Frag) (H : Hp) (a : Addr) (ns : List Int) : Prop := SqT K H a (ns.map V.int) ∧ ns.length ≤ 1000 ∧ ∀ n, n ∈ ns → isI (.int n) = true
def spNeedNumbers (K : PySem.W.Frag) : Sp := fun vs H Q _ => ∃ a ns, vs = [.ref a] ∧ Ints K H a ns ∧ ∀ H', Same H H' → Q .non H'
theorem all_map {α : Type} {l : List α} {f : α → Bool} (h : ∀ x, x ∈ l → f x = true) : (l.map f).all id = true := by
  rw [List.all_map]
  exact List.all_eq_true.mpr h
theorem scNeedNumbers : FnScope ["numbers", "number"] ["numbers"] (defScope sNeedNumbers) :=
  ⟨rfl, rfl, rfl, by decide +kernel, rfl, by decide +kernel, by decide +kernel⟩
theorem dNeedNumbers (T : Tx K mg) (DIsInteger : Def P w K mg base CX0 2 "is_integer" ["value"] (spIsInteger K)) : Def P w K mg base CX0 3 "_need_numbers" ["numbers"] (spNeedNumbers K) := by
  refine T.t_need_numbers.def_ (N := ["numbers", "number"]) scNeedNumbers (fun _ _ _ _ _ _ us hl => match us, hl with | [_], _ => rfl) ?_ ?_
  · intro vs H Q E h
    obtain ⟨a, ns, rfl, _⟩ := h
    rfl
  · intro f cd A out s H vs Q E hr h
    have hr1 : Rm 2 _ := hr.le (by decide)
    obtain ⟨a, ns, rfl, ⟨hS, hl, hi⟩, q⟩ := h
    refine ⟨_, (pss_cons (ps_if (PW.pt (pw_or (pt_not (pt_val (pe_callB (cr_is .tup) rfl T.f_isinstance (by decide +kernel) (pa_cons (pv 0) (pa_cons (pe_ty .tup T.f_tuple (by decide +kernel)) pa_nil))))) (pw_or1 (pt_cmpR op_gt (pe_callB call_len_seq rfl T.f_len (by decide +kernel) (pa_cons (pv 0) pa_nil)) (C8.pe_gc rfl T.c_MOST_NUMBERS) (nomark _))))) (pss_one ps_never) pss_nil)
      (pss_one (ps_if (pt_not (pt_val (pe_callB (cr_all rfl) rfl T.f_all (by decide +kernel) (pa_cons (pe_lc (own := [("number", 1)]) (g := gName 1) (tt := tYes) rfl scNeedNumbers.nd (pi_tup (pv 0)) (blkOk_by (N := ["numbers", "number"]) (sc := defScope sNeedNumbers) (by decide +kernel)) (fun _ _ _ _ _ => pg_name (i := 1) scNeedNumbers.nd rfl (Or.inl rfl)) (fun _ _ _ _ _ => pts_nil) (fun _ _ _ _ _ => (pe_d DIsInteger (hr1.le (by decide)) pass0 (pa_cons (pv 1) pa_nil)))) pa_nil)))) (pss_one ps_never) pss_nil))), ?_⟩
    refine ⟨_, rfl, _, _, rfl, .tup hS, _, rfl, ?_⟩
    refine ifF rfl ?_
    refine ⟨_, rfl, _, _, rfl, .inr hS, _, _, rfl, rfl, _, rfl, ?_⟩
    refine ifF ?_ ?_
    · refine decide_eq_false ?_
      rw [List.length_map]
      omega
    refine ⟨_, rfl, a, rfl, ⟨_, hS⟩, ?_⟩
    intro D nD
    refine lc_tpl (fun x => .bl (isI x)) hS nD (by rw [List.length_map]; exact Nat.le_of_lt (small1000 hl)) ?_ ?_
    · intro x acc hx Q' q'
      obtain ⟨n, _, rfl⟩ := List.mem_map.mp hx
      exact ⟨_, rfl, _, .int, rfl, .int n, q'⟩
    · refine ⟨D, ns.map fun n => isI (.int n), rfl, .inl (.inl (Eq.trans upd_same ?_)), ?_⟩
      · rw [List.map_map, List.map_map]
        rfl
      · refine ⟨_, rfl, ?_⟩
        refine ifF ?_ (q _ (same_new nD))
        rw [all_map (fun x hx => hi x hx)]
        rfl
def spCommonDivisor (K : PySem.W.Frag) : Sp := fun vs H Q _ => ∃ a ns, vs = [.ref a] ∧ Ints K H a ns ∧ ∀ H', Same H H' → Q (.int (gcdL ns : Nat)) H'
theorem scCommonDivisor : FnScope ["numbers", "divisor", "number"] ["numbers"] (defScope sCommonDivisor) :=
  ⟨rfl, rfl, rfl, by decide +kernel, rfl, by decide +kernel, by decide +kernel⟩
theorem dCommonDivisor (T : Tx K mg) (DNeedNumbers : Def P w K mg base CX0 3 "_need_numbers" ["numbers"] (spNeedNumbers K)) : Def P w K mg base CX0 4 "common_divisor" ["numbers"] (spCommonDivisor K) := by
  refine T.t_common_divisor.def_ (N := ["numbers", "divisor", "number"]) scCommonDivisor (fun _ _ _ _ _ _ us hl => match us, hl with | [_], _ => rfl) ?_ ?_
  · intro vs H Q E h
    obtain ⟨a, ns, rfl, _⟩ := h
    rfl
  · intro f cd A out s H vs Q E hr h
    have hr1 : Rm 3 _ := hr.le (by decide)
    obtain ⟨a, ns, rfl, hI, q⟩ := h
    refine ⟨_, (pss_cons (ps_expr (pe_d DNeedNumbers (hr1.le (by decide)) pass0 (pa_cons (pv 0) pa_nil)))
      (pss_cons (ps_set (i := 1) scCommonDivisor.nd rfl (Or.inl rfl) pe_int)
      (pss_cons (ps_for PassesOwn.never rfl (pi_tup (pv 0)) (pg_name (i := 2) scCommonDivisor.nd rfl (Or.inl rfl))
        (pss_one (ps_set (i := 1) scCommonDivisor.nd rfl (Or.inl rfl) (pe_callBfun cr_gcd rfl T.b_gcd (pa_cons (pv 1) (pa_cons (pv 2) pa_nil))))))
      (pss_one (ps_ret (pv 1)))))), ?_⟩
    refine ⟨_, rfl, a, ns, rfl, hI, ?_⟩
    intro H' sm
    have hS := same_sqt sm hI.1
    refine ⟨_, rfl, a, rfl, ⟨_, hS⟩, for_tup (K := K) (a := a) (xs := ns.map V.int)
      (fun i σ H2 => H2 = H' ∧ ∃ y, σ = [some (.ref a), some (.int (gcdL (ns.take i) : Nat)), y]) ⟨rfl, none, rfl⟩ (fun i σ H2 _ e => by rw [e.1]; exact hS) ?_ ?_⟩
    · rintro i x σ H2 hi ⟨rfl, y, rfl⟩
      obtain ⟨n, hn, rfl⟩ := map_int hi
      refine ⟨_, rfl, _, rfl, _, _, rfl, ⟨rfl, some (.int n), ?_⟩⟩
      show [some (V.ref a), some (V.int ((Nat.gcd (gcdL (ns.take i)) n.natAbs : Nat) : Int)), some (V.int n)] = _
      rw [gcdL_more hn]
    · rintro σ H2 ⟨rfl, y, rfl⟩
      rw [List.length_map, List.take_length]
      exact ⟨_, rfl, q _ sm⟩
def LcmOk (ns : List Int) : Prop := (∀ n, n ∈ ns → 0 < n) ∧ ∀ i, lcmL (ns.take i) < 2 ^ 13000
theorem isI_13000 {n : Int} (h : isI (.int n) = true) : n.natAbs < 2 ^ 13000 := by
  have e : (decide (-10 ^ 60 < n) && decide (n < 10 ^ 60)) = true := h
  rw [Bool.and_eq_true] at e
  have a := of_decide_eq_true e.1
  have b := of_decide_eq_true e.2
  have c : n.natAbs < 10 ^ 60 := by omega
  refine Nat.lt_of_lt_of_le c (Nat.le_trans (m := 2 ^ 200) (by decide) (Nat.pow_le_pow_right (by decide) (by decide)))
def spCommonMultiple (K : PySem.W.Frag) : Sp := fun vs H Q _ => ∃ a ns, vs = [.ref a] ∧ Ints K H a ns ∧ LcmOk ns ∧ ∀ H', Same H H' → Q (.int (lcmL ns : Nat)) H'
theorem scCommonMultiple : FnScope ["numbers", "number", "multiple"] ["numbers"] (defScope sCommonMultiple) :=
  ⟨rfl, rfl, rfl, by decide +kernel, rfl, by decide +kernel, by decide +kernel⟩
theorem dCommonMultiple (T : Tx K mg) (DNeedNumbers : Def P w K mg base CX0 3 "_need_numbers" ["numbers"] (spNeedNumbers K)) : Def P w K mg base CX0 4 "common_multiple" ["numbers"] (spCommonMultiple K) := by
  refine T.t_common_multiple.def_ (N := ["numbers", "number", "multiple"]) scCommonMultiple (fun _ _ _ _ _ _ us hl => match us, hl with | [_], _ => rfl) ?_ ?_
  · intro vs H Q E h
    obtain ⟨a, ns, rfl, _⟩ := h
    rfl
  · intro f cd A out s H vs Q E hr h
    have hr1 : Rm 3 _ := hr.le (by decide)
    obtain ⟨a, ns, rfl, hI, hL, q⟩ := h
    refine ⟨_, (pss_cons (ps_expr (pe_d DNeedNumbers (hr1.le (by decide)) pass0 (pa_cons (pv 0) pa_nil)))
      (pss_cons (ps_if (pt_not (pt_val (pe_callB (cr_all rfl) rfl T.f_all (by decide +kernel) (pa_cons (pe_lc (own := [("number", 1)]) (g := gName 1) (tt := tYes) rfl scCommonMultiple.nd (pi_tup (pv 0)) (blkOk_by (N := ["numbers", "number", "multiple"]) (sc := defScope sCommonMultiple) (by decide +kernel)) (fun _ _ _ _ _ => pg_name (i := 1) scCommonMultiple.nd rfl (Or.inl rfl)) (fun _ _ _ _ _ => pts_nil) (fun _ _ _ _ _ => (pe_cmpR op_gt (pv 1) pe_int (nomark _)))) pa_nil)))) (pss_one ps_never) pss_nil)
      (pss_cons (ps_set (i := 2) scCommonMultiple.nd rfl (Or.inl rfl) pe_int)
      (pss_cons (ps_for PassesOwn.never rfl (pi_tup (pv 0)) (pg_name (i := 1) scCommonMultiple.nd rfl (Or.inl rfl))
        (pss_one (ps_set (i := 2) scCommonMultiple.nd rfl (Or.inl rfl) (pe_callBfun cr_lcm rfl T.b_lcm (pa_cons (pv 2) (pa_cons (pv 1) pa_nil))))))
      (pss_one (ps_ret (pv 2))))))), ?_⟩
    refine ⟨_, rfl, a, ns, rfl, hI, ?_⟩
    intro H1 sm
    have hS1 := same_sqt sm hI.1
    refine ⟨_, rfl, a, rfl, ⟨_, hS1⟩, ?_⟩
    intro D nD
    refine lc_tpl (fun x => .bl (match x with | .int n => decide (0 < n) | _ => false)) hS1 nD (by rw [List.length_map]; exact Nat.le_of_lt (small1000 hI.2.1)) ?_ ?_
    · intro x acc hx Q' q'
      obtain ⟨n, _, rfl⟩ := List.mem_map.mp hx
      exact ⟨_, rfl, _, _, rfl, rfl, q'⟩
    refine ⟨D, ns.map fun n => decide (0 < n), rfl, .inl (.inl (Eq.trans upd_same ?_)), ?_⟩
    · rw [List.map_map, List.map_map]
      rfl
    refine ⟨_, rfl, ?_⟩
    refine ifF ?_ ?_
    · rw [all_map (fun x hx => decide_eq_true (hL.1 x hx))]
      rfl
    have sm2 := sm.trans (same_new (o := .lst ((ns.map V.int).map fun x => V.bl (match x with | .int n => decide (0 < n) | _ => false))) nD)
    generalize upd H1 D _ = H' at sm2 ⊢
    have hS := same_sqt sm2 hI.1
    refine ⟨_, rfl, a, rfl, ⟨_, hS⟩, for_tup (K := K) (a := a) (xs := ns.map V.int)
      (fun i σ H2 => H2 = H' ∧ ∃ y, σ = [some (.ref a), y, some (.int (lcmL (ns.take i) : Nat))]) ⟨rfl, none, rfl⟩ (fun i σ H2 _ e => by rw [e.1]; exact hS) ?_ ?_⟩
    · rintro i x σ H2 hi ⟨rfl, y, rfl⟩
      obtain ⟨n, hn, rfl⟩ := map_int hi
      refine ⟨_, rfl, _, rfl, _, _, rfl, ?_, isI_13000 (hI.2.2 n (List.mem_of_getElem? hn)), rfl, some (.int n), ?_⟩
      · rw [Int.natAbs_natCast]
        exact hL.2 i
      show [some (V.ref a), some (V.int n), some (V.int ((Nat.lcm (((lcmL (ns.take i) : Nat) : Int)).natAbs n.natAbs : Nat) : Int))] = _
      rw [lcmL_more hn, Int.natAbs_natCast]
    · rintro σ H2 ⟨rfl, y, rfl⟩
      rw [List.length_map, List.take_length]
      exact ⟨_, rfl, q _ sm2⟩
def signG (b : Int) (g : Nat) : Int := if b < 0 then -(g : Int) else (g : Int)
def spLowest (K : PySem.W.Frag) : Sp := fun vs H Q _ => ∃ t b : Int, vs = [.int t, .int b] ∧ isI (.int t) = true ∧ isI (.int b) = true ∧ b ≠ 0 ∧
  ∀ p, H p = none → Q (.ref p) (upd H p (.tup [.int (t.fdiv (signG b (Nat.gcd t.natAbs b.natAbs))), .int (b.fdiv (signG b (Nat.gcd t.natAbs b.natAbs)))]))
theorem isI_8999 {n : Int} (h : isI (.int n) = true) : n.natAbs < 2 ^ 200 := by
  have e : (decide (-10 ^ 60 < n) && decide (n < 10 ^ 60)) = true := h
  rw [Bool.and_eq_true] at e
  have a := of_decide_eq_true e.1
  have b := of_decide_eq_true e.2
  have c : n.natAbs < 10 ^ 60 := by omega
  exact Nat.lt_of_lt_of_le c (by decide)
theorem scReduced : FnScope ["top", "bottom", "shared"] ["top", "bottom"] (defScope sReduced) :=
  ⟨rfl, rfl, rfl, by decide +kernel, rfl, by decide +kernel, by decide +kernel⟩
theorem dReduced (T : Tx K mg) : Def P w K mg base CX0 1 "reduced" ["top", "bottom"] (spLowest K) := by
  refine T.t_reduced.def_ (N := ["top", "bottom", "shared"]) scReduced (fun _ _ _ _ _ _ us hl => match us, hl with | [_, _], _ => rfl) ?_ ?_
  · intro vs H Q E h
    obtain ⟨t, b, rfl, _⟩ := h
    rfl
  · intro f cd A out s H vs Q E hr h
    obtain ⟨t, b, rfl, ht, hb, h0, q⟩ := h
    refine ⟨_, (pss_cons (ps_set (i := 2) scReduced.nd rfl (Or.inl rfl) (pe_callBfun cr_gcd rfl T.b_gcd (pa_cons (pv 0) (pa_cons (pv 1) pa_nil))))
      (pss_cons (ps_if (pt_cmpR op_lt (pv 1) pe_int (nomark _)) (pss_one (ps_set (i := 2) scReduced.nd rfl (Or.inl rfl) (pe_un un_neg (pv 2)))) pss_nil)
      (pss_one (ps_ret (pe_tup (pa_cons (pe_op op_fdivG (pv 0) (pv 2)) (pa_cons (pe_op op_fdivG (pv 1) (pv 2)) pa_nil))))))), ?_⟩
    refine ⟨_, rfl, _, rfl, t, b, rfl, ?_⟩
    refine ⟨_, rfl, _, _, rfl, rfl, _, rfl, ?_⟩
    have g0 : 0 < Nat.gcd t.natAbs b.natAbs := Nat.gcd_pos_of_pos_right _ (by omega)
    have g1 : Nat.gcd t.natAbs b.natAbs ≤ b.natAbs := Nat.gcd_le_right _ (by omega)
    have gs : (signG b (Nat.gcd t.natAbs b.natAbs)).natAbs = Nat.gcd t.natAbs b.natAbs := by
      unfold signG
      split <;> omega
    have gd : ∀ i, CDivG i (signG b (Nat.gcd t.natAbs b.natAbs)) := fun i => divG (by omega) (by
      rw [gs]
      exact Nat.lt_of_lt_of_le (Nat.lt_of_le_of_lt g1 (isI_8999 hb)) (Nat.pow_le_pow_right (by decide) (by decide)))
    refine ite2 (fun c => ?_) (fun c => ?_)
    · have b0 : b < 0 := of_decide_eq_true c
      have eg : signG b (Nat.gcd t.natAbs b.natAbs) = -((Nat.gcd t.natAbs b.natAbs : Nat) : Int) := if_pos b0
      rw [eg] at gd q
      exact ⟨_, rfl, _, rfl, _, rfl, _, rfl, _, _, rfl, rfl, gd _, _, rfl, _, rfl, _, _, rfl, rfl, gd _, by (show 2 ≤ sizeLine); decide, fun p hp => q p hp⟩
    · have b0 : ¬ b < 0 := fun z => c (decide_eq_true z)
      have eg : signG b (Nat.gcd t.natAbs b.natAbs) = ((Nat.gcd t.natAbs b.natAbs : Nat) : Int) := if_neg b0
      rw [eg] at gd q
      exact ⟨_, rfl, _, rfl, _, _, rfl, rfl, gd _, _, rfl, _, rfl, _, _, rfl, rfl, gd _, by (show 2 ≤ sizeLine); decide, fun p hp => q p hp⟩
theorem scLowest : FnScope ["top", "bottom"] ["top", "bottom"] (defScope sLowest) :=
  ⟨rfl, rfl, rfl, by decide +kernel, rfl, by decide +kernel, by decide +kernel⟩
theorem dLowest (T : Tx K mg) (DIsInteger : Def P w K mg base CX0 2 "is_integer" ["value"] (spIsInteger K)) (DNeedDivided : Def P w K mg base CX0 3 "_need_divided" ["number"] spNeedDivided) (DReduced : Def P w K mg base CX0 1 "reduced" ["top", "bottom"] (spLowest K)) : Def P w K mg base CX0 4 "lowest" ["top", "bottom"] (spLowest K) := by
  refine T.t_lowest.def_ (N := ["top", "bottom"]) scLowest (fun _ _ _ _ _ _ us hl => match us, hl with | [_, _], _ => rfl) ?_ ?_
  · intro vs H Q E h
    obtain ⟨t, b, rfl, _⟩ := h
    rfl
  · intro f cd A out s H vs Q E hr h
    have hr1 : Rm 3 _ := hr.le (by decide)
    obtain ⟨t, b, rfl, ht, hb, h0, q⟩ := h
    refine ⟨_, (pss_cons (ps_if (pt_not (pt_val (pe_d DIsInteger (hr1.le (by decide)) pass0 (pa_cons (pv 0) pa_nil)))) (pss_one ps_never) pss_nil)
      (pss_cons (ps_expr (pe_d DNeedDivided (hr1.le (by decide)) pass0 (pa_cons (pv 1) pa_nil)))
      (pss_one (ps_ret (pe_d DReduced (hr1.le (by decide)) pass0 (pa_cons (pv 0) (pa_cons (pv 1) pa_nil))))))), ?_⟩
    refine ⟨_, rfl, _, .int, rfl, .int t, _, rfl, ?_⟩
    refine ifF (by rw [ht]; rfl) ?_
    refine ⟨_, rfl, b, rfl, hb, h0, ?_⟩
    exact ⟨_, rfl, _, rfl, t, b, rfl, ht, hb, h0, q⟩
end
end K01


set_option Elab.async false
set_option linter.all false
set_option maxRecDepth 100000
set_option maxHeartbeats 2000000
namespace K01
open PySem PySem.Spec PyProof.Rows L2 MM
/-! own words for the readings: a step, its side -/
local macro_rules | `(tactic| walk_at "side") => `(tactic| first
  | omega
  | exact ⟨by omega, by omega⟩
  | exact Or.inl ⟨by omega, by omega⟩
  | exact Or.inr ⟨by omega, by omega⟩
  | (show CPw _ _; decide +kernel)
  | (show (0 : Int) < _; decide +kernel)
  | (show CDivW _ _; first | assumption | exact ⟨by decide, by decide +kernel⟩))
local macro_rules | `(tactic| walk_at "here") => `(tactic| first
  | assumption
  | exact upd_same
  | exact Or.inl (Or.inl upd_same)
  | exact Or.inl upd_same)
local macro_rules | `(tactic| walk_at "one") => `(tactic| first
  | refine ⟨_, rfl, ?_⟩
  | refine Or.inl ⟨_, rfl, ?_⟩
  | refine Or.inr ⟨_, rfl, ?_⟩
  | refine ⟨_, _, rfl, rfl, (by walk_at "side"), ?_⟩
  | refine ⟨_, _, rfl, rfl, ?_⟩
  | refine ⟨_, _, rfl, Or.inl (by walk_at "here"), ?_⟩
  | refine ⟨_, _, rfl, Or.inr (by walk_at "here"), ?_⟩
  | refine ⟨_, _, rfl, (by walk_at "here"), ?_⟩
  | refine ⟨_, _, _, _, rfl, rfl, (by walk_at "here"), rfl, ?_⟩
  | refine ⟨_, _, rfl, ?_⟩
  | refine ifT (by rfl) ?_
  | refine ifF (by rfl) ?_
  | refine ifT (decide_eq_true (by omega)) ?_
  | refine ifF (decide_eq_false (by omega)) ?_)
local macro_rules | `(tactic| walk_at "st") => `(tactic| repeat (walk_at "one"))

section
variable {P : Program} {w : World} {K : PySem.W.Frag} {mg : Str → Option Value} {base : Heap}
/-- a heap that differs in the bag, and in new objects -/
structure Upto (p : Addr) (H H' : Hp) : Prop where
  same : ∀ b o, b ≠ p → H b = some o → H' b = some o
  bag : BagAt H' p
theorem Upto.refl {p : Addr} {H : Hp} (h : BagAt H p) : Upto p H H := ⟨fun _ _ _ e => e, h⟩
theorem Upto.draw {p : Addr} {H H' : Hp} {a b c : Int} (h : Upto p H H') : Upto p H (upd H' p (.lst [.int a, .int b, .int c])) :=
  ⟨fun x o n e => by rw [upd_ne n]; exact h.same x o n e, ⟨a, b, c, upd_same⟩⟩
theorem Upto.new {p t : Addr} {H H' : Hp} {o : HO} (h : Upto p H H') (f : H' t = none) : Upto p H (upd H' t o) := by
  obtain ⟨a, b, c, e⟩ := h.bag
  exact ⟨fun x y n e => by rw [upd_ne (ne_of_none (h.same x y n e) f)]; exact h.same x y n e, ⟨a, b, c, by rw [upd_ne (ne_of_none e f)]; exact e⟩⟩
theorem Upto.trans {p : Addr} {H H' H2 : Hp} (h : Upto p H H') (k : Upto p H' H2) : Upto p H H2 := ⟨fun x o n e => k.same x o n (h.same x o n e), k.bag⟩
theorem Upto.keep {p : Addr} {H H' H2 : Hp} (h : Upto p H H') (k : Same H' H2) : Upto p H H2 := by
  obtain ⟨a, b, c, e⟩ := h.bag
  exact ⟨fun x o n e => k x o (h.same x o n e), ⟨a, b, c, k _ _ e⟩⟩
theorem Upto.sqt {p a : Addr} {H H' : Hp} {xs : List V} (h : Upto p H H') (s : SqT K H a xs) (ne : a ≠ p) : SqT K H' a xs := by
  rcases s with (s | ⟨o, s⟩) | s
  · exact .inl (.inl (h.same _ _ ne s))
  · exact .inl (.inr ⟨o, h.same _ _ ne s⟩)
  · exact .inr s
theorem Upto.sql {p a : Addr} {H H' : Hp} {xs : List V} (h : Upto p H H') (s : SqL K H a xs) (ne : a ≠ p) : SqL K H' a xs := by
  rcases s with (s | ⟨o, s⟩) | s
  · exact .inl (.inl (h.same _ _ ne s))
  · exact .inl (.inr ⟨o, h.same _ _ ne s⟩)
  · exact .inr s
theorem oneLit {p l : Addr} {H H2 : Hp} {xs : List V} {Q : VK} {E : XK} (up : Upto p H H2) (hl : H2 l = none) (h0 : 0 < xs.length) (h1 : xs.length ≤ 1000)
    (q : ∀ v H', v ∈ xs → Upto p H H' → Q v H') : spOneOf K [.ref p, .ref l] (upd H2 l (.lst xs)) Q E := by
  obtain ⟨c1, c2, c3, ec⟩ := up.bag
  have np : l ≠ p := fun e => by rw [e, ec] at hl; cases hl
  exact ⟨p, l, c1, c2, c3, _, rfl, (upd_ne np.symm).trans ec, .inl (.inl upd_same), np, h0, h1, fun v g' m' c' hv => q v _ hv (up.new hl).draw⟩
def spDrawn : Sp := fun vs H Q _ => ∃ (p : Addr) (m : Int), vs = [.ref p, .int m] ∧ BagAt H p ∧ 1 ≤ m ∧ m ≤ 10 ^ 9 ∧ ∀ n H', 1 ≤ n → n ≤ m → Upto p H H' → Q (.int n) H'
theorem divs {m : Int} (h : 1 ≤ m) (h2 : m ≤ 10 ^ 9) (i : Int) : CDivW i m := wide_div (b := 40) (by omega) (by omega) (by decide) (by decide)
theorem parts {v : V} (h : v ∈ [V.int 2, .int 2, .int 3, .int 3, .int 5, .int 7, .int 11, .int 13, .int 97, .int 101, .int 997]) : ∃ k : Int, v = .int k ∧ 2 ≤ k ∧ k ≤ 997 := by
  simp only [List.mem_cons, List.not_mem_nil, or_false] at h
  rcases h with h | h | h | h | h | h | h | h | h | h | h
  all_goals exact ⟨_, h, by decide, by decide⟩
theorem scNbDrawnL : FnScope ["_law_bag_here", "_law_high", "_law_found", "_law_turn", "_law_part"] ["_law_bag_here", "_law_high"] (defScope sNbDrawnL) :=
  ⟨rfl, rfl, rfl, by decide +kernel, rfl, by decide +kernel, by decide +kernel⟩
theorem dNbDrawnL (T : Tx K mg) (DGrabL : Def P w K mg base CX0 1 "_law_grab" ["_law_bag_here", "_law_total"] spGrab) (DOneOfL : Def P w K mg base CX0 2 "_law_one_of" ["_law_bag_here", "_law_items"] (spOneOf K)) : Def P w K mg base CX0 3 "_law_nb_drawn" ["_law_bag_here", "_law_high"] spDrawn := by
  refine T.t_law_nb_drawn.def_ (N := ["_law_bag_here", "_law_high", "_law_found", "_law_turn", "_law_part"]) scNbDrawnL (fun _ _ _ _ _ _ us hl => match us, hl with | [_, _], _ => rfl) ?_ ?_
  · intro vs H Q E h
    obtain ⟨p, m, rfl, _⟩ := h
    rfl
  · intro f cd A out s H vs Q E hr h
    have hr1 : Rm 2 _ := hr.le (by decide)
    obtain ⟨p, m, rfl, hb, h1, h2, q⟩ := h
    refine ⟨_, (pss_cons (ps_set (i := 2) scNbDrawnL.nd rfl (Or.inl rfl) pe_int)
      (pss_cons (ps_for PassesOwn.never rfl (pi_range1 rfl T.f_range (pa_cons (pe_d DGrabL (hr1.le (by decide)) pass0 (pa_cons (pv 0) (pa_cons pe_int pa_nil))) pa_nil)) (pg_name (i := 3) scNbDrawnL.nd rfl (Or.inl rfl))
        (pss_cons (ps_set (i := 4) scNbDrawnL.nd rfl (Or.inl rfl) (pe_d DOneOfL (hr1.le (by decide)) pass0 (pa_cons (pv 0) (pa_cons (pe_lst (pa_cons pe_int (pa_cons pe_int (pa_cons pe_int (pa_cons pe_int (pa_cons pe_int (pa_cons pe_int (pa_cons pe_int (pa_cons pe_int (pa_cons pe_int (pa_cons pe_int (pa_cons pe_int pa_nil)))))))))))) pa_nil))))
        (pss_one (ps_set (i := 2) scNbDrawnL.nd rfl (Or.inl rfl) (pe_ifExp (pt_cmpR op_le (pe_op op_mul (pv 2) (pv 4)) (pv 1) (nomark _)) (pe_op op_mul (pv 2) (pv 4)) (pv 2))))))
      (pss_one (ps_ret (pe_ifExp (pt_cmpR op_gt (pe_d DGrabL (hr1.le (by decide)) pass0 (pa_cons (pv 0) (pa_cons pe_int pa_nil))) pe_int (nomark _)) (pv 2) (pe_op op_add pe_int (pe_d DGrabL (hr1.le (by decide)) pass0 (pa_cons (pv 0) (pa_cons (pv 1) pa_nil))))))))), ?_⟩
    obtain ⟨b1, b2, b3, eb⟩ := hb
    refine ⟨_, rfl, p, 9, b1, b2, b3, rfl, eb, ⟨by decide, by decide⟩, ?_⟩
    intro r g' m' c' r0 r9
    refine ⟨r, rfl, by omega, by omega, for_range (fun i σ H2 => Upto p H H2 ∧ ∃ (f : Int) (y z : Option V), σ = [some (.ref p), some (.int m), some (.int f), y, z] ∧ 1 ≤ f ∧ f ≤ m)
      ⟨(Upto.refl ⟨_, _, _, eb⟩).draw, 1, none, none, rfl, by omega, by omega⟩ ?_ ?_⟩
    · rintro i σ H2 hi ⟨up, f, y, z, rfl, f1, fm⟩
      obtain ⟨c1, c2, c3, ec⟩ := up.bag
      refine ⟨_, rfl, by (show 11 ≤ sizeLine); decide, fun l hl => ?_⟩
      have np : l ≠ p := fun e => by rw [e, ec] at hl; cases hl
      refine ⟨p, l, c1, c2, c3, _, rfl, (upd_ne np.symm).trans ec, .inl (.inl upd_same), np, by decide, by decide, fun v g' m' c' hv => ?_⟩
      obtain ⟨k, rfl, k2, k9⟩ := parts hv
      have up2 : Upto p H (upd (upd H2 l (.lst [.int 2, .int 2, .int 3, .int 3, .int 5, .int 7, .int 11, .int 13, .int 97, .int 101, .int 997])) p (.lst [.int g', .int m', .int c'])) := (up.new hl).draw
      generalize upd (upd H2 l _) p _ = H3 at up2 ⊢
      have m1 : 1 ≤ f * k := by
        have h3 : 0 < f * k := Int.mul_pos (by omega) (by omega)
        omega
      refine ⟨_, rfl, _, rfl, _, _, rfl, rfl, .inl ⟨by omega, by omega⟩, _, rfl, _, _, rfl, rfl, _, rfl, ?_⟩
      refine ite2 (fun c => ?_) (fun c => ?_)
      · have c2 : f * k ≤ m := of_decide_eq_true c
        exact ⟨_, rfl, _, rfl, _, _, rfl, rfl, .inl ⟨by omega, by omega⟩, up2, f * k, _, _, rfl, m1, c2⟩
      · exact ⟨_, rfl, up2, f, _, _, rfl, f1, fm⟩
    · rintro σ H2 ⟨up, f, y, z, rfl, f1, fm⟩
      obtain ⟨c1, c2, c3, ec⟩ := up.bag
      refine ⟨_, rfl, p, 3, c1, c2, c3, rfl, ec, ⟨by decide, by decide⟩, ?_⟩
      intro r3 a1 a2 a3 r30 r33
      have up3 := up.draw (a := a1) (b := a2) (c := a3)
      refine ⟨_, _, rfl, rfl, _, rfl, ?_⟩
      refine ite2 (fun c => ?_) (fun c => ?_)
      · exact ⟨_, rfl, q f _ f1 fm up3⟩
      · refine ⟨_, rfl, _, rfl, p, m, a1, a2, a3, rfl, upd_same, divs h1 h2 0, ?_⟩
        intro r4 d1 d2 d3 r40 r4m
        exact ⟨_, _, rfl, rfl, q _ _ (by omega) (by omega) up3.draw⟩
end
end K01


set_option Elab.async false
set_option linter.all false
set_option maxRecDepth 100000
set_option maxHeartbeats 2000000
namespace K01
open PySem PySem.Spec PyProof.Rows L2 MM
/-! own words for the readings: a step, its side -/
local macro_rules | `(tactic| walk_at "side") => `(tactic| first
  | omega
  | exact ⟨by omega, by omega⟩
  | exact Or.inl ⟨by omega, by omega⟩
  | exact Or.inr ⟨by omega, by omega⟩
  | (show CPw _ _; decide +kernel)
  | (show (0 : Int) < _; decide +kernel)
  | (show CDivW _ _; first | assumption | exact ⟨by decide, by decide +kernel⟩))
local macro_rules | `(tactic| walk_at "here") => `(tactic| first
  | assumption
  | exact upd_same
  | exact Or.inl (Or.inl upd_same)
  | exact Or.inl upd_same)
local macro_rules | `(tactic| walk_at "one") => `(tactic| first
  | refine ⟨_, rfl, ?_⟩
  | refine Or.inl ⟨_, rfl, ?_⟩
  | refine Or.inr ⟨_, rfl, ?_⟩
  | refine ⟨_, _, rfl, rfl, (by walk_at "side"), ?_⟩
  | refine ⟨_, _, rfl, rfl, ?_⟩
  | refine ⟨_, _, rfl, Or.inl (by walk_at "here"), ?_⟩
  | refine ⟨_, _, rfl, Or.inr (by walk_at "here"), ?_⟩
  | refine ⟨_, _, rfl, (by walk_at "here"), ?_⟩
  | refine ⟨_, _, _, _, rfl, rfl, (by walk_at "here"), rfl, ?_⟩
  | refine ⟨_, _, rfl, ?_⟩
  | refine ifT (by rfl) ?_
  | refine ifF (by rfl) ?_
  | refine ifT (decide_eq_true (by omega)) ?_
  | refine ifF (decide_eq_false (by omega)) ?_)
local macro_rules | `(tactic| walk_at "st") => `(tactic| repeat (walk_at "one"))

theorem hu0 {k : Nat} {A : Around} (h : Rm k A) : A.units < cLine := by have := h.hu1; omega
theorem find_self : ∀ {fs : Fs}, (fs.map (·.1)).Pairwise (· < ·) → ∀ p ∈ fs, fs.find? (fun q => decide (q.1 = p.1)) = some p
  | [], _, p, h => by cases h
  | q :: r, pw, p, h => by
    rw [List.map_cons, List.pairwise_cons] at pw
    rcases List.mem_cons.mp h with e | e
    · subst e
      exact List.find?_cons_of_pos (by simp)
    · have lt := pw.1 p.1 (List.mem_map.mpr ⟨p, e, rfl⟩)
      rw [List.find?_cons_of_neg (by simp; omega)]
      exact find_self pw.2 p e
theorem toK_val {fs : Fs} (h : (fs.map (·.1)).Pairwise (· < ·)) : ∀ kv ∈ toK fs, valV (toK fs) kv.1 = some kv.2 ∧ flatB kv.2 = true := by
  intro kv hkv
  obtain ⟨p, hp, rfl⟩ := List.mem_map.mp hkv
  refine ⟨?_, rfl⟩
  rw [valV_toK, find_self h p hp]
  rfl
theorem primes7 {v : V} (h : v ∈ [V.int 2, .int 3, .int 5, .int 7, .int 11, .int 13, .int 97]) : ∃ k : Nat, v = .int (k : Int) ∧ isP (.int (k : Int)) = true := by
  simp only [List.mem_cons, List.not_mem_nil, or_false] at h
  rcases h with h | h | h | h | h | h | h
  · exact ⟨2, h, by decide +kernel⟩
  · exact ⟨3, h, by decide +kernel⟩
  · exact ⟨5, h, by decide +kernel⟩
  · exact ⟨7, h, by decide +kernel⟩
  · exact ⟨11, h, by decide +kernel⟩
  · exact ⟨13, h, by decide +kernel⟩
  · exact ⟨97, h, by decide +kernel⟩
theorem facs_len {fs : Fs} {n : Nat} (h : 2 ^ fs.length ≤ n) (hn : n ≤ 10 ^ 9) : fs.length < 64 := by
  by_cases c : fs.length < 64
  · exact c
  · have h2 : 2 ^ 64 ≤ 2 ^ fs.length := Nat.pow_le_pow_right (by decide) (by omega)
    have h3 : (2 : Nat) ^ 64 ≤ 10 ^ 9 := Nat.le_trans h2 (Nat.le_trans h hn)
    exact absurd h3 (by decide)
theorem facs_le {fs : Fs} (h : (fs.map (·.1)).Pairwise (· < ·)) : (fs.map fun p => (p.1 : Int)).Pairwise (· ≤ ·) := by
  rw [List.pairwise_map] at h ⊢
  exact h.imp fun h => by omega
theorem toK_kV (fs : Fs) : ((toK fs).map fun kv => kV kv.1) = (fs.map fun p => (p.1 : Int)).map V.int := by
  unfold toK
  rw [List.map_map, List.map_map]
  rfl
theorem mults {v : V} (h : v ∈ [V.int 1, .int 16, .int 81, .int (10 ^ (40 : Int).toNat)]) : ∃ k : Int, v = .int k ∧ 1 ≤ k ∧ k ≤ 10 ^ 40 := by
  simp only [List.mem_cons, List.not_mem_nil, or_false] at h
  rcases h with h | h | h | h
  all_goals exact ⟨_, h, by decide +kernel, by decide +kernel⟩
theorem signs {v : V} (h : v ∈ [V.int 1, .int (-1)]) : ∃ k : Int, v = .int k ∧ (k = 1 ∨ k = -1) := by
  simp only [List.mem_cons, List.not_mem_nil, or_false] at h
  rcases h with h | h
  · exact ⟨_, h, .inl rfl⟩
  · exact ⟨_, h, .inr rfl⟩
theorem bag_new {H : Hp} {p l : Addr} {x o : HO} (e : H p = some x) (f : H l = none) : (upd H l o) p = some x := (upd_ne (ne_of_none e f)).trans e
theorem bag_ne {H : Hp} {p l : Addr} {x : HO} (e : H p = some x) (f : H l = none) : l ≠ p := fun z => by rw [z, e] at f; cases f
theorem isI_of {n : Int} (h1 : -10 ^ 60 < n) (h2 : n < 10 ^ 60) : isI (.int n) = true := by
  show (decide (-10 ^ 60 < n) && decide (n < 10 ^ 60)) = true
  rw [decide_eq_true h1, decide_eq_true h2]
  rfl
theorem iterP_le {p m : Nat} (hp : 0 < p) (hm : 0 < m) : ∀ i t, 0 < t → t ≤ m → 0 < iterP p m i t ∧ iterP p m i t ≤ m
  | 0, t, h0, h1 => ⟨h0, h1⟩
  | i + 1, t, h0, h1 => by
    show 0 < iterP p m i (stepP p m t) ∧ iterP p m i (stepP p m t) ≤ m
    unfold stepP
    split
    · rename_i c
      exact iterP_le hp hm i (t * p) (Nat.mul_pos h0 hp) (Nat.le_of_dvd hm (Nat.dvd_of_mod_eq_zero c))
    · exact iterP_le hp hm i t h0 h1
section
variable {P : Program} {w : World} {K : PySem.W.Frag} {mg : Str → Option Value} {base : Heap}
def spRight : Sp := fun vs H Q _ => ∃ p, vs = [.ref p] ∧ BagAt H p ∧ ∀ H', Upto p H H' → Q (.bl true) H'
theorem scFactorsRightL : FnScope ["_law_bag_here", "_law_number", "_law_told", "_law_prime", "_law_power", "_law_great", "_law_turn"] ["_law_bag_here"] (defScope sFactorsRightL) :=
  ⟨rfl, rfl, rfl, by decide +kernel, rfl, by decide +kernel, by decide +kernel⟩
theorem dFactorsRightL (T : Tx K mg) (DNbDrawnL : Def P w K mg base CX0 3 "_law_nb_drawn" ["_law_bag_here", "_law_high"] spDrawn) (DOneOfL : Def P w K mg base CX0 2 "_law_one_of" ["_law_bag_here", "_law_items"] (spOneOf K)) (DPrimeFactors : Def P w K mg base CX0 4 "prime_factors" ["number"] spFacs) (DNbFactorsL : Def P w K mg base CX0 1 "_law_nb_factors" ["_law_number"] spFacs2) (DPartAt : Def P w K mg base CX0 5 "part_at" ["prime", "number"] spPartAt) : Def P w K mg base CX0 6 "_law_factors_right" ["_law_bag_here"] spRight := by
  refine T.t_law_factors_right.def_ (N := ["_law_bag_here", "_law_number", "_law_told", "_law_prime", "_law_power", "_law_great", "_law_turn"]) scFactorsRightL (fun _ _ _ _ _ _ us hl => match us, hl with | [_], _ => rfl) ?_ ?_
  · intro vs H Q E h
    obtain ⟨p, rfl, _⟩ := h
    rfl
  · intro f cd A out s H vs Q E hr h
    have hr1 : Rm 5 _ := hr.le (by decide)
    obtain ⟨p, rfl, hb, q⟩ := h
    refine ⟨_, (pss_cons (ps_set (i := 1) scFactorsRightL.nd rfl (Or.inl rfl) (pe_d DNbDrawnL (hr1.le (by decide)) pass0 (pa_cons (pv 0) (pa_cons (pe_op op_pw pe_int pe_int) pa_nil))))
      (pss_cons (ps_par (i := 2) (j := 3) rfl scFactorsRightL.nd rfl rfl (by decide) rfl rfl (pa_cons (pe_d DPrimeFactors (hr1.le (by decide)) pass0 (pa_cons (pv 1) pa_nil)) (pa_cons (pe_d DOneOfL (hr1.le (by decide)) pass0 (pa_cons (pv 0) (pa_cons (pe_lst (pa_cons pe_int (pa_cons pe_int (pa_cons pe_int (pa_cons pe_int (pa_cons pe_int (pa_cons pe_int (pa_cons pe_int pa_nil)))))))) pa_nil))) pa_nil)) (by rfl))
      (pss_cons (ps_if (PW.pt (pw_or (pt_cmpR (op_ne_dictA (hu0 hr)) (pv 2) (pe_d DNbFactorsL (hr1.le (by decide)) pass0 (pa_cons (pv 1) pa_nil)) (nomark _)) (pw_or1 (pt_cmpR (op_neD hr.hu) (pe_callTy (call_list_dK rfl) rfl T.f_list (by decide +kernel) (pa_cons (pv 2) pa_nil)) (pe_callB (call_sortedDI rfl) rfl T.f_sorted (by decide +kernel) (pa_cons (pv 2) pa_nil)) (nomark _))))) (pss_one (ps_ret pe_bl)) pss_nil)
      (pss_cons (ps_par (i := 4) (j := 5) rfl scFactorsRightL.nd rfl rfl (by decide) rfl rfl (pa_cons pe_int (pa_cons (pe_op op_mul (pe_op op_mul (pv 1) (pe_d DOneOfL (hr1.le (by decide)) pass0 (pa_cons (pv 0) (pa_cons (pe_lst (pa_cons pe_int (pa_cons pe_int (pa_cons pe_int (pa_cons (pe_op op_pw pe_int pe_int) pa_nil))))) pa_nil)))) (pe_d DOneOfL (hr1.le (by decide)) pass0 (pa_cons (pv 0) (pa_cons (pe_lst (pa_cons pe_int (pa_cons (pe_un un_neg pe_int) pa_nil))) pa_nil)))) pa_nil)) (by rfl))
      (pss_cons (ps_for PassesOwn.never rfl (pi_range1 rfl T.f_range (pa_cons pe_int pa_nil)) (pg_name (i := 6) scFactorsRightL.nd rfl (Or.inl rfl))
        (pss_one (ps_set (i := 4) scFactorsRightL.nd rfl (Or.inl rfl) (pe_ifExp (pt_cmpR op_eq (pe_op op_mod (pv 5) (pe_op op_mul (pv 4) (pv 3))) pe_int (nomark _)) (pe_op op_mul (pv 4) (pv 3)) (pv 4)))))
      (pss_one (ps_ret (pe_and (pe_cmpR op_eq (pe_d DPartAt (hr1.le (by decide)) pass0 (pa_cons (pv 3) (pa_cons (pv 5) pa_nil))) (pv 4) (nomark _)) (pe_and (pe_cmpR op_eq (pe_d DPartAt (hr1.le (by decide)) pass0 (pa_cons (pv 3) (pa_cons (pv 4) pa_nil))) (pv 4) (nomark _)) (pe_one (pe_cmpR op_eq (pe_d DPartAt (hr1.le (by decide)) pass0 (pa_cons (pv 3) (pa_cons pe_int pa_nil))) pe_int (nomark _)))))))))))), ?_⟩
    refine ⟨_, rfl, _, _, rfl, rfl, by (show CPw _ _); decide +kernel, p, _, rfl, hb, by decide, by decide, ?_⟩
    intro n0 H1 n1 n2 up1
    obtain ⟨n, rfl⟩ : ∃ n : Nat, n0 = (n : Int) := ⟨n0.toNat, by omega⟩
    have n2' : (n : Int) ≤ 10 ^ 9 := n2
    refine ⟨_, rfl, n, rfl, by omega, by omega, fun a ha => ?_⟩
    have na : a ≠ p := fun e => by obtain ⟨c1, c2, c3, ec⟩ := up1.bag; rw [e, ec] at ha; cases ha
    have upA := up1.new (o := .dK (toK (facs n))) ha
    refine ⟨_, rfl, by (show 7 ≤ sizeLine); decide, fun l hl => oneLit (E := E0) (Upto.refl upA.bag) hl (by decide) (by decide) fun v H3 hv up3 => ?_⟩
    obtain ⟨k, rfl, hk⟩ := primes7 hv
    have ea : H3 a = some (.dK (toK (facs n))) := up3.same a _ na upd_same
    replace up3 := upA.trans up3
    have fo := facs_ok (n := n) (by omega)
    refine ⟨_, _, rfl, ?_⟩
    refine ⟨_, rfl, _, rfl, n, rfl, by omega, by omega, fun H4 p4 sm4 n4 e4 => ?_⟩
    have ea4 := sm4 _ _ ea
    replace up4 := up3.keep sm4
    refine ⟨a, p4, _, _, rfl, rfl, ea4, e4, rfl, toK_val fo.1, ?_⟩
    refine ⟨_, rfl, ?_⟩
    refine ⟨_, rfl, a, _, rfl, ea4, fun l1 h5 => ?_⟩
    have up5 := up4.new (o := .lst ((toK (facs n)).map fun kv => kV kv.1)) h5
    have ea5 : (upd H4 l1 (.lst ((toK (facs n)).map fun kv => kV kv.1))) a = some (.dK (toK (facs n))) := (upd_ne (ne_of_none ea4 h5)).trans ea4
    refine ⟨_, rfl, a, _, _, rfl, .inl ea5, toK_keys _, ?_, fun ys l2 pm pw h6 => ?_⟩
    · rw [List.length_map]
      exact facs_len fo.2 (by omega)
    obtain rfl := (List.Perm.eq_of_pairwise (fun _ _ _ _ a b => Int.le_antisymm a b) pw (facs_le fo.1) pm)
    have up6 := up5.new (o := .lst (((facs n).map fun p => (p.1 : Int)).map V.int)) h6
    have n12 : l1 ≠ l2 := fun e => by rw [e, upd_same] at h6; cases h6
    refine ⟨.list (((facs n).map fun p => (p.1 : Int)).map PyData.int), .list (((facs n).map fun p => (p.1 : Int)).map PyData.int),
      .lst (.inl (.inl ((upd_ne n12).trans (upd_same.trans (by rw [toK_kV])))) ) (dp_ints _), .lst (.inl (.inl upd_same)) (dp_ints _), shaped_ints _, shaped_ints _, ?_⟩
    refine ⟨_, rfl, ?_⟩
    refine ifF ?_ ?_
    · show (!PyData.eqvAll _ _) = false
      rw [eqvAll_ints, decide_eq_true rfl]
      rfl
    generalize upd (upd H4 l1 _) l2 _ = H6 at up6 ⊢
    refine ⟨_, rfl, _, rfl, _, _, rfl, rfl, by (show CPw _ _); decide +kernel, by (show 4 ≤ sizeLine); decide, fun l3 hl3 => ?_⟩
    obtain ⟨c1, c2, c3, ec⟩ := up6.bag
    refine ⟨p, _, c1, c2, c3, _, rfl, bag_new ec hl3, .inl (.inl upd_same), bag_ne ec hl3, by decide, by decide, fun v2 g' m' c' hv2 => ?_⟩
    have up7 := (up6.new (o := .lst [.int 1, .int 16, .int 81, .int (10 ^ (40 : Int).toNat)]) hl3).draw (a := g') (b := m') (c := c')
    generalize upd (upd _ _ _) p _ = H7 at up7 ⊢
    obtain ⟨m1, rfl, m10, m19⟩ := mults hv2
    refine ⟨_, _, rfl, rfl, .inl ⟨by omega, by omega⟩, ?_⟩
    refine ⟨_, rfl, _, rfl, by (show 2 ≤ sizeLine); decide, fun l4 hl4 => ?_⟩
    obtain ⟨c1, c2, c3, ec⟩ := up7.bag
    refine ⟨p, _, c1, c2, c3, _, rfl, bag_new ec hl4, .inl (.inl upd_same), bag_ne ec hl4, by decide, by decide, fun v3 g' m' c' hv3 => ?_⟩
    have up8 := (up7.new (o := .lst [.int 1, .int (-1)]) hl4).draw (a := g') (b := m') (c := c')
    generalize upd (upd _ _ _) p _ = H8 at up8 ⊢
    obtain ⟨sg, rfl, sg1⟩ := signs hv3
    refine ⟨_, _, rfl, rfl, .inr ⟨by omega, by omega⟩, ?_⟩
    refine ⟨_, _, rfl, ?_⟩
    obtain ⟨k2, k9⟩ := isP_bd hk
    show tSeq _ _ _ [some (.ref p), some (.int (n : Int)), some (.ref a), some (.int (k : Int)), some (.int 1), some (.int ((n : Int) * m1 * sg)), none] H8
    have g1 : 1 ≤ (n : Int) * m1 := by
      have h3 : 0 < (n : Int) * m1 := Int.mul_pos (by omega) (by omega)
      omega
    have g2 : (n : Int) * m1 ≤ 10 ^ 49 := by
      have h3 : (n : Int) * m1 ≤ 10 ^ 9 * 10 ^ 40 := Int.mul_le_mul n2' m19 (by omega) (by decide)
      exact h3
    have gG : ((n : Int) * m1 * sg).natAbs = ((n : Int) * m1).natAbs := by
      rcases sg1 with e | e <;> rw [e] <;> omega
    generalize (n : Int) * m1 * sg = G at gG ⊢
    generalize (n : Int) * m1 = N at g1 g2 gG
    obtain ⟨M, hM⟩ : ∃ M, M = G.natAbs := ⟨_, rfl⟩
    have M0 : 0 < M := by omega
    have M9 : M ≤ 10 ^ 49 := by omega
    have G0 : G ≠ 0 := by omega
    have Gi : isI (.int G) = true := isI_of (by omega) (by omega)
    have it : ∀ i, 0 < iterP k M i 1 ∧ iterP k M i 1 ≤ M := fun i => iterP_le (by omega) M0 i 1 (by decide) M0
    have ig : iterP k M 300 1 = grow k M 1 := iterP_grow k2 M0 300 1 (by decide) M0 (by
      rw [Nat.one_mul]
      exact Nat.lt_of_le_of_lt M9 (Nat.lt_of_lt_of_le (by decide : (10 : Nat) ^ 49 < 2 ^ 200) (Nat.le_trans (Nat.pow_le_pow_right (by decide) (by decide)) (Nat.pow_le_pow_left k2 300))))
    refine ⟨300, rfl, by decide, by decide, for_range (fun i σ H2 => H2 = H8 ∧ ∃ y, σ = [some (.ref p), some (.int (n : Int)), some (.ref a), some (.int (k : Int)), some (.int (iterP k M i 1 : Nat)), some (.int G), y])
      ⟨rfl, none, rfl⟩ ?_ ?_⟩
    · rintro i σ H2 hi ⟨rfl, y, rfl⟩
      obtain ⟨t0, tM⟩ := it i
      have tk : 0 < iterP k M i 1 * k := Nat.mul_pos t0 (by omega)
      refine ⟨_, rfl, _, rfl, _, rfl, _, _, rfl, rfl, .inr ⟨by omega, by omega⟩, _, _, rfl, rfl, ?_, ?_⟩
      · show (0 : Int) < ((iterP k M i 1 : Nat) : Int) * (k : Int)
        rw [← Int.natCast_mul]
        omega
      refine ⟨rfl, _, rfl, ?_⟩
      show (if decide (V.int (G % (((iterP k M i 1 : Nat) : Int) * (k : Int))) = V.int 0) = true then _ else _)
      rw [dInt, ← Int.natCast_mul, show decide (G % ((iterP k M i 1 * k : Nat) : Int) = 0) = decide (M % (iterP k M i 1 * k) = 0) from decide_eq_decide.mpr (by rw [hM]; exact mod_abs G _)]
      by_cases z : M % (iterP k M i 1 * k) = 0
      · refine ifT (decide_eq_true z) ?_
        refine ⟨_, rfl, _, rfl, _, _, rfl, rfl, .inr ⟨by omega, by omega⟩, rfl, some (.int (0 + i)), ?_⟩
        rw [iterP_snoc, stepP, if_pos z, Int.natCast_mul]
        rfl
      · refine ifF (decide_eq_false z) ?_
        refine ⟨_, rfl, rfl, some (.int (0 + i)), ?_⟩
        rw [iterP_snoc, stepP, if_neg z]
        rfl
    · rintro σ H2 ⟨rfl, y, rfl⟩
      rw [show Int.toNat 300 = 300 from rfl, ig]
      have gp := grow_pos k M 1 (by decide)
      have gl : grow k M 1 ≤ M := Nat.le_of_dvd M0 (grow_dvd k M 1 ⟨M, by omega⟩)
      refine ⟨_, rfl, _, rfl, k, G, rfl, hk, Gi, G0, fun HA smA => ?_⟩
      refine ⟨_, rfl, rfl, _, rfl, ?_⟩
      refine ifT ?_ ?_
      · show decide (V.int ((grow k G.natAbs 1 : Nat) : Int) = V.int ((grow k M 1 : Nat) : Int)) = true
        rw [← hM]
        exact decide_eq_true rfl
      refine ⟨_, rfl, _, rfl, k, _, rfl, hk, isI_of (by omega) (by omega), by omega, fun HB smB => ?_⟩
      refine ⟨_, rfl, rfl, _, rfl, ?_⟩
      refine ifT ?_ ?_
      · show decide (V.int ((grow k (((grow k M 1 : Nat) : Int)).natAbs 1 : Nat) : Int) = V.int ((grow k M 1 : Nat) : Int)) = true
        rw [Int.natAbs_natCast, grow_twice k2]
        exact decide_eq_true rfl
      refine ⟨_, rfl, k, 1, rfl, hk, by decide +kernel, by decide, fun HC smC => ?_⟩
      refine ⟨rfl, ?_⟩
      show Q (.bl (decide (V.int ((grow k 1 1 : Nat) : Int) = V.int 1))) HC
      rw [grow_one k2]
      exact q _ (((up8.keep smA).keep smB).keep smC)
end
end K01


set_option Elab.async false
set_option linter.all false
set_option maxRecDepth 100000
set_option maxHeartbeats 2000000
namespace K01
open PySem PySem.Spec PyProof.Rows L2 MM HT
/-! t[::-1] of a tuple of two -/
section
variable {prog : Program} {w : World} {A : Around} {E : Value → Shared → Prop} {s : Shared}
theorem applied_back {sl : Addr} {vs : Value} {Q : Int × Int × Nat → Shared → Prop} (hs : s.heap.IsSliceOf sl .none .none vs) (ps : IsPart vs (some (-1)))
    (h : Q (1, -1, 2) s) : wpAny (model prog w) A (Builtin.Slice.sliceApplied (.ref sl) (pure ((2 : Nat) : Int))) Q E s := by
  obtain ⟨o, ho, hc, hd⟩ := id hs
  unfold Builtin.Slice.sliceApplied Builtin.Slice.sliceFields
  refine wpAny_bind (wpAny_bind (wpAny_field ho hd (x := .none) rfl (wpAny_bind (wpAny_field ho hd (x := .none) rfl (wpAny_bind (wpAny_field ho hd (x := vs) rfl (wpAny_pure ?_)))))))
  refine wpAny_bind (slicePart_ ps ?_)
  show wpAny _ _ (if ((-1 : Int) == 0) = true then _ else _) _ _ s
  rw [if_neg (by decide)]
  exact wpAny_bind (slicePart_ .none (wpAny_bind (slicePart_ .none (wpAny_bind (wpAny_pure (wpAny_pure h))))))
theorem item_back {t sl : Addr} {u v vs : Value} {Q : Value → Shared → Prop} (ht : IsTup s.heap t #[u, v]) (hs : s.heap.IsSliceOf sl .none .none vs) (ps : IsPart vs (some (-1)))
    (h : Q (.ref s.heap.objs.size) { s with heap := s.heap.push { cls := .type "tuple", data := .seq #[v, u] } }) : wpAny (model prog w) A (getItem (.ref t) (.ref sl)) Q E s := by
  have z : sizeOk (.seq #[v, u]) := (by decide : 2 ≤ sizeLine)
  obtain ⟨o, ho, hc, hd⟩ := id hs
  have ty : s.TypeIs (.ref sl) "slice" := ⟨o, ho, hc⟩
  unfold getItem
  try with_reducible refine wpAny_holding ?_
  first | refine wpAny_bind (wpAny_pure ?_) | skip
  refine wpAny_bind (wpAny_sequenceKey ht.typeIs (by decide) (wpAny_bind (wpAny_callSpecial?_slot (name := Str.ofString "__getitem__") ht.typeIs PyProof.Rows.slot_tuple_getitem
    (wpAny_call_entry PyProof.Rows.slot_tuple_getitem ht.typeIs entry_tuple_getitem ?_ (args_tuple_getitem _ _)))))
  show wpAny _ _ (Builtin.Tuple.tupleItemsOf (.ref t) >>= _) _ _ s
  refine wpAny_bind (tupleItemsOf_ ht (wpAny_bind (wpAny_typeOf ty ?_)))
  rw [if_pos (by decide)]
  refine wpAny_bind (applied_back hs ps ?_)
  show wpAny _ _ (if ((1 : Int) == 0 && (-1 : Int) == 1 && (2 : Nat) == 2) = true then _ else _) _ _ s
  rw [if_neg (by decide)]
  first
    | exact wpAny_bind (m := Builtin.Tuple.tupleExact _) (wpAny_newObj_type (wpAny_pure ⟨_, rfl, wpAny_pure h⟩) z)
    | exact wpAny_bind (m := Builtin.Tuple.tupleExact _) (wpAny_newObj_type (wpAny_bind (wpAny_pure (wpAny_pure ⟨_, rfl, wpAny_pure h⟩))) z)
    | exact wpAny_bind (wpAny_bind (m := Builtin.Tuple.tupleExact _) (wpAny_newObj_type (wpAny_pure (wpAny_pure ⟨_, rfl, wpAny_pure h⟩)) z))
    | exact wpAny_bind (wpAny_bind (m := Builtin.Tuple.tupleExact _) (wpAny_newObj_type (wpAny_pure ⟨_, rfl, wpAny_pure h⟩) z))
end
section
variable {X : Cx}
def tBack (K : PySem.W.Frag) (te : TE) : TE := fun σ H Q => te σ H fun x H1 => ∃ a u v, x = .ref a ∧ SqT K H1 a [u, v] ∧ ∀ p, H1 p = none → Q (.ref p) (upd H1 p (.tup [v, u]))
theorem pe_back {e : Expr} {te : TE} {k : Nat} {p1 p2 p3 pos : Pos} (he : PE X e te) : PE X (.Subscript e (.Slice none none (some (.UnaryOp .USub (.Constant (.int 1) k p1) p2)) p3) pos) (tBack X.K te) := by
  refine ⟨fun pins s σ H Q I h => ?_⟩
  refine Subscript_ (thn (he.run pins s σ H _ I h) fun v s1 ⟨x, H1, I1, r1, a, y, z, ex, hx, q⟩ => ?_)
  subst ex
  cases r1
  have hst : PO X (some (.UnaryOp .USub (.Constant (.int 1) k p1) p2)) (tPart (tUn (rU fun i => .int (-i)) (tC (.int 1)))) := po_some (pe_un un_neg pe_int)
  refine wpAny_Slice (thn (po_none.run pins s1 σ H1 (fun o H2 => o = none ∧ H2 = H1) I1 ⟨rfl, rfl⟩) fun vl s2 ⟨l, H2, I2, pl, el, e2⟩ => ?_)
  subst el e2
  cases pl
  refine thn (po_none.run pins s2 σ H2 (fun o H3 => o = none ∧ H3 = H2) I2 ⟨rfl, rfl⟩) fun vu s3 ⟨o3, H3, I3, pu, eu, e3⟩ => ?_
  subst eu e3
  cases pu
  refine thn (hst.run pins s3 σ H3 (fun o H4 => o = some (-1) ∧ H4 = H3) I3 ⟨1, rfl, -1, rfl, rfl, rfl⟩) fun vs s4 ⟨o, H4, I4, ps, eo, e4⟩ => ?_
  subst eo e4
  have I5 : Inv X pins σ H4 { s4 with heap := s4.heap.push { cls := .type "slice", data := .fields #[.none, .none, vs] } } := I4.kept (t' := s4.toks) fun b ob q => Heap.get?_push_of_some _ q
  obtain ⟨its, r, ht, hz⟩ := I5.tuple hx
  obtain ⟨i1, i2, rfl⟩ : ∃ i1 i2, its = [i1, i2] := by
    have := r.length
    match its, this with
    | [a, b], _ => exact ⟨a, b, rfl⟩
  cases r with
  | cons r1 rr =>
  cases rr with
  | cons r2 _ =>
  refine tail_any (ops := [.ref a, .ref s4.heap.objs.size]) ht.typeIs PyProof.Rows.slot_tuple_getitem.lookup ?_ (by with_unfolding_all rfl)
  refine item_back ht (Heap.IsSliceOf.new _ _ _ vs) ps ?_
  refine ⟨.ref _, _, I5.laid (t' := s4.toks) (o := .tup [z, y]) (fun b ob q => Heap.get?_push_of_some _ q) (Nat.le_refl _) ?_, rfl, q _ (I5.hok.fresh (Nat.le_refl _))⟩
  exact ⟨(by decide : 2 ≤ sizeLine), _, .cons r2 (.cons r1 .nil), IsTup.new _ _⟩
end
end K01

set_option Elab.async false
set_option linter.all false
set_option maxRecDepth 100000
set_option maxHeartbeats 2000000
namespace K01
open PySem PySem.Spec PyProof.Rows L2 MM
/-! own words for the readings: a step, its side -/
local macro_rules | `(tactic| walk_at "side") => `(tactic| first
  | omega
  | exact ⟨by omega, by omega⟩
  | exact Or.inl ⟨by omega, by omega⟩
  | exact Or.inr ⟨by omega, by omega⟩
  | (show CPw _ _; decide +kernel)
  | (show (0 : Int) < _; decide +kernel)
  | (show CDivW _ _; first | assumption | exact ⟨by decide, by decide +kernel⟩))
local macro_rules | `(tactic| walk_at "here") => `(tactic| first
  | assumption
  | exact upd_same
  | exact Or.inl (Or.inl upd_same)
  | exact Or.inl upd_same)
local macro_rules | `(tactic| walk_at "one") => `(tactic| first
  | refine ⟨_, rfl, ?_⟩
  | refine Or.inl ⟨_, rfl, ?_⟩
  | refine Or.inr ⟨_, rfl, ?_⟩
  | refine ⟨_, _, rfl, rfl, (by walk_at "side"), ?_⟩
  | refine ⟨_, _, rfl, rfl, ?_⟩
  | refine ⟨_, _, rfl, Or.inl (by walk_at "here"), ?_⟩
  | refine ⟨_, _, rfl, Or.inr (by walk_at "here"), ?_⟩
  | refine ⟨_, _, rfl, (by walk_at "here"), ?_⟩
  | refine ⟨_, _, _, _, rfl, rfl, (by walk_at "here"), rfl, ?_⟩
  | refine ⟨_, _, rfl, ?_⟩
  | refine ifT (by rfl) ?_
  | refine ifF (by rfl) ?_
  | refine ifT (decide_eq_true (by omega)) ?_
  | refine ifF (decide_eq_false (by omega)) ?_)
local macro_rules | `(tactic| walk_at "st") => `(tactic| repeat (walk_at "one"))

section
variable {P : Program} {w : World} {K : PySem.W.Frag} {mg : Str → Option Value} {base : Heap}
theorem shares {v : V} (h : v ∈ [V.int 1, .int 1, .int 2, .int 6, .int (10 ^ (30 : Int).toNat)]) : ∃ k : Int, v = .int k ∧ 1 ≤ k ∧ k ≤ 10 ^ 30 := by
  simp only [List.mem_cons, List.not_mem_nil, or_false] at h
  rcases h with h | h | h | h | h
  all_goals exact ⟨_, h, by decide +kernel, by decide +kernel⟩
theorem highs {v : V} (h : v ∈ [V.int 5, .int 60, .int (10 ^ (25 : Int).toNat)]) : ∃ k : Int, v = .int k ∧ 5 ≤ k ∧ k ≤ 10 ^ 25 := by
  simp only [List.mem_cons, List.not_mem_nil, or_false] at h
  rcases h with h | h | h
  all_goals exact ⟨_, h, by decide +kernel, by decide +kernel⟩
theorem lens {v : V} (h : v ∈ [V.int 0, .int 1, .int 2, .int 3, .int 5, .int 9]) : ∃ k : Nat, v = .int (k : Int) ∧ k ≤ 9 := by
  simp only [List.mem_cons, List.not_mem_nil, or_false] at h
  rcases h with h | h | h | h | h | h
  · exact ⟨0, h, by decide⟩
  · exact ⟨1, h, by decide⟩
  · exact ⟨2, h, by decide⟩
  · exact ⟨3, h, by decide⟩
  · exact ⟨5, h, by decide⟩
  · exact ⟨9, h, by decide⟩
/-- n is within 10 ** 56 -/
def In56 (n : Int) : Prop := -(10 ^ 56) ≤ n ∧ n ≤ 10 ^ 56
theorem In56.of {s h r : Int} (s1 : 1 ≤ s) (s2 : s ≤ 10 ^ 30) (h2 : h ≤ 10 ^ 25) (r0 : 0 ≤ r) (r1 : r < 2 * h + 1) : -(10 ^ 55) ≤ s * (r - h) ∧ s * (r - h) ≤ 10 ^ 55 := by
  have e : (s * (r - h)).natAbs ≤ 10 ^ 55 := by
    rw [Int.natAbs_mul]
    have a : s.natAbs ≤ 10 ^ 30 := by omega
    have b : (r - h).natAbs ≤ 10 ^ 25 := by omega
    exact Nat.le_trans (Nat.mul_le_mul a b) (by decide)
  omega
theorem wide60 {n : Int} (h : -(10 ^ 60) ≤ n) (h2 : n ≤ 10 ^ 60) : n.natAbs < 2 ^ 200 := by
  have c : n.natAbs ≤ 10 ^ 60 := by omega
  exact Nat.lt_of_le_of_lt c (by decide)
theorem Upto.free {p t : Addr} {H H' : Hp} (h : Upto p H H') (f : H' t = none) : t ≠ p ∧ H t = none := by
  obtain ⟨a, b, c, e⟩ := h.bag
  have n : t ≠ p := fun z => by rw [z, e] at f; cases f
  refine ⟨n, ?_⟩
  cases z : H t with
  | none => rfl
  | some o =>
    have := h.same t o n z
    rw [f] at this
    cases this
theorem Upto.put {p t : Addr} {H H' : Hp} {o : HO} (h : Upto p H H') (n : t ≠ p) (f : H t = none) : Upto p H (upd H' t o) := by
  obtain ⟨a, b, c, e⟩ := h.bag
  exact ⟨fun x y m e => by rw [upd_ne (ne_of_none e f)]; exact h.same x y m e, ⟨a, b, c, by rw [upd_ne n.symm]; exact e⟩⟩
theorem rep_int (m : Nat) (z : Int) : (List.replicate m [V.int z]).flatten = (List.replicate m z).map V.int := by
  induction m with
  | zero => rfl
  | succ m ih =>
    rw [List.replicate_succ, List.replicate_succ, List.flatten_cons, ih]
    rfl
theorem cat3 {H : Hp} {a b : Addr} {xs ys : List V} {Q : VK} (ha : SqT K H a xs) (hb : SqT K H b ys) (q : ∀ c H', Same H H' → SqT K H' c (xs ++ ys) → Q (.ref c) H') :
    (xs = [] → Q (.ref b) H) ∧ (xs ≠ [] → ys = [] → Q (.ref a) H) ∧ (xs ≠ [] → ys ≠ [] → ∀ p, H p = none → Q (.ref p) (upd H p (.tup (xs ++ ys)))) := by
  refine ⟨fun e => ?_, fun _ e => ?_, fun _ _ p hp => ?_⟩
  · exact q b H (Same.refl H) (by rw [e]; exact hb)
  · exact q a H (Same.refl H) (by rw [e, List.append_nil]; exact ha)
  · exact q p _ (same_new hp) (.inl (.inl upd_same))
theorem cat_any {H : Hp} {a b : Addr} {xs ys : List V} {Q : VK} (ha : SqT K H a xs) (hb : SqT K H b ys) (hz : xs.length + ys.length ≤ sizeLine) (q : ∀ c H', Same H H' → SqT K H' c (xs ++ ys) → Q (.ref c) H') :
    rCatA K (.ref a) (.ref b) H Q := ⟨a, b, _, _, rfl, rfl, ha, hb, hz, cat3 ha hb q⟩
theorem lcm_bd {A : List Int} (hl : A.length ≤ 9) (h : ∀ n ∈ A, 1 ≤ n ∧ n ≤ 10 ^ 55 + 1) (i : Nat) : 0 < lcmL (A.take i) ∧ lcmL (A.take i) < 2 ^ 1801 := by
  have key : ∀ j, j ≤ A.length → 0 < lcmL (A.take j) ∧ lcmL (A.take j) ≤ 2 ^ (200 * j) := by
    intro j
    induction j with
    | zero => intro _; exact ⟨Nat.one_pos, Nat.le_refl 1⟩
    | succ j ih =>
      intro hj
      obtain ⟨a, b⟩ := ih (by omega)
      have e : A[j]? = some A[j] := List.getElem?_eq_getElem (by omega)
      obtain ⟨c, d⟩ := h A[j] (List.getElem_mem _)
      rw [lcmL_more e]
      refine ⟨Nat.lcm_pos a (by omega), ?_⟩
      have w := wide60 (n := A[j]) (by omega) (by omega)
      refine Nat.le_trans (Nat.div_le_self _ _) ?_
      rw [Nat.mul_succ, Nat.pow_add]
      exact Nat.mul_le_mul b (Nat.le_of_lt w)
  have fin : ∀ j, j ≤ A.length → 0 < lcmL (A.take j) ∧ lcmL (A.take j) < 2 ^ 1801 := fun j hj => by
    obtain ⟨a, b⟩ := key j hj
    exact ⟨a, Nat.lt_of_le_of_lt b (Nat.pow_lt_pow_right (by decide) (by omega))⟩
  by_cases c : i ≤ A.length
  · exact fin i c
  · have e : A.take i = A.take A.length := by rw [List.take_length, List.take_of_length_le (by omega)]
    rw [e]
    exact fin _ (Nat.le_refl _)
theorem gcd2 (L : Nat) {n : Int} (h : 1 ≤ n) : 0 < gcdL [(L : Int), n] ∧ gcdL [(L : Int), n] ≤ n.natAbs := by
  show 0 < Nat.gcd (Nat.gcd 0 (L : Int).natAbs) n.natAbs ∧ Nat.gcd (Nat.gcd 0 (L : Int).natAbs) n.natAbs ≤ n.natAbs
  exact ⟨Nat.gcd_pos_of_pos_right _ (by omega), Nat.gcd_le_right _ (by omega)⟩
theorem lcm_step (L : Nat) {n : Int} (h : 1 ≤ n) : ((L : Int) * n).fdiv ((gcdL [(L : Int), n] : Nat) : Int) = ((Nat.lcm L n.natAbs : Nat) : Int) := by
  obtain ⟨m, rfl⟩ : ∃ m : Nat, n = (m : Int) := ⟨n.toNat, by omega⟩
  rw [show gcdL [(L : Int), (m : Int)] = Nat.gcd L m from by
    show Nat.gcd (Nat.gcd 0 (L : Int).natAbs) (m : Int).natAbs = _
    rw [Nat.gcd_zero_left, Int.natAbs_natCast, Int.natAbs_natCast]]
  rw [Int.fdiv_eq_ediv_of_nonneg _ (by omega), ← Int.natCast_mul, ← Int.natCast_ediv, Int.natAbs_natCast]
  rfl
theorem gcdL_zeros (ns : List Int) (m : Nat) : gcdL (ns ++ List.replicate m 0) = gcdL ns := by
  unfold gcdL
  rw [List.foldl_append]
  generalize ns.foldl (fun g n => Nat.gcd g n.natAbs) 0 = g
  induction m with
  | zero => rfl
  | succ m ih =>
    rw [List.replicate_succ, List.foldl_cons]
    show List.foldl _ (Nat.gcd g 0) _ = g
    rw [Nat.gcd_zero_right]
    exact ih
theorem lcmL_ones (ns : List Int) (m : Nat) : lcmL (ns ++ List.replicate m 1) = lcmL ns := by
  unfold lcmL
  rw [List.foldl_append]
  generalize ns.foldl (fun g n => Nat.lcm g n.natAbs) 1 = g
  induction m with
  | zero => rfl
  | succ m ih =>
    rw [List.replicate_succ, List.foldl_cons]
    show List.foldl _ (Nat.lcm g 1) _ = g
    rw [Nat.lcm_one_right]
    exact ih
theorem scCommonsRightL : FnScope ["_law_bag_here", "_law_share", "_law_high", "_law_numbers", "_law_turn", "_law_above", "_law_due", "_law_number", "_law_top", "_law_bottom", "_law_part"] ["_law_bag_here"] (defScope sCommonsRightL) :=
  ⟨rfl, rfl, rfl, by decide +kernel, rfl, by decide +kernel, by decide +kernel⟩
theorem dCommonsRightL (T : Tx K mg) (DOneOfL : Def P w K mg base CX0 2 "_law_one_of" ["_law_bag_here", "_law_items"] (spOneOf K)) (DGrabL : Def P w K mg base CX0 1 "_law_grab" ["_law_bag_here", "_law_total"] spGrab) (DCommonDivisor : Def P w K mg base CX0 4 "common_divisor" ["numbers"] (spCommonDivisor K)) (DNbDivisorL : Def P w K mg base CX0 1 "_law_nb_divisor" ["_law_numbers"] (spGcd K)) (DCommonMultiple : Def P w K mg base CX0 4 "common_multiple" ["numbers"] (spCommonMultiple K)) (DLowest : Def P w K mg base CX0 4 "lowest" ["top", "bottom"] (spLowest K)) : Def P w K mg base CX0 6 "_law_commons_right" ["_law_bag_here"] spRight := by
  refine T.t_law_commons_right.def_ (N := ["_law_bag_here", "_law_share", "_law_high", "_law_numbers", "_law_turn", "_law_above", "_law_due", "_law_number", "_law_top", "_law_bottom", "_law_part"]) scCommonsRightL (fun _ _ _ _ _ _ us hl => match us, hl with | [_], _ => rfl) ?_ ?_
  · intro vs H Q E h
    obtain ⟨p, rfl, _⟩ := h
    rfl
  · intro f cd A out s H vs Q E hr h
    have hr1 : Rm 4 _ := hr.le (by decide)
    obtain ⟨p, rfl, hb, q⟩ := h
    obtain ⟨b1, b2, b3, eb⟩ := hb
    refine ⟨_, (pss_cons (ps_asg (pe_tup (pa_cons (pe_d DOneOfL (hr1.le (by decide)) pass0 (pa_cons (pv 0) (pa_cons (pe_lst (pa_cons pe_int (pa_cons pe_int (pa_cons pe_int (pa_cons pe_int (pa_cons (pe_op op_pw pe_int pe_int) pa_nil)))))) pa_nil))) (pa_cons (pe_d DOneOfL (hr1.le (by decide)) pass0 (pa_cons (pv 0) (pa_cons (pe_lst (pa_cons pe_int (pa_cons pe_int (pa_cons (pe_op op_pw pe_int pe_int) pa_nil)))) pa_nil))) pa_nil))) (pg_tup rfl (pgs_cons (pg_name (i := 1) scCommonsRightL.nd rfl (Or.inr rfl)) (pgs_cons (pg_name (i := 2) scCommonsRightL.nd rfl (Or.inr rfl)) pgs_nil))))
      (pss_cons (ps_set (i := 3) scCommonsRightL.nd rfl (Or.inl rfl) (pe_callTy call_tuple_of rfl T.f_tuple (by decide +kernel) (pa_cons (pe_lc (own := [("_law_turn", 4)]) (g := gName 4) (tt := tYes) rfl scCommonsRightL.nd (pi_range1 rfl T.f_range (pa_cons (pe_d DOneOfL (hr1.le (by decide)) pass0 (pa_cons (pv 0) (pa_cons (pe_lst (pa_cons pe_int (pa_cons pe_int (pa_cons pe_int (pa_cons pe_int (pa_cons pe_int (pa_cons pe_int pa_nil))))))) pa_nil))) pa_nil)) (blkOk_by (N := ["_law_bag_here", "_law_share", "_law_high", "_law_numbers", "_law_turn", "_law_above", "_law_due", "_law_number", "_law_top", "_law_bottom", "_law_part"]) (sc := defScope sCommonsRightL) (by decide +kernel)) (fun _ _ _ _ _ => pg_name (i := 4) scCommonsRightL.nd rfl (Or.inl rfl)) (fun _ _ _ _ _ => pts_nil) (fun _ _ _ _ _ => (pe_op op_mulW (pv 1) (pe_op op_sub (pe_d DGrabL (hr1.le (by decide)) pass0 (pa_cons (pv 0) (pa_cons (pe_op op_add (pe_op op_mulW pe_int (pv 2)) pe_int) pa_nil))) (pv 2))))) pa_nil)))
      (pss_cons (ps_if (PW.pt (pw_or (pt_cmpR op_ne (pe_d DCommonDivisor (hr1.le (by decide)) pass0 (pa_cons (pv 3) pa_nil)) (pe_d DNbDivisorL (hr1.le (by decide)) pass0 (pa_cons (pv 3) pa_nil)) (nomark _)) (pw_or1 (pt_cmpR op_ne (pe_d DCommonDivisor (hr1.le (by decide)) pass0 (pa_cons (pe_op op_catA (pv 3) (pe_op op_repT (pe_tup (pa_cons pe_int pa_nil)) (pe_op op_sub pe_int (pe_callB call_len_seq rfl T.f_len (by decide +kernel) (pa_cons (pv 3) pa_nil))))) pa_nil)) (pe_d DNbDivisorL (hr1.le (by decide)) pass0 (pa_cons (pv 3) pa_nil)) (nomark _))))) (pss_one (ps_ret pe_bl)) pss_nil)
      (pss_cons (ps_par (i := 5) (j := 6) rfl scCommonsRightL.nd rfl rfl (by decide) rfl rfl (pa_cons (pe_callTy call_tuple_of rfl T.f_tuple (by decide +kernel) (pa_cons (pe_lc (own := [("_law_number", 7)]) (g := gName 7) (tt := tYes) rfl scCommonsRightL.nd (pi_tup (pv 3)) (blkOk_by (N := ["_law_bag_here", "_law_share", "_law_high", "_law_numbers", "_law_turn", "_law_above", "_law_due", "_law_number", "_law_top", "_law_bottom", "_law_part"]) (sc := defScope sCommonsRightL) (by decide +kernel)) (fun _ _ _ _ _ => pg_name (i := 7) scCommonsRightL.nd rfl (Or.inl rfl)) (fun _ _ _ _ _ => pts_nil) (fun _ _ _ _ _ => (pe_op op_add (pe_callB call_abs rfl T.f_abs (by decide +kernel) (pa_cons (pv 7) pa_nil)) pe_int))) pa_nil)) (pa_cons pe_int pa_nil)) (by rfl))
      (pss_cons (ps_for PassesOwn.never rfl (pi_tup (pv 5)) (pg_name (i := 7) scCommonsRightL.nd rfl (Or.inl rfl))
        (pss_one (ps_set (i := 6) scCommonsRightL.nd rfl (Or.inl rfl) (pe_op op_fdivG (pe_op op_mulW (pv 6) (pv 7)) (pe_d DNbDivisorL (hr1.le (by decide)) pass0 (pa_cons (pe_tup (pa_cons (pv 6) (pa_cons (pv 7) pa_nil))) pa_nil))))))
      (pss_cons (ps_if (PW.pt (pw_or (pt_cmpR op_ne (pe_d DCommonMultiple (hr1.le (by decide)) pass0 (pa_cons (pv 5) pa_nil)) (pv 6) (nomark _)) (pw_or1 (pt_cmpR op_ne (pe_d DCommonMultiple (hr1.le (by decide)) pass0 (pa_cons (pe_op op_catA (pv 5) (pe_op op_repT (pe_tup (pa_cons pe_int pa_nil)) (pe_op op_sub pe_int (pe_callB call_len_seq rfl T.f_len (by decide +kernel) (pa_cons (pv 5) pa_nil))))) pa_nil)) (pv 6) (nomark _))))) (pss_one (ps_ret pe_bl)) pss_nil)
      (pss_cons (ps_par (i := 8) (j := 9) rfl scCommonsRightL.nd rfl rfl (by decide) rfl rfl (pa_cons (pe_op op_mulW (pv 1) (pe_op op_sub (pe_d DGrabL (hr1.le (by decide)) pass0 (pa_cons (pv 0) (pa_cons (pe_op op_add (pe_op op_mulW pe_int (pv 2)) pe_int) pa_nil))) (pv 2))) (pa_cons (pe_op op_mulW (pe_op op_mulW (pv 1) (pe_op op_add pe_int (pe_d DGrabL (hr1.le (by decide)) pass0 (pa_cons (pv 0) (pa_cons (pv 2) pa_nil))))) (pe_d DOneOfL (hr1.le (by decide)) pass0 (pa_cons (pv 0) (pa_cons (pe_lst (pa_cons pe_int (pa_cons (pe_un un_neg pe_int) pa_nil))) pa_nil)))) pa_nil)) (by rfl))
      (pss_cons (ps_set (i := 10) scCommonsRightL.nd rfl (Or.inl rfl) (pe_op op_mulW (pe_d DNbDivisorL (hr1.le (by decide)) pass0 (pa_cons (pe_tup (pa_cons (pv 8) (pa_cons (pv 9) pa_nil))) pa_nil)) (pe_ifExp (pt_cmpR op_gt (pv 9) pe_int (nomark _)) pe_int (pe_un un_neg pe_int))))
      (pss_one (ps_ret (pe_and (pe_cmpR (op_eqD hr.hu) (pe_d DLowest (hr1.le (by decide)) pass0 (pa_cons (pv 8) (pa_cons (pv 9) pa_nil))) (pe_tup (pa_cons (pe_op op_fdivG (pv 8) (pv 10)) (pa_cons (pe_op op_fdivG (pv 9) (pv 10)) pa_nil))) (nomark _)) (pe_one (pe_cmpR (op_eqD hr.hu) (pe_d DLowest (hr1.le (by decide)) pass0 (pa_cons pe_int (pa_cons (pv 9) pa_nil))) (pe_tup (pa_cons pe_int (pa_cons pe_int pa_nil))) (nomark _)))))))))))))), ?_⟩
    refine ⟨_, rfl, _, _, rfl, rfl, by (show CPw _ _); decide +kernel, by (show 5 ≤ sizeLine); decide, fun l1 h1 => ?_⟩
    refine ⟨p, _, b1, b2, b3, _, rfl, bag_new eb h1, .inl (.inl upd_same), bag_ne eb h1, by decide, by decide, fun v1 g' m' c' hv1 => ?_⟩
    have up1 := ((Upto.refl ⟨_, _, _, eb⟩).new (o := .lst [.int 1, .int 1, .int 2, .int 6, .int (10 ^ (30 : Int).toNat)]) h1).draw (a := g') (b := m') (c := c')
    generalize upd (upd _ _ _) p _ = H1 at up1 ⊢
    obtain ⟨s, rfl, s1, s2⟩ := shares hv1
    refine ⟨_, rfl, _, _, rfl, rfl, by (show CPw _ _); decide +kernel, by (show 3 ≤ sizeLine); decide, fun l2 h2 => ?_⟩
    obtain ⟨c1, c2, c3, ec⟩ := up1.bag
    refine ⟨p, _, c1, c2, c3, _, rfl, bag_new ec h2, .inl (.inl upd_same), bag_ne ec h2, by decide, by decide, fun v2 g' m' c' hv2 => ?_⟩
    have up2 := (up1.new (o := .lst [.int 5, .int 60, .int (10 ^ (25 : Int).toNat)]) h2).draw (a := g') (b := m') (c := c')
    generalize upd (upd _ _ _) p _ = H2 at up2 ⊢
    obtain ⟨h, rfl, hh1, hh2⟩ := highs hv2
    refine ⟨by (show 2 ≤ sizeLine); decide, fun t1 e1 => ?_⟩
    refine ⟨t1, _, rfl, .inl (.inl upd_same), rfl, _, _, rfl, ?_⟩
    replace up2 := up2.new (o := .tup [.int s, .int h]) e1
    generalize upd H2 t1 _ = H2 at up2 ⊢
    refine ⟨_, _, rfl, rfl, ?_⟩
    refine ⟨_, rfl, by (show 6 ≤ sizeLine); decide, fun l3 h3 => ?_⟩
    obtain ⟨c1, c2, c3, ec⟩ := up2.bag
    refine ⟨p, _, c1, c2, c3, _, rfl, bag_new ec h3, .inl (.inl upd_same), bag_ne ec h3, by decide, by decide, fun v3 g' m' c' hv3 => ?_⟩
    have up3 := (up2.new (o := .lst [.int 0, .int 1, .int 2, .int 3, .int 5, .int 9]) h3).draw (a := g') (b := m') (c := c')
    generalize upd (upd _ _ _) p _ = H3 at up3 ⊢
    obtain ⟨k, rfl, k9⟩ := lens hv3
    refine ⟨k, rfl, by omega, by omega, fun D nD => ?_⟩
    have fr := up3.free nD
    refine lc_range (Pv := fun i H4 => Upto p H H4 ∧ ∃ ns : List Int, ns.length = i ∧ H4 D = some (.lst (ns.map V.int)) ∧ ∀ n, n ∈ ns → -(10 ^ 55) ≤ n ∧ n ≤ 10 ^ 55)
      ⟨up3.new nD, [], rfl, upd_same, by simp⟩ ?_ ?_
    · rintro i H4 hi ⟨up4, ns, hlen, hD, hin⟩
      refine ⟨wipe_one, yes_ ?_⟩
      obtain ⟨c1, c2, c3, ec⟩ := up4.bag
      refine ⟨_, rfl, _, rfl, _, rfl, _, _, rfl, rfl, wide_mul (a := 2) (b := 200) (by decide) (wide60 (by omega) (by omega)) (by decide) (by decide) (by decide), _, _, rfl, rfl, ?_⟩
      refine ⟨p, 2 * h + 1, c1, c2, c3, rfl, ec, wide_div (b := 200) (by omega) (wide60 (by omega) (by omega)) (by decide) (by decide), fun r g' m' c' r0 r1 => ?_⟩
      obtain ⟨i1, i2⟩ := In56.of s1 s2 hh2 r0 r1
      refine ⟨_, rfl, _, _, rfl, rfl, _, _, rfl, rfl, wide_mul (a := 200) (b := 200) (wide60 (by omega) (by omega)) (wide60 (by omega) (by omega)) (by decide) (by decide) (by decide), ?_⟩
      refine ⟨ns.map V.int, (upd_ne fr.1).trans hD, ?_, up4.draw.put fr.1 fr.2, ns ++ [s * (r - h)], by rw [List.length_append, hlen]; rfl, upd_same.trans (by rw [List.map_append]; rfl), ?_⟩
      · rw [List.length_map]
        exact Nat.lt_of_le_of_lt (by omega) (small1000 (n := 1000) (by omega))
      · intro n hn
        rcases List.mem_append.mp hn with z | z
        · exact hin n z
        · rw [List.mem_singleton] at z
          rw [z]
          exact ⟨i1, i2⟩
    · rintro H4 ⟨up4, ns, hlen, hD, hin⟩
      refine ⟨D, _, rfl, .inl ⟨.inl (.inl hD), fun a ha => ?_⟩⟩
      have Sa : SqT K (upd H4 a (.tup (ns.map V.int))) a (ns.map V.int) := .inl (.inl upd_same)
      have nap : a ≠ p := fun e => by obtain ⟨c1, c2, c3, ec⟩ := up4.bag; rw [e, ec] at ha; cases ha
      replace up4 := up4.new (o := .tup (ns.map V.int)) ha
      generalize upd H4 a _ = H4 at up4 Sa ⊢
      have Ia : Ints K H4 a ns := ⟨Sa, by omega, fun n hn => by
        have := hin n hn
        exact isI_of (by omega) (by omega)⟩
      refine ⟨_, rfl, a, ns, rfl, Ia, fun H5 sm5 => ?_⟩
      have Sa5 := same_sqt sm5 Sa
      replace up4 := up4.keep sm5
      refine ⟨_, rfl, a, ns, rfl, Sa5, ?_⟩
      refine ⟨rfl, _, rfl, ?_⟩
      refine ifF (by rw [decide_eq_true rfl]; rfl) ?_
      refine ⟨_, rfl, by (show 1 ≤ sizeLine); decide, fun t2 e2 => ?_⟩
      replace Sa5 := sqt_new (o := .tup [.int 0]) Sa5 e2
      have St : SqT K (upd H5 t2 (.tup [.int 0])) t2 [.int 0] := .inl (.inl upd_same)
      replace up4 := up4.new (o := .tup [.int 0]) e2
      generalize upd H5 t2 _ = H6 at up4 Sa5 St ⊢
      refine ⟨_, rfl, a, _, rfl, .inr Sa5, _, _, rfl, rfl, ?_⟩
      refine ⟨t2, _, _, rfl, rfl, St, by simp, by rw [List.length_map]; omega, by rw [List.length_map]; omega, by decide, fun t3 e3 => ?_⟩
      replace Sa5 := sqt_new (o := .tup (List.replicate (1000 - ((ns.map V.int).length : Int)).toNat [V.int 0]).flatten) Sa5 e3
      have St3 : SqT K (upd H6 t3 (.tup (List.replicate (1000 - ((ns.map V.int).length : Int)).toNat [V.int 0]).flatten)) t3 (List.replicate (1000 - ((ns.map V.int).length : Int)).toNat [V.int 0]).flatten := .inl (.inl upd_same)
      replace up4 := up4.new (o := .tup (List.replicate (1000 - ((ns.map V.int).length : Int)).toNat [V.int 0]).flatten) e3
      generalize upd H6 t3 _ = H7 at up4 Sa5 St3 ⊢
      have el : (1000 - ((ns.map V.int).length : Int)).toNat = 1000 - ns.length := by
        rw [List.length_map]
        omega
      rw [el, rep_int] at St3
      show rCatA K _ _ _ _
      refine cat_any Sa5 St3 ?_ (fun c H8 sm8 S8 => ?_)
      · rw [List.length_map, List.length_map, List.length_replicate]
        exact Nat.le_of_lt (small1000 (n := ns.length + (1000 - ns.length)) (by omega))
      rw [← List.map_append] at S8
      replace Sa5 := same_sqt sm8 Sa5
      replace up4 := up4.keep sm8
      refine ⟨c, _, rfl, ⟨S8, by rw [List.length_append, List.length_replicate]; omega, fun n hn => ?_⟩, fun H9 sm9 => ?_⟩
      · rcases List.mem_append.mp hn with z | z
        · exact Ia.2.2 n z
        · rw [(List.mem_replicate.mp z).2]
          decide +kernel
      replace Sa5 := same_sqt sm9 Sa5
      replace up4 := up4.keep sm9
      refine ⟨_, rfl, a, ns, rfl, Sa5, ?_⟩
      refine ⟨rfl, _, rfl, ?_⟩
      refine ifF (by rw [gcdL_zeros, decide_eq_true rfl]; rfl) ?_
      clear Ia
      have Ia : Ints K H9 a ns := ⟨Sa5, by omega, fun n hn => by
        have := hin n hn
        exact isI_of (by omega) (by omega)⟩
      generalize eA : (ns.map fun n => (if n < 0 then -n else n) + 1) = A
      have A55 : ∀ n ∈ A, 1 ≤ n ∧ n ≤ 10 ^ 55 + 1 := by
        intro n hn
        rw [← eA] at hn
        obtain ⟨m, hm, rfl⟩ := List.mem_map.mp hn
        have := hin m hm
        split <;> omega
      have Al : A.length ≤ 9 := by
        rw [← eA, List.length_map]
        omega
      refine ⟨_, rfl, a, rfl, ⟨_, Sa5⟩, fun D2 nD2 => ?_⟩
      refine lc_tpl (fun x => match x with | .int n => .int ((if n < 0 then -n else n) + 1) | _ => .non) Sa5 nD2 (by rw [List.length_map]; exact Nat.le_of_lt (small1000 (by omega))) ?_ ?_
      · intro x acc hx Q' q'
        obtain ⟨n, _, rfl⟩ := List.mem_map.mp hx
        refine ⟨_, rfl, _, rfl, _, _, rfl, rfl, q'⟩
      have eM : ((ns.map V.int).map fun x => match x with | .int n => V.int ((if n < 0 then -n else n) + 1) | _ => .non) = A.map V.int := by
        rw [← eA, List.map_map, List.map_map]
        rfl
      rw [eM]
      replace up4 := up4.new (o := .lst (A.map V.int)) nD2
      have SD : SqL K (upd H9 D2 (.lst (A.map V.int))) D2 (A.map V.int) := .inl (.inl upd_same)
      generalize upd H9 D2 _ = H10 at up4 SD ⊢
      refine ⟨D2, _, rfl, .inl ⟨SD, fun ta eta => ?_⟩⟩
      replace up4 := up4.new (o := .tup (A.map V.int)) eta
      have Sta : SqT K (upd H10 ta (.tup (A.map V.int))) ta (A.map V.int) := .inl (.inl upd_same)
      generalize upd H10 ta _ = H11 at up4 Sta ⊢
      refine ⟨_, _, rfl, ?_⟩
      have Lb : ∀ i, 0 < lcmL (A.take i) ∧ lcmL (A.take i) < 2 ^ 1801 := fun i => lcm_bd Al A55 i
      refine ⟨_, rfl, ta, rfl, ⟨_, Sta⟩, for_tup (K := K) (a := ta) (xs := A.map V.int)
        (fun i σ Hx => Same H11 Hx ∧ ∃ y, σ = [some (.ref p), some (.int s), some (.int h), some (.ref a), none, some (.ref ta), some (.int (lcmL (A.take i) : Nat)), y, none, none, none])
        ⟨Same.refl _, none, rfl⟩ (fun i σ Hx _ e => same_sqt e.1 Sta) ?_ ?_⟩
      · rintro i x σ Hx hi ⟨sm, y, rfl⟩
        obtain ⟨n, hn, rfl⟩ := map_int hi
        obtain ⟨n1, n2⟩ := A55 n (List.mem_of_getElem? hn)
        obtain ⟨L0, L9⟩ := Lb i
        refine ⟨_, rfl, _, rfl, _, _, rfl, rfl, wide_mul (a := 1801) (b := 200) (by rw [Int.natAbs_natCast]; exact L9) (wide60 (by omega) (by omega)) (by decide) (by decide) (by decide), ?_⟩
        refine ⟨_, rfl, _, rfl, by (show 2 ≤ sizeLine); decide, fun t et => ?_⟩
        refine ⟨t, [((lcmL (A.take i) : Nat) : Int), n], rfl, .inl (.inl upd_same), _, _, rfl, rfl, ?_, sm.trans (same_new et), some (.int n), ?_⟩
        · obtain ⟨z0, z1⟩ := gcd2 (lcmL (A.take i)) n1
          exact divG (by omega) (by
            rw [Int.natAbs_natCast]
            exact Nat.lt_of_le_of_lt z1 (Nat.lt_of_lt_of_le (wide60 (by omega) (by omega)) (Nat.pow_le_pow_right (by decide) (by decide))))
        · show [some (V.ref p), some (V.int s), some (V.int h), some (V.ref a), none, some (V.ref ta), some (V.int ((((lcmL (A.take i) : Nat) : Int) * n).fdiv ((gcdL [((lcmL (A.take i) : Nat) : Int), n] : Nat) : Int))), some (V.int n), none, none, none] = _
          rw [lcm_step _ n1, lcmL_more hn]
      · rintro σ Hx ⟨sm, y, rfl⟩
        rw [List.length_map, List.take_length]
        replace up4 := up4.keep sm
        replace Sta := same_sqt sm Sta
        have IA : ∀ n, n ∈ A → isI (.int n) = true := fun n hn => by
          have := A55 n hn
          exact isI_of (by omega) (by omega)
        have LA : LcmOk A := ⟨fun n hn => by have := A55 n hn; omega, fun i => Nat.lt_of_lt_of_le (Lb i).2 (Nat.pow_le_pow_right (by decide) (by decide))⟩
        refine ⟨_, rfl, ta, A, rfl, ⟨Sta, by omega, IA⟩, LA, fun H12 sm12 => ?_⟩
        replace up4 := up4.keep sm12
        replace Sta := same_sqt sm12 Sta
        refine ⟨_, rfl, rfl, _, rfl, ?_⟩
        refine ifF (by rw [decide_eq_true rfl]; rfl) ?_
        refine ⟨_, rfl, by (show 1 ≤ sizeLine); decide, fun t2 e2 => ?_⟩
        replace Sta := sqt_new (o := .tup [.int 1]) Sta e2
        have St : SqT K (upd H12 t2 (.tup [.int 1])) t2 [.int 1] := .inl (.inl upd_same)
        replace up4 := up4.new (o := .tup [.int 1]) e2
        generalize upd H12 t2 _ = H6 at up4 Sta St ⊢
        refine ⟨_, rfl, ta, _, rfl, .inr Sta, _, _, rfl, rfl, ?_⟩
        refine ⟨t2, _, _, rfl, rfl, St, by simp, by rw [List.length_map]; omega, by rw [List.length_map]; omega, by decide, fun t3 e3 => ?_⟩
        replace Sta := sqt_new (o := .tup (List.replicate (1000 - ((A.map V.int).length : Int)).toNat [V.int 1]).flatten) Sta e3
        have St3 : SqT K (upd H6 t3 (.tup (List.replicate (1000 - ((A.map V.int).length : Int)).toNat [V.int 1]).flatten)) t3 (List.replicate (1000 - ((A.map V.int).length : Int)).toNat [V.int 1]).flatten := .inl (.inl upd_same)
        replace up4 := up4.new (o := .tup (List.replicate (1000 - ((A.map V.int).length : Int)).toNat [V.int 1]).flatten) e3
        generalize upd H6 t3 _ = H7 at up4 Sta St3 ⊢
        have el : (1000 - ((A.map V.int).length : Int)).toNat = 1000 - A.length := by
          rw [List.length_map]
          omega
        rw [el, rep_int] at St3
        show rCatA K _ _ _ _
        refine cat_any Sta St3 ?_ (fun c H8 sm8 S8 => ?_)
        · rw [List.length_map, List.length_map, List.length_replicate]
          exact Nat.le_of_lt (small1000 (n := A.length + (1000 - A.length)) (by omega))
        rw [← List.map_append] at S8
        replace up4 := up4.keep sm8
        have mem2 : ∀ n, n ∈ A ++ List.replicate (1000 - A.length) 1 → n ∈ A ∨ n = 1 := fun n hn => by
          rcases List.mem_append.mp hn with z | z
          · exact .inl z
          · exact .inr (List.mem_replicate.mp z).2
        refine ⟨c, _, rfl, ⟨S8, by rw [List.length_append, List.length_replicate]; omega, fun n hn => ?_⟩, ⟨fun n hn => ?_, fun i => ?_⟩, fun H9 sm9 => ?_⟩
        · rcases mem2 n hn with z | z
          · exact IA n z
          · rw [z]
            decide +kernel
        · rcases mem2 n hn with z | z
          · exact LA.1 n z
          · rw [z]
            decide
        · obtain ⟨m, e⟩ : ∃ m, (A ++ List.replicate (1000 - A.length) 1).take i = A.take i ++ List.replicate m 1 := ⟨min (i - A.length) (1000 - A.length), by rw [List.take_append, List.take_replicate]⟩
          rw [e, lcmL_ones]
          exact LA.2 i
        replace up4 := up4.keep sm9
        refine ⟨_, rfl, rfl, _, rfl, ?_⟩
        refine ifF (by rw [lcmL_ones, decide_eq_true rfl]; rfl) ?_
        obtain ⟨c1, c2, c3, ec⟩ := up4.bag
        refine ⟨_, rfl, _, rfl, _, rfl, _, _, rfl, rfl, wide_mul (a := 2) (b := 200) (by decide) (wide60 (by omega) (by omega)) (by decide) (by decide) (by decide), _, _, rfl, rfl, ?_⟩
        refine ⟨p, 2 * h + 1, c1, c2, c3, rfl, ec, wide_div (b := 200) (by omega) (wide60 (by omega) (by omega)) (by decide) (by decide), fun r g' m' c' r0 r1 => ?_⟩
        obtain ⟨i1, i2⟩ := In56.of s1 s2 hh2 r0 r1
        replace up4 := up4.draw (a := g') (b := m') (c := c')
        generalize upd H9 p _ = H13 at up4 ⊢
        refine ⟨_, rfl, _, _, rfl, rfl, _, _, rfl, rfl, wide_mul (a := 200) (b := 200) (wide60 (by omega) (by omega)) (wide60 (by omega) (by omega)) (by decide) (by decide) (by decide), ?_⟩
        obtain ⟨d1, d2, d3, ed⟩ := up4.bag
        refine ⟨_, rfl, _, rfl, _, rfl, ?_⟩
        refine ⟨p, h, d1, d2, d3, rfl, ed, wide_div (b := 200) (by omega) (wide60 (by omega) (by omega)) (by decide) (by decide), fun r2 g' m' c' r20 r21 => ?_⟩
        replace up4 := up4.draw (a := g') (b := m') (c := c')
        generalize upd H13 p _ = H14 at up4 ⊢
        refine ⟨_, _, rfl, rfl, _, _, rfl, rfl, wide_mul (a := 200) (b := 200) (wide60 (by omega) (by omega)) (wide60 (by omega) (by omega)) (by decide) (by decide) (by decide), ?_⟩
        have j1 : 1 ≤ s * (1 + r2) := by
          have := Int.mul_pos (by omega : 0 < s) (by omega : 0 < 1 + r2)
          omega
        have j2 : s * (1 + r2) ≤ 10 ^ 55 := by
          have : s * (1 + r2) ≤ 10 ^ 30 * 10 ^ 25 := Int.mul_le_mul s2 (by omega) (by omega) (by decide)
          exact this
        refine ⟨_, rfl, _, rfl, by (show 2 ≤ sizeLine); decide, fun l4 hl4 => ?_⟩
        obtain ⟨f1, f2, f3, ef⟩ := up4.bag
        refine ⟨p, _, f1, f2, f3, _, rfl, bag_new ef hl4, .inl (.inl upd_same), bag_ne ef hl4, by decide, by decide, fun v5 g' m' c' hv5 => ?_⟩
        replace up4 := (up4.new (o := .lst [.int 1, .int (-1)]) hl4).draw (a := g') (b := m') (c := c')
        generalize upd (upd _ _ _) p _ = H15 at up4 ⊢
        obtain ⟨sg, rfl, sg1⟩ := signs hv5
        refine ⟨_, _, rfl, rfl, wide_mul (a := 200) (b := 2) (wide60 (by omega) (by omega)) (by rcases sg1 with e | e <;> rw [e] <;> decide) (by decide) (by decide) (by decide), ?_⟩
        have bt : -(10 ^ 55) ≤ s * (1 + r2) * sg ∧ s * (1 + r2) * sg ≤ 10 ^ 55 ∧ s * (1 + r2) * sg ≠ 0 := by
          rcases sg1 with e | e <;> rw [e] <;> omega
        refine ⟨_, _, rfl, ?_⟩
        show tSeq _ _ _ [some (.ref p), some (.int s), some (.int h), some (.ref a), none, some (.ref ta), some (.int (lcmL A : Nat)), y, some (.int (s * (r - h))), some (.int (s * (1 + r2) * sg)), none] H15
        generalize s * (1 + r2) * sg = B at bt ⊢
        obtain ⟨bt1, bt2, bt0⟩ := bt
        generalize s * (r - h) = tp at i1 i2 ⊢
        refine ⟨_, rfl, _, rfl, by (show 2 ≤ sizeLine); decide, fun t4 et4 => ?_⟩
        refine ⟨t4, [tp, B], rfl, .inl (.inl upd_same), ?_⟩
        replace up4 := up4.new (o := .tup [.int tp, .int B]) et4
        generalize upd H15 t4 _ = H16 at up4 ⊢
        have eg : gcdL [tp, B] = Nat.gcd tp.natAbs B.natAbs := by
          show Nat.gcd (Nat.gcd 0 tp.natAbs) B.natAbs = _
          rw [Nat.gcd_zero_left]
        rw [eg]
        have G0 : 0 < Nat.gcd tp.natAbs B.natAbs := Nat.gcd_pos_of_pos_right _ (by omega)
        have G1 : Nat.gcd tp.natAbs B.natAbs ≤ B.natAbs := Nat.gcd_le_right _ (by omega)
        have Gw : Nat.gcd tp.natAbs B.natAbs < 2 ^ 200 := Nat.lt_of_le_of_lt G1 (wide60 (by omega) (by omega))
        refine ⟨_, rfl, _, _, rfl, rfl, _, rfl, ?_⟩
        have e1 : 0 < B → ((Nat.gcd tp.natAbs B.natAbs : Nat) : Int) * 1 = signG B (Nat.gcd tp.natAbs B.natAbs) := fun z => by
          unfold signG
          rw [if_neg (by omega), Int.mul_one]
        have e2 : ¬ 0 < B → ((Nat.gcd tp.natAbs B.natAbs : Nat) : Int) * (-1) = signG B (Nat.gcd tp.natAbs B.natAbs) := fun z => by
          unfold signG
          rw [if_pos (by omega), Int.mul_neg, Int.mul_one]
        have gs : (signG B (Nat.gcd tp.natAbs B.natAbs)).natAbs = Nat.gcd tp.natAbs B.natAbs := by
          unfold signG
          split <;> omega
        have gd : ∀ i, CDivG i (signG B (Nat.gcd tp.natAbs B.natAbs)) := fun i => divG (by omega) (by
          rw [gs]
          exact Nat.lt_of_lt_of_le Gw (Nat.pow_le_pow_right (by decide) (by decide)))
        refine ite2 (fun c => ?_) (fun c => ?_)
        all_goals first
          | (refine ⟨_, _, rfl, rfl, wide_mul (a := 200) (b := 2) (by rw [Int.natAbs_natCast]; exact Gw) (by decide) (by decide) (by decide) (by decide), ?_⟩
             show gName 10 (V.int (((Nat.gcd tp.natAbs B.natAbs : Nat) : Int) * 1)) _ _ _
             rw [e1 (of_decide_eq_true c)])
          | (refine ⟨_, rfl, _, _, rfl, rfl, wide_mul (a := 200) (b := 2) (by rw [Int.natAbs_natCast]; exact Gw) (by decide) (by decide) (by decide) (by decide), ?_⟩
             show gName 10 (V.int (((Nat.gcd tp.natAbs B.natAbs : Nat) : Int) * (-1))) _ _ _
             rw [e2 (fun z => c (decide_eq_true z))])
        all_goals
          refine ⟨_, rfl, _, rfl, tp, B, rfl, isI_of (by omega) (by omega), isI_of (by omega) (by omega), bt0, fun r1 er1 => ?_⟩
          have up5 := up4.new (o := .tup [.int (tp.fdiv (signG B (Nat.gcd tp.natAbs B.natAbs))), .int (B.fdiv (signG B (Nat.gcd tp.natAbs B.natAbs)))]) er1
          refine ⟨_, rfl, _, rfl, _, _, rfl, rfl, gd _, _, rfl, _, rfl, _, _, rfl, rfl, gd _, by (show 2 ≤ sizeLine); decide, fun r2 er2 => ?_⟩
          have up6 := up5.new (o := .tup [.int (tp.fdiv (signG B (Nat.gcd tp.natAbs B.natAbs))), .int (B.fdiv (signG B (Nat.gcd tp.natAbs B.natAbs)))]) er2
          refine ⟨.tuple ([tp.fdiv (signG B (Nat.gcd tp.natAbs B.natAbs)), B.fdiv (signG B (Nat.gcd tp.natAbs B.natAbs))].map PyData.int), .tuple ([tp.fdiv (signG B (Nat.gcd tp.natAbs B.natAbs)), B.fdiv (signG B (Nat.gcd tp.natAbs B.natAbs))].map PyData.int),
            .tup (sqt_new (.inl (.inl upd_same)) er2) (dp_ints [_, _]), .tup (.inl (.inl upd_same)) (dp_ints [_, _]), shapedT_ints _, shapedT_ints _, ?_⟩
          generalize upd (upd H16 r1 _) r2 _ = H17 at up6 ⊢
          refine ⟨_, rfl, ?_⟩
          refine ifT ?_ ?_
          · show PyData.eqvAll _ _ = true
            rw [eqvAll_ints, decide_eq_true rfl]
          refine ⟨_, rfl, 0, B, rfl, by decide +kernel, isI_of (by omega) (by omega), bt0, fun r3 er3 => ?_⟩
          have es : signG B (Nat.gcd (0 : Int).natAbs B.natAbs) = B := by
            rw [show (0 : Int).natAbs = 0 from rfl, Nat.gcd_zero_left]
            unfold signG
            split <;> omega
          rw [es, Int.zero_fdiv, Int.fdiv_self bt0]
          refine ⟨by (show 2 ≤ sizeLine); decide, fun r4 er4 => ?_⟩
          refine ⟨.tuple ([0, 1].map PyData.int), .tuple ([0, 1].map PyData.int), .tup (sqt_new (.inl (.inl upd_same)) er4) (dp_ints [_, _]), .tup (.inl (.inl upd_same)) (dp_ints [_, _]), shapedT_ints _, shapedT_ints _, ?_⟩
          exact q _ ((up6.new er3).new er4)
end
end K01


set_option Elab.async false
set_option linter.all false
set_option maxRecDepth 100000
set_option maxHeartbeats 2000000
/-! != of lists whose items are alike, one by one; == and != of lists with dicts in them -/
namespace PySem.SeqAt
open AutoSeq1 (wpAny_loadPart')
open MeetsSeq MeetsSeq2 MeetsSeq3 SeqRoads2
section
variable {prog : Program} {w : World}
theorem alike_loop {l b : Addr} {us ws : Array Value} {n n2 : Nat} {dd dd2 : Option Addr} {sl sl2 : Array (Option Value)} (same : us.size = ws.size) :
    ∀ left at_ : Nat, us.size - at_ = left → MeetsIn prog w (Builtin.«list.__eq__.loop» ⟨[.ref l, .ref b, rawInt at_, rawInt 3], []⟩)
      (fun B R t => t.heap.get? l = some { cls := .type "list", dict := dd, data := .seq us n, slots := sl } ∧ t.heap.get? b = some { cls := .type "list", dict := dd2, data := .seq ws n2, slots := sl2 } ∧
        (∀ j (p : j < us.size) (q : j < ws.size), EqP prog w B.in1 t us[j] ws[j] true) ∧ R (.ok (.ret (.bool false))) t)
  | 0, at_, e, B, R, t, hyp => by
    obtain ⟨h0, g0, d0, k0, o0⟩ := t
    obtain ⟨at_l, at_b, alike, out⟩ := hyp
    have u0 : us[((at_ : Nat) : Int).toNat]? = none := by simp; omega
    have w0 : ws[((at_ : Nat) : Int).toNat]? = none := by simp; omega
    wp_walk using wpAny_loadPart' at_l, wpAny_loadPart' at_b
    rw [u0, w0]
    wp_walk using wpAny_loadPart' at_l, wpAny_loadPart' at_b
    show R (.ok (.ret (.bool (us.size != ws.size)))) _
    rw [same, show (ws.size != ws.size) = false from by simp]
    exact out
  | left + 1, at_, e, B, R, t, hyp => by
    obtain ⟨h0, g0, d0, k0, o0⟩ := t
    obtain ⟨at_l, at_b, alike, out⟩ := hyp
    have p : at_ < us.size := by omega
    have q : at_ < ws.size := by omega
    have u0 : us[((at_ : Nat) : Int).toNat]? = some us[at_] := by simp [p]
    have w0 : ws[((at_ : Nat) : Int).toNat]? = some ws[at_] := by simp [q]
    wp_walk using wpAny_loadPart' at_l, wpAny_loadPart' at_b
    rw [u0, w0]
    refine wpAny_bind (alike at_ p q _ _ ?_)
    wp_walk
    rw [show ((at_ : Int) + 1) = ((at_ + 1 : Nat) : Int) by push_cast; rfl]
    refine ⟨plainId_quiet plain_eq_loop _, codeAny_builtin entry_eq_loop ?_⟩
    rw [Around.under_plainId plain_eq_loop _]
    exact alike_loop same left (at_ + 1) (by omega) B R _ ⟨at_l, at_b, alike, out⟩
theorem alike_ne {l b : Addr} {us ws : Array Value} {n n2 : Nat} {dd dd2 : Option Addr} {sl sl2 : Array (Option Value)} (same : us.size = ws.size) :
    MeetsIn prog w (Builtin.«list.__ne__» ⟨[.ref l, .ref b], []⟩)
      (fun B R t => t.heap.get? l = some { cls := .type "list", dict := dd, data := .seq us n, slots := sl } ∧ t.heap.get? b = some { cls := .type "list", dict := dd2, data := .seq ws n2, slots := sl2 } ∧
        (∀ j (p : j < us.size) (q : j < ws.size), EqP prog w B.in1 t us[j] ws[j] true) ∧ R (.ok (.ret (.bool false))) t) := by
  rintro B R ⟨h0, g0, d0, k0, o0⟩ ⟨at_l, at_b, alike, out⟩
  have sub := AutoSeq1.sub_list_list
  have no : ¬ (us.size != ws.size) = true := by simp [same]
  wp_walk using wpAny_loadPart' at_l, wpAny_loadPart' at_b
  refine ⟨plainId_quiet plain_eq_loop _, codeAny_builtin entry_eq_loop ?_⟩
  rw [Around.under_plainId plain_eq_loop _]
  exact alike_loop same _ 0 rfl B R _ ⟨at_l, at_b, alike, out⟩
theorem ne_alike {B : Around} {t : Shared} {l b : Addr} {us ws : Array Value} (hl : t.heap.IsList l us) (hb : t.heap.IsList b ws) (same : us.size = ws.size) (hu : B.units < cLine)
    (alike : ∀ j (p : j < us.size) (q : j < ws.size), EqP prog w B.in1 t us[j] ws[j] true) (E Q : Value → Shared → Prop) (out : Q (.bool false) t) : wpAny (model prog w) B (richCompare .NotEq (.ref l) (.ref b)) Q E t := by
  obtain ⟨⟨c1, d1, x1, s1⟩, o1, e1, n1, f1⟩ := id hl
  obtain ⟨⟨c2, d2, x2, s2⟩, o2, e2, n2, f2⟩ := id hb
  simp only at e1 f1 e2 f2
  subst e1 f1 e2 f2
  have tl : t.TypeIs (.ref l) "list" := ⟨_, o1, rfl⟩
  have tb : t.TypeIs (.ref b) "list" := ⟨_, o2, rfl⟩
  exact wpAny_richCompare_same_room (op := .NotEq) tl tb F.slot_list_ne (call_meetsIn F.slot_list_ne tl F.entry_list_ne (F.args_list_ne_2 _ _) (alike_ne same)
    ⟨o1, o2, alike, show Value.bool false ≠ Value.notImplemented ∧ Q (.bool false) t from ⟨(fun x => nomatch x), out⟩⟩) hu
end
end PySem.SeqAt
namespace K01
open PySem PySem.Spec PyProof.Rows L2 MM
/-- alike: data of one form, or dicts of the same flat entries -/
def Alike (K : PySem.W.Frag) (H : Hp) (x y : V) : Prop :=
  (∃ d, Dp K H x d ∧ Dp K H y d ∧ SeqAt.shaped d = true ∧ PyData.eqv d d = true) ∨
    ∃ a b ks ls, x = .ref a ∧ y = .ref b ∧ H a = some (.dK ks) ∧ H b = some (.dK ls) ∧ ks.length = ls.length ∧ ∀ p ∈ ks, valV ls p.1 = some p.2 ∧ flatB p.2 = true
section
variable {X : Cx} {pins : List (Addr × Obj)} {σ : L2.St} {H : Hp} {s : Shared}
theorem alike_run (I : Inv X pins σ H s) {A : Around} (hu : A.units + 64 < cLine) {x y : V} {v u : Value} (h : Alike X.K H x y) (rx : RelV x v) (ry : RelV y u) : SeqAt.EqP X.prog X.w A s v u true := by
  rcases h with ⟨d, h1, h2, sd, e⟩ | ⟨a, b, ks, ls, rfl, rfl, ha, hb, hl, hp⟩
  · obtain ⟨as, r1⟩ := Dp.reads I d x v h1 rx
    obtain ⟨bs, r2⟩ := Dp.reads I d y u h2 ry
    have k := SeqAt.eqAt_reads d d A s v u as bs r1 r2 (SeqAt.canLay_of_shaped sd) (SeqAt.canLay_of_shaped sd) (SeqAt.room_of_shaped sd hu)
    rw [e] at k
    exact k.eqP
  · cases (show v = Value.ref a from rx)
    cases (show u = Value.ref b from ry)
    by_cases e : a = b
    · subst e
      exact (SeqAt.EqAt.same _).eqP
    · exact SeqAt.eqP_refs e (eqR_run I (F := fun x y => x = y ∧ flatB x = true) (by omega) (fun x y v u f r1 r2 => by
        obtain ⟨rfl, f⟩ := f
        exact (eqAt_same r1 r2 f).eqP) (.inr ⟨a, b, ks, ls, rfl, rfl, ha, hb, hl, fun p hp' => ⟨_, (hp p hp').1, rfl, (hp p hp').2⟩⟩) rfl rfl)
end
section
variable {X : Cx}
def rEqS (K : PySem.W.Frag) : R2 := fun x y H Q => ∃ a b xs ys, x = .ref a ∧ y = .ref b ∧ SqL K H a xs ∧ SqL K H b ys ∧ Paired (Alike K H) xs ys ∧ Q (.bl true) H
def rNeS (K : PySem.W.Frag) : R2 := fun x y H Q => ∃ a b xs ys, x = .ref a ∧ y = .ref b ∧ SqL K H a xs ∧ SqL K H b ys ∧ Paired (Alike K H) xs ys ∧ Q (.bl false) H
theorem op_eqS (hu : X.A.units + 66 < cLine) : OpR X (compareOp .Eq) (rEqS X.K) := by
  intro pins s σ H x y v u Q I rx ry h
  obtain ⟨a, b, xs, ys, rfl, rfl, ha, hb, hp, q⟩ := h
  cases (show v = Value.ref a from rx)
  cases (show u = Value.ref b from ry)
  obtain ⟨us, r1, p1, _⟩ := I.list ha
  obtain ⟨ws, r2, p2, _⟩ := I.list hb
  have hsz : us.toArray.size = ws.toArray.size := by
    rw [List.size_toArray, List.size_toArray, ← r1.length, ← r2.length]
    exact Paired.length hp
  refine SeqAt.rcP_lists (e := fun _ => true) p1.isList p2.isList hsz (by omega) (fun j h1 h2 => ?_) _ _ ?_
  · have k := items_run (fun x y v u f => alike_run I (A := X.A.in1) (by show X.A.units + 1 + 64 < cLine; omega) f) hp r1 r2 j (by simpa using h1) (by simpa using h2)
    simpa using k
  · rw [show ((List.range us.toArray.size).all fun _ => true) = true from List.all_eq_true.mpr fun _ _ => rfl]
    exact ⟨.bl true, H, I, rfl, q⟩
theorem op_neS (hu : X.A.units + 66 < cLine) : OpR X (compareOp .NotEq) (rNeS X.K) := by
  intro pins s σ H x y v u Q I rx ry h
  obtain ⟨a, b, xs, ys, rfl, rfl, ha, hb, hp, q⟩ := h
  cases (show v = Value.ref a from rx)
  cases (show u = Value.ref b from ry)
  obtain ⟨us, r1, p1, _⟩ := I.list ha
  obtain ⟨ws, r2, p2, _⟩ := I.list hb
  have hsz : us.toArray.size = ws.toArray.size := by
    rw [List.size_toArray, List.size_toArray, ← r1.length, ← r2.length]
    exact Paired.length hp
  refine SeqAt.ne_alike p1.isList p2.isList hsz (by omega) (fun j h1 h2 => ?_) _ _ ⟨.bl false, H, I, rfl, q⟩
  have k := items_run (fun x y v u f => alike_run I (A := X.A.in1) (by show X.A.units + 1 + 64 < cLine; omega) f) hp r1 r2 j (by simpa using h1) (by simpa using h2)
  simpa using k
end
end K01

set_option Elab.async false
set_option linter.all false
set_option maxRecDepth 100000
set_option maxHeartbeats 4000000
namespace K01
open PySem PySem.Spec PyProof.Rows L2 MM
/-! own words for the readings: a step, its side -/
local macro_rules | `(tactic| walk_at "side") => `(tactic| first
  | omega
  | exact ⟨by omega, by omega⟩
  | exact Or.inl ⟨by omega, by omega⟩
  | exact Or.inr ⟨by omega, by omega⟩
  | (show CPw _ _; decide +kernel)
  | (show (0 : Int) < _; decide +kernel)
  | (show CDivW _ _; first | assumption | exact ⟨by decide, by decide +kernel⟩))
local macro_rules | `(tactic| walk_at "here") => `(tactic| first
  | assumption
  | exact upd_same
  | exact Or.inl (Or.inl upd_same)
  | exact Or.inl upd_same)
local macro_rules | `(tactic| walk_at "one") => `(tactic| first
  | refine ⟨_, rfl, ?_⟩
  | refine Or.inl ⟨_, rfl, ?_⟩
  | refine Or.inr ⟨_, rfl, ?_⟩
  | refine ⟨_, _, rfl, rfl, (by walk_at "side"), ?_⟩
  | refine ⟨_, _, rfl, rfl, ?_⟩
  | refine ⟨_, _, rfl, Or.inl (by walk_at "here"), ?_⟩
  | refine ⟨_, _, rfl, Or.inr (by walk_at "here"), ?_⟩
  | refine ⟨_, _, rfl, (by walk_at "here"), ?_⟩
  | refine ⟨_, _, _, _, rfl, rfl, (by walk_at "here"), rfl, ?_⟩
  | refine ⟨_, _, rfl, ?_⟩
  | refine ifT (by rfl) ?_
  | refine ifF (by rfl) ?_
  | refine ifT (decide_eq_true (by omega)) ?_
  | refine ifF (decide_eq_false (by omega)) ?_)
local macro_rules | `(tactic| walk_at "st") => `(tactic| repeat (walk_at "one"))

section
variable {P : Program} {w : World} {K : PySem.W.Frag} {mg : Str → Option Value} {base : Heap}
theorem highs2 {v : V} (h : v ∈ [V.int 5, .int 60, .int (10 ^ (20 : Int).toNat)]) : ∃ k : Int, v = .int k ∧ 5 ≤ k ∧ k ≤ 10 ^ 20 := by
  simp only [List.mem_cons, List.not_mem_nil, or_false] at h
  rcases h with h | h | h
  all_goals exact ⟨_, h, by decide +kernel, by decide +kernel⟩
theorem rv1 {H : Hp} {a : Addr} {u : V} {n : Kn} (h : SqT K H a [u]) (k : Kd K H u n) : Rv K H (.ref a) (some [u]) := .yes h fun y hy => ⟨n, (List.mem_singleton.mp hy) ▸ k⟩
theorem rv2 {H : Hp} {a : Addr} {u v : V} {n m : Kn} (h : SqT K H a [u, v]) (k : Kd K H u n) (k2 : Kd K H v m) : Rv K H (.ref a) (some [u, v]) := .yes h fun y hy => by
  rcases List.mem_cons.mp hy with z | z
  · exact ⟨n, z ▸ k⟩
  · exact ⟨m, (List.mem_singleton.mp z) ▸ k2⟩
theorem rv3 {H : Hp} {a : Addr} {u v x : V} {n m l : Kn} (h : SqT K H a [u, v, x]) (k : Kd K H u n) (k2 : Kd K H v m) (k3 : Kd K H x l) : Rv K H (.ref a) (some [u, v, x]) := .yes h fun y hy => by
  rcases List.mem_cons.mp hy with z | z
  · exact ⟨n, z ▸ k⟩
  · rcases List.mem_cons.mp z with z | z
    · exact ⟨m, z ▸ k2⟩
    · exact ⟨l, (List.mem_singleton.mp z) ▸ k3⟩
theorem Rv.same {H H' : Hp} {x : V} {o : Option (List V)} (h : Rv K H x o) (s : Same H H') : Rv K H' x o := by
  cases h with
  | no k ne => exact .no (k.same s) ne
  | yes h m => exact .yes (same_sqt s h) fun y hy => (m y hy).imp fun n k => k.same s
theorem Rv.kd {H : Hp} {x : V} {o : Option (List V)} (h : Rv K H x o) : ∃ n, Kd K H x n := by
  cases h with
  | no k ne => exact ⟨_, k⟩
  | yes h m => exact ⟨_, .tup h⟩
theorem show3 (a b c : Bool) : (PyData.list ([a, b, c].map PyData.bool)).showable = true ∧ (PyData.list ([a, b, c].map PyData.bool)).shown.length ≤ sizeLine := by
  cases a <;> cases b <;> cases c <;> decide +kernel
theorem scJudgedRightL : FnScope ["_law_bag_here", "_law_high", "_law_top", "_law_bottom", "_law_share", "_law_pair", "_law_some", "_law_turn", "_law_value", "_law_due"] ["_law_bag_here"] (defScope sJudgedRightL) :=
  ⟨rfl, rfl, rfl, by decide +kernel, rfl, by decide +kernel, by decide +kernel⟩
theorem dJudgedRightL (T : Tx K mg) (DOneOfL : Def P w K mg base CX0 2 "_law_one_of" ["_law_bag_here", "_law_items"] (spOneOf K)) (DGrabL : Def P w K mg base CX0 1 "_law_grab" ["_law_bag_here", "_law_total"] spGrab) (DNbDivisorL : Def P w K mg base CX0 1 "_law_nb_divisor" ["_law_numbers"] (spGcd K)) (DNbIsRatioL : Def P w K mg base CX0 2 "_law_nb_is_ratio" ["_law_value"] (spIsRatio K)) (DNbIsPrimeL : Def P w K mg base CX0 3 "_law_nb_is_prime" ["_law_value"] (spIsPrime K)) (DNbIsShortL : Def P w K mg base CX0 1 "_law_nb_is_short" ["_law_value"] (spIsInteger K)) (DIsRatio : Def P w K mg base CX0 3 "is_ratio" ["value"] (spIsRatio K)) (DIsPrime : Def P w K mg base CX0 3 "is_prime" ["value"] (spIsPrime K)) (DIsInteger : Def P w K mg base CX0 2 "is_integer" ["value"] (spIsInteger K)) : Def P w K mg base CX0 6 "_law_judged_right" ["_law_bag_here"] spRight := by
  refine T.t_law_judged_right.def_ (N := ["_law_bag_here", "_law_high", "_law_top", "_law_bottom", "_law_share", "_law_pair", "_law_some", "_law_turn", "_law_value", "_law_due"]) scJudgedRightL (fun _ _ _ _ _ _ us hl => match us, hl with | [_], _ => rfl) ?_ ?_
  · intro vs H Q E h
    obtain ⟨p, rfl, _⟩ := h
    rfl
  · intro f cd A out s H vs Q E hr h
    have hr1 : Rm 3 _ := hr.le (by decide)
    obtain ⟨p, rfl, hb, q⟩ := h
    obtain ⟨b1, b2, b3, eb⟩ := hb
    refine ⟨_, (pss_cons (ps_set (i := 1) scJudgedRightL.nd rfl (Or.inl rfl) (pe_d DOneOfL (hr1.le (by decide)) pass0 (pa_cons (pv 0) (pa_cons (pe_lst (pa_cons pe_int (pa_cons pe_int (pa_cons (pe_op op_pw pe_int pe_int) pa_nil)))) pa_nil))))
      (pss_cons (ps_par (i := 2) (j := 3) rfl scJudgedRightL.nd rfl rfl (by decide) rfl rfl (pa_cons (pe_op op_sub (pe_d DGrabL (hr1.le (by decide)) pass0 (pa_cons (pv 0) (pa_cons (pe_op op_add (pe_op op_mul pe_int (pv 1)) pe_int) pa_nil))) (pv 1)) (pa_cons (pe_op op_add pe_int (pe_d DGrabL (hr1.le (by decide)) pass0 (pa_cons (pv 0) (pa_cons (pv 1) pa_nil)))) pa_nil)) (by rfl))
      (pss_cons (ps_set (i := 4) scJudgedRightL.nd rfl (Or.inl rfl) (pe_d DNbDivisorL (hr1.le (by decide)) pass0 (pa_cons (pe_tup (pa_cons (pv 2) (pa_cons (pv 3) pa_nil))) pa_nil)))
      (pss_cons (ps_set (i := 5) scJudgedRightL.nd rfl (Or.inl rfl) (pe_tup (pa_cons (pe_op op_fdivW (pv 2) (pv 4)) (pa_cons (pe_op op_fdivW (pv 3) (pv 4)) pa_nil))))
      (pss_cons (ps_set (i := 6) scJudgedRightL.nd rfl (Or.inl rfl) (pe_op op_cat (pe_op op_cat (pe_listRg rfl rfl T.f_list (prg_2 rfl T.f_range (pe_un un_neg pe_int) pe_int)) (pe_lc (own := [("_law_turn", 7)]) (g := gName 7) (tt := tYes) rfl scJudgedRightL.nd (pi_range1 rfl T.f_range (pa_cons pe_int pa_nil)) (blkOk_by (N := ["_law_bag_here", "_law_high", "_law_top", "_law_bottom", "_law_share", "_law_pair", "_law_some", "_law_turn", "_law_value", "_law_due"]) (sc := defScope sJudgedRightL) (by decide +kernel)) (fun _ _ _ _ _ => pg_name (i := 7) scJudgedRightL.nd rfl (Or.inl rfl)) (fun _ _ _ _ _ => pts_nil) (fun _ _ _ _ _ => (pe_d DGrabL (hr1.le (by decide)) pass0 (pa_cons (pv 0) (pa_cons pe_int pa_nil)))))) (pe_lst (pa_cons pe_int (pa_cons pe_int (pa_cons pe_int (pa_cons pe_int (pa_cons pe_int (pa_cons (pe_op op_pw pe_int pe_int) (pa_cons (pe_op op_sub (pe_op op_pw pe_int pe_int) pe_int) (pa_cons (pe_op op_sub pe_int (pe_op op_pw pe_int pe_int)) (pa_cons (pe_un un_neg (pe_op op_pw pe_int pe_int)) pa_nil))))))))))))
      (pss_cons (ps_set (i := 6) scJudgedRightL.nd rfl (Or.inl rfl) (pe_op op_cat (pv 6) (pe_lst (pa_cons pe_bl (pa_cons pe_bl (pa_cons pe_non (pa_cons pe_str (pa_cons (pe_tup (pa_cons pe_int pa_nil)) (pa_cons (pe_lst (pa_cons pe_int pa_nil)) (pa_cons pe_dnewK (pa_cons (pe_tup pa_nil) (pa_cons pe_str (pa_cons (pv 5) (pa_cons (pe_callTy call_list_of rfl T.f_list (by decide +kernel) (pa_cons (pv 5) pa_nil)) (pa_cons (pe_back (pv 5)) (pa_cons (pe_tup (pa_cons (pe_op op_mul pe_int (pe_ix ix_tup (pv 5) pe_int (fun _ _ => rfl))) (pa_cons (pe_op op_mul pe_int (pe_ix ix_tup (pv 5) pe_int (fun _ _ => rfl))) pa_nil))) (pa_cons (pe_op op_catA (pv 5) (pe_tup (pa_cons pe_int pa_nil))) pa_nil)))))))))))))))))
      (pss_cons (ps_set (i := 6) scJudgedRightL.nd rfl (Or.inl rfl) (pe_op op_cat (pv 6) (pe_lst (pa_cons (pe_tup (pa_cons pe_int (pa_cons pe_int pa_nil))) (pa_cons (pe_tup (pa_cons pe_int (pa_cons pe_int pa_nil))) (pa_cons (pe_tup (pa_cons pe_int (pa_cons pe_int pa_nil))) (pa_cons (pe_tup (pa_cons pe_int (pa_cons pe_int pa_nil))) (pa_cons (pe_tup (pa_cons (pe_un un_neg pe_int) (pa_cons pe_int pa_nil))) (pa_cons (pe_tup (pa_cons pe_int (pa_cons (pe_un un_neg pe_int) pa_nil))) (pa_cons (pe_tup (pa_cons pe_bl (pa_cons pe_int pa_nil))) (pa_cons (pe_tup (pa_cons pe_int (pa_cons pe_bl pa_nil))) (pa_cons (pe_tup (pa_cons (pe_op op_pw pe_int pe_int) (pa_cons pe_int pa_nil))) (pa_cons (pe_tup (pa_cons pe_int (pa_cons (pe_op op_pw pe_int pe_int) pa_nil))) (pa_cons (pe_tup (pa_cons pe_str (pa_cons pe_int pa_nil))) (pa_cons (pe_tup (pa_cons pe_non (pa_cons pe_int pa_nil))) (pa_cons (pe_tup (pa_cons (pe_tup (pa_cons pe_int (pa_cons pe_int pa_nil))) (pa_cons pe_int pa_nil))) pa_nil))))))))))))))))
      (pss_cons (ps_for PassesOwn.never rfl (pi_list (pv 6)) (pg_name (i := 8) scJudgedRightL.nd rfl (Or.inl rfl))
        (pss_cons (ps_set (i := 9) scJudgedRightL.nd rfl (Or.inl rfl) (pe_lst (pa_cons (pe_d DNbIsShortL (hr1.le (by decide)) pass0 (pa_cons (pv 8) pa_nil)) (pa_cons (pe_d DNbIsPrimeL (hr1.le (by decide)) pass0 (pa_cons (pv 8) pa_nil)) (pa_cons (pe_d DNbIsRatioL (hr1.le (by decide)) pass0 (pa_cons (pv 8) pa_nil)) pa_nil)))))
        (pss_one (ps_if (pt_cmpR op_ne (pe_callB (cr_repr hr.still hr.hu66) rfl T.f_repr (by decide +kernel) (pa_cons (pe_lst (pa_cons (pe_d DIsInteger (hr1.le (by decide)) pass0 (pa_cons (pv 8) pa_nil)) (pa_cons (pe_d DIsPrime (hr1.le (by decide)) pass0 (pa_cons (pv 8) pa_nil)) (pa_cons (pe_d DIsRatio (hr1.le (by decide)) pass0 (pa_cons (pv 8) pa_nil)) pa_nil)))) pa_nil)) (pe_callB (cr_repr hr.still hr.hu66) rfl T.f_repr (by decide +kernel) (pa_cons (pv 9) pa_nil)) (nomark _)) (pss_one (ps_ret pe_bl)) pss_nil))))
      (pss_one (ps_ret pe_bl)))))))))), ?_⟩
    refine ⟨_, rfl, _, _, rfl, rfl, by (show CPw _ _); decide +kernel, by (show 3 ≤ sizeLine); decide, fun l1 h1 => ?_⟩
    refine ⟨p, _, b1, b2, b3, _, rfl, bag_new eb h1, .inl (.inl upd_same), bag_ne eb h1, by decide, by decide, fun v1 g' m' c' hv1 => ?_⟩
    have up := ((Upto.refl ⟨_, _, _, eb⟩).new (o := .lst [.int 5, .int 60, .int (10 ^ (20 : Int).toNat)]) h1).draw (a := g') (b := m') (c := c')
    generalize upd (upd _ _ _) p _ = H1 at up ⊢
    obtain ⟨h, rfl, hh1, hh2⟩ := highs2 hv1
    obtain ⟨c1, c2, c3, ec⟩ := up.bag
    refine ⟨_, rfl, _, rfl, _, _, rfl, rfl, .inl ⟨by decide, by decide⟩, _, _, rfl, rfl, ?_⟩
    refine ⟨p, 2 * h + 1, c1, c2, c3, rfl, ec, wide_div (b := 200) (by omega) (wide60 (by omega) (by omega)) (by decide) (by decide), fun r g' m' c' r0 r1 => ?_⟩
    replace up := up.draw (a := g') (b := m') (c := c')
    generalize upd H1 p _ = H2 at up ⊢
    refine ⟨_, rfl, _, _, rfl, rfl, ?_⟩
    obtain ⟨d1, d2, d3, ed⟩ := up.bag
    refine ⟨_, rfl, _, rfl, ?_⟩
    refine ⟨p, h, d1, d2, d3, rfl, ed, wide_div (b := 200) (by omega) (wide60 (by omega) (by omega)) (by decide) (by decide), fun r2 g' m' c' r20 r21 => ?_⟩
    replace up := up.draw (a := g') (b := m') (c := c')
    generalize upd H2 p _ = H3 at up ⊢
    refine ⟨_, _, rfl, rfl, ?_⟩
    refine ⟨_, _, rfl, ?_⟩
    show tSeq _ _ _ [some (.ref p), some (.int h), some (.int (r - h)), some (.int (1 + r2)), none, none, none, none, none, none] H3
    have bot1 : 1 ≤ 1 + r2 := by omega
    have bot2 : 1 + r2 ≤ 10 ^ 20 := by omega
    generalize 1 + r2 = bot at bot1 bot2 ⊢
    have top1 : -(10 ^ 20) ≤ r - h := by omega
    have top2 : r - h ≤ 10 ^ 20 := by omega
    generalize r - h = top at top1 top2 ⊢
    refine ⟨_, rfl, _, rfl, by (show 2 ≤ sizeLine); decide, fun t1 e1 => ?_⟩
    refine ⟨t1, [top, bot], rfl, .inl (.inl upd_same), ?_⟩
    replace up := up.new (o := .tup [.int top, .int bot]) e1
    generalize upd H3 t1 _ = H4 at up ⊢
    have eg : gcdL [top, bot] = Nat.gcd top.natAbs bot.natAbs := by
      show Nat.gcd (Nat.gcd 0 top.natAbs) bot.natAbs = _
      rw [Nat.gcd_zero_left]
    have G0 : 0 < Nat.gcd top.natAbs bot.natAbs := Nat.gcd_pos_of_pos_right _ (by omega)
    have G1 : Nat.gcd top.natAbs bot.natAbs ≤ bot.natAbs := Nat.gcd_le_right _ (by omega)
    rw [eg]
    generalize Nat.gcd top.natAbs bot.natAbs = g at G0 G1 ⊢
    have gd : ∀ i, CDivW i (g : Int) := fun i => wide_div (b := 200) (by omega) (by rw [Int.natAbs_natCast]; exact Nat.lt_of_le_of_lt G1 (wide60 (by omega) (by omega))) (by decide) (by decide)
    refine ⟨_, rfl, _, rfl, _, _, rfl, rfl, gd _, _, rfl, _, rfl, _, _, rfl, rfl, gd _, by (show 2 ≤ sizeLine); decide, fun tp etp => ?_⟩
    have tpp : tp ≠ p := fun e => by obtain ⟨z1, z2, z3, ez⟩ := up.bag; rw [e, ez] at etp; cases etp
    have Fp : SqT K (upd H4 tp (.tup [.int (top / (g : Int)), .int (bot / (g : Int))])) tp [.int (top / (g : Int)), .int (bot / (g : Int))] := .inl (.inl upd_same)
    replace up := up.new (o := .tup [.int (top / (g : Int)), .int (bot / (g : Int))]) etp
    generalize upd H4 tp _ = H5 at up Fp ⊢
    generalize top / (g : Int) = x at Fp ⊢
    generalize bot / (g : Int) = y at Fp ⊢
    -- the first row of values
    refine ⟨_, rfl, _, _, rfl, rfl, ⟨by decide, by decide, by decide, by decide, by decide⟩, fun lr elr => ?_⟩
    have lrp : lr ≠ p := fun e => by obtain ⟨z1, z2, z3, ez⟩ := up.bag; rw [e, ez] at elr; cases elr
    have Fr : (upd H5 lr (.lst (rgV (-3) 12))) lr = some (.lst (rgV (-3) 12)) := upd_same
    replace up := up.new (o := .lst (rgV (-3) 12)) elr
    replace Fp := sqt_new (o := .lst (rgV (-3) 12)) Fp elr
    generalize upd H5 lr _ = H6 at up Fp Fr ⊢
    refine ⟨6, rfl, by decide, by decide, fun D nD => ?_⟩
    have up0 := (Upto.refl up.bag).new (o := .lst []) nD
    have fr := (Upto.refl up.bag).free nD
    refine lc_range (Pv := fun i H7 => Upto p H6 H7 ∧ ∃ xs : List V, xs.length = i ∧ H7 D = some (.lst xs) ∧ ∀ v, v ∈ xs → ∃ n : Int, v = .int n) ⟨up0, [], rfl, upd_same, by simp⟩ ?_ ?_
    · rintro i H7 hi ⟨up7, xs, hlen, hD, hin⟩
      refine ⟨wipe_one, yes_ ?_⟩
      obtain ⟨z1, z2, z3, ez⟩ := up7.bag
      refine ⟨_, rfl, p, 120, z1, z2, z3, rfl, ez, ⟨by decide, by decide⟩, fun r g' m' c' r0 r1 => ?_⟩
      refine ⟨xs, (upd_ne fr.1).trans hD, ?_, up7.draw.put fr.1 fr.2, xs ++ [.int r], by rw [List.length_append, hlen]; rfl, upd_same, ?_⟩
      · exact Nat.lt_of_le_of_lt (by omega) (small1000 (n := 1000) (by omega))
      · intro v hv
        rcases List.mem_append.mp hv with z | z
        · exact hin v z
        · exact ⟨r, List.mem_singleton.mp z⟩
    rintro H7 ⟨up7, xs, hlen, hD, hin⟩
    replace up := up.trans up7
    replace Fp := up7.sqt Fp tpp
    replace Fr := up7.same _ _ lrp Fr
    refine ⟨lr, D, _, _, rfl, rfl, Fr, hD, ?_, fun l2 el2 => ?_⟩
    · rw [rgV_length, hlen]
      exact Nat.le_of_lt (small1000 (n := 21) (by decide))
    have F2 : (upd H7 l2 (.lst (rgV (-3) 12 ++ xs))) l2 = some (.lst (rgV (-3) 12 ++ xs)) := upd_same
    replace up := up.new (o := .lst (rgV (-3) 12 ++ xs)) el2
    replace Fp := sqt_new (o := .lst (rgV (-3) 12 ++ xs)) Fp el2
    generalize upd H7 l2 _ = H8 at up Fp F2 ⊢
    have I2 : ∀ v, v ∈ rgV (-3) 12 ++ xs → ∃ n : Int, v = .int n := by
      intro v hv
      rcases List.mem_append.mp hv with z | z
      · obtain ⟨n, _, e⟩ := List.mem_map.mp z
        exact ⟨_, e.symm⟩
      · exact hin v z
    have L2 : (rgV (-3) 12 ++ xs).length = 21 := by rw [List.length_append, rgV_length, hlen]; rfl
    generalize rgV (-3) 12 ++ xs = xs2 at F2 I2 L2 ⊢
    refine ⟨_, _, rfl, rfl, by (show CPw _ _); decide +kernel, _, _, rfl, rfl, by (show CPw _ _); decide +kernel, _, _, rfl, rfl, _, _, rfl, rfl, by (show CPw _ _); decide +kernel, _, _, rfl, rfl, _, _, rfl, rfl, by (show CPw _ _); decide +kernel, _, rfl, by (show 9 ≤ sizeLine); decide, fun l3 el3 => ?_⟩
    have F3 : (upd H8 l3 (.lst [.int 91, .int 97, .int 99, .int 100, .int 101, .int (10 ^ (60 : Int).toNat), .int (10 ^ (60 : Int).toNat - 1), .int (1 - 10 ^ (60 : Int).toNat), .int (-(10 ^ (60 : Int).toNat))])) l3 = some (.lst [.int 91, .int 97, .int 99, .int 100, .int 101, .int (10 ^ (60 : Int).toNat), .int (10 ^ (60 : Int).toNat - 1), .int (1 - 10 ^ (60 : Int).toNat), .int (-(10 ^ (60 : Int).toNat))]) := upd_same
    have S8 : Same H8 (upd H8 l3 (.lst [.int 91, .int 97, .int 99, .int 100, .int 101, .int (10 ^ (60 : Int).toNat), .int (10 ^ (60 : Int).toNat - 1), .int (1 - 10 ^ (60 : Int).toNat), .int (-(10 ^ (60 : Int).toNat))])) := same_new el3
    replace up := up.keep S8
    replace Fp := same_sqt S8 Fp
    replace F2 := S8 _ _ F2
    have e9 : ∃ ys : List V, ys = [.int 91, .int 97, .int 99, .int 100, .int 101, .int (10 ^ (60 : Int).toNat), .int (10 ^ (60 : Int).toNat - 1), .int (1 - 10 ^ (60 : Int).toNat), .int (-(10 ^ (60 : Int).toNat))] := ⟨_, rfl⟩
    obtain ⟨ys, ey⟩ := e9
    generalize upd H8 l3 _ = H9 at up Fp F2 F3 ⊢
    rw [← ey] at F3
    have I3 : ys.length = 9 ∧ ∀ v, v ∈ ys → ∃ n : Int, v = .int n := by
      rw [ey]
      refine ⟨rfl, fun v hv => ?_⟩
      simp only [List.mem_cons, List.not_mem_nil, or_false] at hv
      rcases hv with z | z | z | z | z | z | z | z | z
      all_goals exact ⟨_, z⟩
    clear ey
    refine ⟨l2, l3, _, _, rfl, rfl, F2, F3, by rw [L2, I3.1]; exact Nat.le_of_lt (small1000 (n := 30) (by decide)), fun l4 el4 => ?_⟩
    have F4 : (upd H9 l4 (.lst (xs2 ++ ys))) l4 = some (.lst (xs2 ++ ys)) := upd_same
    have S9 : Same H9 (upd H9 l4 (.lst (xs2 ++ ys))) := same_new el4
    replace up := up.keep S9
    replace Fp := same_sqt S9 Fp
    generalize upd H9 l4 _ = A0 at up Fp F4 ⊢
    have I4 : ∀ v, v ∈ xs2 ++ ys → ∃ n : Int, v = .int n := by
      intro v hv
      rcases List.mem_append.mp hv with z | z
      · exact I2 v z
      · exact I3.2 v z
    have L4 : (xs2 ++ ys).length = 30 := by rw [List.length_append, L2, I3.1]
    generalize xs2 ++ ys = zs at F4 I4 L4 ⊢
    -- the second row
    refine ⟨_, rfl, by (show 1 ≤ sizeLine); decide, fun t1 e1 => ?_⟩
    have S1 : Same A0 (upd A0 t1 (.tup [.int 7])) := same_new e1
    have F1' : SqT K (upd A0 t1 (.tup [.int 7])) t1 [.int 7] := .inl (.inl upd_same)
    replace up := up.keep S1
    replace Fp := same_sqt S1 Fp
    replace F4 := S1 _ _ F4
    generalize upd A0 t1 _ = A1 at up Fp F4 S1 F1' ⊢
    refine ⟨by (show 1 ≤ sizeLine); decide, fun t2 e2 => ?_⟩
    have S2 : Same A1 (upd A1 t2 (.lst [.int 7])) := same_new e2
    have F2' : SqL K (upd A1 t2 (.lst [.int 7])) t2 [.int 7] := .inl (.inl upd_same)
    replace up := up.keep S2
    replace Fp := same_sqt S2 Fp
    replace F4 := S2 _ _ F4
    generalize upd A1 t2 _ = A2 at up Fp F4 S2 F2' ⊢
    refine fun t3 e3 => ?_
    have S3 : Same A2 (upd A2 t3 (.dK [])) := same_new e3
    have F3' : (upd A2 t3 (.dK [])) t3 = some (.dK []) := upd_same
    replace up := up.keep S3
    replace Fp := same_sqt S3 Fp
    replace F4 := S3 _ _ F4
    generalize upd A2 t3 _ = A3 at up Fp F4 S3 F3' ⊢
    refine ⟨by (show 0 ≤ sizeLine); decide, fun t4 e4 => ?_⟩
    have S4 : Same A3 (upd A3 t4 (.tup [])) := same_new e4
    have F4' : SqT K (upd A3 t4 (.tup [])) t4 [] := .inl (.inl upd_same)
    replace up := up.keep S4
    replace Fp := same_sqt S4 Fp
    replace F4 := S4 _ _ F4
    generalize upd A3 t4 _ = A4 at up Fp F4 S4 F4' ⊢
    refine ⟨_, rfl, _, rfl, tp, _, rfl, .inr Fp, fun t5 e5 => ?_⟩
    have S5 : Same A4 (upd A4 t5 (.lst [.int x, .int y])) := same_new e5
    have F5' : SqL K (upd A4 t5 (.lst [.int x, .int y])) t5 [.int x, .int y] := .inl (.inl upd_same)
    replace up := up.keep S5
    replace Fp := same_sqt S5 Fp
    replace F4 := S5 _ _ F4
    generalize upd A4 t5 _ = A5 at up Fp F4 S5 F5' ⊢
    refine ⟨_, rfl, tp, _, _, rfl, Fp, fun t6 e6 => ?_⟩
    have S6 : Same A5 (upd A5 t6 (.tup [.int y, .int x])) := same_new e6
    have F6' : SqT K (upd A5 t6 (.tup [.int y, .int x])) t6 [.int y, .int x] := .inl (.inl upd_same)
    replace up := up.keep S6
    replace Fp := same_sqt S6 Fp
    replace F4 := S6 _ _ F4
    generalize upd A5 t6 _ = A6 at up Fp F4 S6 F6' ⊢
    refine ⟨_, rfl, tp, _, _, _, rfl, rfl, Fp, rfl, _, _, rfl, rfl, .inl ⟨by decide, by decide⟩, _, rfl, tp, _, _, _, rfl, rfl, Fp, rfl, _, _, rfl, rfl, .inl ⟨by decide, by decide⟩, by (show 2 ≤ sizeLine); decide, fun t7 e7 => ?_⟩
    have S7 : Same A6 (upd A6 t7 (.tup [.int (2 * x), .int (2 * y)])) := same_new e7
    have F7' : SqT K (upd A6 t7 (.tup [.int (2 * x), .int (2 * y)])) t7 [.int (2 * x), .int (2 * y)] := .inl (.inl upd_same)
    replace up := up.keep S7
    replace Fp := same_sqt S7 Fp
    replace F4 := S7 _ _ F4
    generalize upd A6 t7 _ = A7 at up Fp F4 S7 F7' ⊢
    refine ⟨_, rfl, by (show 1 ≤ sizeLine); decide, fun t8 e8 => ?_⟩
    have S8 : Same A7 (upd A7 t8 (.tup [.int 1])) := same_new e8
    have F8' : SqT K (upd A7 t8 (.tup [.int 1])) t8 [.int 1] := .inl (.inl upd_same)
    replace up := up.keep S8
    replace Fp := same_sqt S8 Fp
    replace F4 := S8 _ _ F4
    generalize upd A7 t8 _ = A8 at up Fp F4 S8 F8' ⊢
    show rCatA K _ _ _ _
    refine cat_any Fp F8' (by (show 3 ≤ sizeLine); decide) (fun t9 A9 S9 F9' => ?_)
    replace up := up.keep S9
    replace Fp := same_sqt S9 Fp
    replace F4 := S9 _ _ F4
    refine ⟨by (show 14 ≤ sizeLine); decide, fun t10 e10 => ?_⟩
    have C9 : Same A9 A9 := Same.refl _
    have C8 : Same A8 A9 := S9.trans C9
    have C7 : Same A7 A9 := S8.trans C8
    have C6 : Same A6 A9 := S7.trans C7
    have C5 : Same A5 A9 := S6.trans C6
    have C4 : Same A4 A9 := S5.trans C5
    have C3 : Same A3 A9 := S4.trans C4
    have C2 : Same A2 A9 := S3.trans C3
    have C1 : Same A1 A9 := S2.trans C2
    have R14 : ∀ v, v ∈ ([.bl true, .bl false, .non, .str (Str.ofString "7"), .ref t1, .ref t2, .ref t3, .ref t4, .str (Str.ofString ""), .ref tp, .ref t5, .ref t6, .ref t7, .ref t9] : List V) → ∃ o, Rv K A9 v o := by
      intro v hv
      simp only [List.mem_cons, List.not_mem_nil, or_false] at hv
      rcases hv with z | z | z | z | z | z | z | z | z | z | z | z | z | z
      · subst z
        exact ⟨_, .no (.bl true) rfl⟩
      · subst z
        exact ⟨_, .no (.bl false) rfl⟩
      · subst z
        exact ⟨_, .no .non rfl⟩
      · subst z
        exact ⟨_, .no (.str _) rfl⟩
      · subst z
        exact ⟨_, rv1 (same_sqt C1 F1') (.int _)⟩
      · subst z
        exact ⟨_, .no (.lst (C2.seq F2')) rfl⟩
      · subst z
        exact ⟨_, .no (.dct (C3 _ _ F3')) rfl⟩
      · subst z
        exact ⟨_, .yes (same_sqt C4 F4') (fun y hy => by cases hy)⟩
      · subst z
        exact ⟨_, .no (.str _) rfl⟩
      · subst z
        exact ⟨_, rv2 Fp (.int _) (.int _)⟩
      · subst z
        exact ⟨_, .no (.lst (C5.seq F5')) rfl⟩
      · subst z
        exact ⟨_, rv2 (same_sqt C6 F6') (.int _) (.int _)⟩
      · subst z
        exact ⟨_, rv2 (same_sqt C7 F7') (.int _) (.int _)⟩
      · subst z
        exact ⟨_, rv3 F9' (.int _) (.int _) (.int _)⟩
    have F10 : (upd A9 t10 (.lst [.bl true, .bl false, .non, .str (Str.ofString "7"), .ref t1, .ref t2, .ref t3, .ref t4, .str (Str.ofString ""), .ref tp, .ref t5, .ref t6, .ref t7, .ref t9])) t10 = some (.lst [.bl true, .bl false, .non, .str (Str.ofString "7"), .ref t1, .ref t2, .ref t3, .ref t4, .str (Str.ofString ""), .ref tp, .ref t5, .ref t6, .ref t7, .ref t9]) := upd_same
    have S10 : Same A9 (upd A9 t10 (.lst [.bl true, .bl false, .non, .str (Str.ofString "7"), .ref t1, .ref t2, .ref t3, .ref t4, .str (Str.ofString ""), .ref tp, .ref t5, .ref t6, .ref t7, .ref t9])) := same_new e10
    replace up := up.keep S10
    replace F4 := S10 _ _ F4
    have L14 : ([.bl true, .bl false, .non, .str (Str.ofString "7"), .ref t1, .ref t2, .ref t3, .ref t4, .str (Str.ofString ""), .ref tp, .ref t5, .ref t6, .ref t7, .ref t9] : List V).length = 14 := rfl
    generalize upd A9 t10 _ = A10 at up F4 F10 S10 ⊢
    generalize ([.bl true, .bl false, .non, .str (Str.ofString "7"), .ref t1, .ref t2, .ref t3, .ref t4, .str (Str.ofString ""), .ref tp, .ref t5, .ref t6, .ref t7, .ref t9] : List V) = vs at R14 F10 L14
    replace R14 : ∀ v, v ∈ vs → ∃ o, Rv K A10 v o := fun v hv => (R14 v hv).imp fun o h => h.same S10
    refine ⟨l4, t10, _, _, rfl, rfl, F4, F10, by rw [L4, L14]; exact Nat.le_of_lt (small1000 (n := 44) (by decide)), fun t11 e11 => ?_⟩
    have S11 : Same A10 (upd A10 t11 (.lst (zs ++ vs))) := same_new e11
    have F11 : (upd A10 t11 (.lst (zs ++ vs))) t11 = some (.lst (zs ++ vs)) := upd_same
    replace up := up.keep S11
    generalize upd A10 t11 _ = B0 at up S11 F11 ⊢
    have R44 : ∀ v, v ∈ zs ++ vs → ∃ o, Rv K B0 v o := fun v hv => by
      rcases List.mem_append.mp hv with z | z
      · obtain ⟨n, rfl⟩ := I4 v z
        exact ⟨_, .no (.int n) rfl⟩
      · exact (R14 v z).imp fun o h => h.same S11
    have L44 : (zs ++ vs).length = 44 := by rw [List.length_append, L4, L14]
    generalize zs ++ vs = ws at F11 R44 L44 ⊢
    clear R14 F10 F4 I4 L4 L14
    refine ⟨_, rfl, by (show 2 ≤ sizeLine); decide, fun u1 f1 => ?_⟩
    have S1 : Same B0 (upd B0 u1 (.tup [.int 0, .int 1])) := same_new f1
    have G1 : SqT K (upd B0 u1 (.tup [.int 0, .int 1])) u1 [.int 0, .int 1] := .inl (.inl upd_same)
    replace up := up.keep S1
    generalize upd B0 u1 _ = B1 at up S1 G1 ⊢
    refine ⟨by (show 2 ≤ sizeLine); decide, fun u2 f2 => ?_⟩
    have S2 : Same B1 (upd B1 u2 (.tup [.int 0, .int 2])) := same_new f2
    have G2 : SqT K (upd B1 u2 (.tup [.int 0, .int 2])) u2 [.int 0, .int 2] := .inl (.inl upd_same)
    replace up := up.keep S2
    generalize upd B1 u2 _ = B2 at up S2 G2 ⊢
    refine ⟨by (show 2 ≤ sizeLine); decide, fun u3 f3 => ?_⟩
    have S3 : Same B2 (upd B2 u3 (.tup [.int 0, .int 0])) := same_new f3
    have G3 : SqT K (upd B2 u3 (.tup [.int 0, .int 0])) u3 [.int 0, .int 0] := .inl (.inl upd_same)
    replace up := up.keep S3
    generalize upd B2 u3 _ = B3 at up S3 G3 ⊢
    refine ⟨by (show 2 ≤ sizeLine); decide, fun u4 f4 => ?_⟩
    have S4 : Same B3 (upd B3 u4 (.tup [.int 1, .int 0])) := same_new f4
    have G4 : SqT K (upd B3 u4 (.tup [.int 1, .int 0])) u4 [.int 1, .int 0] := .inl (.inl upd_same)
    replace up := up.keep S4
    generalize upd B3 u4 _ = B4 at up S4 G4 ⊢
    refine ⟨_, rfl, by (show 2 ≤ sizeLine); decide, fun u5 f5 => ?_⟩
    have S5 : Same B4 (upd B4 u5 (.tup [.int (-1), .int 1])) := same_new f5
    have G5 : SqT K (upd B4 u5 (.tup [.int (-1), .int 1])) u5 [.int (-1), .int 1] := .inl (.inl upd_same)
    replace up := up.keep S5
    generalize upd B4 u5 _ = B5 at up S5 G5 ⊢
    refine ⟨_, rfl, by (show 2 ≤ sizeLine); decide, fun u6 f6 => ?_⟩
    have S6 : Same B5 (upd B5 u6 (.tup [.int 1, .int (-1)])) := same_new f6
    have G6 : SqT K (upd B5 u6 (.tup [.int 1, .int (-1)])) u6 [.int 1, .int (-1)] := .inl (.inl upd_same)
    replace up := up.keep S6
    generalize upd B5 u6 _ = B6 at up S6 G6 ⊢
    refine ⟨by (show 2 ≤ sizeLine); decide, fun u7 f7 => ?_⟩
    have S7 : Same B6 (upd B6 u7 (.tup [.bl true, .int 2])) := same_new f7
    have G7 : SqT K (upd B6 u7 (.tup [.bl true, .int 2])) u7 [.bl true, .int 2] := .inl (.inl upd_same)
    replace up := up.keep S7
    generalize upd B6 u7 _ = B7 at up S7 G7 ⊢
    refine ⟨by (show 2 ≤ sizeLine); decide, fun u8 f8 => ?_⟩
    have S8 : Same B7 (upd B7 u8 (.tup [.int 1, .bl true])) := same_new f8
    have G8 : SqT K (upd B7 u8 (.tup [.int 1, .bl true])) u8 [.int 1, .bl true] := .inl (.inl upd_same)
    replace up := up.keep S8
    generalize upd B7 u8 _ = B8 at up S8 G8 ⊢
    refine ⟨_, _, rfl, rfl, by (show CPw _ _); decide +kernel, by (show 2 ≤ sizeLine); decide, fun u9 f9 => ?_⟩
    have S9 : Same B8 (upd B8 u9 (.tup [.int (10 ^ (60 : Int).toNat), .int 7])) := same_new f9
    have G9 : SqT K (upd B8 u9 (.tup [.int (10 ^ (60 : Int).toNat), .int 7])) u9 [.int (10 ^ (60 : Int).toNat), .int 7] := .inl (.inl upd_same)
    replace up := up.keep S9
    generalize upd B8 u9 _ = B9 at up S9 G9 ⊢
    refine ⟨_, _, rfl, rfl, by (show CPw _ _); decide +kernel, by (show 2 ≤ sizeLine); decide, fun u10 f10 => ?_⟩
    have S10 : Same B9 (upd B9 u10 (.tup [.int 1, .int (10 ^ (60 : Int).toNat)])) := same_new f10
    have G10 : SqT K (upd B9 u10 (.tup [.int 1, .int (10 ^ (60 : Int).toNat)])) u10 [.int 1, .int (10 ^ (60 : Int).toNat)] := .inl (.inl upd_same)
    replace up := up.keep S10
    generalize upd B9 u10 _ = B10 at up S10 G10 ⊢
    refine ⟨by (show 2 ≤ sizeLine); decide, fun u11 f11 => ?_⟩
    have S11 : Same B10 (upd B10 u11 (.tup [.str (Str.ofString "1"), .int 2])) := same_new f11
    have G11 : SqT K (upd B10 u11 (.tup [.str (Str.ofString "1"), .int 2])) u11 [.str (Str.ofString "1"), .int 2] := .inl (.inl upd_same)
    replace up := up.keep S11
    generalize upd B10 u11 _ = B11 at up S11 G11 ⊢
    refine ⟨by (show 2 ≤ sizeLine); decide, fun u12 f12 => ?_⟩
    have S12 : Same B11 (upd B11 u12 (.tup [.non, .int 1])) := same_new f12
    have G12 : SqT K (upd B11 u12 (.tup [.non, .int 1])) u12 [.non, .int 1] := .inl (.inl upd_same)
    replace up := up.keep S12
    generalize upd B11 u12 _ = B12 at up S12 G12 ⊢
    refine ⟨by (show 2 ≤ sizeLine); decide, fun u13 f13 => ?_⟩
    have S13 : Same B12 (upd B12 u13 (.tup [.int 1, .int 2])) := same_new f13
    have G13 : SqT K (upd B12 u13 (.tup [.int 1, .int 2])) u13 [.int 1, .int 2] := .inl (.inl upd_same)
    replace up := up.keep S13
    generalize upd B12 u13 _ = B13 at up S13 G13 ⊢
    refine ⟨by (show 2 ≤ sizeLine); decide, fun u14 f14 => ?_⟩
    have S14 : Same B13 (upd B13 u14 (.tup [.ref u13, .int 1])) := same_new f14
    have G14 : SqT K (upd B13 u14 (.tup [.ref u13, .int 1])) u14 [.ref u13, .int 1] := .inl (.inl upd_same)
    replace up := up.keep S14
    generalize upd B13 u14 _ = B14 at up S14 G14 ⊢
    refine ⟨by (show 13 ≤ sizeLine); decide, fun u15 f15 => ?_⟩
    have C14 : Same B14 B14 := Same.refl _
    have C13 : Same B13 B14 := S14.trans C14
    have C12 : Same B12 B14 := S13.trans C13
    have C11 : Same B11 B14 := S12.trans C12
    have C10 : Same B10 B14 := S11.trans C11
    have C9 : Same B9 B14 := S10.trans C10
    have C8 : Same B8 B14 := S9.trans C9
    have C7 : Same B7 B14 := S8.trans C8
    have C6 : Same B6 B14 := S7.trans C7
    have C5 : Same B5 B14 := S6.trans C6
    have C4 : Same B4 B14 := S5.trans C5
    have C3 : Same B3 B14 := S4.trans C4
    have C2 : Same B2 B14 := S3.trans C3
    have C1 : Same B1 B14 := S2.trans C2
    have C0 : Same B0 B14 := S1.trans C1
    have R13 : ∀ v, v ∈ ([.ref u1, .ref u2, .ref u3, .ref u4, .ref u5, .ref u6, .ref u7, .ref u8, .ref u9, .ref u10, .ref u11, .ref u12, .ref u14] : List V) → ∃ o, Rv K B14 v o := by
      intro v hv
      simp only [List.mem_cons, List.not_mem_nil, or_false] at hv
      rcases hv with z | z | z | z | z | z | z | z | z | z | z | z | z
      · subst z
        exact ⟨_, rv2 (same_sqt C1 G1) (.int _) (.int _)⟩
      · subst z
        exact ⟨_, rv2 (same_sqt C2 G2) (.int _) (.int _)⟩
      · subst z
        exact ⟨_, rv2 (same_sqt C3 G3) (.int _) (.int _)⟩
      · subst z
        exact ⟨_, rv2 (same_sqt C4 G4) (.int _) (.int _)⟩
      · subst z
        exact ⟨_, rv2 (same_sqt C5 G5) (.int _) (.int _)⟩
      · subst z
        exact ⟨_, rv2 (same_sqt C6 G6) (.int _) (.int _)⟩
      · subst z
        exact ⟨_, rv2 (same_sqt C7 G7) (.bl _) (.int _)⟩
      · subst z
        exact ⟨_, rv2 (same_sqt C8 G8) (.int _) (.bl _)⟩
      · subst z
        exact ⟨_, rv2 (same_sqt C9 G9) (.int _) (.int _)⟩
      · subst z
        exact ⟨_, rv2 (same_sqt C10 G10) (.int _) (.int _)⟩
      · subst z
        exact ⟨_, rv2 (same_sqt C11 G11) (.str _) (.int _)⟩
      · subst z
        exact ⟨_, rv2 (same_sqt C12 G12) .non (.int _)⟩
      · subst z
        exact ⟨_, rv2 G14 (.tup (same_sqt C13 G13)) (.int _)⟩
    have F15 : (upd B14 u15 (.lst [.ref u1, .ref u2, .ref u3, .ref u4, .ref u5, .ref u6, .ref u7, .ref u8, .ref u9, .ref u10, .ref u11, .ref u12, .ref u14])) u15 = some (.lst [.ref u1, .ref u2, .ref u3, .ref u4, .ref u5, .ref u6, .ref u7, .ref u8, .ref u9, .ref u10, .ref u11, .ref u12, .ref u14]) := upd_same
    have S15 : Same B14 (upd B14 u15 (.lst [.ref u1, .ref u2, .ref u3, .ref u4, .ref u5, .ref u6, .ref u7, .ref u8, .ref u9, .ref u10, .ref u11, .ref u12, .ref u14])) := same_new f15
    replace up := up.keep S15
    have L13 : ([.ref u1, .ref u2, .ref u3, .ref u4, .ref u5, .ref u6, .ref u7, .ref u8, .ref u9, .ref u10, .ref u11, .ref u12, .ref u14] : List V).length = 13 := rfl
    generalize upd B14 u15 _ = B15 at up F15 S15 ⊢
    generalize ([.ref u1, .ref u2, .ref u3, .ref u4, .ref u5, .ref u6, .ref u7, .ref u8, .ref u9, .ref u10, .ref u11, .ref u12, .ref u14] : List V) = vs at R13 F15 L13
    replace F11 := S15 _ _ (C0 _ _ F11)
    refine ⟨t11, u15, _, _, rfl, rfl, F11, F15, by rw [L44, L13]; exact Nat.le_of_lt (small1000 (n := 57) (by decide)), fun u16 f16 => ?_⟩
    have S16 : Same B15 (upd B15 u16 (.lst (ws ++ vs))) := same_new f16
    have F16 : (upd B15 u16 (.lst (ws ++ vs))) u16 = some (.lst (ws ++ vs)) := upd_same
    replace up := up.keep S16
    generalize upd B15 u16 _ = Z0 at up S16 F16 ⊢
    have R57 : ∀ v, v ∈ ws ++ vs → ∃ o, Rv K Z0 v o := fun v hv => by
      rcases List.mem_append.mp hv with z | z
      · exact (R44 v z).imp fun o h => ((h.same C0).same S15).same S16
      · exact (R13 v z).imp fun o h => (h.same S15).same S16
    generalize ws ++ vs = xs at F16 R57 ⊢
    clear R13 F15 R44
    refine ⟨_, rfl, u16, rfl, ⟨_, .inl (.inl F16)⟩, for_list (K := K) (a := u16) (xs := xs)
      (fun i σ H' => Same Z0 H' ∧ ∃ y z, σ = [some (.ref p), some (.int h), some (.int top), some (.int bot), some (.int (g : Int)), some (.ref tp), some (.ref u16), none, y, z])
      ⟨Same.refl _, none, none, rfl⟩ (fun i σ H' _ e => .inl (.inl (e.1 _ _ F16))) ?_ ?_⟩
    · rintro i v σ H' hi ⟨sm, y, z, rfl⟩
      obtain ⟨o, hv⟩ := R57 v (List.mem_of_getElem? hi)
      replace hv := hv.same sm
      obtain ⟨n, hk⟩ := hv.kd
      refine ⟨_, rfl, v, n, rfl, hk, ?_⟩
      refine ⟨_, rfl, v, n, rfl, hk, fun K1 k1 => ?_⟩
      refine ⟨_, rfl, v, o, rfl, hv.same k1, ?_⟩
      refine ⟨by (show 3 ≤ sizeLine); decide, fun w1 g1 => ?_⟩
      have k2 : Same K1 (upd K1 w1 (.lst [.bl (isI v), .bl (isP v), .bl (isRat o)])) := same_new g1
      have Fw : SqL K (upd K1 w1 (.lst [.bl (isI v), .bl (isP v), .bl (isRat o)])) w1 [.bl (isI v), .bl (isP v), .bl (isRat o)] := .inl (.inl upd_same)
      generalize upd K1 w1 _ = K2 at k2 Fw ⊢
      have m2 := k1.trans k2
      refine ⟨_, rfl, v, n, rfl, hk.same m2, ?_⟩
      refine ⟨_, rfl, v, n, rfl, hk.same m2, fun K3 k3 => ?_⟩
      refine ⟨_, rfl, v, o, rfl, (hv.same m2).same k3, ?_⟩
      refine ⟨by (show 3 ≤ sizeLine); decide, fun w2 g2 => ?_⟩
      have k4 : Same K3 (upd K3 w2 (.lst [.bl (isI v), .bl (isP v), .bl (isRat o)])) := same_new g2
      have Fw2 : SqL K (upd K3 w2 (.lst [.bl (isI v), .bl (isP v), .bl (isRat o)])) w2 [.bl (isI v), .bl (isP v), .bl (isRat o)] := .inl (.inl upd_same)
      generalize upd K3 w2 _ = K4 at k4 Fw2 ⊢
      have Fw3 := k4.seq (k3.seq Fw)
      obtain ⟨sh1, sh2⟩ := show3 (isI v) (isP v) (isRat o)
      refine ⟨_, .list ([isI v, isP v, isRat o].map PyData.bool), rfl, .lst Fw2 (dp_bools [_, _, _]), shaped_bools _, sh1, sh2, ?_⟩
      refine ⟨_, rfl, _, .list ([isI v, isP v, isRat o].map PyData.bool), rfl, .lst Fw3 (dp_bools [_, _, _]), shaped_bools _, sh1, sh2, ?_⟩
      refine ⟨rfl, _, rfl, ?_⟩
      refine ifF (by rw [decide_eq_true rfl]; rfl) ?_
      exact ⟨((sm.trans m2).trans k3).trans k4, some v, some (.ref w1), rfl⟩
    · rintro σ H' ⟨sm, y, z, rfl⟩
      exact q _ (up.keep sm)
end
end K01


set_option Elab.async false
set_option linter.all false
set_option maxRecDepth 100000
set_option maxHeartbeats 4000000
namespace K01
open PySem PySem.Spec PyProof.Rows L2 MM
/-! own words for the readings: a step, its side -/
local macro_rules | `(tactic| walk_at "side") => `(tactic| first
  | omega
  | exact ⟨by omega, by omega⟩
  | exact Or.inl ⟨by omega, by omega⟩
  | exact Or.inr ⟨by omega, by omega⟩
  | (show CPw _ _; decide +kernel)
  | (show (0 : Int) < _; decide +kernel)
  | (show CDivW _ _; first | assumption | exact ⟨by decide, by decide +kernel⟩))
local macro_rules | `(tactic| walk_at "here") => `(tactic| first
  | assumption
  | exact upd_same
  | exact Or.inl (Or.inl upd_same)
  | exact Or.inl upd_same)
local macro_rules | `(tactic| walk_at "one") => `(tactic| first
  | refine ⟨_, rfl, ?_⟩
  | refine Or.inl ⟨_, rfl, ?_⟩
  | refine Or.inr ⟨_, rfl, ?_⟩
  | refine ⟨_, _, rfl, rfl, (by walk_at "side"), ?_⟩
  | refine ⟨_, _, rfl, rfl, ?_⟩
  | refine ⟨_, _, rfl, Or.inl (by walk_at "here"), ?_⟩
  | refine ⟨_, _, rfl, Or.inr (by walk_at "here"), ?_⟩
  | refine ⟨_, _, rfl, (by walk_at "here"), ?_⟩
  | refine ⟨_, _, _, _, rfl, rfl, (by walk_at "here"), rfl, ?_⟩
  | refine ⟨_, _, rfl, ?_⟩
  | refine ifT (by rfl) ?_
  | refine ifF (by rfl) ?_
  | refine ifT (decide_eq_true (by omega)) ?_
  | refine ifF (decide_eq_false (by omega)) ?_)
local macro_rules | `(tactic| walk_at "st") => `(tactic| repeat (walk_at "one"))

section
variable {P : Program} {w : World} {K : PySem.W.Frag} {mg : Str → Option Value} {base : Heap}
theorem f360 : facs 360 = [(2, 3), (3, 2), (5, 1)] := by decide +kernel
theorem f10 : facs (10 ^ 9) = [(2, 9), (5, 9)] := by decide +kernel
theorem f1 : facs 1 = [] := by decide +kernel
theorem g24 : grow 2 (-24 : Int).natAbs 1 = 8 := by decide +kernel
theorem g6 : grow 5 (6 : Int).natAbs 1 = 1 := by decide +kernel
theorem gcd18 : gcdL [12, -18] = 6 := by decide +kernel
theorem lcm46 : lcmL [4, 6] = 12 := by decide +kernel
theorem keep_script {p a : Addr} {H H1 H2 : Hp} {xs : List V} (sm : Same H H1) (np : H p = none) (up : Upto p H1 H2) (h : SqL K H a xs) : SqL K H2 a xs := by
  rcases h with (h | ⟨o, h⟩) | h
  · exact .inl (.inl (up.same a _ (ne_of_none h np) (sm _ _ h)))
  · exact .inl (.inr ⟨o, up.same a _ (ne_of_none h np) (sm _ _ h)⟩)
  · exact .inr h
def spLaw (K : PySem.W.Frag) : Sp := fun vs H Q _ => ∃ (a : Addr) (ns : List Int), vs = [.ref a] ∧ SqL K H a (ns.map V.int) ∧ ns.length ≤ 1000 ∧ ∀ H', Q (.bl true) H'
theorem lcmOk2 : LcmOk [4, 6] := by
  refine ⟨by decide, fun i => ?_⟩
  have key : ∀ j, j ≤ 2 → lcmL (([4, 6] : List Int).take j) ≤ 12 := by decide +kernel
  have big : (12 : Nat) < 2 ^ 13000 := Nat.lt_of_lt_of_le (by decide : 12 < 2 ^ 4) (Nat.pow_le_pow_right (by decide) (by decide))
  by_cases c : i ≤ 2
  · exact Nat.lt_of_le_of_lt (key i c) big
  · rw [List.take_of_length_le (by show 2 ≤ i; omega)]
    exact Nat.lt_of_le_of_lt (key 2 (by decide)) big
theorem lcmOk0 : LcmOk [] := ⟨by decide, fun i => by
  rw [List.take_nil]
  exact Nat.one_lt_two_pow (by decide)⟩
theorem alikeI {H : Hp} (n : Int) : Alike K H (.int n) (.int n) := .inl ⟨.int n, .int n, .int n, rfl, by simp [PyData.eqv]⟩
theorem alikeD {H : Hp} {a b : Addr} {fs : Fs} (h1 : H a = some (.dK (toK fs))) (h2 : H b = some (.dK (toK fs))) (pw : (fs.map (·.1)).Pairwise (· < ·)) : Alike K H (.ref a) (.ref b) :=
  .inr ⟨a, b, _, _, rfl, rfl, h1, h2, rfl, toK_val pw⟩
theorem alikeT {H : Hp} {a b : Addr} {ns : List Int} (h1 : SqT K H a (ns.map V.int)) (h2 : SqT K H b (ns.map V.int)) : Alike K H (.ref a) (.ref b) :=
  .inl ⟨.tuple (ns.map PyData.int), .tup h1 (dp_ints ns), .tup h2 (dp_ints ns), shapedT_ints ns, (eqvAll_ints ns ns).trans (decide_eq_true rfl)⟩
theorem scLaw : FnScope ["_law_script", "_law_spot", "_law_bag_here", "_law_told"] ["_law_script"] (defScope sLaw) :=
  ⟨rfl, rfl, rfl, by decide +kernel, rfl, by decide +kernel, by decide +kernel⟩
theorem dLaw (T : Tx K mg) (DBagL : Def P w K mg base CX0 1 "_law_bag" ["_law_script", "_law_spot"] (spBag K)) (DCommonsRightL : Def P w K mg base CX0 6 "_law_commons_right" ["_law_bag_here"] spRight) (DFactorsRightL : Def P w K mg base CX0 6 "_law_factors_right" ["_law_bag_here"] spRight) (DJudgedRightL : Def P w K mg base CX0 6 "_law_judged_right" ["_law_bag_here"] spRight) (DCommonMultiple : Def P w K mg base CX0 4 "common_multiple" ["numbers"] (spCommonMultiple K)) (DCommonDivisor : Def P w K mg base CX0 4 "common_divisor" ["numbers"] (spCommonDivisor K)) (DPartAt : Def P w K mg base CX0 5 "part_at" ["prime", "number"] spPartAt) (DPrimeFactors : Def P w K mg base CX0 4 "prime_factors" ["number"] spFacs) (DLowest : Def P w K mg base CX0 4 "lowest" ["top", "bottom"] (spLowest K)) : Def P w K mg base CX0 7 "law" ["_law_script"] (spLaw K) := by
  refine T.t_law.def_ (N := ["_law_script", "_law_spot", "_law_bag_here", "_law_told"]) scLaw (fun _ _ _ _ _ _ us hl => match us, hl with | [_], _ => rfl) ?_ ?_
  · intro vs H Q E h
    obtain ⟨a, ns, rfl, _⟩ := h
    rfl
  · intro f cd A out s H vs Q E hr h
    have hr1 : Rm 6 _ := hr.le (by decide)
    obtain ⟨a, ns, rfl, hS, hl, q⟩ := h
    refine ⟨_, (pss_cons (ps_for PassesOwn.never rfl (pi_range1 rfl T.f_range (pa_cons (pe_callB (call_max2 rfl) rfl T.f_max (by decide +kernel) (pa_cons pe_int (pa_cons (pe_callB (call_min2 rfl) rfl T.f_min (by decide +kernel) (pa_cons pe_int (pa_cons (pe_callB call_len_seq rfl T.f_len (by decide +kernel) (pa_cons (pv 0) pa_nil)) pa_nil))) pa_nil))) pa_nil)) (pg_name (i := 1) scLaw.nd rfl (Or.inl rfl))
        (pss_cons (ps_set (i := 2) scLaw.nd rfl (Or.inl rfl) (pe_d DBagL (hr1.le (by decide)) pass0 (pa_cons (pv 0) (pa_cons (pv 1) pa_nil))))
        (pss_one (ps_if (PW.pt (pw_or (pt_not (pt_val (pe_d DJudgedRightL (hr1.le (by decide)) pass0 (pa_cons (pv 2) pa_nil)))) (pw_or (pt_not (pt_val (pe_d DFactorsRightL (hr1.le (by decide)) pass0 (pa_cons (pv 2) pa_nil)))) (pw_or1 (pt_not (pt_val (pe_d DCommonsRightL (hr1.le (by decide)) pass0 (pa_cons (pv 2) pa_nil)))))))) (pss_one (ps_ret pe_bl)) pss_nil))))
      (pss_cons (ps_set (i := 3) scLaw.nd rfl (Or.inl rfl) (pe_lst (pa_cons (pe_d DPrimeFactors (hr1.le (by decide)) pass0 (pa_cons pe_int pa_nil)) (pa_cons (pe_d DPrimeFactors (hr1.le (by decide)) pass0 (pa_cons pe_int pa_nil)) (pa_cons (pe_d DPartAt (hr1.le (by decide)) pass0 (pa_cons pe_int (pa_cons (pe_un un_neg pe_int) pa_nil))) (pa_cons (pe_d DPartAt (hr1.le (by decide)) pass0 (pa_cons pe_int (pa_cons pe_int pa_nil))) (pa_cons (pe_d DCommonDivisor (hr1.le (by decide)) pass0 (pa_cons (pe_tup (pa_cons pe_int (pa_cons (pe_un un_neg pe_int) pa_nil))) pa_nil)) (pa_cons (pe_d DCommonMultiple (hr1.le (by decide)) pass0 (pa_cons (pe_tup (pa_cons pe_int (pa_cons pe_int pa_nil))) pa_nil)) pa_nil))))))))
      (pss_cons (ps_if (pt_cmpR (op_neS hr.hu66) (pv 3) (pe_lst (pa_cons (pe_disp (pps_cons pe_int pe_int (pps_cons pe_int pe_int (pps_cons pe_int pe_int pps_nil))) rfl rfl (by decide) (by decide)) (pa_cons pe_dnewK (pa_cons pe_int (pa_cons pe_int (pa_cons pe_int (pa_cons pe_int pa_nil))))))) (nomark _)) (pss_one (ps_ret pe_bl)) pss_nil)
      (pss_one (ps_ret (pe_cmpR (op_eqS hr.hu66) (pe_lst (pa_cons (pe_d DCommonDivisor (hr1.le (by decide)) pass0 (pa_cons (pe_tup pa_nil) pa_nil)) (pa_cons (pe_d DCommonMultiple (hr1.le (by decide)) pass0 (pa_cons (pe_tup pa_nil) pa_nil)) (pa_cons (pe_d DLowest (hr1.le (by decide)) pass0 (pa_cons pe_int (pa_cons (pe_un un_neg pe_int) pa_nil))) (pa_cons (pe_d DPrimeFactors (hr1.le (by decide)) pass0 (pa_cons (pe_op op_pw pe_int pe_int) pa_nil)) pa_nil))))) (pe_lst (pa_cons pe_int (pa_cons pe_int (pa_cons (pe_tup (pa_cons (pe_un un_neg pe_int) (pa_cons pe_int pa_nil))) (pa_cons (pe_disp (pps_cons pe_int pe_int (pps_cons pe_int pe_int pps_nil)) rfl rfl (by decide) (by decide)) pa_nil))))) (nomark _))))))), ?_⟩
    refine ⟨_, rfl, a, _, rfl, .inl hS, _, _, rfl, _, _, rfl, ?_⟩
    obtain ⟨j, ej, j1, j2⟩ : ∃ j : Int, j = (if (if ((ns.map V.int).length : Int) < 3 then ((ns.map V.int).length : Int) else 3) > 1 then (if ((ns.map V.int).length : Int) < 3 then ((ns.map V.int).length : Int) else 3) else 1) ∧ 1 ≤ j ∧ j ≤ 3 := by
      refine ⟨_, rfl, ?_, ?_⟩
      all_goals
        split
        · split <;> omega
        · omega
    refine ⟨j, by rw [ej], by omega, by omega, for_range (fun i σ H' => SqL K H' a (ns.map V.int) ∧ ∃ y z, σ = [some (.ref a), y, z, none]) ⟨hS, none, none, rfl⟩ ?_ ?_⟩
    · rintro i σ H' hi ⟨hS, y, z, rfl⟩
      refine ⟨_, rfl, _, rfl, a, i, ns, ?_, hS, by omega, fun H1 p sm np hb => ?_⟩
      · show [V.ref a, V.int (0 + (i : Int))] = _
        rw [Int.zero_add]
      refine ⟨_, rfl, p, rfl, hb, fun H2 up2 => ?_⟩
      refine ⟨_, rfl, ?_⟩
      refine ⟨_, rfl, p, rfl, up2.bag, fun H3 up3 => ?_⟩
      refine ⟨_, rfl, ?_⟩
      refine ⟨_, rfl, p, rfl, up3.bag, fun H4 up4 => ?_⟩
      refine ⟨_, rfl, ?_⟩
      exact ⟨keep_script sm np ((up2.trans up3).trans up4) hS, _, _, rfl⟩
    · rintro σ H' ⟨hS, y, z, rfl⟩
      clear hS
      refine ⟨360, rfl, by decide, by decide, fun p1 e1 => ?_⟩
      have F1 : (upd H' p1 (.dK (toK (facs 360)))) p1 = some (.dK (toK (facs 360))) := upd_same
      generalize upd H' p1 _ = H1 at F1 ⊢
      refine ⟨1, rfl, by decide, by decide, fun p2 e2 => ?_⟩
      have F2 : (upd H1 p2 (.dK (toK (facs 1)))) p2 = some (.dK (toK (facs 1))) := upd_same
      replace F1 := same_new (o := .dK (toK (facs 1))) e2 _ _ F1
      generalize upd H1 p2 _ = H2 at F1 F2 ⊢
      refine ⟨_, rfl, 2, -24, rfl, by decide +kernel, by decide +kernel, by decide, fun H3 s3 => ?_⟩
      refine ⟨5, 6, rfl, by decide +kernel, by decide +kernel, by decide, fun H4 s4 => ?_⟩
      have h1212 : ∀ n : Int, n ∈ [12, -18] → isI (.int n) = true := by decide +kernel
      have h46 : ∀ n : Int, n ∈ [4, 6] → isI (.int n) = true := by decide +kernel
      refine ⟨_, rfl, by (show 2 ≤ sizeLine); decide, fun t1 f1 => ?_⟩
      refine ⟨t1, [12, -18], rfl, ⟨.inl (.inl upd_same), by decide, h1212⟩, fun H5 s5 => ?_⟩
      refine ⟨by (show 2 ≤ sizeLine); decide, fun t2 f2 => ?_⟩
      refine ⟨t2, [4, 6], rfl, ⟨.inl (.inl upd_same), by decide, h46⟩, lcmOk2, fun H6 s6 => ?_⟩
      refine ⟨by (show 6 ≤ sizeLine); decide, fun l1 k1 => ?_⟩
      have c2 : Same H2 H6 := ((((s3.trans s4).trans (same_new f1)).trans s5).trans (same_new f2)).trans s6
      replace F1 := c2 _ _ F1
      replace F2 := c2 _ _ F2
      rw [f360] at F1
      rw [K01.f1] at F2
      have S6 : Same H6 (upd H6 l1 (.lst [.ref p1, .ref p2, .int (grow 2 (-24 : Int).natAbs 1 : Nat), .int (grow 5 (6 : Int).natAbs 1 : Nat), .int (gcdL [12, -18] : Nat), .int (lcmL [4, 6] : Nat)])) := same_new k1
      have G1 : (upd H6 l1 (.lst [.ref p1, .ref p2, .int (grow 2 (-24 : Int).natAbs 1 : Nat), .int (grow 5 (6 : Int).natAbs 1 : Nat), .int (gcdL [12, -18] : Nat), .int (lcmL [4, 6] : Nat)])) l1 = some (.lst [.ref p1, .ref p2, .int (grow 2 (-24 : Int).natAbs 1 : Nat), .int (grow 5 (6 : Int).natAbs 1 : Nat), .int (gcdL [12, -18] : Nat), .int (lcmL [4, 6] : Nat)]) := upd_same
      generalize upd H6 l1 _ = H7 at S6 G1 ⊢
      rw [g24, g6, gcd18, lcm46] at G1
      replace F1 := S6 _ _ F1
      replace F2 := S6 _ _ F2
      -- the list that it is held against
      refine ⟨_, rfl, fun d1 q1 => ?_⟩
      have D1 : ∀ (M : Hp), (upd M d1 (.dK (mergeK [] [(Sum.inl 2, V.int 3), (Sum.inl 3, V.int 2), (Sum.inl 5, V.int 1)]))) d1 = some (.dK (toK [(2, 3), (3, 2), (5, 1)])) := fun M => upd_same
      refine ⟨upd_same, [(Sum.inl 2, V.int 3), (Sum.inl 3, V.int 2), (Sum.inl 5, V.int 1)], rfl, by decide, ?_⟩
      have S8 : Same H7 (upd (upd H7 d1 (.dK [])) d1 (.dK (mergeK [] [(Sum.inl 2, V.int 3), (Sum.inl 3, V.int 2), (Sum.inl 5, V.int 1)]))) := by
        rw [upd_upd]
        exact same_new q1
      replace D1 := D1 (upd H7 d1 (.dK []))
      generalize upd (upd H7 d1 _) d1 _ = H8 at S8 D1 ⊢
      refine fun d2 q2 => ?_
      have S9 : Same H8 (upd H8 d2 (.dK [])) := same_new q2
      have D2 : (upd H8 d2 (.dK [])) d2 = some (.dK (toK [])) := upd_same
      replace D1 := S9 _ _ D1
      generalize upd H8 d2 _ = H9 at S9 D1 D2 ⊢
      refine ⟨by (show 6 ≤ sizeLine); decide, fun l2 k2 => ?_⟩
      have S10 : Same H9 (upd H9 l2 (.lst [.ref d1, .ref d2, .int 8, .int 1, .int 6, .int 12])) := same_new k2
      have G2 : (upd H9 l2 (.lst [.ref d1, .ref d2, .int 8, .int 1, .int 6, .int 12])) l2 = some (.lst [.ref d1, .ref d2, .int 8, .int 1, .int 6, .int 12]) := upd_same
      generalize upd H9 l2 _ = H10 at S10 G2 ⊢
      have c3 := (S8.trans S9).trans S10
      refine ⟨l1, l2, _, _, rfl, rfl, .inl (.inl (c3 _ _ G1)), .inl (.inl G2),
        .cons (alikeD (c3 _ _ F1) (S10 _ _ D1) (by decide)) (.cons (alikeD (c3 _ _ F2) (S10 _ _ D2) (by decide)) (.cons (alikeI 8) (.cons (alikeI 1) (.cons (alikeI 6) (.cons (alikeI 12) .nil))))), ?_⟩
      refine ⟨_, rfl, ?_⟩
      clear c3 S8 S9 S10 S6 G1 G2 F1 F2 D1 D2
      -- the last comparison
      refine ⟨by (show 0 ≤ sizeLine); decide, fun t3 f3 => ?_⟩
      refine ⟨t3, [], rfl, ⟨.inl (.inl upd_same), by decide, by simp⟩, fun H11 s11 => ?_⟩
      refine ⟨by (show 0 ≤ sizeLine); decide, fun t4 f4 => ?_⟩
      refine ⟨t4, [], rfl, ⟨.inl (.inl upd_same), by decide, by simp⟩, lcmOk0, fun H12 s12 => ?_⟩
      refine ⟨_, rfl, 6, -4, rfl, by decide +kernel, by decide +kernel, by decide, fun t5 f5 => ?_⟩
      have T5 : ∀ M : Hp, (upd M t5 (.tup [.int ((6 : Int).fdiv (signG (-4) (Nat.gcd (6 : Int).natAbs (-4 : Int).natAbs))), .int ((-4 : Int).fdiv (signG (-4) (Nat.gcd (6 : Int).natAbs (-4 : Int).natAbs)))])) t5 = some (.tup ([-3, 2].map V.int)) := fun M => upd_same
      replace T5 := T5 H12
      generalize upd H12 t5 _ = H13 at T5 ⊢
      refine ⟨_, _, rfl, rfl, by (show CPw _ _); decide +kernel, 10 ^ 9, rfl, by decide, by decide, fun p3 e3 => ?_⟩
      have S14 : Same H13 (upd H13 p3 (.dK (toK (facs (10 ^ 9))))) := same_new e3
      have F3 : (upd H13 p3 (.dK (toK (facs (10 ^ 9))))) p3 = some (.dK (toK (facs (10 ^ 9)))) := upd_same
      generalize upd H13 p3 _ = H14 at S14 F3 ⊢
      rw [f10] at F3
      replace T5 := S14 _ _ T5
      refine ⟨by (show 4 ≤ sizeLine); decide, fun l3 k3 => ?_⟩
      have S15 : Same H14 (upd H14 l3 (.lst [.int (gcdL [] : Nat), .int (lcmL [] : Nat), .ref t5, .ref p3])) := same_new k3
      have G3 : (upd H14 l3 (.lst [.int (gcdL [] : Nat), .int (lcmL [] : Nat), .ref t5, .ref p3])) l3 = some (.lst [.int (gcdL [] : Nat), .int (lcmL [] : Nat), .ref t5, .ref p3]) := upd_same
      generalize upd H14 l3 _ = H15 at S15 G3 ⊢
      replace G3 : H15 l3 = some (.lst [.int 0, .int 1, .ref t5, .ref p3]) := G3
      refine ⟨_, rfl, by (show 2 ≤ sizeLine); decide, fun t6 f6 => ?_⟩
      have S16 : Same H15 (upd H15 t6 (.tup [.int (-3), .int 2])) := same_new f6
      have T6 : (upd H15 t6 (.tup [.int (-3), .int 2])) t6 = some (.tup ([-3, 2].map V.int)) := upd_same
      generalize upd H15 t6 _ = H16 at S16 T6 ⊢
      refine fun d3 q3 => ?_
      refine ⟨upd_same, [(Sum.inl 2, V.int 9), (Sum.inl 5, V.int 9)], rfl, by decide, ?_⟩
      have S17 : Same H16 (upd (upd H16 d3 (.dK [])) d3 (.dK (mergeK [] [(Sum.inl 2, V.int 9), (Sum.inl 5, V.int 9)]))) := by
        rw [upd_upd]
        exact same_new q3
      have D3 : (upd (upd H16 d3 (.dK [])) d3 (.dK (mergeK [] [(Sum.inl 2, V.int 9), (Sum.inl 5, V.int 9)]))) d3 = some (.dK (toK [(2, 9), (5, 9)])) := upd_same
      generalize upd (upd H16 d3 _) d3 _ = H17 at S17 D3 ⊢
      refine ⟨by (show 4 ≤ sizeLine); decide, fun l4 k4 => ?_⟩
      have S18 : Same H17 (upd H17 l4 (.lst [.int 0, .int 1, .ref t6, .ref d3])) := same_new k4
      have G4 : (upd H17 l4 (.lst [.int 0, .int 1, .ref t6, .ref d3])) l4 = some (.lst [.int 0, .int 1, .ref t6, .ref d3]) := upd_same
      generalize upd H17 l4 _ = H18 at S18 G4 ⊢
      have c4 := (S16.trans S17).trans S18
      have c5 := S15.trans c4
      exact ⟨l3, l4, _, _, rfl, rfl, .inl (.inl (c4 _ _ G3)), .inl (.inl G4),
        .cons (alikeI 0) (.cons (alikeI 1) (.cons (alikeT (.inl (.inl (c5 _ _ T5))) (.inl (.inl ((S17.trans S18) _ _ T6)))) (.cons (alikeD (c5 _ _ F3) (S18 _ _ D3) (by decide)) .nil))), q _⟩
end
end K01


set_option Elab.async false
set_option linter.all false
set_option maxRecDepth 100000
set_option maxHeartbeats 0
namespace K01
open PySem PySem.Spec PyProof.Rows L2 MM
theorem law_def {P : Program} {w : World} {K : PySem.W.Frag} {mg : Str → Option Value} {base : Heap} (T : Tx K mg) : Def P w K mg base CX0 7 "law" ["_law_script"] (spLaw K) := by
  have DBagL := dBagL (P := P) (w := w) (base := base) T 
  have DGrabL := dGrabL (P := P) (w := w) (base := base) T 
  have DOneOfL := dOneOfL (P := P) (w := w) (base := base) T DGrabL
  have DIsWhole := dIsWhole (P := P) (w := w) (base := base) T 
  have DIsInteger := dIsInteger (P := P) (w := w) (base := base) T DIsWhole
  have DNeedNumbers := dNeedNumbers (P := P) (w := w) (base := base) T DIsInteger
  have DCommonDivisor := dCommonDivisor (P := P) (w := w) (base := base) T DNeedNumbers
  have DNbDivisorL := dNbDivisorL (P := P) (w := w) (base := base) T 
  have DCommonMultiple := dCommonMultiple (P := P) (w := w) (base := base) T DNeedNumbers
  have DNeedDivided := dNeedDivided (P := P) (w := w) (base := base) T DIsInteger
  have DReduced := dReduced (P := P) (w := w) (base := base) T 
  have DLowest := dLowest (P := P) (w := w) (base := base) T DIsInteger DNeedDivided DReduced
  have DCommonsRightL := dCommonsRightL (P := P) (w := w) (base := base) T DOneOfL DGrabL DCommonDivisor DNbDivisorL DCommonMultiple DLowest
  have DNbDrawnL := dNbDrawnL (P := P) (w := w) (base := base) T DGrabL DOneOfL
  have DIsBetween := dIsBetween (P := P) (w := w) (base := base) T DIsWhole
  have DNeedBetween := dNeedBetween (P := P) (w := w) (base := base) T DIsBetween
  have DPrimeFactors := dPrimeFactors (P := P) (w := w) (base := base) T DNeedBetween
  have DNbFactorsL := dNbFactorsL (P := P) (w := w) (base := base) T 
  have DIsPrime := dIsPrime (P := P) (w := w) (base := base) T DIsBetween
  have DNeedPrime := dNeedPrime (P := P) (w := w) (base := base) T DIsPrime
  have DPartAt := dPartAt (P := P) (w := w) (base := base) T DNeedPrime DNeedDivided
  have DFactorsRightL := dFactorsRightL (P := P) (w := w) (base := base) T DNbDrawnL DOneOfL DPrimeFactors DNbFactorsL DPartAt
  have DNbIsShortL := dNbIsShortL (P := P) (w := w) (base := base) T 
  have DNbIsRatioL := dNbIsRatioL (P := P) (w := w) (base := base) T DNbIsShortL DNbDivisorL
  have DNbIsPrimeL := dNbIsPrimeL (P := P) (w := w) (base := base) T DNbIsShortL
  have DIsRatio := dIsRatio (P := P) (w := w) (base := base) T DIsInteger
  have DJudgedRightL := dJudgedRightL (P := P) (w := w) (base := base) T DOneOfL DGrabL DNbDivisorL DNbIsRatioL DNbIsPrimeL DNbIsShortL DIsRatio DIsPrime DIsInteger
  exact dLaw T DBagL DCommonsRightL DFactorsRightL DJudgedRightL DCommonMultiple DCommonDivisor DPartAt DPrimeFactors DLowest
def dd (x : Str) (st : Stmt) : He.DefD := ⟨(x, none), x, x, defArgs st, defBody st, defScope st, [], []⟩
def fn : List He.DefD := [dd "is_whole" sIsWhole, dd "is_integer" sIsInteger, dd "is_between" sIsBetween, dd "need_between" sNeedBetween, dd "is_prime" sIsPrime, dd "need_prime" sNeedPrime, dd "is_ratio" sIsRatio, dd "prime_factors" sPrimeFactors, dd "_need_divided" sNeedDivided, dd "part_at" sPartAt, dd "_need_numbers" sNeedNumbers, dd "common_divisor" sCommonDivisor, dd "common_multiple" sCommonMultiple, dd "reduced" sReduced, dd "lowest" sLowest, dd "_law_bag" sBagL, dd "_law_grab" sGrabL, dd "_law_one_of" sOneOfL, dd "_law_nb_divisor" sNbDivisorL, dd "_law_nb_factors" sNbFactorsL, dd "_law_nb_is_short" sNbIsShortL, dd "_law_nb_is_prime" sNbIsPrimeL, dd "_law_nb_is_ratio" sNbIsRatioL, dd "_law_nb_drawn" sNbDrawnL, dd "_law_judged_right" sJudgedRightL, dd "_law_factors_right" sFactorsRightL, dd "_law_commons_right" sCommonsRightL, dd "law" sLaw]
def fa : List He.Fa := [.glo "is_whole", .glo "is_integer", .glo "is_between", .glo "need_between", .glo "is_prime", .glo "need_prime", .glo "is_ratio", .glo "prime_factors", .glo "_need_divided", .glo "part_at", .glo "_need_numbers", .glo "common_divisor", .glo "common_multiple", .glo "reduced", .glo "lowest", .glo "_law_bag", .glo "_law_grab", .glo "_law_one_of", .glo "_law_nb_divisor", .glo "_law_nb_factors", .glo "_law_nb_is_short", .glo "_law_nb_is_prime", .glo "_law_nb_is_ratio", .glo "_law_nb_drawn", .glo "_law_judged_right", .glo "_law_factors_right", .glo "_law_commons_right", .glo "law", .free "abs", .free "all", .free "bool", .free "enumerate", .free "int", .free "isinstance", .free "len", .free "list", .free "max", .free "min", .free "range", .free "repr", .free "sorted", .free "str", .free "sum", .free "tuple", .int "MAX_PRIME" (100), .int "MAX_FACTORED" (10 ^ 9), .int "MOST_NUMBERS" (1000), .int "_TOO_LONG" (10 ^ 60)]
def ex (K : PySem.W.Frag) : Bool := He.eqO (PySem.W.nsIn K mainGlobals "gcd") (some (some (.builtin "math.gcd"))) && He.eqO (PySem.W.nsIn K mainGlobals "lcm") (some (some (.builtin "math.lcm")))
theorem tx {K : PySem.W.Frag} {h : Heap} {mg : Str → Option Value} (X : K.In h) (G : h.Ns mainGlobals mg) (c : He.SaysD fa fn K) (e : ex K = true) : Tx K mg := by
  obtain ⟨e0, e1⟩ := He.ba e
  exact {
    t_is_whole := ⟨c.def_ 0 rfl, He.glo_ok X G (c.fact 0 rfl)⟩
    t_is_integer := ⟨c.def_ 1 rfl, He.glo_ok X G (c.fact 1 rfl)⟩
    t_is_between := ⟨c.def_ 2 rfl, He.glo_ok X G (c.fact 2 rfl)⟩
    t_need_between := ⟨c.def_ 3 rfl, He.glo_ok X G (c.fact 3 rfl)⟩
    t_is_prime := ⟨c.def_ 4 rfl, He.glo_ok X G (c.fact 4 rfl)⟩
    t_need_prime := ⟨c.def_ 5 rfl, He.glo_ok X G (c.fact 5 rfl)⟩
    t_is_ratio := ⟨c.def_ 6 rfl, He.glo_ok X G (c.fact 6 rfl)⟩
    t_prime_factors := ⟨c.def_ 7 rfl, He.glo_ok X G (c.fact 7 rfl)⟩
    t_need_divided := ⟨c.def_ 8 rfl, He.glo_ok X G (c.fact 8 rfl)⟩
    t_part_at := ⟨c.def_ 9 rfl, He.glo_ok X G (c.fact 9 rfl)⟩
    t_need_numbers := ⟨c.def_ 10 rfl, He.glo_ok X G (c.fact 10 rfl)⟩
    t_common_divisor := ⟨c.def_ 11 rfl, He.glo_ok X G (c.fact 11 rfl)⟩
    t_common_multiple := ⟨c.def_ 12 rfl, He.glo_ok X G (c.fact 12 rfl)⟩
    t_reduced := ⟨c.def_ 13 rfl, He.glo_ok X G (c.fact 13 rfl)⟩
    t_lowest := ⟨c.def_ 14 rfl, He.glo_ok X G (c.fact 14 rfl)⟩
    t_law_bag := ⟨c.def_ 15 rfl, He.glo_ok X G (c.fact 15 rfl)⟩
    t_law_grab := ⟨c.def_ 16 rfl, He.glo_ok X G (c.fact 16 rfl)⟩
    t_law_one_of := ⟨c.def_ 17 rfl, He.glo_ok X G (c.fact 17 rfl)⟩
    t_law_nb_divisor := ⟨c.def_ 18 rfl, He.glo_ok X G (c.fact 18 rfl)⟩
    t_law_nb_factors := ⟨c.def_ 19 rfl, He.glo_ok X G (c.fact 19 rfl)⟩
    t_law_nb_is_short := ⟨c.def_ 20 rfl, He.glo_ok X G (c.fact 20 rfl)⟩
    t_law_nb_is_prime := ⟨c.def_ 21 rfl, He.glo_ok X G (c.fact 21 rfl)⟩
    t_law_nb_is_ratio := ⟨c.def_ 22 rfl, He.glo_ok X G (c.fact 22 rfl)⟩
    t_law_nb_drawn := ⟨c.def_ 23 rfl, He.glo_ok X G (c.fact 23 rfl)⟩
    t_law_judged_right := ⟨c.def_ 24 rfl, He.glo_ok X G (c.fact 24 rfl)⟩
    t_law_factors_right := ⟨c.def_ 25 rfl, He.glo_ok X G (c.fact 25 rfl)⟩
    t_law_commons_right := ⟨c.def_ 26 rfl, He.glo_ok X G (c.fact 26 rfl)⟩
    t_law := ⟨c.def_ 27 rfl, He.glo_ok X G (c.fact 27 rfl)⟩
    f_abs := He.free_ok X G (c.fact 28 rfl)
    f_all := He.free_ok X G (c.fact 29 rfl)
    f_bool := He.free_ok X G (c.fact 30 rfl)
    f_enumerate := He.free_ok X G (c.fact 31 rfl)
    f_int := He.free_ok X G (c.fact 32 rfl)
    f_isinstance := He.free_ok X G (c.fact 33 rfl)
    f_len := He.free_ok X G (c.fact 34 rfl)
    f_list := He.free_ok X G (c.fact 35 rfl)
    f_max := He.free_ok X G (c.fact 36 rfl)
    f_min := He.free_ok X G (c.fact 37 rfl)
    f_range := He.free_ok X G (c.fact 38 rfl)
    f_repr := He.free_ok X G (c.fact 39 rfl)
    f_sorted := He.free_ok X G (c.fact 40 rfl)
    f_str := He.free_ok X G (c.fact 41 rfl)
    f_sum := He.free_ok X G (c.fact 42 rfl)
    f_tuple := He.free_ok X G (c.fact 43 rfl)
    c_MAX_PRIME := by
      obtain ⟨t, e⟩ := He.int_ok X G (c.fact 44 rfl)
      exact ⟨_, e, t, rfl⟩
    c_MAX_FACTORED := by
      obtain ⟨t, e⟩ := He.int_ok X G (c.fact 45 rfl)
      exact ⟨_, e, t, rfl⟩
    c_MOST_NUMBERS := by
      obtain ⟨t, e⟩ := He.int_ok X G (c.fact 46 rfl)
      exact ⟨_, e, t, rfl⟩
    c_TOO_LONG := by
      obtain ⟨t, e⟩ := He.int_ok X G (c.fact 47 rfl)
      exact ⟨_, e, t, rfl⟩
    b_gcd := PySem.W.mg_of X G (He.eqO_ok e0)
    b_lcm := PySem.W.mg_of X G (He.eqO_ok e1)
    }
abbrev R : PySem.W.OpenRow := PySem.W.OpenLaw.row PySem.Challenge.rw_movemarks_k01_whole_integers_and_ratios
theorem law_ends {P : Program} {w : World} {K : PySem.W.Frag} {h : Heap} {mg : Str → Option Value} {f : Addr} (X : K.In h) (G : h.Ns mainGlobals mg) (hfa : mg ("law" : Str) = some (.ref f)) (c : He.SaysD fa fn K) (e : ex K = true) :
    ∃ fd : FuncData, (∀ (s : Shared) (v : Value), BindsTo s fd ⟨[v], []⟩ [("_law_script", v)]) ∧ ∀ base : Heap, K.In base → base.Ns mainGlobals mg → FnG P w K mg base CX0 7 f fd ["_law_script"] (spLaw K) := by
  have T : Tx K mg := tx X G c e
  obtain ⟨fd, F⟩ := T.t_law.fn
  have b := FunD.bindsA (ps := ["_law_script"]) F fun _ _ _ _ _ _ us hl => match us, hl with | [_], _ => rfl
  refine ⟨fd, fun s v => b s [v] rfl, fun base _ _ => ?_⟩
  obtain ⟨oc, od, _, _, _, _, _, _, _, osl, _, lk, _⟩ := F.ex
  obtain ⟨f2, fd2, F2, hm, _, _, oc2, od2, sl2, lk2⟩ := law_def (P := P) (w := w) (base := base) T
  have e1 : f2 = f := by
    rw [hfa] at hm
    injection hm with hm
    injection hm with hm
    exact hm.symm
  have e2 : He.ga K "law" = f := by
    have g := T.t_law.glo
    rw [hfa] at g
    injection g with g
    injection g with g
    exact g.symm
  subst e1
  rw [e2] at lk
  rw [lk] at lk2
  injection lk2 with lk2
  injection lk2 with z1 z2 z3 z4
  injection z3 with z3
  subst z3
  exact F2
abbrev hk : PySem.W.Hook := He.hookX 4 fa fn [] [] ex
def ob (s : PySem.W.SharedT) : He.AlX := He.obsX 4 fa fn [] [] ex (HandSHeadRun.getT s)
theorem ob_eq (s : PySem.W.SharedT) : ob s = hk.obs s.abs := He.obsX_eq (HandSHeadRun.getT_eq s)
def names : List PySem.Str := (["MarkError", "InvalidOperation", "InvalidNumber", "MAX_PRIME", "MAX_FACTORED", "MOST_NUMBERS", "_TOO_LONG", "is_whole", "is_integer", "is_between", "need_between", "is_prime", "need_prime", "is_ratio", "prime_factors", "_need_divided", "part_at", "_need_numbers", "common_divisor", "common_multiple", "reduced", "lowest", "_law_bag", "_law_grab", "_law_one_of", "_law_nb_divisor", "_law_nb_factors", "_law_nb_is_short", "_law_nb_is_prime", "_law_nb_is_ratio", "_law_nb_drawn", "_law_judged_right", "_law_factors_right", "_law_commons_right"] : List String).map PySem.Str.ofString
end K01

set_option Elab.async false
set_option linter.all false
set_option maxRecDepth 100000
set_option maxHeartbeats 0
namespace K01
open PySem PySem.Spec PyProof.Rows L2 MM
theorem run (w : World) : HandSHeadRun.RunEqI R (PySem.W.view R.prog [0, 38]) hk ob 3000 names w := by
  unfold HandSHeadRun.RunEqI
  kernel_rfl
end K01
open PySem PySem.W PySem.Calls PyProof.Rows
theorem PySem.Challenge.cw_movemarks_k01_whole_integers_and_ratios_holds : PySem.Challenge.rw_movemarks_k01_whole_integers_and_ratios.Holds := by
  w_on; o_law
  refine HandSHeadRun.head_imp (r := OpenLaw.row PySem.Challenge.rw_movemarks_k01_whole_integers_and_ratios) (q := view (OpenLaw.row PySem.Challenge.rw_movemarks_k01_whole_integers_and_ratios).prog [0, 38]) (H := K01.hk) (ob := K01.ob) (M := 3000) (loose := K01.names)
    (d := HandSHeadRun.topDef (OpenLaw.row PySem.Challenge.rw_movemarks_k01_whole_integers_and_ratios).prog 38) (kwd := []) K01.ob_eq K01.run (by kernel_rfl) (by kernel_rfl) (by kernel_rfl) (by rfl) (by first | assumption | decide +kernel) (by decide +kernel) ⟨rfl, rfl, rfl, rfl, rfl, by decide +kernel⟩ ?hw ?hc
  case hw => w_witness2
  case hc =>
    refine MM.walk_g (l := PySem.Challenge.rw_movemarks_k01_whole_integers_and_ratios) (n := 63) (k := 7) (x := "_law_script") (CX := L2.CX0) rfl (by decide) (by kernel_rfl) ⟨⟨rfl, by decide, by decide⟩, rfl⟩ ?F (fun _ _ _ _ z => z)
    intro w mg fa h Y G hmg0
    obtain ⟨K, KX, c⟩ := Y
    have hmg : mg ("law" : PySem.Str) = some (.ref fa) := by
      have e : (HandSHeadRun.topDef (OpenLaw.row PySem.Challenge.rw_movemarks_k01_whole_integers_and_ratios).prog 38).name = ("law" : PySem.Str) := by kernel_rfl
      rw [← e]
      exact hmg0
    obtain ⟨fd, hb, hF⟩ := K01.law_ends (P := (PySem.Challenge.rw_movemarks_k01_whole_integers_and_ratios).prog) (w := w) KX G hmg c.t.d c.more
    exact ⟨K, fd, K01.spLaw K, KX, hb, fun H a ns hl hS => ⟨a, ns, rfl, hS, by omega, fun _ => rfl⟩, hF⟩
