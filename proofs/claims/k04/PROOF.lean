import PyProof.Rows.All
import Wide.All
import OpenK.AllK
import Wide.FinOn
import HandS.ForMost
import HandS.Exc
import HandS.Defaults
import HandS.More
import HandS.Flow
import HandS.Wide
import HandS.IsInst
import HandS.Codes
import HandS.Conv
import HandS.SortInts
import HandS.TupAny
import HandS.TupMul
import HandS.DictComp
import HandS.Style
import HandS.Small
import PyProof.ReprRoads
import HandS.HeadHook1
import HandS.HeadHook2
import HandS.HeadHook3
import HandS.HeadHook4
import HandS.Gcd
import PyProof.Rows.RuleB_pow
import KE.GoesEnum
import HandS.Iter
import HandS.Set
import HandS.SetFor
import HandS.Strs
import HandS.Head0
import HandS.Head1
import HandS.Head2
import HandS.Head3
import HandS.Head4
import HandS.HeadEnd
import KE.KStateDown
import PySem.Challenge.RW_movemarks_k04_whole_products_powers_and
set_option Elab.async false
set_option maxRecDepth 100000
set_option maxHeartbeats 2000000
set_option linter.all false
namespace MM
open PySem PySem.Spec PyProof.Rows L2

/-! room, with nothing under way that is being shown -/
structure Rm (k : Nat) (A : Around) : Prop where
  room : Room k A
  still : A.guards = some []
theorem Rm.le {j k : Nat} {A : Around} (h : Rm k A) (le : j ≤ k) : Rm j A := ⟨h.room.mono le, h.still⟩
theorem Rm.down {k : Nat} {A : Around} {v : Env} (h : Rm (k + 1) A) : Rm k (A.deeper v) := ⟨h.room.deeper v, h.still⟩
theorem Rm.hu {k : Nat} {A : Around} (h : Rm k A) : A.units + 64 < cLine := h.room.units
theorem Rm.hu66 {k : Nat} {A : Around} (h : Rm k A) : A.units + 66 < cLine := by have := h.room.un; omega
theorem Rm.hu1 {k : Nat} {A : Around} (h : Rm k A) : A.units + 1 < cLine := by have := h.room.un; omega

/-- a def keeps its promise wherever nothing is being shown -/
structure FnG (P : Program) (w : World) (K : PySem.W.Frag) (mg : Str → Option Value) (base : Heap)
    (CX : CXT) (k : Nat) (f : Addr) (fd : FuncData) (ps : List Str) (sp : Sp) : Prop where
  arity : ∀ {vs H Q E}, sp vs H Q E → vs.length = ps.length
  runs : ∀ {A : Around} {out : List Env} {s : Shared} {H : Hp} {ar : Args} {us : List Value} {vs : List V} {Q : VK} {E : XK},
    Rm k A → Env0 P w K mg base A out s H → BindsTo s fd ar (ps.zip us) → Vals vs us → sp vs H Q E →
      codeAny (model P w) A (.call (.ref f) ar) (CR CX out P w H s Q E) s

section
variable {P : Program} {w : World} {K : PySem.W.Frag} {mg : Str → Option Value} {base : Heap} {CX : CXT}
  {j k : Nat} {f : Addr} {fd : FuncData} {ps : List Str} {sp : Sp}
theorem FnG.le (F : FnG P w K mg base CX j f fd ps sp) (h : j ≤ k) : FnG P w K mg base CX k f fd ps sp :=
  ⟨F.arity, fun r => F.runs (r.le h)⟩
theorem FnG.of (F : FnOk P w K mg base CX k f fd ps sp) : FnG P w K mg base CX k f fd ps sp :=
  ⟨fun h => F.len _ _ _ _ h, fun r e b v h => F.run _ _ _ _ _ _ _ _ _ r.room e b v h⟩

/-- by its body -/
theorem FnG.body {x qual : Str} {pa : Arguments} {bd : List Stmt} {sc : Scope} {N : List Str}
    (F : FunD K x qual pa bd sc [] [] f fd) (S : FnScope N ps sc)
    (arity : ∀ vs H Q E, sp vs H Q E → vs.length = ps.length)
    (hb : ∀ (cd : Value) (A : Around) (out : List Env) (s : Shared) (H : Hp) (vs : List V) (Q : VK) (E : XK),
      Rm k (A.deeper (envOfC qual sc s.heap.objs.size f cd)) → sp vs H Q E →
      ∃ t, PSs (cxOf CX P w K mg base N qual sc f cd A out s H E) bd t ∧
        t { nx := fun _ H' => Q .non H', rt := Q } (start N vs) H) :
    FnG P w K mg base CX (k + 1) f fd ps sp := by
  obtain ⟨oc, od, dV, kV, doc, pm, an, cd, ct, osl, rfl, lk, hcd, _, _⟩ := F.ex
  refine ⟨fun h => arity _ _ _ _ h, ?_⟩
  intro A out s H ar us vs Q E hr e0 hbd hv h
  have nv := arity _ _ _ _ h
  have inK : K.In s.heap := e0.mod.kin.keeps (fun b o e => (e0.bs b o e).1)
  have nl : s.heap.NoLimit := e0.mod.nolimit.keeps (fun b o e => (e0.bs b o e).1)
  have kd : ∀ y ∈ ps.zip us, sc.names.lookup y.1 = some .local ∨
      (sc.names.lookup y.1 = some .cell ∧ ((cellsFrom (s.heap.objs.size + 1) sc.names []).lookup y.1).isSome = true) := by
    rintro ⟨n, v⟩ hy
    cases S.par n (List.of_mem_zip hy).1 with
    | inl q => exact .inl q
    | inr q => exact .inr ⟨q, PySem.W.cellsFrom_some _ _ _ (.inl q)⟩
  refine codeAny_call_function hr.room.depth (inK _ _ lk) rfl S.co S.gen rfl (PySem.W.codeRec_of inK hcd) (hbd _ _ _ _ ?_)
  refine wpAny_newFunctionEnv_cells S.kind kd (fun env he s1 xc => ?_)
  subst he
  refine ⟨nl.keeps xc.toInCall.keep, codeAny_func ?_⟩
  obtain ⟨t, ht, hq⟩ := hb cd A out s H vs Q E hr.down h
  have I := inv_start (CX := CX) (P := P) (w := w) (qual := qual) (cd := cd) (f := f) (E := E) S hr.room.hd e0 nv hv xc
  refine wpAny_mono (ht.run [] s1 (start N vs) H _ I hq) (fun fl s' hs => ?_) (fun e s' hs => hs)
  cases fl with
  | ret u =>
    obtain ⟨v, σ', H', J, rv, q⟩ := hs
    exact ⟨v, H', J.os, J.bare, J.base, J.hok, rv, q⟩
  | next =>
    obtain ⟨σ', H', J, q⟩ := hs
    exact ⟨.non, H', J.os, J.bare, J.base, J.hok, rfl, q⟩
  | brk =>
    obtain ⟨_, _, _, q⟩ := hs
    exact q.elim
  | cont =>
    obtain ⟨_, _, _, q⟩ := hs
    exact q.elim
end

section
variable {X : Cx} {CX : CXT} {k : Nat} {f : Addr} {fd : FuncData} {ps : List Str} {sp : Sp} {E : XK}
  {x : Str} {p pos : Pos} {e : Expr} {es : List Expr} {t : TA}
theorem call_g {pins : List (Addr × Obj)} {σ : L2.St} {H : Hp} {s : Shared} {Q : VK} {us : List Value} {vs : List V}
    (F : FnG X.prog X.w X.K X.mg X.base CX k f fd ps sp) (hr : Rm k X.A) (hb : Binds X.K fd ps [])
    (hx : Passes CX X E) (I : Inv X pins σ H s) (r : Vals vs us) (h : sp vs H Q E) :
    wpAny (model X.prog X.w) X.A (call (.ref f) us) (EP X pins σ Q) X.xe s := by
  have nl : (us ++ []).length = ps.length := by
    rw [List.append_nil, ← r.length]
    exact F.arity h
  have bd := hb s us I.kIn nl
  rw [List.append_nil] at bd
  refine wpAny_call (codeAny_mono (F.runs hr I.env0 bd r h) ?_)
  intro res s' hq
  cases res with
  | error e => exact hx pins σ H s e s' I hq
  | ok fl =>
    cases fl with
    | ret u => exact I.after hq
    | next => exact hq.elim
    | brk => exact hq.elim
    | cont => exact hq.elim
/-- f(e, ..), f a def of the text -/
theorem pe_g (F : FnG X.prog X.w X.K X.mg X.base CX k f fd ps sp) (hr : Rm k X.A) (hm : X.mg x = some (.ref f))
    (hk : PySem.W.keepIn X.K (.ref f) = true) (hb : Binds X.K fd ps []) (hx : Passes CX X E) (ha : PA X (e :: es) t) (hg : Gl X x := by rfl)
    (hdb : (x == ("__debug__" : Str)) = false := by decide)
    (he : starEach (e :: es) X.env = (false, eval e X.env) :: starEach es X.env := by rfl)
    (hpl : (backTo pos (starEach es X.env)).any (·.1) = false := by rfl) :
    PE X (.Call (.Name x p) (e :: es) [] pos) (fun σ H Q => t σ H fun vs H1 => sp vs H1 Q E) := by
  constructor
  intro pins s σ H Q I h
  refine wpAny_Call_Name_kw (ld_glob I hg hm ?_ hdb)
  refine PySem.W.callWith_K (h₀ := X.base) I.ok.mod.kin hk ?_ he hpl
  exact thn (ha.run pos pins s σ H _ I h) fun us s1 ⟨vs, H1, I1, r, q⟩ => ⟨I1.kIn, call_g F hr hb hx I1 r q⟩
end

/-! the law's own end: its def is called where nothing is under way -/
section
variable {P : Program} {w : World} {K : PySem.W.Frag} {mg mb : Str → Option Value} {CX : CXT} {k : Nat} {fa a : Addr}
  {fd : FuncData} {x : Str} {sp : Sp} {s : Shared} {vs : List Value} {ns : List Int}
/-- the goal behind the call -/
def LawEnd (s : Shared) (r : Result) (t : Shared) : Prop :=
  r = .ok (.ret (.bool true)) ∧ OldK s.heap t.heap ∧ t.os = s.os ∧ AllBare t.gens
theorem law_core {H : Hp}
    (KX : K.In s.heap) (hns : s.heap.Ns mainGlobals mg) (hb : s.heap.Ns builtinsNs mb)
    (hbb : ∀ y : Str, y ≠ "__name__" → mb y = bootBuiltins y) (nl : s.heap.NoLimit) (hg : s.gens = #[])
    (ha : s.heap.get? a = some { cls := .type "list", data := .seq vs.toArray }) (hr : Rm k callerA)
    (F : ∀ base : Heap, K.In base → base.Ns mainGlobals mg → FnG P w K mg base CX k fa fd [x] sp)
    (hbind : ∀ (s : Shared) (u : Value), BindsTo s fd ⟨[u], []⟩ [(x, u)])
    (hsp : sp [.ref a] H (fun v _ => v = .bl true) fun _ _ _ => False)
    (hCX : ∀ e s', CX [] H s (fun _ _ _ => False) e s' → False)
    (only : Only H) (ok : HOk P w H s.heap) (at_a : ∀ b, H b ≠ none → b = a) (out : H a ≠ none → K.lookup a = none) :
    codeAny (model P w) callerA (.call (.ref fa) ⟨[.ref a], []⟩) (LawEnd s) s := by
  have ne_a : ∀ {b : Addr} {o : Obj}, s.heap.get? b = some o → (∀ y n, o.data ≠ .seq y n) → H b = none := by
    intro b o e no
    by_cases hb : H b = none
    · exact hb
    · rw [at_a b hb, ha] at e
      exact absurd (congrArg Obj.data (Option.some.inj e)).symm (no _ _)
  have sees : ∀ {b : Addr} {m : Str → Option Value}, s.heap.Ns b m → (hidT s.heap H).Ns b m := by
    rintro b m ⟨o, es, ep, e, d, r⟩
    refine ⟨o, es, ep, hidT_get e (ne_a e ?_), d, r⟩
    intro y n z
    rw [d] at z
    cases z
  have inB : K.In (hidT s.heap H) := by
    intro b o e
    refine hidT_get (KX b o e) ?_
    by_cases hb : H b = none
    · exact hb
    · have eb := at_a b hb
      subst eb
      rw [out hb] at e
      cases e
  obtain ⟨mc, l1, l2⟩ := nl
  have md : Mod K mg (hidT s.heap H) := ⟨inB, sees hns, ⟨mb, sees hb, hbb⟩, ⟨mc, sees l1, l2⟩⟩
  have e0 : Env0 P w K mg (hidT s.heap H) callerA [] s H := by
    refine ⟨rfl, md, fun b o e => of_hidT e, Nat.le_of_eq (hidT_size _ _), trivial, ?_, ok, .of_eq hg⟩
    intro b z
    cases z
  have vv : Vals [V.ref a] [Value.ref a] := .cons rfl .nil
  refine codeAny_mono ((F _ inB (sees hns)).runs (us := [.ref a]) hr e0 (hbind s (.ref a)) vv hsp) ?_
  intro r t h
  cases r with
  | error e => exact (hCX e t h).elim
  | ok fl =>
    cases fl with
    | next => exact h.elim
    | brk => exact h.elim
    | cont => exact h.elim
    | ret u =>
      obtain ⟨v, H', os, bare, un, ok', rv, q⟩ := h
      have q2 : v = .bl true := q
      subst q2
      have eu : u = Value.bool true := rv
      subst eu
      refine ⟨rfl, OldK.of_keep ?_, os, bare⟩
      intro b o e
      cases hb : H b with
      | none => exact un.keep b o e hb (by intro z; cases z) (by intro z; cases z)
      | some y =>
        cases only b with
        | inl z => exact absurd (hb.symm.trans z) (by intro z; cases z)
        | inr z =>
          obtain ⟨ob, xs, z⟩ := z
          have e1 := (ok b _ z).1
          have e2 := (ok' b _ (un.frzs b ob _ z)).1
          rw [e] at e1
          cases e1
          exact e2
theorem law_g
    (KX : K.In s.heap) (hns : s.heap.Ns mainGlobals mg) (hb : s.heap.Ns builtinsNs mb)
    (hbb : ∀ y : Str, y ≠ "__name__" → mb y = bootBuiltins y) (nl : s.heap.NoLimit) (hg : s.gens = #[])
    (ha : s.heap.get? a = some { cls := .type "list", data := .seq vs.toArray }) (hi : IntsAre vs ns) (hl : ns.length ≤ sizeLine)
    (hr : Rm k callerA)
    (F : ∀ base : Heap, K.In base → base.Ns mainGlobals mg → FnG P w K mg base CX k fa fd [x] sp)
    (hbind : ∀ (s : Shared) (u : Value), BindsTo s fd ⟨[u], []⟩ [(x, u)])
    (hsp : ∀ H : Hp, Only H → SqL K H a (ns.map V.int) → sp [.ref a] H (fun v _ => v = .bl true) fun _ _ _ => False)
    (hCX : ∀ H e s', CX [] H s (fun _ _ _ => False) e s' → False) :
    codeAny (model P w) callerA (.call (.ref fa) ⟨[.ref a], []⟩) (LawEnd s) s := by
  have rv := vals_ints hi
  have nv := hi.length
  cases free : K.lookup a with
  | some o =>
    have e := KX a o free
    rw [ha] at e
    cases e
    have only : Only (fun _ => none) := fun _ => .inl rfl
    refine law_core KX hns hb hbb nl hg ha hr F hbind (hsp _ only (.inr ⟨_, vs.toArray, _, free, rfl, rfl, rfl, ?_, by simpa using rv⟩))
      (hCX _) only (fun b u z => nomatch (show (none : Option HO) = some u from z)) (fun b z => absurd rfl z) (fun z => absurd rfl z)
    rw [List.size_toArray, nv]
    exact hl
  | none =>
    have only : Only (fun b => if b = a then some (.frz { cls := .type "list", data := .seq vs.toArray } (.lst (ns.map V.int))) else none) := by
      intro b
      by_cases e : b = a
      · exact .inr ⟨_, _, if_pos e⟩
      · exact .inl (if_neg e)
    refine law_core KX hns hb hbb nl hg ha hr F hbind (hsp _ only (.inl (.inr ⟨_, if_pos rfl⟩))) (hCX _) only ?_ ?_ (fun _ => free)
    · intro b u z
      by_cases e : b = a
      · have z1 := (if_pos e).symm.trans z
        cases z1
        subst e
        refine ⟨ha, ?_, vs, _, rv, ha⟩
        rw [List.length_map]
        exact hl
      · have z1 := (if_neg e).symm.trans z
        cases z1
    · intro b z
      by_cases e : b = a
      · exact e
      · exact absurd (if_neg e) z
end
/-- the head's end: what is known behind the top gives the law's promise -/
theorem walk_g {l : PySem.W.OpenLaw} {n k : Nat} {q : Program} {loose : List Str} {XP : (Str → Option Value) → Heap → Prop}
    {YP : World → Heap → Prop} {d : DefRec} {CX : CXT} {x : Str}
    (hn : l.most = some n) (hn2 : n ≤ sizeLine) (hdf : d.params.defaults = []) (hr : Rm k callerA)
    (F : ∀ (w : World) (mg : Str → Option Value) (fa : Addr) (h : Heap), YP w h → h.Ns mainGlobals mg → mg d.name = some (.ref fa) →
      ∃ (K : PySem.W.Frag) (fd : FuncData) (sp : Sp), K.In h ∧ (∀ (s : Shared) (u : Value), BindsTo s fd ⟨[u], []⟩ [(x, u)]) ∧
        (∀ (H : Hp) (a : Addr) (ns : List Int), ns.length ≤ n → SqL K H a (ns.map V.int) →
          sp [.ref a] H (fun v _ => v = .bl true) fun _ _ _ => False) ∧
        ∀ base : Heap, K.In base → base.Ns mainGlobals mg → FnG l.prog w K mg base CX k fa fd [x] sp)
    (hCX : ∀ (H : Hp) (s : Shared) (e : Value) (s' : Shared), CX [] H s (fun _ _ _ => False) e s' → False) :
    PySem.W.WalkO q loose XP YP l.row.toRowW d [] (fun f vs => PySem.call f vs) := by
  refine Att.attach_call hn hdf ?_
  intro w s0 s1 mg mb fa o pm cd doc a vs ns G Y ho hd hcd hmg hobj hints hlen hg
  obtain ⟨K, fd, sp, KX, hb, hsp, hF⟩ := F w mg fa _ Y G.T.g hmg
  exact law_g KX G.T.g G.T.b G.T.builtins G.T.nolimit hg hobj hints (Nat.le_trans hlen hn2) hr hF hb
    (fun H _ hS => hsp H a ns hlen hS) (fun H e s' => hCX H s1 e s')
end MM

set_option Elab.async false
set_option maxRecDepth 100000
set_option maxHeartbeats 2000000
set_option linter.all false
namespace MM
open PySem PySem.Spec PyProof.Rows L2

/-! a def of the text under its name -/
def Def (P : Program) (w : World) (K : PySem.W.Frag) (mg : Str → Option Value) (base : Heap) (CX : CXT) (k : Nat) (x : Str) (ps : List Str) (sp : Sp) : Prop :=
  ∃ f fd, FnG P w K mg base CX k f fd ps sp ∧ mg x = some (.ref f) ∧ PySem.W.keepIn K (.ref f) = true ∧ L2.Binds K fd ps [] ∧ ∃ oc od sl, K.lookup f = some ⟨oc, od, .func fd, sl⟩
/-- a def of the text as it stands behind the top -/
structure At (K : PySem.W.Frag) (mg : Str → Option Value) (x : Str) (st : Stmt) : Prop where
  fn : ∃ fd, FunD K x x (defArgs st) (defBody st) (defScope st) [] [] (He.ga K x) fd
  glo : mg x = some (.ref (He.ga K x))
section
variable {P : Program} {w : World} {K : PySem.W.Frag} {mg : Str → Option Value} {base : Heap} {CX : CXT} {j k : Nat} {x : Str} {ps : List Str} {sp : Sp} {st : Stmt}
theorem Def.le (D : Def P w K mg base CX j x ps sp) (h : j ≤ k) : Def P w K mg base CX k x ps sp :=
  let ⟨f, fd, F, r⟩ := D
  ⟨f, fd, F.le h, r⟩
theorem At.defX {N : List Str} (T : At K mg x st) (S : FnScope N ps (defScope st))
    (hb : ∀ (kV doc pm : Value) (an : Option Addr) (cd ct : Value) (us : List Value), us.length = ps.length →
      bindArgs (PySem.W.fnOf x x (defArgs st) (defBody st) (defScope st) .none kV doc pm an cd ct) ⟨us, []⟩ = pure (ps.zip us))
    (arity : ∀ vs H Q E, sp vs H Q E → vs.length = ps.length)
    (body : ∀ (f : Addr) (cd : Value) (A : Around) (out : List Env) (s : Shared) (H : Hp) (vs : List V) (Q : VK) (E : XK),
      Rm k (A.deeper (envOfC x (defScope st) s.heap.objs.size f cd)) → sp vs H Q E →
      ∃ t, PSs (cxOf CX P w K mg base N x (defScope st) f cd A out s H E) (defBody st) t ∧
        t { nx := fun _ H' => Q .non H', rt := Q } (start N vs) H) : Def P w K mg base CX (k + 1) x ps sp := by
  obtain ⟨fd, F⟩ := T.fn
  obtain ⟨oc, od, _, _, _, _, _, _, _, osl, _, lk, _⟩ := F.ex
  exact ⟨_, fd, FnG.body F S arity (body _), T.glo, F.kp, F.bindsN hb, oc, od, osl, lk⟩
/-- the same for a def that nothing leaves -/
theorem At.def_ {N : List Str} (T : At K mg x st) (S : FnScope N ps (defScope st))
    (hb : ∀ (kV doc pm : Value) (an : Option Addr) (cd ct : Value) (us : List Value), us.length = ps.length →
      bindArgs (PySem.W.fnOf x x (defArgs st) (defBody st) (defScope st) .none kV doc pm an cd ct) ⟨us, []⟩ = pure (ps.zip us))
    (arity : ∀ vs H Q E, sp vs H Q E → vs.length = ps.length)
    (body : ∀ (f : Addr) (cd : Value) (A : Around) (out : List Env) (s : Shared) (H : Hp) (vs : List V) (Q : VK) (E : XK),
      Rm k (A.deeper (envOfC x (defScope st) s.heap.objs.size f cd)) → sp vs H Q E →
      ∃ t, PSs (cxOf CX P w K mg base N x (defScope st) f cd A out s H E).nox (defBody st) t ∧
        t { nx := fun _ H' => Q .non H', rt := Q } (start N vs) H) : Def P w K mg base CX (k + 1) x ps sp := by
  refine T.defX S hb arity (fun f cd A out s H vs Q E hr h => ?_)
  obtain ⟨t, d, q⟩ := body f cd A out s H vs Q E hr h
  exact ⟨t, d.nox, q⟩
end
section
variable {X : Cx} {CX : CXT} {k : Nat} {ps : List Str} {sp : Sp} {E : XK} {x : Str} {p pos : Pos} {e : Expr} {es : List Expr} {t : TA}
/-- f(e, ..) -/
def tD (sp : Sp) (E : XK) (t : TA) : TE := fun σ H Q => t σ H fun vs H1 => sp vs H1 Q E
theorem pe_d (D : Def X.prog X.w X.K X.mg X.base CX k x ps sp) (hr : Rm k X.A) (hx : Passes CX X E) (ha : PA X (e :: es) t) (hg : Gl X x := by rfl)
    (hdb : (x == ("__debug__" : Str)) = false := by decide)
    (he : starEach (e :: es) X.env = (false, eval e X.env) :: starEach es X.env := by rfl)
    (hpl : (backTo pos (starEach es X.env)).any (·.1) = false := by rfl) : PE X (.Call (.Name x p) (e :: es) [] pos) (tD sp E t) := by
  obtain ⟨f, fd, F, hm, hk, hb, _⟩ := D
  exact pe_g F hr hm hk hb hx ha hg hdb he hpl
end

/-! tests whose answer is known -/
theorem ifT {c : Bool} {A B : Prop} (h : c = true) (a : A) : if c = true then A else B := by
  rw [if_pos h]
  exact a
theorem ifF {c : Bool} {A B : Prop} (h : c = false) (b : B) : if c = true then A else B := by
  rw [h, if_neg Bool.false_ne_true]
  exact b
theorem dInt (a b : Int) : decide (V.int a = V.int b) = decide (a = b) := by
  by_cases e : a = b
  · rw [e, decide_eq_true rfl, decide_eq_true rfl]
  · rw [decide_eq_false e, decide_eq_false (fun z => e (V.int.inj z))]
/-! more rules by values -/
section
variable {X : Cx}
/-- ** of great numbers -/
def CPw (i j : Int) : Prop := 0 ≤ j ∧ (Builtin.Int.intBits i : Int) * j ≤ 2 ^ 27
instance (i j : Int) : Decidable (CPw i j) := inferInstanceAs (Decidable (_ ∧ _))
instance (i j : Int) : Decidable (CDivW i j) := inferInstanceAs (Decidable (_ ∧ _))
theorem op_pw : OpR X (binaryOp .Pow) (rI CPw fun i j => .int (i ^ j.toNat)) := opI fun _ _ _ _ _ _ _ hc q => pow_int hc.1 hc.2 q
/-- repr of data -/
def rRepr (K : PySem.W.Frag) : List V → Hp → VK → Prop := fun xs H Q =>
  ∃ x d, xs = [x] ∧ Dp K H x d ∧ SeqAt.shaped d = true ∧ d.showable = true ∧ d.shown.length ≤ sizeLine ∧ Q (.str d.shown) H
theorem cr_repr (hg : X.A.guards = some []) (hu : X.A.units + 66 < cLine) : CallR X (.builtin "repr") (rRepr X.K) := by
  intro pins s σ H xs us Q I r h
  obtain ⟨x, d, rfl, hd, hs, hw, hz, q⟩ := h
  obtain ⟨u, rfl, ru⟩ := vals1 r
  have hdep := SeqAt.depth_of_shaped hs
  have hno := PyData.hasDict_of_canLay d (SeqAt.canLay_of_shaped hs)
  obtain ⟨as, rd⟩ := Dp.reads I d x u hd ru
  have fin : ∀ (h' : Heap) (z : Tok) (tk : Nat), (∀ b o, s.heap.get? b = some o → h'.get? b = some o) →
      EP X pins σ Q (.str d.shown z) { s with heap := h', toks := tk } := fun h' z tk hk => ⟨.str _, H, I.kept hk, ⟨_, rfl⟩, q⟩
  cases hd with
  | non =>
    cases ru
    exact PySem.P.repr_of_none (fin s.heap _ _ fun _ _ e => e)
  | bl b =>
    cases ru
    exact PySem.P.repr_of_bool (fin s.heap _ _ fun _ _ e => e)
  | int i =>
    obtain ⟨t, rfl⟩ := ru
    exact PySem.P.repr_of_int (of_decide_eq_true hw) (fin s.heap _ _ fun _ _ e => e)
  | str z =>
    obtain ⟨t, rfl⟩ := ru
    exact PySem.P.repr_of_str (fin s.heap _ _ fun _ _ e => e) hz
  | lst h1 h2 =>
    cases ru
    exact repr_of_reads' rd hw (PyData.noDict_hsm hno) hg (by omega) (fun _ _ e => e) (fun h' z tk hk => fin h' z tk hk) hz
  | tup h1 h2 =>
    cases ru
    exact repr_of_reads' rd hw (PyData.noDict_hsm hno) hg (by omega) (fun _ _ e => e) (fun h' z tk hk => fin h' z tk hk) hz
end
end MM

set_option Elab.async false
set_option maxRecDepth 100000
set_option maxHeartbeats 2000000
set_option linter.all false
namespace MM
open PySem PySem.Spec PyProof.Rows L2
/-! what kind a value is of -/
inductive Kn where
  | non | bl | int | str | lst | tup | dct
def Kn.name : Kn → String
  | .non => "NoneType"
  | .bl => "bool"
  | .int => "int"
  | .str => "str"
  | .lst => "list"
  | .tup => "tuple"
  | .dct => "dict"
def Kn.isa : Kn → Kn → Bool
  | .bl, .int => true
  | .non, .non => true
  | .bl, .bl => true
  | .int, .int => true
  | .str, .str => true
  | .lst, .lst => true
  | .tup, .tup => true
  | .dct, .dct => true
  | _, _ => false
theorem Kn.isa_ok (n m : Kn) : kitB n.name m.name = some (n.isa m) := by cases n <;> cases m <;> decide +kernel
inductive Kd (K : PySem.W.Frag) (H : Hp) : V → Kn → Prop where
  | non : Kd K H .non .non
  | bl (b : Bool) : Kd K H (.bl b) .bl
  | int (i : Int) : Kd K H (.int i) .int
  | str (z : Str) : Kd K H (.str z) .str
  | lst {a : Addr} {xs : List V} (h : SqL K H a xs) : Kd K H (.ref a) .lst
  | tup {a : Addr} {xs : List V} (h : SqT K H a xs) : Kd K H (.ref a) .tup
  | dct {a : Addr} {kvs : List (Key × V)} (h : H a = some (.dK kvs)) : Kd K H (.ref a) .dct
theorem Kd.ty {K : PySem.W.Frag} {H : Hp} {x : V} {n : Kn} (h : Kd K H x n) : TyX K H x (.type n.name) := by
  cases h with
  | non => exact .base .non
  | bl b => exact .base (.bl b)
  | int i => exact .base (.int i)
  | str z => exact .base (.str z)
  | lst h =>
    rcases h with (h | ⟨o, h⟩) | ⟨o, its, k, h, c, _⟩
    · exact .base (.lst h)
    · exact .base (.frz h)
    · exact .kList h c
  | tup h =>
    rcases h with h | h
    · rcases h with h | ⟨o, h⟩
      · exact .base (.tup h)
      · exact .fTuple h
    · obtain ⟨o, its, k, h, c, _⟩ := h
      exact .kTuple h c
  | dct h => exact .base (.dK h)
/-- an int, and no bool -/
def isW : V → Bool
  | .int _ => true
  | _ => false
section
variable {X : Cx}
def rIs (K : PySem.W.Frag) (m : Kn) : List V → Hp → VK → Prop := fun xs H Q => ∃ x n, xs = [x, .ty m.name] ∧ Kd K H x n ∧ Q (.bl (n.isa m)) H
theorem cr_is (m : Kn) : CallR X (.builtin "isinstance") (rIs X.K m) := by
  intro pins s σ H xs us Q I r h
  obtain ⟨x, n, rfl, hk, q⟩ := h
  exact call_isi pins s σ H _ us Q I r ⟨x, .ty m.name, .type n.name, .type m.name, n.isa m, rfl, .ty _, hk.ty, kit_ty (n.isa_ok m), q⟩
/-- a built-in class by its name -/
theorem pe_ty (m : Kn) {x : Str} {pos : Pos} (hm : X.mg x = none) (hv : bootBuiltins x = some (.type m.name)) (hg : Gl X x := by rfl) (hn : x ≠ "__name__" := by decide)
    (hdb : (x == ("__debug__" : Str)) = false := by decide) : PE X (.Name x pos) (tC (.ty m.name)) := pe_bltn hg hm hv rfl hn hdb
end
/-! heaps -/
theorem same_new {H : Hp} {p : Addr} {o : HO} (h : H p = none) : Same H (upd H p o) := fun b x e => by
  rw [upd_ne (ne_of_none e h)]
  exact e
theorem sql_new {K : PySem.W.Frag} {H : Hp} {p l : Addr} {xs : List V} {o : HO} (h : SqL K H l xs) (n : H p = none) : SqL K (upd H p o) l xs := (same_new n).seq h
theorem same_sqt {K : PySem.W.Frag} {H H' : Hp} {a : Addr} {xs : List V} (e : Same H H') (h : SqT K H a xs) : SqT K H' a xs := by
  rcases h with (h | ⟨o, h⟩) | h
  · exact .inl (.inl (e _ _ h))
  · exact .inl (.inr ⟨o, e _ _ h⟩)
  · exact .inr h
theorem sqt_new {K : PySem.W.Frag} {H : Hp} {p l : Addr} {xs : List V} {o : HO} (h : SqT K H l xs) (n : H p = none) : SqT K (upd H p o) l xs := same_sqt (same_new n) h
theorem sql_upd {K : PySem.W.Frag} {H : Hp} {p l : Addr} {xs : List V} {o : HO} (h : SqL K H l xs) (ne : l ≠ p) : SqL K (upd H p o) l xs := by
  rcases h with (h | ⟨u, h⟩) | h
  · exact .inl (.inl (by rw [upd_ne ne]; exact h))
  · exact .inl (.inr ⟨u, by rw [upd_ne ne]; exact h⟩)
  · exact .inr h
theorem sqt_upd {K : PySem.W.Frag} {H : Hp} {p l : Addr} {xs : List V} {o : HO} (h : SqT K H l xs) (ne : l ≠ p) : SqT K (upd H p o) l xs := by
  rcases h with (h | ⟨u, h⟩) | h
  · exact .inl (.inl (by rw [upd_ne ne]; exact h))
  · exact .inl (.inr ⟨u, by rw [upd_ne ne]; exact h⟩)
  · exact .inr h
theorem Kd.same {K : PySem.W.Frag} {H H' : Hp} {x : V} {n : Kn} (e : Same H H') (h : Kd K H x n) : Kd K H' x n := by
  cases h with
  | non => exact .non
  | bl b => exact .bl b
  | int i => exact .int i
  | str z => exact .str z
  | lst h => exact .lst (e.seq h)
  | tup h => exact .tup (same_sqt e h)
  | dct h => exact .dct (e _ _ h)
/-! a list comprehension whose elements are reckoned without a new object -/
section
variable {K : PySem.W.Frag} {v : Nat} {te : TE} {σ : L2.St} {H1 : Hp} {D : Addr} {Qd : Hp → Prop} {n : Nat}
/-- what tLc asks of its walk -/
def LcW (J : It) (g : TG) (tt : TT) (te : TE) (vs : List Nat) (σ : L2.St) (H1 : Hp) (D : Addr) (Qd : Hp → Prop) : Prop :=
  ∃ W : Nat → Nat → Hp → Prop, (∃ m, W 0 m (upd H1 D (.lst []))) ∧ ∀ i m H, W i m H →
    (J.stop i H ∧ Qd H) ∨ (J.go i H ∧ ∃ Nx : Hp → Prop, (∀ H', Nx H' → ∃ m', m' < m ∧ W (i + 1) m' H') ∧
      ∀ x H', J.yld i H x H' → g x (wipe σ vs) H' fun σ2 H2 => wipe σ2 vs = wipe σ vs ∧ tt σ2 H2 fun b H3 =>
        if b = true then te σ2 H3 fun y H4 => ∃ acc, H4 D = some (.lst acc) ∧ acc.length < sizeLine ∧ Nx (upd H4 D (.lst (acc ++ [y]))) else Nx H3)
theorem yes_ {H : Hp} {A B : Hp → Prop} (h : A H) : tYes σ H fun b H3 => if b = true then A H3 else B H3 := by
  show (if true = true then A H else B H)
  rw [if_pos rfl]
  exact h
theorem wipe_one {x : Option V} : wipe ((wipe σ [v]).set v x) [v] = wipe σ [v] := by
  show ((σ.set v none).set v x).set v none = σ.set v none
  rw [List.set_set, List.set_set]
theorem lc_rng {lo : Int} (f : Nat → V) (hn : n ≤ sizeLine)
    (hs : ∀ i acc, i < n → ∀ Q : VK, Q (f i) (upd H1 D (.lst acc)) → te ((wipe σ [v]).set v (some (.int (lo + i)))) (upd H1 D (.lst acc)) Q)
    (hd : Qd (upd H1 D (.lst ((List.range n).map f)))) : LcW (Itr lo n) (gName v) tYes te [v] σ H1 D Qd := by
  refine lc_range (Pv := fun i H => H = upd H1 D (.lst ((List.range i).map f))) rfl ?_ (fun H e => by rw [e]; exact hd)
  intro i H hi e
  subst e
  refine ⟨wipe_one, yes_ ?_⟩
  refine hs i _ hi _ ⟨_, upd_same, ?_, ?_⟩
  · rw [List.length_map, List.length_range]
    exact Nat.lt_of_lt_of_le hi hn
  · rw [upd_upd, List.range_succ, List.map_append]
    rfl
theorem lc_seq {a : Addr} {xs : List V} (f : V → V) (hx : SqL K H1 a xs) (nD : H1 D = none) (hn : xs.length ≤ sizeLine)
    (hs : ∀ x acc, x ∈ xs → ∀ Q : VK, Q (f x) (upd H1 D (.lst acc)) → te ((wipe σ [v]).set v (some x)) (upd H1 D (.lst acc)) Q)
    (hd : Qd (upd H1 D (.lst (xs.map f)))) : LcW (Itl K a) (gName v) tYes te [v] σ H1 D Qd := by
  refine lc_list (xs := xs) (Pv := fun i H => H = upd H1 D (.lst ((xs.take i).map f))) rfl (fun i H _ e => by rw [e]; exact sql_new hx nD) ?_ (fun H e => by rw [e, List.take_length]; exact hd)
  intro i x H hi e
  subst e
  have lt : i < xs.length := (List.getElem?_eq_some_iff.mp hi).1
  refine ⟨wipe_one, yes_ ?_⟩
  refine hs x _ (List.mem_of_getElem? hi) _ ⟨_, upd_same, ?_, ?_⟩
  · rw [List.length_map, List.length_take]
    omega
  · rw [upd_upd, List.take_add_one, hi, List.map_append]
    rfl
theorem lc_tpl {a : Addr} {xs : List V} (f : V → V) (hx : SqT K H1 a xs) (nD : H1 D = none) (hn : xs.length ≤ sizeLine)
    (hs : ∀ x acc, x ∈ xs → ∀ Q : VK, Q (f x) (upd H1 D (.lst acc)) → te ((wipe σ [v]).set v (some x)) (upd H1 D (.lst acc)) Q)
    (hd : Qd (upd H1 D (.lst (xs.map f)))) : LcW (Itt K a) (gName v) tYes te [v] σ H1 D Qd := by
  refine lc_tup (xs := xs) (Pv := fun i H => H = upd H1 D (.lst ((xs.take i).map f))) rfl (fun i H _ e => by rw [e]; exact sqt_new hx nD) ?_ (fun H e => by rw [e, List.take_length]; exact hd)
  intro i x H hi e
  subst e
  have lt : i < xs.length := (List.getElem?_eq_some_iff.mp hi).1
  refine ⟨wipe_one, yes_ ?_⟩
  refine hs x _ (List.mem_of_getElem? hi) _ ⟨_, upd_same, ?_, ?_⟩
  · rw [List.length_map, List.length_take]
    omega
  · rw [upd_upd, List.take_add_one, hi, List.map_append]
    rfl
/-- with a test -/
theorem lc_rngF {tt : TT} {lo : Int} (p : Nat → Bool) (f : Nat → V) (hn : n ≤ sizeLine)
    (ht : ∀ i acc, i < n → ∀ Q : Bool → Hp → Prop, Q (p i) (upd H1 D (.lst acc)) → tt ((wipe σ [v]).set v (some (.int (lo + i)))) (upd H1 D (.lst acc)) Q)
    (hs : ∀ i acc, i < n → p i = true → ∀ Q : VK, Q (f i) (upd H1 D (.lst acc)) → te ((wipe σ [v]).set v (some (.int (lo + i)))) (upd H1 D (.lst acc)) Q)
    (hd : Qd (upd H1 D (.lst (((List.range n).filter p).map f)))) : LcW (Itr lo n) (gName v) tt te [v] σ H1 D Qd := by
  refine lc_range (Pv := fun i H => H = upd H1 D (.lst (((List.range i).filter p).map f))) rfl ?_ (fun H e => by rw [e]; exact hd)
  intro i H hi e
  subst e
  have le : (((List.range i).filter p).map f).length ≤ i := by
    rw [List.length_map]
    exact Nat.le_trans (List.length_filter_le _ _) (Nat.le_of_eq List.length_range)
  refine ⟨wipe_one, ht i _ hi _ ?_⟩
  cases e : p i with
  | true =>
    rw [if_pos rfl]
    refine hs i _ hi e _ ⟨_, upd_same, Nat.lt_of_le_of_lt le (Nat.lt_of_lt_of_le hi hn), ?_⟩
    rw [upd_upd, List.range_succ, List.filter_append, List.map_append]
    simp [e]
  | false =>
    rw [if_neg Bool.false_ne_true, List.range_succ, List.filter_append, List.map_append]
    simp [e]
end
/-! data: ints and bools in lists and tuples -/
section
variable {K : PySem.W.Frag} {H : Hp}
theorem dp_ints : ∀ ns : List Int, DpAll K H (ns.map V.int) (ns.map PyData.int)
  | [] => .nil
  | n :: r => .cons (.int n) (dp_ints r)
theorem dp_bools : ∀ bs : List Bool, DpAll K H (bs.map V.bl) (bs.map PyData.bool)
  | [] => .nil
  | b :: r => .cons (.bl b) (dp_bools r)
end
theorem lay_ints : ∀ ns : List Int, PyData.canLayAll0 (ns.map PyData.int) = true
  | [] => rfl
  | n :: r => by
    show (PyData.canLay0 (.int n) && PyData.canLayAll0 (r.map PyData.int)) = true
    rw [lay_ints r]
    rfl
theorem dep_ints : ∀ ns : List Int, PyData.depthAll (ns.map PyData.int) ≤ 1
  | [] => by decide
  | n :: r => by
    have := dep_ints r
    simp only [List.map_cons, PyData.depthAll, PyData.depth]
    omega
theorem shaped_ints (ns : List Int) : SeqAt.shaped (.list (ns.map PyData.int)) = true := by
  unfold SeqAt.shaped
  have h := dep_ints ns
  rw [show PyData.canLay0 (.list (ns.map PyData.int)) = true from lay_ints ns, Bool.true_and]
  refine decide_eq_true ?_
  simp only [PyData.depth]
  omega
theorem lay_bools : ∀ bs : List Bool, PyData.canLayAll0 (bs.map PyData.bool) = true
  | [] => rfl
  | b :: r => by
    show (PyData.canLay0 (.bool b) && PyData.canLayAll0 (r.map PyData.bool)) = true
    rw [lay_bools r]
    rfl
theorem dep_bools : ∀ bs : List Bool, PyData.depthAll (bs.map PyData.bool) ≤ 1
  | [] => by decide
  | n :: r => by
    have := dep_bools r
    simp only [List.map_cons, PyData.depthAll, PyData.depth]
    omega
theorem shaped_bools (bs : List Bool) : SeqAt.shaped (.list (bs.map PyData.bool)) = true := by
  unfold SeqAt.shaped
  have h := dep_bools bs
  rw [show PyData.canLay0 (.list (bs.map PyData.bool)) = true from lay_bools bs, Bool.true_and]
  refine decide_eq_true ?_
  simp only [PyData.depth]
  omega
theorem shapedT_ints (ns : List Int) : SeqAt.shaped (.tuple (ns.map PyData.int)) = true := by
  unfold SeqAt.shaped
  have h := dep_ints ns
  rw [show PyData.canLay0 (.tuple (ns.map PyData.int)) = true from lay_ints ns, Bool.true_and]
  refine decide_eq_true ?_
  simp only [PyData.depth]
  omega
theorem eqvAll_ints : ∀ ns ms : List Int, PyData.eqvAll (ns.map PyData.int) (ms.map PyData.int) = decide (ns = ms)
  | [], [] => rfl
  | [], _ :: _ => rfl
  | _ :: _, [] => rfl
  | n :: r, m :: q => by
    show (PyData.eqv (.int n) (.int m) && PyData.eqvAll (r.map PyData.int) (q.map PyData.int)) = _
    rw [eqvAll_ints r q]
    show ((n == m) && decide (r = q)) = _
    by_cases e : n = m
    · subst e
      by_cases f : r = q
      · subst f
        simp
      · simp [f]
    · simp [e]
end MM

set_option Elab.async false
set_option linter.all false
set_option maxRecDepth 100000
set_option maxHeartbeats 2000000
/-! enumerate over a tuple -/
namespace MM
open PySem PySem.Spec PyProof.Rows L2
theorem made_enum {v : Value} {o : Obj} {G : Heap → Prop} (B : Begins v o G) :
    Meets (Builtin.«enumerate.__new__» ⟨[.type "enumerate", v], []⟩) (fun _ R t => G t.heap ∧
      R (.ok (.ret (.ref (t.heap.push o).objs.size))) { t with heap := (t.heap.push o).push { cls := .type "enumerate", data := .fields #[.none, .bool false, .ref t.heap.objs.size, rawInt 0, .none, .none] } }) :=
  .of_wp fun prog w A R t both => by
    obtain ⟨h0, g0, d0, k0, o0⟩ := t
    obtain ⟨at_v, out⟩ := both
    have sub := sub_enumerate
    have road : ∀ {A' : Around} {E : Value → Shared → Prop} {Q : Value → Shared → Prop}, Q (.ref h0.objs.size) ⟨h0.push o, g0, d0, k0, o0⟩ → wpAny (model prog w) A' (pyIter v) Q E ⟨h0, g0, d0, k0, o0⟩ :=
      fun q => B.iter prog w _ _ ⟨h0, g0, d0, k0, o0⟩ _ at_v q
    wp_walk using road
    refine wpAny_stack_any fun st => wpAny_pure ?_
    split
    · rename_i c _ _ _ _ _
      cases (c == Value.type "enumerate")
      all_goals
        wp_walk using road
        exact ⟨_, rfl, out⟩
    · wp_walk using road
      exact ⟨_, rfl, out⟩
theorem call_enumT {prog : Program} {w : World} {A : Around} {E : Value → Shared → Prop} {s : Shared} {a : Addr} {its : Array Value} {Q : Value → Shared → Prop} (ht : s.heap.IsTuple a its)
    (q : ∀ h', IsEnum h' (s.heap.objs.size + 1) s.heap.objs.size 0 .none → h'.IsTupleIter s.heap.objs.size a 0 → (∀ b o, s.heap.get? b = some o → h'.get? b = some o) →
      Q (.ref (s.heap.objs.size + 1)) { s with heap := h' }) : wpAny (model prog w) A (call (.type "enumerate") [.ref a]) Q E s := by
  have B := begins_tuple a its
  refine callType_new F.called_enumerate (by decide) (F.typeCall_enumerate_1 _) (F.newCall_enumerate_1 _) (fun obj => F.args_object_init_2 obj _) F.entry_enumerate_new (made_enum B) ⟨ht, ?_⟩
  have z : (s.heap.push { cls := .type "tuple_iterator", data := .fields #[.ref a, .int 0 0] }).objs.size = s.heap.objs.size + 1 := Heap.size_push ..
  show _ ∧ _
  rw [z]
  have at_e : IsEnum ((s.heap.push { cls := .type "tuple_iterator", data := .fields #[.ref a, .int 0 0] }).push { cls := .type "enumerate", data := .fields #[.none, .bool false, .ref s.heap.objs.size, rawInt 0, .none, .none] }) (s.heap.objs.size + 1) s.heap.objs.size 0 .none := by
    rw [← z]
    exact Heap.get?_push_size _ rfl
  exact ⟨⟨_, at_e, rfl⟩, q _ at_e ⟨_, Heap.get?_push_of_some _ (Heap.get?_push_size _ rfl), rfl, rfl⟩ fun b o k => Heap.get?_push_of_some _ (Heap.get?_push_of_some _ k)⟩
/-- the tuple at a, each item in a new pair -/
def Itu (K : PySem.W.Frag) (a : Addr) : It :=
  ⟨fun i H => ∃ xs x, SqT K H a xs ∧ xs[i]? = some x, fun i H v H' => ∃ T x, v = .ref T ∧ H T = none ∧ H' = upd H T (.tup [.int (i : Nat), x]) ∧ ∀ xs, SqT K H a xs → xs[i]? = some x, fun i H => ∃ xs, SqT K H a xs ∧ xs.length ≤ i⟩
theorem turn_enumT {P : Program} {w : World} {K : PySem.W.Frag} {elts : List Expr} {kk : Nat} {tpos : Pos} (a e it : Addr) :
    Turn P w K (.Tuple elts kk tpos) (Itu K a) [e, it] e (fun i h => (∃ old, IsEnum h e it ((i : Nat) : Int) old) ∧ h.IsTupleIter it a i ∧ e ≠ it) where
  mem := by simp
  obj := fun i h st b hb => by
    obtain ⟨⟨old, he⟩, ⟨o, ho, hc, hd⟩, _⟩ := st
    have two : b = e ∨ b = it := by simpa using hb
    rcases two with z | z
    · subst z
      exact ⟨_, he, fun v q => nomatch q⟩
    · subst z
      exact ⟨o, ho, fun v q => by rw [hd] at q; cases q⟩
  keep := fun i h h' st k => let ⟨⟨old, he⟩, hi, hne⟩ := st; ⟨⟨old, k e (by simp) _ he⟩, hi.at fun o q => k it (by simp) o q, hne⟩
  item := by
    intro X hP hw hK hc i pins s σ H E I hf st hg
    subst hP hw hK
    obtain ⟨⟨old, he⟩, hit, hne⟩ := st
    obtain ⟨xs, x, hq, hx⟩ := hg
    obtain ⟨its, rv, p, hz⟩ := I.tuple hq
    obtain ⟨u, hu, ru⟩ := rv.get hx
    have el : e < s.heap.objs.size := Heap.lt_size he
    have il : it < s.heap.objs.size := by obtain ⟨_, q, _⟩ := hit; exact Heap.lt_size q
    have pt : s.heap.IsTuple a its.toArray := p
    have ait : a ≠ it := fun z => by
      obtain ⟨o1, g1, c1, _⟩ := id pt
      obtain ⟨o2, g2, c2, _⟩ := id hit
      rw [z, g2] at g1
      cases g1
      rw [c2] at c1
      exact absurd (Value.type.inj c1) (by decide)
    have ae : a ≠ e := fun z => by
      obtain ⟨o1, g1, c1, _⟩ := id pt
      rw [z, show s.heap.get? e = some _ from he] at g1
      cases g1
      exact absurd (Value.type.inj c1) (by decide)
    have D := Draws.tuple (prog := X.prog) (w := X.w) (A := X.A.in1) (I.ok.hd hc) it a ait its.toArray
    have lt : i < its.toArray.size := by
      have := (List.getElem?_eq_some_iff.mp hu).1
      rw [List.size_toArray]
      exact this
    refine wpAny_pyNext_enum_itemC D he ⟨hit, pt⟩ lt hne (by simp [hne, ae.symm]) fun y h' tk hy ho st' hT hsz hk => ?_
    have ey : y = u := by
      have hy' : its.toArray[i]? = some y := hy
      rw [List.getElem?_toArray, hu] at hy'
      exact (Option.some.inj hy').symm
    subst ey
    refine ⟨_, rfl, wpAny_letOwnedTupleGo_enum (s := { s with heap := h', toks := tk + 1 }) ho fun h'' he' sb => ?_⟩
    have hT2 : h''.get? s.heap.objs.size = some { cls := .type "tuple", data := .seq #[.int i tk, y] } := (sb.2 _ (Nat.ne_of_gt el)).trans hT
    have new : ObjOk X.prog X.w (upd H s.heap.objs.size (.tup [.int (i : Nat), x])) h'' s.heap.objs.size (.tup [.int (i : Nat), x]) :=
      ⟨(by decide : 2 ≤ sizeLine), [.int i tk, y], .cons ⟨_, rfl⟩ (.cons ru .nil), ⟨_, hT2, rfl, _, rfl⟩⟩
    have I1 : Inv X pins σ (upd H s.heap.objs.size (.tup [.int (i : Nat), x])) { s with heap := h'', toks := tk + 1 } :=
      I.turnedNew (ch := [e, it]) (fun b ob hb q => (sb.2 b fun z => hb (by simp [z])).trans (hk b ob (fun z => hb (by simp [z])) (fun z => hb (by simp [z])) q)) hf (Nat.le_refl _) new
    have it2 : h''.IsTupleIter it a (i + 1) := st'.1.at fun o q => (sb.2 it (Ne.symm hne)).trans q
    refine ⟨.ref s.heap.objs.size, _, I1, rfl, ⟨_, x, rfl, I.hok.fresh (Nat.le_refl _), rfl, fun ys hy => by rw [I.tuple_inj hy hq]; exact hx⟩, ⟨⟨y, he'⟩, it2, hne⟩, fun b hb => ?_⟩
    have bl : b < s.heap.objs.size := by
      have two : b = e ∨ b = it := by simpa using hb
      rcases two with z | z <;> subst z <;> assumption
    rw [upd_ne (Nat.ne_of_lt bl)]
    exact (hf b hb).1
  done := by
    intro X hP hw hK hc i pins s σ H E I hf st hg
    subst hP hw hK
    obtain ⟨⟨old, he⟩, hit, hne⟩ := st
    obtain ⟨xs, hq, hx⟩ := hg
    obtain ⟨its, rv, p, hz⟩ := I.tuple hq
    have pt : s.heap.IsTuple a its.toArray := p
    obtain ⟨f0, f1, f2, f3, f4, f5⟩ := hf it (by simp)
    have over : its.toArray[i]? = none := by
      have := rv.length
      rw [List.getElem?_toArray]
      exact List.getElem?_eq_none (by omega)
    have D : Draws X.prog X.w X.A.in1 it [it, a] i (fun _ _ => True) (fun j h => j = i ∧ h.IsTupleIter it a j ∧ h.IsTuple a its.toArray) :=
      { live := fun _ _ st => let ⟨o, ho, _⟩ := st.2.1; ⟨o, ho⟩
        frame := fun _ _ _ st k => ⟨st.1, st.2.1.at fun o e => k it (by simp) o e, st.2.2.at fun o e => k a (by simp) o e⟩
        item := fun j s Q E lt st _ => absurd st.1 (Nat.ne_of_lt lt)
        done := fun s Q E st out => wpAny_nextOf_tuple_end (I.ok.hd hc) st.2.1 st.2.2 (by rw [st.1]; exact over) out }
    exact wpAny_pyNext_enum_endD D he ⟨rfl, hit, pt⟩ fun h' eb => ⟨rfl, I.turned (t' := s.toks) (fun b o hb q => eb b o hb q) f0 f1 f3 f4 f5⟩
  self := fun A i s Q E st h => let ⟨⟨_, he⟩, _⟩ := st; wpAny_pyIter_enum he h
def iEnumT (K : PySem.W.Frag) (ta : TA) : TI := fun σ H R => ta σ H fun vs H1 => ∃ a xs, vs = [.ref a] ∧ SqT K H1 a xs ∧ R (Itu K a) H1
theorem pi_enumT {X : Cx} {e : Expr} {ta : TA} {p pos tpos : Pos} {elts : List Expr} {kk : Nat} (hg : Gl X "enumerate") (hm : X.mg "enumerate" = none) (ha : PA X [e] ta)
    (hs : starEach [e] X.env = [(false, eval e X.env)] := by rfl) : PI X (.Tuple elts kk tpos) (.Call (.Name "enumerate" p) [e] [] pos) (iEnumT X.K ta) := by
  refine ⟨fun pins s σ H R I h => ?_⟩
  refine Call_ (ld_blt I hg hm boot_enumerate (PyProof.Rows.callWith_type1 (thn (ha.run pos pins s σ H _ I h) fun us s1 ⟨vs, H1, I1, r1, a, xs, ex, hq, q⟩ => ?_) hs rfl))
  subst ex
  obtain ⟨u, rfl, ru⟩ := vals1 r1
  cases ru
  obtain ⟨its, rv, p', hz⟩ := I1.tuple hq
  refine call_enumT (its := its.toArray) p' fun h' he hit hk => wpAny_pyIter_enum he ?_
  refine ⟨s1.heap.objs.size + 1, [s1.heap.objs.size + 1, s1.heap.objs.size], _, _, H1, rfl, I1.kept (t' := s1.toks) hk, turn_enumT a (s1.heap.objs.size + 1) s1.heap.objs.size, ⟨⟨.none, he⟩, hit, Nat.succ_ne_self _⟩, fun b hb => ?_, q⟩
  have two : b = s1.heap.objs.size + 1 ∨ b = s1.heap.objs.size := by simpa using hb
  have le : s1.heap.objs.size ≤ b := by
    rcases two with z | z <;> rw [z]
    · exact Nat.le_add_right _ _
    · exact Nat.le_refl _
  exact I1.fpOk le (I1.hok.fresh le)
section
variable {K : PySem.W.Frag} {a : Addr} {xs : List V} {g : TG} {tb : TS} {D : Ends} {σ : L2.St} {H : Hp}
/-- what a for asks of its walk -/
def ForW (J : It) (g : TG) (tb : TS) (D : Ends) (σ : L2.St) (H : Hp) : Prop :=
  ∃ W : Nat → Nat → L2.St → Hp → Prop, (∃ m, W 0 m σ H) ∧ ∀ i m σ H, W i m σ H →
    (J.stop i H ∧ D.nx σ H) ∨ (J.go i H ∧ ∃ N : L2.St → Hp → Prop, (∀ σ' H', N σ' H' → ∃ m', m' < m ∧ W (i + 1) m' σ' H') ∧
      ∀ x H', J.yld i H x H' → g x σ H' fun σ2 H2 => tb { D with nx := N, ct := N, bk := D.nx } σ2 H2)
theorem for_enumT (Pv : Nat → L2.St → Hp → Prop) (h0 : Pv 0 σ H) (at_a : ∀ i σ H, i ≤ xs.length → Pv i σ H → SqT K H a xs)
    (turn : ∀ i x σ H T, xs[i]? = some x → Pv i σ H → H T = none → g (.ref T) σ (upd H T (.tup [.int (i : Nat), x])) fun σ2 H2 => tb { D with nx := Pv (i + 1), ct := Pv (i + 1), bk := D.nx } σ2 H2)
    (fin : ∀ σ H, Pv xs.length σ H → D.nx σ H) : ForW (Itu K a) g tb D σ H := by
  refine ⟨fun i m σ H => m = xs.length - i ∧ i ≤ xs.length ∧ Pv i σ H, ⟨_, rfl, Nat.zero_le _, h0⟩, ?_⟩
  rintro i m σ H ⟨rfl, le, p⟩
  by_cases lt : i < xs.length
  · have ex := List.getElem?_eq_getElem lt
    refine .inr ⟨⟨xs, _, at_a i σ H le p, ex⟩, Pv (i + 1), fun σ' H' p' => ⟨_, by omega, rfl, lt, p'⟩, ?_⟩
    rintro v H' ⟨T, x, rfl, free, rfl, all⟩
    exact turn i x σ H T (all xs (at_a i σ H le p)) p free
  · have e : i = xs.length := by omega
    subst e
    exact .inl ⟨⟨xs, at_a _ σ H le p, Nat.le_refl _⟩, fin σ H p⟩
theorem for_enumL (Pv : Nat → L2.St → Hp → Prop) (h0 : Pv 0 σ H) (at_a : ∀ i σ H, i ≤ xs.length → Pv i σ H → SqL K H a xs)
    (turn : ∀ i x σ H T, xs[i]? = some x → Pv i σ H → H T = none → g (.ref T) σ (upd H T (.tup [.int (i : Nat), x])) fun σ2 H2 => tb { D with nx := Pv (i + 1), ct := Pv (i + 1), bk := D.nx } σ2 H2)
    (fin : ∀ σ H, Pv xs.length σ H → D.nx σ H) : ForW (Ite K a) g tb D σ H := by
  refine ⟨fun i m σ H => m = xs.length - i ∧ i ≤ xs.length ∧ Pv i σ H, ⟨_, rfl, Nat.zero_le _, h0⟩, ?_⟩
  rintro i m σ H ⟨rfl, le, p⟩
  by_cases lt : i < xs.length
  · have ex := List.getElem?_eq_getElem lt
    refine .inr ⟨⟨xs, _, at_a i σ H le p, ex⟩, Pv (i + 1), fun σ' H' p' => ⟨_, by omega, rfl, lt, p'⟩, ?_⟩
    rintro v H' ⟨T, x, rfl, free, rfl, all⟩
    exact turn i x σ H T (all xs (at_a i σ H le p)) p free
  · have e : i = xs.length := by omega
    subst e
    exact .inl ⟨⟨xs, at_a _ σ H le p, Nat.le_refl _⟩, fin σ H p⟩
end
end MM

set_option Elab.async false
set_option linter.all false
set_option maxRecDepth 100000
set_option maxHeartbeats 2000000
/-! set(t) of a tuple of ints; its length -/
namespace MM
open PySem PySem.Spec PyProof.Rows L2
theorem count_keys {ks ns : List Int} (nk : ks.Nodup) (mem : ∀ k, k ∈ ns ↔ k ∈ ks) : ks.length = ns.length ↔ ns.Nodup := by
  constructor
  · intro e
    by_cases h : ns.Nodup
    · exact h
    · exfalso
      rw [List.nodup_iff_count] at h
      obtain ⟨a, ha⟩ := Classical.not_forall.mp h
      have am : a ∈ ns := List.count_pos_iff.mp (by omega)
      have sub : ks ⊆ ns.erase a := by
        intro b hb
        by_cases z : b = a
        · subst z
          refine List.count_pos_iff.mp ?_
          rw [List.count_erase_self]
          omega
        · exact (List.mem_erase_of_ne z).mpr ((mem b).mpr hb)
      have le := List.Nodup.length_le_of_subset nk sub
      rw [List.length_erase_of_mem am] at le
      have pos : 0 < ns.length := List.length_pos_of_mem am
      omega
  · intro nn
    exact ((List.perm_ext_iff_of_nodup nk nn).mpr fun a => (mem a).symm).length_eq
section
variable {X : Cx}
def rSetI (K : PySem.W.Frag) : List V → Hp → VK → Prop := fun xs H Q => ∃ (p : Addr) (ns : List Int), xs = [.ref p] ∧ SqT K H p (ns.map V.int) ∧ ns.length ≤ 1000 ∧
  ∀ t n, H t = none → (n = ns.length ↔ ns.Nodup) → n ≤ ns.length → Q (.ref t) (upd H t (.set (fun j => decide (j ∈ ns)) n))
theorem ints_of : ∀ {ns : List Int} {its : List Value}, Vals (ns.map V.int) its → IntsAre its ns
  | [], _, r => by
    cases r
    exact .nil
  | n :: _, _, r => by
    cases r with
    | cons h t =>
      obtain ⟨k, rfl⟩ := h
      exact .cons n k (ints_of t)
theorem cr_setI (hc : X.calm = true) : CallR X (.type "set") (rSetI X.K) := by
  intro pins s σ H xs us Q I r h
  obtain ⟨p, ns, rfl, hp, hl, q⟩ := h
  obtain ⟨u, rfl, ru⟩ := vals1 r
  cases ru
  obtain ⟨its, rv, ht, hz⟩ := I.tuple hp
  have pt : s.heap.IsTuple p its.toArray := ht
  refine call_set_tupI (P := X.prog) ns (I.ok.hd hc) pt (by simpa using ints_of rv) (by show ns.length + 1 < 4096; omega) fun h' tk c R le keep => ?_
  have cnt : c = ns.length ↔ ns.Nodup := by
    obtain ⟨o, es, ep, t, ho, hx, hd, g, nd, hm, hb, hf, hn, _⟩ := R
    rw [← hn]
    have := count_keys (ks := es.toList.map keyOf) (ns := ns) nd fun k => by
      rw [← hm k]
      exact decide_eq_true_iff.symm
    rw [List.length_map, Array.length_toList] at this
    exact this
  refine ⟨.ref _, _, I.laid (t' := tk) (o := .set (fun j => decide (j ∈ ns)) c) keep (Nat.le_refl _) ?_, rfl, q _ c (I.hok.fresh (Nat.le_refl _)) cnt le⟩
  exact R.setOf
theorem cr_lenSet : CallR X (.builtin "len") (fun xs H Q => ∃ a S n, xs = [V.ref a] ∧ H a = some (.set S n) ∧ Q (.int (n : Nat)) H) := by
  intro pins s σ H xs us Q I r h
  obtain ⟨a, S, n, rfl, ha, q⟩ := h
  obtain ⟨u, rfl, ru⟩ := vals1 r
  cases ru
  obtain ⟨o, es, ep, t, ho, hx, hd, _, _, hb, hf, hn⟩ := (show s.heap.SetOf (intKind X.prog X.w) a S n from I.hok a _ ha)
  subst hn
  have small : es.size < 4096 := hb
  exact PySem.call_len_set ho hx hd hf (by omega) ⟨.int _, H, I.tok _, ⟨_, rfl⟩, q⟩
def rLenK (K : PySem.W.Frag) : List V → Hp → VK → Prop := fun xs H Q => ∃ p ys, xs = [.ref p] ∧ (SqL K H p ys ∨ SqT K H p ys) ∧ Q (.int ys.length) H
theorem cr_lenK {K : PySem.W.Frag} (e : X.K = K) : CallR X (.builtin "len") (rLenK K) := by
  subst e
  exact call_len_seq
end
end MM

set_option Elab.async false
set_option linter.all false
set_option maxRecDepth 100000
set_option maxHeartbeats 2000000
/-! sets of ints that grow: the rules with the world by its name -/
namespace MM
open PySem PySem.Spec PyProof.Rows L2
section
variable {X : Cx} {w : World}
theorem cr_set0W (e : X.w = w) : CallR X (.type "set") (rSet0 w) := by
  subst e
  exact cr_set0
theorem or_sinW (e : X.w = w) : OpR X (compareOp .In) (rSIn w) := by
  subst e
  exact or_sin
theorem or_snotinW (e : X.w = w) : OpR X (compareOp .NotIn) (rSNotIn w) := by
  subst e
  exact or_snotin
variable {o e : Expr} {es : List Expr} {to : TE} {t : TA} {apos cpos : Pos}
theorem pe_saddW (ew : X.w = w) (ho : PE X o to) (ha : PA X (e :: es) t)
    (hbase : attributeBase o "add" X.env (eval o X.env) = eval o X.env := by rfl)
    (hfew : ((backTo cpos (starEach (e :: es) X.env)).all (fun x => !x.1) && (backToKw cpos (keywordEach [] X.env)).all (fun x => x.1.isSome)
      && decide ((e :: es).length + ([] : List Keyword).length + (if ([] : List Keyword).isEmpty then 0 else 1) < 30)) = true := by rfl)
    (hline : (apos.endLine == cpos.line) = true := by rfl) (hs : starEach (e :: es) X.env = (false, eval e X.env) :: starEach es X.env := by rfl) (hplain : (backTo cpos (starEach es X.env)).any (·.1) = false := by rfl) :
    PE X (.Call (.Attribute o "add" apos) (e :: es) [] cpos) (tSAdd w to t) := by
  subst ew
  exact pe_sadd ho ha hbase hfew hline hs hplain
end
end MM

set_option Elab.async false
set_option linter.all false
set_option maxRecDepth 100000
set_option maxHeartbeats 2000000
namespace MM
open PySem PySem.Spec PyProof.Rows L2
/-! math.lcm -/
section
variable {X : Cx}
def rLcm : List V → Hp → VK → Prop := fun vs H Q => ∃ a b : Int, vs = [.int a, .int b] ∧ a.natAbs < 2 ^ 13000 ∧ b.natAbs < 2 ^ 13000 ∧ Q (.int ((Nat.lcm a.natAbs b.natAbs : Nat) : Int)) H
theorem log_ok {n : Nat} (h : n < 2 ^ 13000) : ¬ n.log2 / 30 + 1 > 450 := by
  have := PySem.W.mg_log (n := n) (k := 12999) h
  omega
theorem lcm_ok {a b : Nat} (ha : a < 2 ^ 13000) (hb : b < 2 ^ 13000) : (Nat.lcm a b).log2 < bitsLine := by
  have h1 : Nat.lcm a b ≤ a * b := Nat.div_le_self _ _
  have h2 : a * b < 2 ^ 26000 := by
    rw [show (26000 : Nat) = 13000 + 13000 from rfl, Nat.pow_add]
    exact Nat.mul_lt_mul'' ha hb
  have h3 := PySem.W.mg_log (n := Nat.lcm a b) (k := 25999) (Nat.lt_of_le_of_lt h1 h2)
  exact Nat.lt_of_le_of_lt h3 (by decide +kernel)
theorem cr_lcm : CallR X (.builtin "math.lcm") rLcm := by
  intro pins s σ H vs us Q I r h
  obtain ⟨a, b, rfl, ha, hb, q⟩ := h
  obtain ⟨t, u, rfl⟩ := Vals.int2 r
  have e : (Nat.lcm 1 a.natAbs).lcm b.natAbs = Nat.lcm a.natAbs b.natAbs := by rw [Nat.lcm_one_left]
  refine PySem.call_function_meets PySem.W.MGF.kind_lcm PySem.W.MGF.plain_lcm PySem.W.MGF.entry_lcm (PySem.W.MGF.args_lcm _ _) (PySem.W.mg_run_lcm a t b u (log_ok ?_) (log_ok ?_) ?_).meets ?_
  · exact Nat.max_lt.mpr ⟨by exact Nat.one_lt_two_pow (by decide), ha⟩
  · exact Nat.max_lt.mpr ⟨ha, hb⟩
  · rw [e, Int.natAbs_natCast]
    exact lcm_ok ha hb
  · rw [e]
    exact ⟨.int _, H, I.tok _, ⟨_, rfl⟩, q⟩
/-- // by a divisor that is not 0 -/
def CDivG (_ j : Int) : Prop := j ≠ 0 ∧ j.natAbs.log2 < 9000
theorem op_fdivG : OpR X (binaryOp .FloorDiv) (rI CDivG fun i j => .int (i.fdiv j)) := opI fun i j _ _ _ _ _ hc q =>
  floordiv_int hc.1 q (.inl (PyProof.noPylong_of_log2 hc.2))
theorem divG {i j : Int} (h0 : j ≠ 0) (h : j.natAbs < 2 ^ 8999) : CDivG i j := ⟨h0, Nat.lt_of_lt_of_le (PySem.Flt.log2_lt_of (by decide) h) (by decide)⟩
end
end MM

set_option Elab.async false
set_option linter.all false
set_option maxRecDepth 100000
set_option maxHeartbeats 2000000
/-! more comprehensions: over enumerate, with a test -/
namespace MM
open PySem PySem.Spec PyProof.Rows L2
section
variable {K : PySem.W.Frag} {v : Nat} {g : TG} {tt : TT} {te : TE} {vs : List Nat} {σ : L2.St} {H1 : Hp} {D : Addr} {Qd : Hp → Prop} {n : Nat} {a : Addr} {xs : List V}
/-- what a comprehension asks of a turn with the item x -/
def LcT (g : TG) (tt : TT) (te : TE) (vs : List Nat) (σ : L2.St) (D : Addr) (Nx : Hp → Prop) (x : V) (H : Hp) : Prop :=
  g x (wipe σ vs) H fun σ2 H2 => wipe σ2 vs = wipe σ vs ∧ tt σ2 H2 fun b H3 =>
    if b = true then te σ2 H3 fun y H4 => ∃ acc, H4 D = some (.lst acc) ∧ acc.length < sizeLine ∧ Nx (upd H4 D (.lst (acc ++ [y]))) else Nx H3
theorem lc_enumT (Pv : Nat → Hp → Prop) (h0 : Pv 0 (upd H1 D (.lst []))) (at_a : ∀ i H, i ≤ xs.length → Pv i H → SqT K H a xs)
    (hs : ∀ i x H T, xs[i]? = some x → Pv i H → H T = none → LcT g tt te vs σ D (Pv (i + 1)) (.ref T) (upd H T (.tup [.int (i : Nat), x])))
    (hd : ∀ H, Pv xs.length H → Qd H) : LcW (Itu K a) g tt te vs σ H1 D Qd := by
  refine ⟨fun i m H => m = xs.length - i ∧ i ≤ xs.length ∧ Pv i H, ⟨_, rfl, Nat.zero_le _, h0⟩, ?_⟩
  rintro i m H ⟨rfl, le, p⟩
  by_cases lt : i < xs.length
  · have ex := List.getElem?_eq_getElem lt
    refine .inr ⟨⟨xs, _, at_a i H le p, ex⟩, Pv (i + 1), fun H' p' => ⟨_, by omega, rfl, lt, p'⟩, ?_⟩
    rintro v H' ⟨T, x, rfl, free, rfl, all⟩
    exact hs i x H T (all xs (at_a i H le p)) p free
  · have e : i = xs.length := by omega
    subst e
    exact .inl ⟨⟨xs, at_a _ H le p, Nat.le_refl _⟩, hd H p⟩
theorem lc_enumL (Pv : Nat → Hp → Prop) (h0 : Pv 0 (upd H1 D (.lst []))) (at_a : ∀ i H, i ≤ xs.length → Pv i H → SqL K H a xs)
    (hs : ∀ i x H T, xs[i]? = some x → Pv i H → H T = none → LcT g tt te vs σ D (Pv (i + 1)) (.ref T) (upd H T (.tup [.int (i : Nat), x])))
    (hd : ∀ H, Pv xs.length H → Qd H) : LcW (Ite K a) g tt te vs σ H1 D Qd := by
  refine ⟨fun i m H => m = xs.length - i ∧ i ≤ xs.length ∧ Pv i H, ⟨_, rfl, Nat.zero_le _, h0⟩, ?_⟩
  rintro i m H ⟨rfl, le, p⟩
  by_cases lt : i < xs.length
  · have ex := List.getElem?_eq_getElem lt
    refine .inr ⟨⟨xs, _, at_a i H le p, ex⟩, Pv (i + 1), fun H' p' => ⟨_, by omega, rfl, lt, p'⟩, ?_⟩
    rintro v H' ⟨T, x, rfl, free, rfl, all⟩
    exact hs i x H T (all xs (at_a i H le p)) p free
  · have e : i = xs.length := by omega
    subst e
    exact .inl ⟨⟨xs, at_a _ H le p, Nat.le_refl _⟩, hd H p⟩
theorem filt_step {xs : List V} {i : Nat} {x : V} (hi : xs[i]? = some x) (p : V → Bool) (f : V → V) :
    ((xs.take (i + 1)).filter p).map f = ((xs.take i).filter p).map f ++ (if p x = true then [f x] else []) := by
  rw [List.take_add_one, hi, List.filter_append, List.map_append]
  cases e : p x <;> simp [e]
/-- with a test -/
theorem lc_seqF (p : V → Bool) (f : V → V) (hx : SqL K H1 a xs) (nD : H1 D = none) (hn : xs.length ≤ sizeLine)
    (ht : ∀ x acc, x ∈ xs → ∀ Q : Bool → Hp → Prop, Q (p x) (upd H1 D (.lst acc)) → tt ((wipe σ [v]).set v (some x)) (upd H1 D (.lst acc)) Q)
    (hs : ∀ x acc, x ∈ xs → p x = true → ∀ Q : VK, Q (f x) (upd H1 D (.lst acc)) → te ((wipe σ [v]).set v (some x)) (upd H1 D (.lst acc)) Q)
    (hd : Qd (upd H1 D (.lst ((xs.filter p).map f)))) : LcW (Itl K a) (gName v) tt te [v] σ H1 D Qd := by
  refine lc_list (xs := xs) (Pv := fun i H => H = upd H1 D (.lst (((xs.take i).filter p).map f))) rfl (fun i H _ e => by rw [e]; exact sql_new hx nD) ?_ (fun H e => by rw [e, List.take_length]; exact hd)
  intro i x H hi e
  subst e
  have lt : i < xs.length := (List.getElem?_eq_some_iff.mp hi).1
  have le : (((xs.take i).filter p).map f).length ≤ i := by
    rw [List.length_map]
    exact Nat.le_trans (List.length_filter_le _ _) (by rw [List.length_take]; omega)
  refine ⟨wipe_one, ht x _ (List.mem_of_getElem? hi) _ ?_⟩
  have st := filt_step hi p f
  cases e : p x with
  | true =>
    rw [if_pos rfl]
    refine hs x _ (List.mem_of_getElem? hi) e _ ⟨_, upd_same, Nat.lt_of_le_of_lt le (Nat.lt_of_lt_of_le lt hn), ?_⟩
    rw [upd_upd, st, if_pos e]
  | false =>
    rw [if_neg Bool.false_ne_true, st, if_neg (by rw [e]; exact Bool.false_ne_true), List.append_nil]
theorem lc_tplF (p : V → Bool) (f : V → V) (hx : SqT K H1 a xs) (nD : H1 D = none) (hn : xs.length ≤ sizeLine)
    (ht : ∀ x acc, x ∈ xs → ∀ Q : Bool → Hp → Prop, Q (p x) (upd H1 D (.lst acc)) → tt ((wipe σ [v]).set v (some x)) (upd H1 D (.lst acc)) Q)
    (hs : ∀ x acc, x ∈ xs → p x = true → ∀ Q : VK, Q (f x) (upd H1 D (.lst acc)) → te ((wipe σ [v]).set v (some x)) (upd H1 D (.lst acc)) Q)
    (hd : Qd (upd H1 D (.lst ((xs.filter p).map f)))) : LcW (Itt K a) (gName v) tt te [v] σ H1 D Qd := by
  refine lc_tup (xs := xs) (Pv := fun i H => H = upd H1 D (.lst (((xs.take i).filter p).map f))) rfl (fun i H _ e => by rw [e]; exact sqt_new hx nD) ?_ (fun H e => by rw [e, List.take_length]; exact hd)
  intro i x H hi e
  subst e
  have lt : i < xs.length := (List.getElem?_eq_some_iff.mp hi).1
  have le : (((xs.take i).filter p).map f).length ≤ i := by
    rw [List.length_map]
    exact Nat.le_trans (List.length_filter_le _ _) (by rw [List.length_take]; omega)
  refine ⟨wipe_one, ht x _ (List.mem_of_getElem? hi) _ ?_⟩
  have st := filt_step hi p f
  cases e : p x with
  | true =>
    rw [if_pos rfl]
    refine hs x _ (List.mem_of_getElem? hi) e _ ⟨_, upd_same, Nat.lt_of_le_of_lt le (Nat.lt_of_lt_of_le lt hn), ?_⟩
    rw [upd_upd, st, if_pos e]
  | false =>
    rw [if_neg Bool.false_ne_true, st, if_neg (by rw [e]; exact Bool.false_ne_true), List.append_nil]
end
end MM
namespace MM
open PySem PySem.Spec PyProof.Rows L2
section
variable {K : PySem.W.Frag} {H : Hp} {Q : VK}
theorem slA {a : Addr} {xs : List V} {lo hi : Option Int} (S : SqT K H a xs) (q : ∀ H' t, Same H H' → SqT K H' t (cutV xs lo hi) → Q (.ref t) H') : rSlA K (.ref a) lo hi H Q := by
  refine ⟨a, xs, rfl, S, fun h => ?_, fun _ p np => q _ p (same_new np) (.inl (.inl upd_same))⟩
  refine q H a (Same.refl H) ?_
  have : cutV xs lo hi = xs := by
    unfold cutV
    rw [h.1, h.2, List.drop_zero, Nat.sub_zero, List.take_length]
  rw [this]
  exact S
theorem catA {a b : Addr} {xs ys : List V} (S : SqT K H a xs) (S2 : SqT K H b ys) (z : xs.length + ys.length ≤ sizeLine) (q : ∀ H' t, Same H H' → SqT K H' t (xs ++ ys) → Q (.ref t) H') : rCatA K (.ref a) (.ref b) H Q := by
  refine ⟨a, b, xs, ys, rfl, rfl, S, S2, z, fun h => ?_, fun _ h => ?_, fun _ _ p np => q _ p (same_new np) (.inl (.inl upd_same))⟩
  · exact q H b (Same.refl H) (by rw [h]; exact S2)
  · exact q H a (Same.refl H) (by rw [h, List.append_nil]; exact S)
end
end MM

set_option Elab.async false
set_option linter.all false
set_option maxRecDepth 100000
set_option maxHeartbeats 2000000
namespace K04
open PySem PySem.Spec PyProof.Rows L2 MM
def topS (i : Nat) : Stmt := PySem.Challenge.pw_movemarks_k04_whole_products_powers_and.main.body.getD i (.Pass ⟨0, 0, 0, 0⟩)
/-! own words for the readings: a step, its side -/
local macro_rules | `(tactic| walk_at "side") => `(tactic| first
  | omega
  | exact ⟨by omega, by omega⟩
  | exact Or.inl ⟨by omega, by omega⟩
  | exact Or.inr ⟨by omega, by omega⟩
  | (show CPw _ _; decide +kernel)
  | (show (0 : Int) < _; decide +kernel)
  | (show CDivW _ _; first | assumption | exact ⟨by decide, by decide +kernel⟩))
local macro_rules | `(tactic| walk_at "here") => `(tactic| first
  | assumption
  | exact upd_same
  | exact Or.inl (Or.inl upd_same)
  | exact Or.inl upd_same)
local macro_rules | `(tactic| walk_at "one") => `(tactic| first
  | refine ⟨_, rfl, ?_⟩
  | refine Or.inl ⟨_, rfl, ?_⟩
  | refine Or.inr ⟨_, rfl, ?_⟩
  | refine ⟨_, _, rfl, rfl, (by walk_at "side"), ?_⟩
  | refine ⟨_, _, rfl, rfl, ?_⟩
  | refine ⟨_, _, rfl, Or.inl (by walk_at "here"), ?_⟩
  | refine ⟨_, _, rfl, Or.inr (by walk_at "here"), ?_⟩
  | refine ⟨_, _, rfl, (by walk_at "here"), ?_⟩
  | refine ⟨_, _, _, _, rfl, rfl, (by walk_at "here"), rfl, ?_⟩
  | refine ⟨_, _, rfl, ?_⟩
  | refine ifT (by rfl) ?_
  | refine ifF (by rfl) ?_
  | refine ifT (decide_eq_true (by omega)) ?_
  | refine ifF (decide_eq_false (by omega)) ?_)
local macro_rules | `(tactic| walk_at "st") => `(tactic| repeat (walk_at "one"))

abbrev sIsWhole : Stmt := topS 7
abbrev sIsBetween : Stmt := topS 8
abbrev sNeedBetween : Stmt := topS 9
abbrev sIsArrangement : Stmt := topS 13
abbrev sNeedPlaces : Stmt := topS 14
abbrev sIsMove : Stmt := topS 15
abbrev sUnitOf : Stmt := topS 16
abbrev sNeedMove : Stmt := topS 17
abbrev sNeedPair : Stmt := topS 18
abbrev sFollowed : Stmt := topS 19
abbrev sTurnedBack : Stmt := topS 20
abbrev sProductOf : Stmt := topS 21
abbrev sUndone : Stmt := topS 22
abbrev sCyclesU : Stmt := topS 23
abbrev sPowerOf : Stmt := topS 24
abbrev sOrderOf : Stmt := topS 25
abbrev sSignOf : Stmt := topS 26
abbrev sCycles : Stmt := topS 27
abbrev sStillPlaces : Stmt := topS 28
abbrev sNeedRings : Stmt := topS 29
abbrev sMoveOfCycles : Stmt := topS 30
abbrev sBagL : Stmt := topS 32
abbrev sGrabL : Stmt := topS 33
abbrev sOneOfL : Stmt := topS 34
abbrev sMixedL : Stmt := topS 35
abbrev sLotTimesL : Stmt := topS 36
abbrev sLotUndoneL : Stmt := topS 37
abbrev sLineShareL : Stmt := topS 38
abbrev sOwnRingsL : Stmt := topS 39
abbrev sOwnMultipleL : Stmt := topS 40
abbrev sOwnPowerL : Stmt := topS 41
abbrev sOwnSignL : Stmt := topS 42
abbrev sSomeMoveL : Stmt := topS 43
abbrev sMovesRightL : Stmt := topS 44
abbrev sRingsRightL : Stmt := topS 45
abbrev sJudgedRightL : Stmt := topS 46
abbrev sLaw : Stmt := topS 47
structure Tx (K : PySem.W.Frag) (mg : Str → Option Value) : Prop where
  t_is_whole : At K mg "is_whole" sIsWhole
  t_is_between : At K mg "is_between" sIsBetween
  t_need_between : At K mg "need_between" sNeedBetween
  t_is_arrangement : At K mg "is_arrangement" sIsArrangement
  t_need_places : At K mg "need_places" sNeedPlaces
  t_is_move : At K mg "is_move" sIsMove
  t_unit_of : At K mg "unit_of" sUnitOf
  t_need_move : At K mg "_need_move" sNeedMove
  t_need_pair : At K mg "_need_pair" sNeedPair
  t_followed : At K mg "followed" sFollowed
  t_turned_back : At K mg "turned_back" sTurnedBack
  t_product_of : At K mg "product_of" sProductOf
  t_undone : At K mg "undone" sUndone
  t_cyclesU : At K mg "_cycles" sCyclesU
  t_power_of : At K mg "power_of" sPowerOf
  t_order_of : At K mg "order_of" sOrderOf
  t_sign_of : At K mg "sign_of" sSignOf
  t_cycles : At K mg "cycles" sCycles
  t_still_places : At K mg "still_places" sStillPlaces
  t_need_rings : At K mg "_need_rings" sNeedRings
  t_move_of_cycles : At K mg "move_of_cycles" sMoveOfCycles
  t_law_bag : At K mg "_law_bag" sBagL
  t_law_grab : At K mg "_law_grab" sGrabL
  t_law_one_of : At K mg "_law_one_of" sOneOfL
  t_law_mixed : At K mg "_law_mixed" sMixedL
  t_law_lot_times : At K mg "_law_lot_times" sLotTimesL
  t_law_lot_undone : At K mg "_law_lot_undone" sLotUndoneL
  t_law_line_share : At K mg "_law_line_share" sLineShareL
  t_law_own_rings : At K mg "_law_own_rings" sOwnRingsL
  t_law_own_multiple : At K mg "_law_own_multiple" sOwnMultipleL
  t_law_own_power : At K mg "_law_own_power" sOwnPowerL
  t_law_own_sign : At K mg "_law_own_sign" sOwnSignL
  t_law_some_move : At K mg "_law_some_move" sSomeMoveL
  t_law_moves_right : At K mg "_law_moves_right" sMovesRightL
  t_law_rings_right : At K mg "_law_rings_right" sRingsRightL
  t_law_judged_right : At K mg "_law_judged_right" sJudgedRightL
  t_law : At K mg "law" sLaw
  f_abs : mg "abs" = none
  f_all : mg "all" = none
  f_bool : mg "bool" = none
  f_enumerate : mg "enumerate" = none
  f_int : mg "int" = none
  f_isinstance : mg "isinstance" = none
  f_len : mg "len" = none
  f_list : mg "list" = none
  f_max : mg "max" = none
  f_min : mg "min" = none
  f_range : mg "range" = none
  f_set : mg "set" = none
  f_str : mg "str" = none
  f_sum : mg "sum" = none
  f_tuple : mg "tuple" = none
  c_MAX_PLACES : ∃ u, mg "MAX_PLACES" = some u ∧ RelV (.int (24)) u
  c_MAX_POWER : ∃ u, mg "MAX_POWER" = some u ∧ RelV (.int (10 ^ 30)) u
  b_lcm : mg "lcm" = some (.builtin "math.lcm")

section
variable {P : Program} {w : World} {K : PySem.W.Frag} {mg : Str → Option Value} {base : Heap}
/-- a bag of draws -/
def BagAt (H : Hp) (p : Addr) : Prop := ∃ g m c : Int, H p = some (.lst [.int g, .int m, .int c])
def spBag (K : PySem.W.Frag) : Sp := fun vs H Q _ => ∃ (a : Addr) (n : Nat) (ns : List Int), vs = [.ref a, .int n] ∧ SqL K H a (ns.map V.int) ∧ n ≤ 100 ∧
  ∀ (H' : Hp) (p : Addr), Same H H' → H p = none → BagAt H' p → Q (.ref p) H'
theorem scBagL : FnScope ["_law_script", "_law_spot", "_law_cell", "_law_great", "_law_mixed_here"] ["_law_script", "_law_spot"] (defScope sBagL) :=
  ⟨rfl, rfl, rfl, by decide +kernel, rfl, by decide +kernel, by decide +kernel⟩
theorem dBagL (T : Tx K mg) : Def P w K mg base CX0 1 "_law_bag" ["_law_script", "_law_spot"] (spBag K) := by
  refine T.t_law_bag.def_ (N := ["_law_script", "_law_spot", "_law_cell", "_law_great", "_law_mixed_here"]) scBagL (fun _ _ _ _ _ _ us hl => match us, hl with | [_, _], _ => rfl) ?_ ?_
  · intro vs H Q E h
    obtain ⟨a, n, ns, rfl, _⟩ := h
    rfl
  · intro f cd A out s H vs Q E hr h
    obtain ⟨a, n, ns, rfl, hS, hn, q⟩ := h
    refine ⟨_, (pss_cons (ps_set (i := 2) scBagL.nd rfl (Or.inl rfl) (pe_ifExp (pt_cmpR op_lt (pv 1) (pe_callB call_len_seq rfl T.f_len (by decide +kernel) (pa_cons (pv 0) pa_nil)) (nomark _)) (pe_ix ix_list (pv 0) (pv 1) (fun _ _ => rfl)) (pe_op op_add (pe_op op_add (pe_callB (cr_sum rfl) rfl T.f_sum (by decide +kernel) (pa_cons (pe_slice sl_list (pv 0) po_none (po_some pe_int)) pa_nil)) (pe_op op_mul pe_int (pv 1))) pe_int)))
      (pss_cons (ps_set (i := 3) scBagL.nd rfl (Or.inl rfl) (pe_op op_mod (pe_callTy call_int1 rfl T.f_int (by decide +kernel) (pa_cons (pe_callB call_abs rfl T.f_abs (by decide +kernel) (pa_cons (pv 2) pa_nil)) pa_nil)) (pe_op op_pw (pe_op op_pw pe_int pe_int) pe_int)))
      (pss_cons (ps_set (i := 4) scBagL.nd rfl (Or.inl rfl) (pe_op op_add (pe_op op_add (pe_op op_add (pe_op op_mul (pe_op op_mod (pe_callTy call_int1 rfl T.f_int (by decide +kernel) (pa_cons (pv 3) pa_nil)) pe_int) pe_int) (pe_op op_mul pe_int (pv 1))) (pe_op op_mul pe_int (pe_callTy call_int1 rfl T.f_int (by decide +kernel) (pa_cons (pe_cmpR op_lt (pv 2) pe_int (nomark _)) pa_nil)))) pe_int))
      (pss_one (ps_ret (pe_lst (pa_cons (pe_callB (call_max2 rfl) rfl T.f_max (by decide +kernel) (pa_cons pe_int (pa_cons (pe_op op_sub (pv 3) (pe_op op_pw pe_int pe_int)) pa_nil))) (pa_cons (pe_op op_mod (pe_callTy call_int1 rfl T.f_int (by decide +kernel) (pa_cons (pv 4) pa_nil)) pe_int) (pa_cons pe_int pa_nil))))))))), ?_⟩
    -- behind the cell: whatever it is
    have fin : ∀ (H1 : Hp) (u v : Int), Same H H1 → ∀ p, H1 p = none → Q (.ref p) (upd H1 p (.lst [.int u, .int v, .int 0])) := by
      intro H1 u v sm p hp
      refine q _ p ?_ (sm.free hp) ⟨u, v, 0, upd_same⟩
      intro b o e
      rw [upd_ne (ne_of_none (sm b o e) hp)]
      exact sm b o e
    walk_at "st"
    refine ite2 (fun c => ?_) (fun c => ?_)
    · have lt : n < ns.length := by
        have := of_decide_eq_true c
        rw [List.length_map] at this
        omega
      refine ⟨_, rfl, _, rfl, a, _, _, _, rfl, rfl, hS, atI_cell lt, ?_⟩
      walk_at "st"
      exact ⟨by show 3 ≤ sizeLine; decide, fin H _ _ (Same.refl H)⟩
    · walk_at "st"
      intro p hp
      have sm : Same H (upd H p (.lst (cutV (ns.map V.int) none (some 1)))) := by
        intro b o e
        rw [upd_ne (ne_of_none e hp)]
        exact e
      have ec : cutV (ns.map V.int) none (some 1) = (ns.take 1).map V.int := by
        unfold cutV
        rw [HT.sIx_none, show HT.sIx (ns.map V.int).length (ns.map V.int).length (some 1) = min 1 (ns.map V.int).length from HT.sIx_nat _ _ 1, List.map_take, List.drop_zero, Nat.sub_zero]
        cases ns with
        | nil => rfl
        | cons x r => simp
      refine ⟨_, ns.take 1, rfl, ?_, ?_⟩
      · rw [← ec]
        exact .inl (.inl upd_same)
      walk_at "st"
      exact ⟨by show 3 ≤ sizeLine; decide, fin _ _ _ sm⟩
def spGrab : Sp := fun vs H Q _ => ∃ (p : Addr) (t g m c : Int), vs = [.ref p, .int t] ∧ H p = some (.lst [.int g, .int m, .int c]) ∧ CDivW 0 t ∧
  ∀ r g' m' c' : Int, 0 ≤ r → r < t → Q (.int r) (upd H p (.lst [.int g', .int m', .int c']))
theorem grab_out {H : Hp} {p : Addr} {t r : Int} {xs : List V} {Q : VK} (q : ∀ r g' m' c' : Int, 0 ≤ r → r < t → Q (.int r) (upd H p (.lst [.int g', .int m', .int c'])))
    (ht : 0 < t) (z : Int) (e : r = z % t) (ex : ∃ g' m' c', xs = [V.int g', V.int m', V.int c']) : Q (.int r) (upd H p (.lst xs)) := by
  obtain ⟨g', m', c', rfl⟩ := ex
  rw [e]
  exact q _ _ _ _ (Int.emod_nonneg _ (by omega)) (Int.emod_lt_of_pos _ ht)
theorem scGrabL : FnScope ["_law_bag_here", "_law_total", "_law_found", "_law_one", "_law_two"] ["_law_bag_here", "_law_total"] (defScope sGrabL) :=
  ⟨rfl, rfl, rfl, by decide +kernel, rfl, by decide +kernel, by decide +kernel⟩
theorem dGrabL (T : Tx K mg) : Def P w K mg base CX0 1 "_law_grab" ["_law_bag_here", "_law_total"] spGrab := by
  refine T.t_law_grab.def_ (N := ["_law_bag_here", "_law_total", "_law_found", "_law_one", "_law_two"]) scGrabL (fun _ _ _ _ _ _ us hl => match us, hl with | [_, _], _ => rfl) ?_ ?_
  · intro vs H Q E h
    obtain ⟨p, t, g, m, c, rfl, _⟩ := h
    rfl
  · intro f cd A out s H vs Q E hr h
    obtain ⟨p, t, g, m, c, rfl, hp, ht, q⟩ := h
    have ht0 : 0 < t := ht.1
    have hS : SqL K H p _ := .inl (.inl hp)
    have hd : ∀ i, CDivW i t := fun _ => ht
    refine ⟨_, (pss_cons (ps_if (pt_cmpR op_gt (pe_ix ix_list (pv 0) pe_int (fun _ _ => rfl)) pe_int (nomark _)) (pss_cons (ps_set (i := 2) scGrabL.nd rfl (Or.inl rfl) (pe_op op_mod (pe_callTy call_int1 rfl T.f_int (by decide +kernel) (pa_cons (pe_ix ix_list (pv 0) pe_int (fun _ _ => rfl)) pa_nil)) (pv 1)))
        (pss_cons (ps_asg (pe_op op_fdivW (pe_ix ix_list (pv 0) pe_int (fun _ _ => rfl)) (pv 1)) (pg_sub (pv 0) pe_int set_list))
        (pss_one (ps_ret (pv 2))))) pss_nil)
      (pss_cons (ps_asg (pe_op op_add (pe_ix ix_list (pv 0) pe_int (fun _ _ => rfl)) pe_int) (pg_sub (pv 0) pe_int set_list))
      (pss_cons (ps_set (i := 3) scGrabL.nd rfl (Or.inl rfl) (pe_op op_mod (pe_callTy call_int1 rfl T.f_int (by decide +kernel) (pa_cons (pe_op op_add (pe_ix ix_list (pv 0) pe_int (fun _ _ => rfl)) (pe_op op_mul pe_int (pe_ix ix_list (pv 0) pe_int (fun _ _ => rfl)))) pa_nil)) pe_int))
      (pss_cons (ps_set (i := 4) scGrabL.nd rfl (Or.inl rfl) (pe_op op_add (pe_op op_mul (pe_op op_mod (pe_callTy call_int1 rfl T.f_int (by decide +kernel) (pa_cons (pe_op op_mul (pv 3) (pv 3)) pa_nil)) pe_int) (pv 3)) (pe_op op_mul pe_int (pe_ix ix_list (pv 0) pe_int (fun _ _ => rfl)))))
      (pss_one (ps_ret (pe_op op_mod (pe_callTy call_int1 rfl T.f_int (by decide +kernel) (pa_cons (pe_op op_fdivW (pe_op op_mod (pe_callTy call_int1 rfl T.f_int (by decide +kernel) (pa_cons (pv 4) pa_nil)) pe_int) pe_int) pa_nil)) (pv 1)))))))), ?_⟩
    walk_at "st"
    refine ite2 (fun c => ?_) (fun c => ?_)
    · walk_at "st"
      refine grab_out q ht0 g rfl ⟨_, _, _, rfl⟩
    · walk_at "st"
      refine grab_out q ht0 _ rfl ⟨_, _, _, rfl⟩
theorem sql_upd {K : PySem.W.Frag} {H : Hp} {p l : Addr} {xs : List V} {o : HO} (h : SqL K H l xs) (ne : l ≠ p) : SqL K (upd H p o) l xs := by
  rcases h with (h | ⟨u, h⟩) | h
  · exact .inl (.inl (by rw [upd_ne ne]; exact h))
  · exact .inl (.inr ⟨u, by rw [upd_ne ne]; exact h⟩)
  · exact .inr h
theorem at_in {xs : List V} {r : Int} (h0 : 0 ≤ r) (h1 : r < xs.length) : ∃ v, v ∈ xs ∧ atI xs r = some v := by
  have lt : r.toNat < xs.length := by omega
  refine ⟨xs[r.toNat], List.getElem_mem lt, ?_⟩
  have e : ((r.toNat : Nat) : Int) = r := by omega
  have q := atI_nat (xs := xs) (j := r.toNat) (List.getElem?_eq_getElem lt)
  rw [e] at q
  exact q
theorem div_small {n : Nat} (h0 : 0 < n) (h : n ≤ 100000) : CDivW 0 (n : Int) := by
  refine wide_div (b := 20) (by omega) ?_ (by decide) (by decide)
  have e : ((n : Int)).natAbs = n := Int.natAbs_natCast n
  rw [e]
  exact Nat.lt_of_le_of_lt h (by decide)
def spOneOf (K : PySem.W.Frag) : Sp := fun vs H Q _ => ∃ (p l : Addr) (g m c : Int) (xs : List V), vs = [.ref p, .ref l] ∧ H p = some (.lst [.int g, .int m, .int c]) ∧ SqL K H l xs ∧
  l ≠ p ∧ 0 < xs.length ∧ xs.length ≤ 1000 ∧ ∀ v g' m' c', v ∈ xs → Q v (upd H p (.lst [.int g', .int m', .int c']))
theorem scOneOfL : FnScope ["_law_bag_here", "_law_items"] ["_law_bag_here", "_law_items"] (defScope sOneOfL) :=
  ⟨rfl, rfl, rfl, by decide +kernel, rfl, by decide +kernel, by decide +kernel⟩
theorem dOneOfL (T : Tx K mg) (DGrabL : Def P w K mg base CX0 1 "_law_grab" ["_law_bag_here", "_law_total"] spGrab) : Def P w K mg base CX0 2 "_law_one_of" ["_law_bag_here", "_law_items"] (spOneOf K) := by
  refine T.t_law_one_of.def_ (N := ["_law_bag_here", "_law_items"]) scOneOfL (fun _ _ _ _ _ _ us hl => match us, hl with | [_, _], _ => rfl) ?_ ?_
  · intro vs H Q E h
    obtain ⟨p, l, g, m, c, xs, rfl, _⟩ := h
    rfl
  · intro f cd A out s H vs Q E hr h
    have hr1 : Rm 1 _ := hr.le (by decide)
    obtain ⟨p, l, g, m, c, xs, rfl, hp, hS, ne, h0, h1, q⟩ := h
    refine ⟨_, (pss_one (ps_ret (pe_ix ix_list (pv 1) (pe_d DGrabL (hr1.le (by decide)) pass0 (pa_cons (pv 0) (pa_cons (pe_callB call_len_seq rfl T.f_len (by decide +kernel) (pa_cons (pv 1) pa_nil)) pa_nil))) (fun _ _ => rfl)))), ?_⟩
    walk_at "st"
    refine ⟨p, _, g, m, c, rfl, hp, div_small h0 (by omega), fun r g' m' c' r0 r1 => ?_⟩
    obtain ⟨v, hv, e⟩ := at_in r0 r1
    exact ⟨_, _, _, v, rfl, rfl, sql_upd hS ne, e, q v g' m' c' hv⟩
end
end K04


set_option Elab.async false
set_option linter.all false
set_option maxRecDepth 100000
set_option maxHeartbeats 2000000
namespace K04
open PySem PySem.Spec PyProof.Rows L2 MM
/-! own words for the readings: a step, its side -/
local macro_rules | `(tactic| walk_at "side") => `(tactic| first
  | omega
  | exact ⟨by omega, by omega⟩
  | exact Or.inl ⟨by omega, by omega⟩
  | exact Or.inr ⟨by omega, by omega⟩
  | (show CPw _ _; decide +kernel)
  | (show (0 : Int) < _; decide +kernel)
  | (show CDivW _ _; first | assumption | exact ⟨by decide, by decide +kernel⟩))
local macro_rules | `(tactic| walk_at "here") => `(tactic| first
  | assumption
  | exact upd_same
  | exact Or.inl (Or.inl upd_same)
  | exact Or.inl upd_same)
local macro_rules | `(tactic| walk_at "one") => `(tactic| first
  | refine ⟨_, rfl, ?_⟩
  | refine Or.inl ⟨_, rfl, ?_⟩
  | refine Or.inr ⟨_, rfl, ?_⟩
  | refine ⟨_, _, rfl, rfl, (by walk_at "side"), ?_⟩
  | refine ⟨_, _, rfl, rfl, ?_⟩
  | refine ⟨_, _, rfl, Or.inl (by walk_at "here"), ?_⟩
  | refine ⟨_, _, rfl, Or.inr (by walk_at "here"), ?_⟩
  | refine ⟨_, _, rfl, (by walk_at "here"), ?_⟩
  | refine ⟨_, _, _, _, rfl, rfl, (by walk_at "here"), rfl, ?_⟩
  | refine ⟨_, _, rfl, ?_⟩
  | refine ifT (by rfl) ?_
  | refine ifF (by rfl) ?_
  | refine ifT (decide_eq_true (by omega)) ?_
  | refine ifF (decide_eq_false (by omega)) ?_)
local macro_rules | `(tactic| walk_at "st") => `(tactic| repeat (walk_at "one"))

section
variable {P : Program} {w : World} {K : PySem.W.Frag} {mg : Str → Option Value} {base : Heap}
def spIsWhole (K : PySem.W.Frag) : Sp := fun vs H Q _ => ∃ x n, vs = [x] ∧ Kd K H x n ∧ Q (.bl (isW x)) H
theorem scIsWhole : FnScope ["value"] ["value"] (defScope sIsWhole) :=
  ⟨rfl, rfl, rfl, by decide +kernel, rfl, by decide +kernel, by decide +kernel⟩
theorem dIsWhole (T : Tx K mg) : Def P w K mg base CX0 1 "is_whole" ["value"] (spIsWhole K) := by
  refine T.t_is_whole.def_ (N := ["value"]) scIsWhole (fun _ _ _ _ _ _ us hl => match us, hl with | [_], _ => rfl) ?_ ?_
  · intro vs H Q E h
    obtain ⟨x, n, rfl, _⟩ := h
    rfl
  · intro f cd A out s H vs Q E hr h
    obtain ⟨x, n, rfl, hk, q⟩ := h
    refine ⟨_, (pss_one (ps_ret (pe_and (pe_callB (cr_is .int) rfl T.f_isinstance (by decide +kernel) (pa_cons (pv 0) (pa_cons (pe_ty .int T.f_int (by decide +kernel)) pa_nil))) (pe_one (pe_not (pe_callB (cr_is .bl) rfl T.f_isinstance (by decide +kernel) (pa_cons (pv 0) (pa_cons (pe_ty .bl T.f_bool (by decide +kernel)) pa_nil)))))))), ?_⟩
    refine ⟨_, rfl, _, _, rfl, hk, _, rfl, ?_⟩
    cases hk
    all_goals walk_at "st"
    all_goals first
      | exact q
      | (refine ⟨_, _, rfl, .int _, ?_⟩; walk_at "st"; exact q)
      | (refine ⟨_, _, rfl, .bl _, ?_⟩; walk_at "st"; exact q)
def isB (x : V) (l m : Int) : Bool := match x with
  | .int i => decide (l ≤ i) && decide (i ≤ m)
  | _ => false
def spIsBetween (K : PySem.W.Frag) : Sp := fun vs H Q _ => ∃ x n l m, vs = [x, .int l, .int m] ∧ Kd K H x n ∧ Q (.bl (isB x l m)) H
theorem scIsBetween : FnScope ["value", "least", "most"] ["value", "least", "most"] (defScope sIsBetween) :=
  ⟨rfl, rfl, rfl, by decide +kernel, rfl, by decide +kernel, by decide +kernel⟩
theorem dIsBetween (T : Tx K mg) (DIsWhole : Def P w K mg base CX0 1 "is_whole" ["value"] (spIsWhole K)) : Def P w K mg base CX0 2 "is_between" ["value", "least", "most"] (spIsBetween K) := by
  refine T.t_is_between.def_ (N := ["value", "least", "most"]) scIsBetween (fun _ _ _ _ _ _ us hl => match us, hl with | [_, _, _], _ => rfl) ?_ ?_
  · intro vs H Q E h
    obtain ⟨x, n, l, m, rfl, _⟩ := h
    rfl
  · intro f cd A out s H vs Q E hr h
    have hr1 : Rm 1 _ := hr.le (by decide)
    obtain ⟨x, n, l, m, rfl, hk, q⟩ := h
    refine ⟨_, (pss_one (ps_ret (pe_and (pe_d DIsWhole (hr1.le (by decide)) pass0 (pa_cons (pv 0) pa_nil)) (pe_one (pe_chain op_le op_le (pv 1) (pv 0) (pv 2)))))), ?_⟩
    refine ⟨_, rfl, _, n, rfl, hk, _, rfl, ?_⟩
    cases hk
    all_goals walk_at "st"
    all_goals first
      | exact q
      | skip
    rename_i i
    refine ite2 (fun c => ?_) (fun c => ?_)
    · walk_at "st"
      have q' : Q (.bl (decide (l ≤ i) && decide (i ≤ m))) H := q
      rw [show decide (l ≤ i) = true from c, Bool.true_and] at q'
      exact q'
    · have q' : Q (.bl (decide (l ≤ i) && decide (i ≤ m))) H := q
      rw [show decide (l ≤ i) = false from Bool.eq_false_iff.mpr c, Bool.false_and] at q'
      exact q'
def spNeedBetween (K : PySem.W.Frag) : Sp := fun vs H Q _ => ∃ i l m : Int, vs = [.int i, .int l, .int m] ∧ l ≤ i ∧ i ≤ m ∧ Q .non H
theorem scNeedBetween : FnScope ["value", "least", "most"] ["value", "least", "most"] (defScope sNeedBetween) :=
  ⟨rfl, rfl, rfl, by decide +kernel, rfl, by decide +kernel, by decide +kernel⟩
theorem dNeedBetween (T : Tx K mg) (DIsBetween : Def P w K mg base CX0 2 "is_between" ["value", "least", "most"] (spIsBetween K)) : Def P w K mg base CX0 3 "need_between" ["value", "least", "most"] (spNeedBetween K) := by
  refine T.t_need_between.def_ (N := ["value", "least", "most"]) scNeedBetween (fun _ _ _ _ _ _ us hl => match us, hl with | [_, _, _], _ => rfl) ?_ ?_
  · intro vs H Q E h
    obtain ⟨i, l, m, rfl, _⟩ := h
    rfl
  · intro f cd A out s H vs Q E hr h
    have hr1 : Rm 2 _ := hr.le (by decide)
    obtain ⟨i, l, m, rfl, h1, h2, q⟩ := h
    refine ⟨_, (pss_one (ps_if (pt_not (pt_val (pe_d DIsBetween (hr1.le (by decide)) pass0 (pa_cons (pv 0) (pa_cons (pv 1) (pa_cons (pv 2) pa_nil)))))) (pss_one ps_never) pss_nil)), ?_⟩
    refine ⟨_, rfl, _, rfl, _, rfl, _, .int, l, m, rfl, .int i, _, rfl, ?_⟩
    refine ifF ?_ q
    show (!(decide (l ≤ i) && decide (i ≤ m))) = false
    rw [decide_eq_true h1, decide_eq_true h2] <;> rfl

def spNeedPlaces (K : PySem.W.Frag) : Sp := fun vs H Q _ => ∃ n : Nat, vs = [.int (n : Int)] ∧ 1 ≤ n ∧ n ≤ 24 ∧ Q .non H
theorem scNeedPlaces : FnScope ["places"] ["places"] (defScope sNeedPlaces) :=
  ⟨rfl, rfl, rfl, by decide +kernel, rfl, by decide +kernel, by decide +kernel⟩
theorem dNeedPlaces (T : Tx K mg) (DNeedBetween : Def P w K mg base CX0 3 "need_between" ["value", "least", "most"] (spNeedBetween K)) : Def P w K mg base CX0 4 "need_places" ["places"] (spNeedPlaces K) := by
  refine T.t_need_places.def_ (N := ["places"]) scNeedPlaces (fun _ _ _ _ _ _ us hl => match us, hl with | [_], _ => rfl) ?_ ?_
  · intro vs H Q E h
    obtain ⟨n, rfl, _⟩ := h
    rfl
  · intro f cd A out s H vs Q E hr h
    have hr1 : Rm 3 _ := hr.le (by decide)
    obtain ⟨n, rfl, h1, h2, q⟩ := h
    refine ⟨_, (pss_one (ps_expr (pe_d DNeedBetween (hr1.le (by decide)) pass0 (pa_cons (pv 0) (pa_cons pe_int (pa_cons (C8.pe_gc rfl T.c_MAX_PLACES) pa_nil)))))), ?_⟩
    exact ⟨_, rfl, _, 1, 24, rfl, by omega, by omega, q⟩
/-! moves -/
def mv (m : List Nat) : List V := m.map fun (k : Nat) => V.int (k : Int)
def comp (m l : List Nat) : List Nat := l.map fun k => m.getD k 0
def vat (m : List Nat) : V → V
  | .int i => .int ((m.getD i.toNat 0 : Nat) : Int)
  | _ => .non
theorem mv_len (m : List Nat) : (mv m).length = m.length := List.length_map _
theorem mv_at {m : List Nat} {k : Nat} (h : k < m.length) : atI (mv m) (k : Int) = some (.int ((m.getD k 0 : Nat) : Int)) := by
  refine atI_nat ?_
  unfold mv
  rw [List.getElem?_map, List.getElem?_eq_getElem h]
  simp [List.getD, List.getElem?_eq_getElem h]
theorem mv_comp (m l : List Nat) : (mv l).map (vat m) = mv (comp m l) := by
  unfold mv comp
  rw [List.map_map, List.map_map]
  rfl
theorem rg_mv (n : Nat) : rgV 0 (n : Int) = mv (List.range n) := by
  unfold rgV mv
  rw [show ((n : Int) - 0).toNat = n by omega]
  refine List.map_congr_left fun i _ => ?_
  rw [Int.zero_add]
def spUnit (K : PySem.W.Frag) : Sp := fun vs H Q _ => ∃ n : Nat, vs = [.int (n : Int)] ∧ 1 ≤ n ∧ n ≤ 24 ∧ ∀ t, H t = none → Q (.ref t) (upd H t (.tup (mv (List.range n))))
theorem scUnitOf : FnScope ["places"] ["places"] (defScope sUnitOf) :=
  ⟨rfl, rfl, rfl, by decide +kernel, rfl, by decide +kernel, by decide +kernel⟩
theorem dUnitOf (T : Tx K mg) (DNeedPlaces : Def P w K mg base CX0 4 "need_places" ["places"] (spNeedPlaces K)) : Def P w K mg base CX0 5 "unit_of" ["places"] (spUnit K) := by
  refine T.t_unit_of.def_ (N := ["places"]) scUnitOf (fun _ _ _ _ _ _ us hl => match us, hl with | [_], _ => rfl) ?_ ?_
  · intro vs H Q E h
    obtain ⟨n, rfl, _⟩ := h
    rfl
  · intro f cd A out s H vs Q E hr h
    have hr1 : Rm 4 _ := hr.le (by decide)
    obtain ⟨n, rfl, h1, h2, q⟩ := h
    refine ⟨_, (pss_cons (ps_expr (pe_d DNeedPlaces (hr1.le (by decide)) pass0 (pa_cons (pv 0) pa_nil)))
      (pss_one (ps_ret (pe_tupRg rfl rfl T.f_tuple (prg_1 rfl T.f_range (pv 0)))))), ?_⟩
    refine ⟨_, rfl, n, rfl, h1, h2, ?_⟩
    refine ⟨_, rfl, _, rfl, ⟨by omega, by omega, by omega, by omega, by omega⟩, fun t ft => ?_⟩
    rw [rg_mv]
    exact q t ft
def spComp (K : PySem.W.Frag) : Sp := fun vs H Q _ => ∃ a b m l, vs = [.ref a, .ref b] ∧ SqT K H a (mv m) ∧ SqT K H b (mv l) ∧ l.length ≤ 1000 ∧ (∀ k ∈ l, k < m.length) ∧ ∀ H' t, Same H H' → SqT K H' t (mv (comp m l)) → Q (.ref t) H'
theorem scFollowed : FnScope ["one", "other", "place"] ["one", "other"] (defScope sFollowed) :=
  ⟨rfl, rfl, rfl, by decide +kernel, rfl, by decide +kernel, by decide +kernel⟩
theorem dFollowed (T : Tx K mg) : Def P w K mg base CX0 1 "followed" ["one", "other"] (spComp K) := by
  refine T.t_followed.def_ (N := ["one", "other", "place"]) scFollowed (fun _ _ _ _ _ _ us hl => match us, hl with | [_, _], _ => rfl) ?_ ?_
  · intro vs H Q E h
    obtain ⟨a, b, m, l, rfl, _⟩ := h
    rfl
  · intro f cd A out s H vs Q E hr h
    obtain ⟨a, b, m, l, rfl, Sa, Sb, len, lt, q⟩ := h
    refine ⟨_, (pss_one (ps_ret (pe_callTy call_tuple_of rfl T.f_tuple (by decide +kernel) (pa_cons (pe_lc (own := [("place", 2)]) (g := gName 2) (tt := tYes) rfl scFollowed.nd (pi_tup (pv 1)) (blkOk_by (N := ["one", "other", "place"]) (sc := defScope sFollowed) (by decide +kernel)) (fun _ _ _ _ _ => pg_name (i := 2) scFollowed.nd rfl (Or.inl rfl)) (fun _ _ _ _ _ => pts_nil) (fun _ _ _ _ _ => (pe_ix (show IxR _ (rIxT K) from ix_tup) (pv 0) (pv 2) (fun _ _ => rfl)))) pa_nil)))), ?_⟩
    refine ⟨_, rfl, b, rfl, ⟨_, Sb⟩, fun D nD => ?_⟩
    refine lc_tpl (vat m) Sb nD (by rw [mv_len]; exact Nat.le_of_lt (small1000 len)) ?_ ?_
    · intro x acc hx Q' q'
      obtain ⟨k, hk, rfl⟩ := List.mem_map.mp hx
      exact ⟨_, rfl, _, rfl, a, _, _, _, rfl, rfl, sqt_new Sa nD, mv_at (lt k hk), q'⟩
    · rw [mv_comp]
      exact ⟨D, _, rfl, .inl ⟨.inl (.inl upd_same), fun t ft => q _ t ((same_new nD).trans (same_new ft)) (.inl (.inl upd_same))⟩⟩
theorem scLotTimesL : FnScope ["_law_one", "_law_other", "_law_place"] ["_law_one", "_law_other"] (defScope sLotTimesL) :=
  ⟨rfl, rfl, rfl, by decide +kernel, rfl, by decide +kernel, by decide +kernel⟩
theorem dLotTimesL (T : Tx K mg) : Def P w K mg base CX0 1 "_law_lot_times" ["_law_one", "_law_other"] (spComp K) := by
  refine T.t_law_lot_times.def_ (N := ["_law_one", "_law_other", "_law_place"]) scLotTimesL (fun _ _ _ _ _ _ us hl => match us, hl with | [_, _], _ => rfl) ?_ ?_
  · intro vs H Q E h
    obtain ⟨a, b, m, l, rfl, _⟩ := h
    rfl
  · intro f cd A out s H vs Q E hr h
    obtain ⟨a, b, m, l, rfl, Sa, Sb, len, lt, q⟩ := h
    refine ⟨_, (pss_one (ps_ret (pe_callTy call_tuple_of rfl T.f_tuple (by decide +kernel) (pa_cons (pe_lc (own := [("_law_place", 2)]) (g := gName 2) (tt := tYes) rfl scLotTimesL.nd (pi_tup (pv 1)) (blkOk_by (N := ["_law_one", "_law_other", "_law_place"]) (sc := defScope sLotTimesL) (by decide +kernel)) (fun _ _ _ _ _ => pg_name (i := 2) scLotTimesL.nd rfl (Or.inl rfl)) (fun _ _ _ _ _ => pts_nil) (fun _ _ _ _ _ => (pe_ix (show IxR _ (rIxT K) from ix_tup) (pv 0) (pv 2) (fun _ _ => rfl)))) pa_nil)))), ?_⟩
    refine ⟨_, rfl, b, rfl, ⟨_, Sb⟩, fun D nD => ?_⟩
    refine lc_tpl (vat m) Sb nD (by rw [mv_len]; exact Nat.le_of_lt (small1000 len)) ?_ ?_
    · intro x acc hx Q' q'
      obtain ⟨k, hk, rfl⟩ := List.mem_map.mp hx
      exact ⟨_, rfl, _, rfl, a, _, _, _, rfl, rfl, sqt_new Sa nD, mv_at (lt k hk), q'⟩
    · rw [mv_comp]
      exact ⟨D, _, rfl, .inl ⟨.inl (.inl upd_same), fun t ft => q _ t ((same_new nD).trans (same_new ft)) (.inl (.inl upd_same))⟩⟩
/-! the move undone -/
def putB (m b : List Nat) (j : Nat) : List Nat := b.set (m.getD j 0) j
def backT (m : List Nat) (i : Nat) : List Nat := (List.range i).foldl (putB m) (List.replicate m.length 0)
def back (m : List Nat) : List Nat := backT m m.length
theorem backT_succ (m : List Nat) (i : Nat) : backT m (i + 1) = (backT m i).set (m.getD i 0) i := by
  unfold backT
  rw [List.range_succ, List.foldl_append]
  rfl
theorem backT_len (m : List Nat) : ∀ i, (backT m i).length = m.length
  | 0 => List.length_replicate
  | i + 1 => by rw [backT_succ, List.length_set, backT_len m i]
theorem mv_set (b : List Nat) (k i : Nat) : (mv b).set k (V.int (i : Int)) = mv (b.set k i) := by
  unfold mv
  rw [List.map_set]
theorem mv_nth {m : List Nat} {i : Nat} {x : V} (h : (mv m)[i]? = some x) : i < m.length ∧ x = .int ((m.getD i 0 : Nat) : Int) := by
  unfold mv at h
  rw [List.getElem?_map] at h
  by_cases c : i < m.length
  · rw [List.getElem?_eq_getElem c] at h
    refine ⟨c, ?_⟩
    rw [List.getD, List.getElem?_eq_getElem c]
    exact (Option.some.inj h).symm
  · rw [List.getElem?_eq_none (by omega)] at h
    cases h
theorem ixN_lt {n k : Nat} (h : k < n) : ixN n (k : Int) = some k := by
  unfold ixN
  simp
  omega
def spBack (K : PySem.W.Frag) : Sp := fun vs H Q _ => ∃ a m, vs = [.ref a] ∧ SqT K H a (mv m) ∧ m.length ≤ 1000 ∧ (∀ k ∈ m, k < m.length) ∧ ∀ H' t, Same H H' → SqT K H' t (mv (back m)) → Q (.ref t) H'
theorem scTurnedBack : FnScope ["move", "back", "_", "place", "target"] ["move"] (defScope sTurnedBack) :=
  ⟨rfl, rfl, rfl, by decide +kernel, rfl, by decide +kernel, by decide +kernel⟩
theorem dTurnedBack (T : Tx K mg) : Def P w K mg base CX0 1 "turned_back" ["move"] (spBack K) := by
  refine T.t_turned_back.def_ (N := ["move", "back", "_", "place", "target"]) scTurnedBack (fun _ _ _ _ _ _ us hl => match us, hl with | [_], _ => rfl) ?_ ?_
  · intro vs H Q E h
    obtain ⟨a, m, rfl, _⟩ := h
    rfl
  · intro f cd A out s H vs Q E hr h
    obtain ⟨a, m, rfl, Sa, len, lt, q⟩ := h
    refine ⟨_, (pss_cons (ps_setLc (i := 1) (own := [("_", 2)]) (g := gName 2) (tt := tYes) rfl scTurnedBack.nd rfl rfl (sw_true rfl rfl rfl rfl) (pi_tup (pv 0)) (blkOk_by (N := ["move", "back", "_", "place", "target"]) (sc := defScope sTurnedBack) (by decide +kernel)) (fun _ _ _ _ _ => pg_name (i := 2) scTurnedBack.nd rfl (Or.inl rfl)) (fun _ _ _ _ _ => pts_nil) (fun _ _ _ _ _ => pe_int))
      (pss_cons (ps_for PassesOwn.never rfl (pi_enumT rfl T.f_enumerate (pa_cons (pv 0) pa_nil)) (pg_tup rfl (pgs_cons (pg_name (i := 3) scTurnedBack.nd rfl (Or.inl rfl)) (pgs_cons (pg_name (i := 4) scTurnedBack.nd rfl (Or.inl rfl)) pgs_nil)))
        (pss_one (ps_asg (pv 3) (pg_sub (pv 1) (pv 4) set_list))))
      (pss_one (ps_ret (pe_callTy call_tuple_of rfl T.f_tuple (by decide +kernel) (pa_cons (pv 1) pa_nil)))))), ?_⟩
    refine ⟨_, rfl, a, rfl, ⟨_, Sa⟩, fun D nD => ?_⟩
    refine lc_tpl (fun _ => V.int 0) Sa nD (by rw [mv_len]; exact Nat.le_of_lt (small1000 len)) (fun x acc hx Q' q' => q') ?_
    have e0 : (mv m).map (fun _ => V.int 0) = mv (backT m 0) := by
      unfold backT mv
      rw [List.map_map]
      show _ = (List.replicate m.length 0).map _
      rw [List.map_replicate]
      exact List.map_const' ..
    rw [e0]
    have S1 : Same H (upd H D (.lst (mv (backT m 0)))) := same_new nD
    have D1 : (upd H D (.lst (mv (backT m 0)))) D = some (.lst (mv (backT m 0))) := upd_same
    have Sa1 := same_sqt S1 Sa
    generalize upd H D _ = H1 at S1 D1 Sa1 ⊢
    refine ⟨_, rfl, a, _, rfl, Sa1, ?_⟩
    refine for_enumT (K := K) (a := a) (xs := mv m) (fun i σ H2 => Same H H2 ∧ H2 D = some (.lst (mv (backT m i))) ∧ ∃ y z, σ = [some (.ref a), some (.ref D), none, y, z]) ⟨S1, D1, none, none, rfl⟩ (fun i σ H2 _ e => same_sqt e.1 Sa) ?_ ?_
    · rintro i x σ H2 T hx ⟨sm, hD, y, z, rfl⟩ fT
      obtain ⟨li, rfl⟩ := mv_nth hx
      have nDT : D ≠ T := ne_of_none hD fT
      have lk : m.getD i 0 < m.length := lt _ (by rw [List.getD, List.getElem?_eq_getElem li]; exact List.getElem_mem li)
      refine ⟨T, _, rfl, .inl (.inl upd_same), rfl, _, _, rfl, ?_⟩
      refine ⟨_, _, rfl, rfl, ?_⟩
      refine ⟨_, rfl, _, rfl, _, rfl, D, _, _, m.getD i 0, rfl, rfl, (upd_ne nDT).trans hD, ?_, ?_, upd_same.trans ?_, _, _, rfl⟩
      · rw [mv_len, backT_len]
        exact ixN_lt lk
      · intro b o e
        rw [upd_ne (ne_of_none e nD)]
        exact same_new fT b o (sm b o e)
      · rw [mv_set, backT_succ]
    · rintro σ H2 ⟨sm, hD, y, z, rfl⟩
      rw [mv_len] at hD
      exact ⟨_, rfl, D, _, rfl, .inl ⟨.inl (.inl hD), fun t ft => q _ t (sm.trans (same_new ft)) (.inl (.inl upd_same))⟩⟩
theorem rep_zero (m : List Nat) : (List.replicate ((mv m).length : Int).toNat [V.int 0]).flatten = mv (backT m 0) := by
  rw [Int.toNat_natCast, mv_len]
  unfold backT mv
  generalize m.length = n
  show _ = (List.replicate n 0).map _
  induction n with
  | zero => rfl
  | succ n ih =>
    rw [List.replicate_succ, List.replicate_succ, List.flatten_cons, ih]
    rfl
theorem scLotUndoneL : FnScope ["_law_move", "_law_found", "_law_place", "_law_goal"] ["_law_move"] (defScope sLotUndoneL) :=
  ⟨rfl, rfl, rfl, by decide +kernel, rfl, by decide +kernel, by decide +kernel⟩
theorem dLotUndoneL (T : Tx K mg) : Def P w K mg base CX0 1 "_law_lot_undone" ["_law_move"] (spBack K) := by
  refine T.t_law_lot_undone.def_ (N := ["_law_move", "_law_found", "_law_place", "_law_goal"]) scLotUndoneL (fun _ _ _ _ _ _ us hl => match us, hl with | [_], _ => rfl) ?_ ?_
  · intro vs H Q E h
    obtain ⟨a, m, rfl, _⟩ := h
    rfl
  · intro f cd A out s H vs Q E hr h
    obtain ⟨a, m, rfl, Sa, len, lt, q⟩ := h
    refine ⟨_, (pss_cons (ps_set (i := 1) scLotUndoneL.nd rfl (Or.inl rfl) (pe_op op_rep (pe_lst (pa_cons pe_int pa_nil)) (pe_callB call_len_seq rfl T.f_len (by decide +kernel) (pa_cons (pv 0) pa_nil))))
      (pss_cons (ps_for PassesOwn.never rfl (pi_enumT rfl T.f_enumerate (pa_cons (pv 0) pa_nil)) (pg_tup rfl (pgs_cons (pg_name (i := 2) scLotUndoneL.nd rfl (Or.inl rfl)) (pgs_cons (pg_name (i := 3) scLotUndoneL.nd rfl (Or.inl rfl)) pgs_nil)))
        (pss_one (ps_asg (pv 2) (pg_sub (pv 1) (pv 3) set_list))))
      (pss_one (ps_ret (pe_callTy call_tuple_of rfl T.f_tuple (by decide +kernel) (pa_cons (pv 1) pa_nil)))))), ?_⟩
    refine ⟨by (show 1 ≤ sizeLine); decide, fun l fl => ?_⟩
    have S0 : Same H (upd H l (.lst [.int 0])) := same_new fl
    have L0 : (upd H l (.lst [.int 0])) l = some (.lst [.int 0]) := upd_same
    have Sa0 := same_sqt S0 Sa
    generalize upd H l _ = H0 at S0 L0 Sa0 ⊢
    refine ⟨_, rfl, a, _, rfl, .inr Sa0, l, _, _, rfl, rfl, L0, by omega, by rw [mv_len]; omega, by rw [mv_len]; exact Nat.le_of_lt (small1000 (n := 1 * m.length) (by omega)), fun D nD => ?_⟩
    rw [rep_zero]
    have S1 : Same H (upd H0 D (.lst (mv (backT m 0)))) := S0.trans (same_new nD)
    have D1 : (upd H0 D (.lst (mv (backT m 0)))) D = some (.lst (mv (backT m 0))) := upd_same
    have Sa1 := same_sqt S1 Sa
    have fD : ∀ b o, H b = some o → b ≠ D := fun b o e => ne_of_none (S0 b o e) nD
    generalize upd H0 D _ = H1 at S1 D1 Sa1 ⊢
    refine ⟨_, rfl, a, _, rfl, Sa1, ?_⟩
    refine for_enumT (K := K) (a := a) (xs := mv m) (fun i σ H2 => Same H H2 ∧ H2 D = some (.lst (mv (backT m i))) ∧ ∃ y z, σ = [some (.ref a), some (.ref D), y, z]) ⟨S1, D1, none, none, rfl⟩ (fun i σ H2 _ e => same_sqt e.1 Sa) ?_ ?_
    · rintro i x σ H2 T hx ⟨sm, hD, y, z, rfl⟩ fT
      obtain ⟨li, rfl⟩ := mv_nth hx
      have nDT : D ≠ T := ne_of_none hD fT
      have lk : m.getD i 0 < m.length := lt _ (by rw [List.getD, List.getElem?_eq_getElem li]; exact List.getElem_mem li)
      refine ⟨T, _, rfl, .inl (.inl upd_same), rfl, _, _, rfl, ?_⟩
      refine ⟨_, _, rfl, rfl, ?_⟩
      refine ⟨_, rfl, _, rfl, _, rfl, D, _, _, m.getD i 0, rfl, rfl, (upd_ne nDT).trans hD, ?_, ?_, upd_same.trans ?_, _, _, rfl⟩
      · rw [mv_len, backT_len]
        exact ixN_lt lk
      · intro b o e
        rw [upd_ne (fD b o e)]
        exact same_new fT b o (sm b o e)
      · rw [mv_set, backT_succ]
    · rintro σ H2 ⟨sm, hD, y, z, rfl⟩
      rw [mv_len] at hD
      exact ⟨_, rfl, D, _, rfl, .inl ⟨.inl (.inl hD), fun t ft => q _ t (sm.trans (same_new ft)) (.inl (.inl upd_same))⟩⟩
end
end K04


set_option Elab.async false
set_option linter.all false
set_option maxRecDepth 100000
set_option maxHeartbeats 2000000
namespace K04
open PySem PySem.Spec PyProof.Rows L2 MM
/-! own words for the readings: a step, its side -/
local macro_rules | `(tactic| walk_at "side") => `(tactic| first
  | omega
  | exact ⟨by omega, by omega⟩
  | exact Or.inl ⟨by omega, by omega⟩
  | exact Or.inr ⟨by omega, by omega⟩
  | (show CPw _ _; decide +kernel)
  | (show (0 : Int) < _; decide +kernel)
  | (show CDivW _ _; first | assumption | exact ⟨by decide, by decide +kernel⟩))
local macro_rules | `(tactic| walk_at "here") => `(tactic| first
  | assumption
  | exact upd_same
  | exact Or.inl (Or.inl upd_same)
  | exact Or.inl upd_same)
local macro_rules | `(tactic| walk_at "one") => `(tactic| first
  | refine ⟨_, rfl, ?_⟩
  | refine Or.inl ⟨_, rfl, ?_⟩
  | refine Or.inr ⟨_, rfl, ?_⟩
  | refine ⟨_, _, rfl, rfl, (by walk_at "side"), ?_⟩
  | refine ⟨_, _, rfl, rfl, ?_⟩
  | refine ⟨_, _, rfl, Or.inl (by walk_at "here"), ?_⟩
  | refine ⟨_, _, rfl, Or.inr (by walk_at "here"), ?_⟩
  | refine ⟨_, _, rfl, (by walk_at "here"), ?_⟩
  | refine ⟨_, _, _, _, rfl, rfl, (by walk_at "here"), rfl, ?_⟩
  | refine ⟨_, _, rfl, ?_⟩
  | refine ifT (by rfl) ?_
  | refine ifF (by rfl) ?_
  | refine ifT (decide_eq_true (by omega)) ?_
  | refine ifF (decide_eq_false (by omega)) ?_)
local macro_rules | `(tactic| walk_at "st") => `(tactic| repeat (walk_at "one"))

section
variable {P : Program} {w : World} {K : PySem.W.Frag} {mg : Str → Option Value} {base : Heap}
/-- a value, and its members if it is a tuple -/
inductive Rv (K : PySem.W.Frag) (H : Hp) : V → Option (List V) → Prop where
  | no {x : V} {n : Kn} (h : Kd K H x n) (ne : n.isa .tup = false) : Rv K H x none
  | yes {a : Addr} {xs : List V} (h : SqT K H a xs) (m : ∀ y, y ∈ xs → ∃ n, Kd K H y n) : Rv K H (.ref a) (some xs)

def toI : V → Int
  | .int i => i
  | _ => 0
def isArr (n : Nat) : Option (List V) → Bool
  | some xs => decide (xs.length = n) && ((xs.map fun x => isB x 0 ((n : Int) - 1)).all id && decide ((xs.map toI).Nodup))
  | none => false
theorem isArr_some (n : Nat) (xs : List V) : isArr n (some xs) = (decide (xs.length = n) && ((xs.map fun x => isB x 0 ((n : Int) - 1)).all id && decide ((xs.map toI).Nodup))) := rfl
def spArr (K : PySem.W.Frag) : Sp := fun vs H Q _ => ∃ (n : Nat) (x : V) (o : Option (List V)), vs = [.int (n : Int), x] ∧ Rv K H x o ∧ n ≤ 1000 ∧ ∀ H', Same H H' → Q (.bl (isArr n o)) H'
theorem ints_back {xs : List V} {n : Int} (h : (xs.map fun x => isB x 0 n).all id = true) : xs = (xs.map toI).map V.int := by
  rw [List.all_map, List.all_eq_true] at h
  induction xs with
  | nil => rfl
  | cons x r ih =>
    have h1 := h x (by simp)
    rw [List.map_cons, List.map_cons, ← ih fun y hy => h y (by simp [hy])]
    cases x <;> first | rfl | cases h1
theorem scIsArrangement : FnScope ["size", "value", "member"] ["size", "value"] (defScope sIsArrangement) :=
  ⟨rfl, rfl, rfl, by decide +kernel, rfl, by decide +kernel, by decide +kernel⟩
theorem dIsArrangement (T : Tx K mg) (DIsBetween : Def P w K mg base CX0 2 "is_between" ["value", "least", "most"] (spIsBetween K)) : Def P w K mg base CX0 3 "is_arrangement" ["size", "value"] (spArr K) := by
  refine T.t_is_arrangement.def_ (N := ["size", "value", "member"]) scIsArrangement (fun _ _ _ _ _ _ us hl => match us, hl with | [_, _], _ => rfl) ?_ ?_
  · intro vs H Q E h
    obtain ⟨n, x, o, rfl, _⟩ := h
    rfl
  · intro f cd A out s H vs Q E hr h
    have hr1 : Rm 2 _ := hr.le (by decide)
    obtain ⟨n, x, o, rfl, hv, small, q⟩ := h
    refine ⟨_, (pss_cons (ps_if (PW.pt (pw_or (pt_not (pt_val (pe_callB (cr_is .tup) rfl T.f_isinstance (by decide +kernel) (pa_cons (pv 1) (pa_cons (pe_ty .tup T.f_tuple (by decide +kernel)) pa_nil))))) (pw_or1 (pt_cmpR op_ne (pe_callB call_len_seq rfl T.f_len (by decide +kernel) (pa_cons (pv 1) pa_nil)) (pv 0) (nomark _))))) (pss_one (ps_ret pe_bl)) pss_nil)
      (pss_cons (ps_if (pt_not (pt_val (pe_callB (cr_all rfl) rfl T.f_all (by decide +kernel) (pa_cons (pe_lc (own := [("member", 2)]) (g := gName 2) (tt := tYes) rfl scIsArrangement.nd (pi_tup (pv 1)) (blkOk_by (N := ["size", "value", "member"]) (sc := defScope sIsArrangement) (by decide +kernel)) (fun _ _ _ _ _ => pg_name (i := 2) scIsArrangement.nd rfl (Or.inl rfl)) (fun _ _ _ _ _ => pts_nil) (fun _ _ _ _ _ => (pe_d DIsBetween (hr1.le (by decide)) pass0 (pa_cons (pv 2) (pa_cons pe_int (pa_cons (pe_op op_sub (pv 0) pe_int) pa_nil)))))) pa_nil)))) (pss_one (ps_ret pe_bl)) pss_nil)
      (pss_one (ps_ret (pe_cmpR op_eq (pe_callB cr_lenSet rfl T.f_len (by decide +kernel) (pa_cons (pe_callTy (cr_setI rfl) rfl T.f_set (by decide +kernel) (pa_cons (pv 1) pa_nil)) pa_nil)) (pv 0) (nomark _)))))), ?_⟩
    cases hv with
    | no hk ne =>
      refine ⟨_, rfl, _, _, rfl, hk, _, rfl, ?_⟩
      refine ifT (by rw [ne]; rfl) ?_
      exact q H (Same.refl H)
    | yes S m =>
      rename_i a xs
      refine ⟨_, rfl, _, _, rfl, .tup S, _, rfl, ?_⟩
      refine ifF rfl ?_
      refine ⟨_, rfl, _, _, rfl, .inr S, _, rfl, rfl, _, rfl, ?_⟩
      show (if (!decide (V.int (xs.length : Int) = V.int (n : Int))) = true then _ else _)
      rw [dInt, show decide ((xs.length : Int) = (n : Int)) = decide (xs.length = n) from decide_eq_decide.mpr (by omega)]
      by_cases c : xs.length = n
      · refine ifF (by rw [decide_eq_true c]; rfl) ?_
        have ei : ∀ b1 b2 : Bool, (b1 && b2) = (if b1 = true then b2 else false) := fun b1 b2 => by cases b1 <;> rfl
        refine ⟨_, rfl, a, rfl, ⟨_, S⟩, fun D nD => ?_⟩
        refine lc_tpl (fun x => .bl (isB x 0 ((n : Int) - 1))) S nD (Nat.le_of_lt (small1000 (by omega))) ?_ ?_
        · intro x acc hx Q' q'
          obtain ⟨kn, hk⟩ := m x hx
          exact ⟨_, rfl, _, rfl, _, _, rfl, rfl, x, kn, _, _, rfl, hk.same (same_new nD), q'⟩
        refine ⟨D, xs.map fun x => isB x 0 ((n : Int) - 1), rfl, .inl (.inl (Eq.trans upd_same (by rw [List.map_map]; rfl))), ?_⟩
        refine ⟨_, rfl, ?_⟩
        have S1 : Same H (upd H D (.lst (xs.map fun x => V.bl (isB x 0 ((n : Int) - 1))))) := same_new nD
        generalize upd H D _ = H1 at S1 ⊢
        cases e : (xs.map fun x => isB x 0 ((n : Int) - 1)).all id with
        | false =>
          have q' := q H1 S1
          rw [show isArr n (some xs) = false from (by rw [isArr_some, e]; simp)] at q'
          exact q'
        | true =>
          have back := ints_back e
          have S2 := same_sqt S1 S
          rw [back] at S2
          refine ⟨_, rfl, a, xs.map toI, rfl, S2, by rw [List.length_map]; omega, fun t k ft hk le => ?_⟩
          refine ⟨t, _, k, rfl, upd_same, ?_⟩
          refine ⟨_, rfl, rfl, ?_⟩
          have q' := q (upd H1 t (.set (fun j => decide (j ∈ xs.map toI)) k)) (S1.trans (same_new ft))
          rw [show isArr n (some xs) = decide (V.int (k : Int) = V.int (n : Int)) from (by
            rw [List.length_map, c] at hk
            rw [dInt]
            rw [isArr_some, e, decide_eq_true c, Bool.true_and, Bool.true_and]
            exact decide_eq_decide.mpr (by rw [← hk]; omega))] at q'
          exact q'
      · refine ifT (by rw [decide_eq_false c]; rfl) ?_
        have q' := q H (Same.refl H)
        rw [show isArr n (some xs) = false from (by rw [isArr_some, decide_eq_false c]; rfl)] at q'
        exact q'
def spIsMove (K : PySem.W.Frag) : Sp := fun vs H Q _ => ∃ (n : Nat) (x : V) (o : Option (List V)), vs = [.int (n : Int), x] ∧ Rv K H x o ∧ 1 ≤ n ∧ n ≤ 24 ∧ ∀ H', Same H H' → Q (.bl (isArr n o)) H'
theorem scIsMove : FnScope ["places", "value"] ["places", "value"] (defScope sIsMove) :=
  ⟨rfl, rfl, rfl, by decide +kernel, rfl, by decide +kernel, by decide +kernel⟩
theorem dIsMove (T : Tx K mg) (DNeedPlaces : Def P w K mg base CX0 4 "need_places" ["places"] (spNeedPlaces K)) (DIsArrangement : Def P w K mg base CX0 3 "is_arrangement" ["size", "value"] (spArr K)) : Def P w K mg base CX0 5 "is_move" ["places", "value"] (spIsMove K) := by
  refine T.t_is_move.def_ (N := ["places", "value"]) scIsMove (fun _ _ _ _ _ _ us hl => match us, hl with | [_, _], _ => rfl) ?_ ?_
  · intro vs H Q E h
    obtain ⟨n, x, o, rfl, _⟩ := h
    rfl
  · intro f cd A out s H vs Q E hr h
    have hr1 : Rm 4 _ := hr.le (by decide)
    obtain ⟨n, x, o, rfl, hv, h1, h2, q⟩ := h
    refine ⟨_, (pss_cons (ps_expr (pe_d DNeedPlaces (hr1.le (by decide)) pass0 (pa_cons (pv 0) pa_nil)))
      (pss_one (ps_ret (pe_d DIsArrangement (hr1.le (by decide)) pass0 (pa_cons (pv 0) (pa_cons (pv 1) pa_nil)))))), ?_⟩
    exact ⟨_, rfl, n, rfl, h1, h2, _, rfl, _, rfl, n, x, o, rfl, hv, by omega, q⟩
/-- a move -/
def Mv (m : List Nat) : Prop := m.Nodup ∧ (∀ k ∈ m, k < m.length) ∧ 1 ≤ m.length ∧ m.length ≤ 24
theorem rv_mv {H : Hp} {a : Addr} {m : List Nat} (h : SqT K H a (mv m)) : Rv K H (.ref a) (some (mv m)) := .yes h fun y hy => by
  obtain ⟨k, _, rfl⟩ := List.mem_map.mp hy
  exact ⟨_, .int _⟩
theorem arr_mv {m : List Nat} (h : Mv m) : isArr m.length (some (mv m)) = true := by
  rw [isArr_some, decide_eq_true (mv_len m), Bool.true_and]
  have e : (mv m).map toI = m.map fun (k : Nat) => (k : Int) := by
    unfold mv
    rw [List.map_map]
    rfl
  have nd : ((mv m).map toI).Nodup := by
    rw [e]
    refine List.Pairwise.map _ (fun a b z => ?_) h.1
    omega
  rw [decide_eq_true nd, Bool.and_true, List.all_map, List.all_eq_true]
  intro x hx
  obtain ⟨k, hk, rfl⟩ := List.mem_map.mp hx
  have := h.2.1 k hk
  show (decide (0 ≤ (k : Int)) && decide ((k : Int) ≤ (m.length : Int) - 1)) = true
  rw [decide_eq_true (by omega), decide_eq_true (by omega)]
  rfl
def spNeedMove (K : PySem.W.Frag) : Sp := fun vs H Q _ => ∃ a m, vs = [.ref a] ∧ SqT K H a (mv m) ∧ Mv m ∧ ∀ H', Same H H' → Q .non H'
theorem scNeedMove : FnScope ["move"] ["move"] (defScope sNeedMove) :=
  ⟨rfl, rfl, rfl, by decide +kernel, rfl, by decide +kernel, by decide +kernel⟩
theorem dNeedMove (T : Tx K mg) (DIsArrangement : Def P w K mg base CX0 3 "is_arrangement" ["size", "value"] (spArr K)) : Def P w K mg base CX0 4 "_need_move" ["move"] (spNeedMove K) := by
  refine T.t_need_move.def_ (N := ["move"]) scNeedMove (fun _ _ _ _ _ _ us hl => match us, hl with | [_], _ => rfl) ?_ ?_
  · intro vs H Q E h
    obtain ⟨a, m, rfl, _⟩ := h
    rfl
  · intro f cd A out s H vs Q E hr h
    have hr1 : Rm 3 _ := hr.le (by decide)
    obtain ⟨a, m, rfl, S, hm, q⟩ := h
    refine ⟨_, (pss_cons (ps_if (PW.pt (pw_or (pt_not (pt_val (pe_callB (cr_is .tup) rfl T.f_isinstance (by decide +kernel) (pa_cons (pv 0) (pa_cons (pe_ty .tup T.f_tuple (by decide +kernel)) pa_nil))))) (pw_or1 (pt_not (pt_chain op_le op_le pe_int (pe_callB call_len_seq rfl T.f_len (by decide +kernel) (pa_cons (pv 0) pa_nil)) (C8.pe_gc rfl T.c_MAX_PLACES)))))) (pss_one ps_never) pss_nil)
      (pss_one (ps_if (pt_not (pt_val (pe_d DIsArrangement (hr1.le (by decide)) pass0 (pa_cons (pe_callB call_len_seq rfl T.f_len (by decide +kernel) (pa_cons (pv 0) pa_nil)) (pa_cons (pv 0) pa_nil))))) (pss_one ps_never) pss_nil))), ?_⟩
    refine ⟨_, rfl, _, _, rfl, .tup S, _, rfl, ?_⟩
    refine ifF rfl ?_
    have l1 : 1 ≤ (mv m).length := by rw [mv_len]; exact hm.2.2.1
    have l2 : (mv m).length ≤ 24 := by rw [mv_len]; exact hm.2.2.2
    refine ⟨_, rfl, _, _, rfl, .inr S, _, _, rfl, rfl, _, rfl, ?_⟩
    refine ifT (decide_eq_true (by omega)) ?_
    refine ⟨_, _, rfl, rfl, _, rfl, ?_⟩
    refine ifF ?_ ?_
    · show (!decide (((mv m).length : Int) ≤ 24)) = false
      rw [decide_eq_true (by omega)]
      rfl
    refine ⟨_, rfl, _, _, rfl, .inr S, _, rfl, (mv m).length, _, _, rfl, rv_mv S, by omega, fun H' sm => ?_⟩
    refine ⟨_, rfl, ?_⟩
    refine ifF ?_ (q H' sm)
    rw [mv_len, arr_mv hm]
    rfl
def spNeedPair (K : PySem.W.Frag) : Sp := fun vs H Q _ => ∃ a b m l, vs = [.ref a, .ref b] ∧ SqT K H a (mv m) ∧ SqT K H b (mv l) ∧ Mv m ∧ Mv l ∧ m.length = l.length ∧ ∀ H', Same H H' → Q .non H'
theorem scNeedPair : FnScope ["one", "other"] ["one", "other"] (defScope sNeedPair) :=
  ⟨rfl, rfl, rfl, by decide +kernel, rfl, by decide +kernel, by decide +kernel⟩
theorem dNeedPair (T : Tx K mg) (DNeedMove : Def P w K mg base CX0 4 "_need_move" ["move"] (spNeedMove K)) : Def P w K mg base CX0 5 "_need_pair" ["one", "other"] (spNeedPair K) := by
  refine T.t_need_pair.def_ (N := ["one", "other"]) scNeedPair (fun _ _ _ _ _ _ us hl => match us, hl with | [_, _], _ => rfl) ?_ ?_
  · intro vs H Q E h
    obtain ⟨a, b, m, l, rfl, _⟩ := h
    rfl
  · intro f cd A out s H vs Q E hr h
    have hr1 : Rm 4 _ := hr.le (by decide)
    obtain ⟨a, b, m, l, rfl, Sa, Sb, hm, hl, eq, q⟩ := h
    refine ⟨_, (pss_cons (ps_expr (pe_d DNeedMove (hr1.le (by decide)) pass0 (pa_cons (pv 0) pa_nil)))
      (pss_cons (ps_expr (pe_d DNeedMove (hr1.le (by decide)) pass0 (pa_cons (pv 1) pa_nil)))
      (pss_one (ps_if (pt_cmpR op_ne (pe_callB call_len_seq rfl T.f_len (by decide +kernel) (pa_cons (pv 0) pa_nil)) (pe_callB call_len_seq rfl T.f_len (by decide +kernel) (pa_cons (pv 1) pa_nil)) (nomark _)) (pss_one ps_never) pss_nil)))), ?_⟩
    refine ⟨_, rfl, a, m, rfl, Sa, hm, fun H1 s1 => ?_⟩
    refine ⟨_, rfl, b, l, rfl, same_sqt s1 Sb, hl, fun H2 s2 => ?_⟩
    have s3 := s1.trans s2
    refine ⟨_, rfl, _, _, rfl, .inr (same_sqt s3 Sa), _, rfl, _, _, rfl, .inr (same_sqt s3 Sb), rfl, _, rfl, ?_⟩
    refine ifF ?_ (q _ s3)
    show (!decide (V.int ((mv m).length : Int) = V.int ((mv l).length : Int))) = false
    rw [mv_len, mv_len, eq, decide_eq_true rfl]
    rfl
def spProduct (K : PySem.W.Frag) : Sp := fun vs H Q _ => ∃ a b m l, vs = [.ref a, .ref b] ∧ SqT K H a (mv m) ∧ SqT K H b (mv l) ∧ Mv m ∧ Mv l ∧ m.length = l.length ∧ ∀ H' t, Same H H' → SqT K H' t (mv (comp m l)) → Q (.ref t) H'
theorem scProductOf : FnScope ["one", "other"] ["one", "other"] (defScope sProductOf) :=
  ⟨rfl, rfl, rfl, by decide +kernel, rfl, by decide +kernel, by decide +kernel⟩
theorem dProductOf (T : Tx K mg) (DNeedPair : Def P w K mg base CX0 5 "_need_pair" ["one", "other"] (spNeedPair K)) (DFollowed : Def P w K mg base CX0 1 "followed" ["one", "other"] (spComp K)) : Def P w K mg base CX0 6 "product_of" ["one", "other"] (spProduct K) := by
  refine T.t_product_of.def_ (N := ["one", "other"]) scProductOf (fun _ _ _ _ _ _ us hl => match us, hl with | [_, _], _ => rfl) ?_ ?_
  · intro vs H Q E h
    obtain ⟨a, b, m, l, rfl, _⟩ := h
    rfl
  · intro f cd A out s H vs Q E hr h
    have hr1 : Rm 5 _ := hr.le (by decide)
    obtain ⟨a, b, m, l, rfl, Sa, Sb, hm, hl, eq, q⟩ := h
    refine ⟨_, (pss_cons (ps_expr (pe_d DNeedPair (hr1.le (by decide)) pass0 (pa_cons (pv 0) (pa_cons (pv 1) pa_nil))))
      (pss_one (ps_ret (pe_d DFollowed (hr1.le (by decide)) pass0 (pa_cons (pv 0) (pa_cons (pv 1) pa_nil)))))), ?_⟩
    refine ⟨_, rfl, _, rfl, a, b, m, l, rfl, Sa, Sb, hm, hl, eq, fun H1 s1 => ?_⟩
    exact ⟨_, rfl, _, rfl, a, b, m, l, rfl, same_sqt s1 Sa, same_sqt s1 Sb, by have := hl.2.2.2; omega, fun k hk => by rw [eq]; exact hl.2.1 k hk, fun H2 t s2 S => q H2 t (s1.trans s2) S⟩
def spUndone (K : PySem.W.Frag) : Sp := fun vs H Q _ => ∃ a m, vs = [.ref a] ∧ SqT K H a (mv m) ∧ Mv m ∧ ∀ H' t, Same H H' → SqT K H' t (mv (back m)) → Q (.ref t) H'
theorem scUndone : FnScope ["move"] ["move"] (defScope sUndone) :=
  ⟨rfl, rfl, rfl, by decide +kernel, rfl, by decide +kernel, by decide +kernel⟩
theorem dUndone (T : Tx K mg) (DNeedMove : Def P w K mg base CX0 4 "_need_move" ["move"] (spNeedMove K)) (DTurnedBack : Def P w K mg base CX0 1 "turned_back" ["move"] (spBack K)) : Def P w K mg base CX0 5 "undone" ["move"] (spUndone K) := by
  refine T.t_undone.def_ (N := ["move"]) scUndone (fun _ _ _ _ _ _ us hl => match us, hl with | [_], _ => rfl) ?_ ?_
  · intro vs H Q E h
    obtain ⟨a, m, rfl, _⟩ := h
    rfl
  · intro f cd A out s H vs Q E hr h
    have hr1 : Rm 4 _ := hr.le (by decide)
    obtain ⟨a, m, rfl, S, hm, q⟩ := h
    refine ⟨_, (pss_cons (ps_expr (pe_d DNeedMove (hr1.le (by decide)) pass0 (pa_cons (pv 0) pa_nil)))
      (pss_one (ps_ret (pe_d DTurnedBack (hr1.le (by decide)) pass0 (pa_cons (pv 0) pa_nil))))), ?_⟩
    refine ⟨_, rfl, a, m, rfl, S, hm, fun H1 s1 => ?_⟩
    exact ⟨_, rfl, a, m, rfl, same_sqt s1 S, by have := hm.2.2.2; omega, hm.2.1, fun H2 t s2 S => q H2 t (s1.trans s2) S⟩
end
end K04


set_option Elab.async false
set_option linter.all false
set_option maxRecDepth 100000
set_option maxHeartbeats 2000000
namespace K04
open PySem PySem.Spec PyProof.Rows L2 MM
/-! own words for the readings: a step, its side -/
local macro_rules | `(tactic| walk_at "side") => `(tactic| first
  | omega
  | exact ⟨by omega, by omega⟩
  | exact Or.inl ⟨by omega, by omega⟩
  | exact Or.inr ⟨by omega, by omega⟩
  | (show CPw _ _; decide +kernel)
  | (show (0 : Int) < _; decide +kernel)
  | (show CDivW _ _; first | assumption | exact ⟨by decide, by decide +kernel⟩))
local macro_rules | `(tactic| walk_at "here") => `(tactic| first
  | assumption
  | exact upd_same
  | exact Or.inl (Or.inl upd_same)
  | exact Or.inl upd_same)
local macro_rules | `(tactic| walk_at "one") => `(tactic| first
  | refine ⟨_, rfl, ?_⟩
  | refine Or.inl ⟨_, rfl, ?_⟩
  | refine Or.inr ⟨_, rfl, ?_⟩
  | refine ⟨_, _, rfl, rfl, (by walk_at "side"), ?_⟩
  | refine ⟨_, _, rfl, rfl, ?_⟩
  | refine ⟨_, _, rfl, Or.inl (by walk_at "here"), ?_⟩
  | refine ⟨_, _, rfl, Or.inr (by walk_at "here"), ?_⟩
  | refine ⟨_, _, rfl, (by walk_at "here"), ?_⟩
  | refine ⟨_, _, _, _, rfl, rfl, (by walk_at "here"), rfl, ?_⟩
  | refine ⟨_, _, rfl, ?_⟩
  | refine ifT (by rfl) ?_
  | refine ifF (by rfl) ?_
  | refine ifT (decide_eq_true (by omega)) ?_
  | refine ifF (decide_eq_false (by omega)) ?_)
local macro_rules | `(tactic| walk_at "st") => `(tactic| repeat (walk_at "one"))

section
variable {P : Program} {w : World} {K : PySem.W.Frag} {mg : Str → Option Value} {base : Heap}
/-- a heap that differs in the bag, and in new objects -/
structure Upto (p : Addr) (H H' : Hp) : Prop where
  same : ∀ b o, b ≠ p → H b = some o → H' b = some o
  bag : BagAt H' p
theorem Upto.refl {p : Addr} {H : Hp} (h : BagAt H p) : Upto p H H := ⟨fun _ _ _ e => e, h⟩
theorem Upto.draw {p : Addr} {H H' : Hp} {a b c : Int} (h : Upto p H H') : Upto p H (upd H' p (.lst [.int a, .int b, .int c])) :=
  ⟨fun x o n e => by rw [upd_ne n]; exact h.same x o n e, ⟨a, b, c, upd_same⟩⟩
theorem Upto.new {p t : Addr} {H H' : Hp} {o : HO} (h : Upto p H H') (f : H' t = none) : Upto p H (upd H' t o) := by
  obtain ⟨a, b, c, e⟩ := h.bag
  exact ⟨fun x y n e => by rw [upd_ne (ne_of_none (h.same x y n e) f)]; exact h.same x y n e, ⟨a, b, c, by rw [upd_ne (ne_of_none e f)]; exact e⟩⟩
theorem Upto.trans {p : Addr} {H H' H2 : Hp} (h : Upto p H H') (k : Upto p H' H2) : Upto p H H2 := ⟨fun x o n e => k.same x o n (h.same x o n e), k.bag⟩
theorem Upto.keep {p : Addr} {H H' H2 : Hp} (h : Upto p H H') (k : Same H' H2) : Upto p H H2 := by
  obtain ⟨a, b, c, e⟩ := h.bag
  exact ⟨fun x o n e => k x o (h.same x o n e), ⟨a, b, c, k _ _ e⟩⟩
theorem Upto.sqt {p a : Addr} {H H' : Hp} {xs : List V} (h : Upto p H H') (s : SqT K H a xs) (ne : a ≠ p) : SqT K H' a xs := by
  rcases s with (s | ⟨o, s⟩) | s
  · exact .inl (.inl (h.same _ _ ne s))
  · exact .inl (.inr ⟨o, h.same _ _ ne s⟩)
  · exact .inr s
theorem Upto.sql {p a : Addr} {H H' : Hp} {xs : List V} (h : Upto p H H') (s : SqL K H a xs) (ne : a ≠ p) : SqL K H' a xs := by
  rcases s with (s | ⟨o, s⟩) | s
  · exact .inl (.inl (h.same _ _ ne s))
  · exact .inl (.inr ⟨o, h.same _ _ ne s⟩)
  · exact .inr s
theorem Upto.free {p t : Addr} {H H' : Hp} (h : Upto p H H') (f : H' t = none) : t ≠ p ∧ H t = none := by
  obtain ⟨a, b, c, e⟩ := h.bag
  have n : t ≠ p := fun z => by rw [z, e] at f; cases f
  refine ⟨n, ?_⟩
  cases z : H t with
  | none => rfl
  | some o =>
    have := h.same t o n z
    rw [f] at this
    cases this
theorem Upto.put {p t : Addr} {H H' : Hp} {o : HO} (h : Upto p H H') (n : t ≠ p) (f : H t = none) : Upto p H (upd H' t o) := by
  obtain ⟨a, b, c, e⟩ := h.bag
  exact ⟨fun x y m e => by rw [upd_ne (ne_of_none e f)]; exact h.same x y m e, ⟨a, b, c, by rw [upd_ne n.symm]; exact e⟩⟩
theorem bag_ne {H : Hp} {p l : Addr} {x : HO} (e : H p = some x) (f : H l = none) : l ≠ p := fun z => by rw [z, e] at f; cases f
theorem pick_perm {α : Type} : ∀ (l : List α) (k : Nat) (h : k < l.length), (l[k] :: l.eraseIdx k).Perm l
  | _ :: _, 0, _ => .refl _
  | a :: r, k + 1, h => by
    show (r[k]'(by simpa using h) :: a :: r.eraseIdx k).Perm (a :: r)
    exact (List.Perm.swap _ _ _).trans (List.Perm.cons a (pick_perm r k (by simpa using h)))
def spMixed (K : PySem.W.Frag) : Sp := fun vs H Q _ => ∃ (p l : Addr) (xs : List V), vs = [.ref p, .ref l] ∧ BagAt H p ∧ SqL K H l xs ∧ l ≠ p ∧ xs.length ≤ 1000 ∧
  ∀ H' t ys, Upto p H H' → H t = none → ys.Perm xs → H' t = some (.lst ys) → Q (.ref t) H'
theorem scMixedL : FnScope ["_law_bag_here", "_law_items", "_law_waits", "_law_turn"] ["_law_bag_here", "_law_items"] (defScope sMixedL) :=
  ⟨rfl, rfl, rfl, by decide +kernel, rfl, by decide +kernel, by decide +kernel⟩
theorem dMixedL (T : Tx K mg) (DGrabL : Def P w K mg base CX0 1 "_law_grab" ["_law_bag_here", "_law_total"] spGrab) : Def P w K mg base CX0 2 "_law_mixed" ["_law_bag_here", "_law_items"] (spMixed K) := by
  refine T.t_law_mixed.def_ (N := ["_law_bag_here", "_law_items", "_law_waits", "_law_turn"]) scMixedL (fun _ _ _ _ _ _ us hl => match us, hl with | [_, _], _ => rfl) ?_ ?_
  · intro vs H Q E h
    obtain ⟨p, l, xs, rfl, _⟩ := h
    rfl
  · intro f cd A out s H vs Q E hr h
    have hr1 : Rm 1 _ := hr.le (by decide)
    obtain ⟨p, l, xs, rfl, hb, S, ne, len, q⟩ := h
    obtain ⟨b1, b2, b3, eb⟩ := hb
    refine ⟨_, (pss_cons (ps_set (i := 2) scMixedL.nd rfl (Or.inr rfl) (pe_callTy call_list_of rfl T.f_list (by decide +kernel) (pa_cons (pv 1) pa_nil)))
      (pss_one (ps_ret (pe_lc (own := [("_law_turn", 3)]) (g := gName 3) (tt := tYes) rfl scMixedL.nd (pi_range1 rfl T.f_range (pa_cons (pe_callB call_len_seq rfl T.f_len (by decide +kernel) (pa_cons (pv 1) pa_nil)) pa_nil)) (blkOk_by (N := ["_law_bag_here", "_law_items", "_law_waits", "_law_turn"]) (sc := defScope sMixedL) (by decide +kernel)) (fun _ _ _ _ _ => pg_name (i := 3) scMixedL.nd rfl (Or.inl rfl)) (fun _ _ _ _ _ => pts_nil) (fun _ _ _ _ _ => (show PE _ _ (tBM K "list" rPopAt _ _) from pe_bm PySem.F.plainAttrs_list PySem.F.slot_list_pop PySem.F.type_list_pop mt_popAt (pv 2) (pa_cons (pe_d DGrabL (hr1.le (by decide)) pass0 (pa_cons (pv 0) (pa_cons (pe_callB (cr_lenK (K := K) rfl) rfl T.f_len (by decide +kernel) (pa_cons (pv 2) pa_nil)) pa_nil))) pa_nil))))))), ?_⟩
    refine ⟨_, rfl, l, xs, rfl, .inl S, fun W nW => ?_⟩
    have up := (Upto.refl ⟨_, _, _, eb⟩).new (o := .lst xs) nW
    have hW : (upd H W (.lst xs)) W = some (.lst xs) := upd_same
    have S1 : SqL K (upd H W (.lst xs)) l xs := sql_new S nW
    have Wp : W ≠ p := bag_ne eb nW
    generalize upd H W _ = H1 at up hW S1 ⊢
    refine ⟨_, rfl, l, xs, rfl, .inl S1, xs.length, rfl, by omega, by omega, fun D nD => ?_⟩
    obtain ⟨Dp, fD⟩ := up.free nD
    have DW : D ≠ W := (ne_of_none hW nD).symm
    refine lc_range (Pv := fun i H4 => Upto p H H4 ∧ ∃ ws ys : List V, H4 W = some (.lst ws) ∧ H4 D = some (.lst ys) ∧ (ys ++ ws).Perm xs ∧ ys.length = i)
      ⟨up.new nD, xs, [], (upd_ne DW.symm).trans hW, upd_same, .refl _, rfl⟩ ?_ ?_
    · rintro i H4 hi ⟨up4, ws, ys, h4, h5, pm, ln⟩
      refine ⟨wipe_one, yes_ ?_⟩
      obtain ⟨c1, c2, c3, ec⟩ := up4.bag
      have tot : ys.length + ws.length = xs.length := by rw [← List.length_append]; exact pm.length_eq
      have wl : 0 < ws.length := by
        have : i < xs.length := by simpa using hi
        omega
      refine ⟨_, rfl, ?_, _, rfl, _, rfl, W, ws, rfl, .inl (.inl (.inl h4)), ?_⟩
      · exact .inl ⟨rfl, ws, .inl (.inl h4)⟩
      refine ⟨p, (ws.length : Int), c1, c2, c3, rfl, ec, div_small wl (by omega), fun r g' m' c' r0 r1 => ?_⟩
      have rl : r.toNat < ws.length := by omega
      have er : ((r.toNat : Nat) : Int) = r := by omega
      refine ⟨W, ws, r, r.toNat, ws[r.toNat], rfl, rfl, (upd_ne Wp).trans h4, by omega, by omega, ?_, List.getElem?_eq_getElem rl, ?_⟩
      · have := (ixN_seq (ixN_lt rl)).1
        rw [er] at this
        exact this
      refine ⟨ys, (upd_ne DW).trans ((upd_ne Dp).trans h5), ?_, (up4.draw.put Wp nW).put Dp fD, ws.eraseIdx r.toNat, ys ++ [ws[r.toNat]], (upd_ne DW.symm).trans upd_same, upd_same, ?_, by rw [List.length_append, ln]; rfl⟩
      · exact Nat.lt_of_le_of_lt (by omega) (small1000 (n := 1000) (by omega))
      · refine List.Perm.trans ?_ pm
        rw [List.append_assoc]
        exact List.Perm.append_left ys (pick_perm ws r.toNat rl)
    · rintro H4 ⟨up4, ws, ys, h4, h5, pm, ln⟩
      refine q H4 D ys up4 fD ?_ h5
      have tot : ys.length + ws.length = xs.length := by rw [← List.length_append]; exact pm.length_eq
      have e : ws = [] := List.eq_nil_of_length_eq_zero (by
        have : (xs.length : Int).toNat = xs.length := Int.toNat_natCast _
        omega)
      rw [e, List.append_nil] at pm
      exact pm
theorem mv_range_perm {ys : List V} {n : Nat} (h : ys.Perm (mv (List.range n))) : ∃ m, ys = mv m ∧ m.Perm (List.range n) := by
  refine ⟨ys.map fun | .int i => i.toNat | _ => 0, ?_, ?_⟩
  · unfold mv
    rw [List.map_map]
    have : ∀ y ∈ ys, ((fun (k : Nat) => V.int (k : Int)) ∘ fun | V.int i => i.toNat | _ => 0) y = y := by
      intro y hy
      obtain ⟨k, _, rfl⟩ := List.mem_map.mp (h.mem_iff.mp hy)
      rfl
    exact ((List.map_congr_left (g := id) this).trans (List.map_id ys)).symm
  · have := h.map fun | V.int i => i.toNat | _ => 0
    refine this.trans ?_
    unfold mv
    rw [List.map_map]
    exact .of_eq (List.map_id' _)
theorem mv_of_perm {m : List Nat} {n : Nat} (h : m.Perm (List.range n)) (h1 : 1 ≤ n) (h2 : n ≤ 24) : Mv m ∧ m.length = n := by
  have ln : m.length = n := by rw [h.length_eq, List.length_range]
  refine ⟨⟨h.nodup_iff.mpr List.nodup_range, fun k hk => ?_, by omega, by omega⟩, ln⟩
  rw [ln]
  exact List.mem_range.mp (h.mem_iff.mp hk)
def spSome (K : PySem.W.Frag) : Sp := fun vs H Q _ => ∃ (p : Addr) (n : Nat), vs = [.ref p, .int (n : Int)] ∧ BagAt H p ∧ 1 ≤ n ∧ n ≤ 24 ∧ ∀ H' t m, Upto p H H' → t ≠ p → SqT K H' t (mv m) → Mv m → m.length = n → Q (.ref t) H'
theorem scSomeMoveL : FnScope ["_law_bag_here", "_law_places", "_law_found", "_law_turn", "_law_one", "_law_other"] ["_law_bag_here", "_law_places"] (defScope sSomeMoveL) :=
  ⟨rfl, rfl, rfl, by decide +kernel, rfl, by decide +kernel, by decide +kernel⟩
theorem dSomeMoveL (T : Tx K mg) (DGrabL : Def P w K mg base CX0 1 "_law_grab" ["_law_bag_here", "_law_total"] spGrab) (DMixedL : Def P w K mg base CX0 2 "_law_mixed" ["_law_bag_here", "_law_items"] (spMixed K)) : Def P w K mg base CX0 3 "_law_some_move" ["_law_bag_here", "_law_places"] (spSome K) := by
  refine T.t_law_some_move.def_ (N := ["_law_bag_here", "_law_places", "_law_found", "_law_turn", "_law_one", "_law_other"]) scSomeMoveL (fun _ _ _ _ _ _ us hl => match us, hl with | [_, _], _ => rfl) ?_ ?_
  · intro vs H Q E h
    obtain ⟨p, n, rfl, _⟩ := h
    rfl
  · intro f cd A out s H vs Q E hr h
    have hr1 : Rm 2 _ := hr.le (by decide)
    obtain ⟨p, n, rfl, hb, n1, n2, q⟩ := h
    obtain ⟨b1, b2, b3, eb⟩ := hb
    refine ⟨_, (pss_cons (ps_if (pt_cmpR op_eq (pe_d DGrabL (hr1.le (by decide)) pass0 (pa_cons (pv 0) (pa_cons pe_int pa_nil))) pe_int (nomark _)) (pss_one (ps_ret (pe_callTy call_tuple_of rfl T.f_tuple (by decide +kernel) (pa_cons (pe_d DMixedL (hr1.le (by decide)) pass0 (pa_cons (pv 0) (pa_cons (pe_listRg rfl rfl T.f_list (prg_1 rfl T.f_range (pv 1))) pa_nil))) pa_nil)))) pss_nil)
      (pss_cons (ps_set (i := 2) scSomeMoveL.nd rfl (Or.inl rfl) (pe_listRg rfl rfl T.f_list (prg_1 rfl T.f_range (pv 1))))
      (pss_cons (ps_for PassesOwn.never rfl (pi_range1 rfl T.f_range (pa_cons (pe_d DGrabL (hr1.le (by decide)) pass0 (pa_cons (pv 0) (pa_cons pe_int pa_nil))) pa_nil)) (pg_name (i := 3) scSomeMoveL.nd rfl (Or.inl rfl))
        (pss_cons (ps_par (i := 4) (j := 5) rfl scSomeMoveL.nd rfl rfl (by decide) rfl rfl (pa_cons (pe_d DGrabL (hr1.le (by decide)) pass0 (pa_cons (pv 0) (pa_cons (pv 1) pa_nil))) (pa_cons (pe_d DGrabL (hr1.le (by decide)) pass0 (pa_cons (pv 0) (pa_cons (pv 1) pa_nil))) pa_nil)) (by rfl))
        (pss_one (ps_asg (pe_tup (pa_cons (pe_ix ix_list (pv 2) (pv 5) (fun _ _ => rfl)) (pa_cons (pe_ix ix_list (pv 2) (pv 4) (fun _ _ => rfl)) pa_nil))) (pg_tup rfl (pgs_cons (pg_sub (pv 2) (pv 4) set_list) (pgs_cons (pg_sub (pv 2) (pv 5) set_list) pgs_nil)))))))
      (pss_one (ps_ret (pe_callTy call_tuple_of rfl T.f_tuple (by decide +kernel) (pa_cons (pv 2) pa_nil))))))), ?_⟩
    refine ⟨_, rfl, p, 2, b1, b2, b3, rfl, eb, ⟨by decide, by decide⟩, fun r g' m' c' r0 r1 => ?_⟩
    have up := (Upto.refl ⟨_, _, _, eb⟩).draw (a := g') (b := m') (c := c')
    generalize upd H p _ = H1 at up ⊢
    refine ⟨rfl, _, rfl, ?_⟩
    refine ite2 (fun c => ?_) (fun c => ?_)
    · refine ⟨_, rfl, _, rfl, _, rfl, ⟨by omega, by omega, by omega, by omega, by omega⟩, fun l fl => ?_⟩
      rw [rg_mv]
      have np : l ≠ p := (up.free fl).1
      have up1 := up.new (o := .lst (mv (List.range n))) fl
      have L : (upd H1 l (.lst (mv (List.range n)))) l = some (.lst (mv (List.range n))) := upd_same
      generalize upd H1 l _ = H2 at up1 L ⊢
      refine ⟨p, l, _, rfl, up1.bag, .inl (.inl L), np, by rw [mv_len, List.length_range]; omega, fun H3 t ys up3 ft pm ht => ?_⟩
      obtain ⟨m, rfl, pm2⟩ := mv_range_perm pm
      obtain ⟨hm, lm⟩ := mv_of_perm pm2 n1 n2
      have up4 := up1.trans up3
      exact ⟨t, _, rfl, .inl ⟨.inl (.inl ht), fun u fu => q _ u m (up4.new fu) (up4.free fu).1 (.inl (.inl upd_same)) hm lm⟩⟩
    · refine ⟨_, rfl, _, rfl, ⟨by omega, by omega, by omega, by omega, by omega⟩, fun F fF => ?_⟩
      rw [rg_mv]
      obtain ⟨Fp, nF⟩ := up.free fF
      have up1 := up.new (o := .lst (mv (List.range n))) fF
      have L : (upd H1 F (.lst (mv (List.range n)))) F = some (.lst (mv (List.range n))) := upd_same
      generalize upd H1 F _ = H2 at up1 L ⊢
      obtain ⟨c1, c2, c3, ec⟩ := up1.bag
      refine ⟨_, rfl, p, 6, c1, c2, c3, rfl, ec, ⟨by decide, by decide⟩, fun k g' m' c' k0 k1 => ?_⟩
      refine ⟨k, rfl, by omega, by omega, for_range (fun i σ H3 => Upto p H H3 ∧ ∃ (m : List Nat) (x y z : Option V), H3 F = some (.lst (mv m)) ∧ m.Perm (List.range n) ∧ σ = [some (.ref p), some (.int (n : Int)), some (.ref F), x, y, z])
        ⟨up1.draw, _, none, none, none, (upd_ne Fp).trans L, .refl _, rfl⟩ ?_ ?_⟩
      · rintro i σ H3 hi ⟨up3, m, x, y, z, hF, pm, rfl⟩
        obtain ⟨d1, d2, d3, ed⟩ := up3.bag
        obtain ⟨hm, lm⟩ := mv_of_perm pm n1 n2
        refine ⟨_, rfl, _, rfl, p, n, d1, d2, d3, rfl, ed, div_small (by omega) (by omega), fun one g1 m1 c1 o0 o1 => ?_⟩
        have up4 := up3.draw (a := g1) (b := m1) (c := c1)
        replace hF := (upd_ne (o := .lst [.int g1, .int m1, .int c1]) Fp).trans hF
        generalize upd H3 p _ = H4 at up4 hF ⊢
        obtain ⟨f1, f2, f3, ef⟩ := up4.bag
        refine ⟨_, rfl, _, rfl, p, n, f1, f2, f3, rfl, ef, div_small (by omega) (by omega), fun other g2 m2 c2 p0 p1 => ?_⟩
        have up5 := up4.draw (a := g2) (b := m2) (c := c2)
        replace hF := (upd_ne (o := .lst [.int g2, .int m2, .int c2]) Fp).trans hF
        generalize upd H4 p _ = H5 at up5 hF ⊢
        refine ⟨_, _, rfl, ?_⟩
        obtain ⟨u, rfl⟩ : ∃ u : Nat, one = (u : Int) := ⟨one.toNat, by omega⟩
        obtain ⟨v, rfl⟩ : ∃ v : Nat, other = (v : Int) := ⟨other.toNat, by omega⟩
        have lu : u < m.length := by omega
        have lv : v < m.length := by omega
        refine ⟨_, rfl, _, rfl, F, _, _, _, rfl, rfl, .inl (.inl hF), mv_at lv, _, rfl, _, rfl, F, _, _, _, rfl, rfl, .inl (.inl hF), mv_at lu, by (show 2 ≤ sizeLine); decide, fun T fT => ?_⟩
        have nFT : F ≠ T := ne_of_none hF fT
        refine ⟨T, _, rfl, .inl (.inl upd_same), rfl, _, _, rfl, ?_⟩
        refine ⟨_, rfl, _, rfl, F, _, _, u, rfl, rfl, (upd_ne nFT).trans hF, by rw [mv_len]; exact ixN_lt lu, ?_⟩
        rw [mv_set]
        refine ⟨_, _, rfl, _, rfl, _, rfl, F, _, _, v, rfl, rfl, upd_same, by rw [mv_len, List.length_set]; exact ixN_lt lv, rfl, ?_⟩
        rw [mv_set]
        refine ⟨(((up5.new fT).put Fp nF)).put Fp nF, (m.set u (m.getD v 0)).set v (m.getD u 0), _, _, _, upd_same, ?_, rfl⟩
        have sw := List.set_set_perm lu lv
        have gu : m.getD u 0 = m[u] := by rw [List.getD, List.getElem?_eq_getElem lu]; rfl
        have gv : m.getD v 0 = m[v] := by rw [List.getD, List.getElem?_eq_getElem lv]; rfl
        rw [gu, gv]
        exact sw.trans pm
      · rintro σ H3 ⟨up3, m, x, y, z, hF, pm, rfl⟩
        obtain ⟨hm, lm⟩ := mv_of_perm pm n1 n2
        exact ⟨_, rfl, F, _, rfl, .inl ⟨.inl (.inl hF), fun u fu => q _ u m (up3.new fu) (up3.free fu).1 (.inl (.inl upd_same)) hm lm⟩⟩
end
end K04


set_option Elab.async false
set_option linter.all false
set_option maxRecDepth 100000
set_option maxHeartbeats 2000000
namespace K04
open PySem PySem.Spec PyProof.Rows L2 MM
/-! own words for the readings: a step, its side -/
local macro_rules | `(tactic| walk_at "side") => `(tactic| first
  | omega
  | exact ⟨by omega, by omega⟩
  | exact Or.inl ⟨by omega, by omega⟩
  | exact Or.inr ⟨by omega, by omega⟩
  | (show CPw _ _; decide +kernel)
  | (show (0 : Int) < _; decide +kernel)
  | (show CDivW _ _; first | assumption | exact ⟨by decide, by decide +kernel⟩))
local macro_rules | `(tactic| walk_at "here") => `(tactic| first
  | assumption
  | exact upd_same
  | exact Or.inl (Or.inl upd_same)
  | exact Or.inl upd_same)
local macro_rules | `(tactic| walk_at "one") => `(tactic| first
  | refine ⟨_, rfl, ?_⟩
  | refine Or.inl ⟨_, rfl, ?_⟩
  | refine Or.inr ⟨_, rfl, ?_⟩
  | refine ⟨_, _, rfl, rfl, (by walk_at "side"), ?_⟩
  | refine ⟨_, _, rfl, rfl, ?_⟩
  | refine ⟨_, _, rfl, Or.inl (by walk_at "here"), ?_⟩
  | refine ⟨_, _, rfl, Or.inr (by walk_at "here"), ?_⟩
  | refine ⟨_, _, rfl, (by walk_at "here"), ?_⟩
  | refine ⟨_, _, _, _, rfl, rfl, (by walk_at "here"), rfl, ?_⟩
  | refine ⟨_, _, rfl, ?_⟩
  | refine ifT (by rfl) ?_
  | refine ifF (by rfl) ?_
  | refine ifT (decide_eq_true (by omega)) ?_
  | refine ifF (decide_eq_false (by omega)) ?_)
local macro_rules | `(tactic| walk_at "st") => `(tactic| repeat (walk_at "one"))

section
variable {P : Program} {w : World} {K : PySem.W.Frag} {mg : Str → Option Value} {base : Heap}
def gcdL (ns : List Int) : Nat := ns.foldl (fun g n => Nat.gcd g n.natAbs) 0
theorem gcdL_more {ns : List Int} {i : Nat} {n : Int} (h : ns[i]? = some n) : gcdL (ns.take (i + 1)) = Nat.gcd (gcdL (ns.take i)) n.natAbs := by
  unfold gcdL
  rw [List.take_add_one, h, List.foldl_append]
  rfl
theorem abs_nat (n : Int) : (if n < 0 then -n else n) = ((n.natAbs : Nat) : Int) := by
  split <;> omega
theorem map_int {ns : List Int} {i : Nat} {x : V} (h : (ns.map V.int)[i]? = some x) : ∃ n, ns[i]? = some n ∧ x = V.int n := by
  rw [List.getElem?_map] at h
  cases e : ns[i]? with
  | none =>
    rw [e] at h
    cases h
  | some n =>
    rw [e] at h
    exact ⟨n, rfl, (Option.some.inj h).symm⟩
def spShare (K : PySem.W.Frag) : Sp := fun vs H Q _ => ∃ a ns, vs = [.ref a] ∧ SqL K H a (ns.map V.int) ∧ Q (.int (gcdL ns : Nat)) H
theorem scLineShareL : FnScope ["_law_numbers", "_law_found", "_law_number", "_law_one", "_law_other"] ["_law_numbers"] (defScope sLineShareL) :=
  ⟨rfl, rfl, rfl, by decide +kernel, rfl, by decide +kernel, by decide +kernel⟩
theorem dLineShareL (T : Tx K mg) : Def P w K mg base CX0 1 "_law_line_share" ["_law_numbers"] (spShare K) := by
  refine T.t_law_line_share.def_ (N := ["_law_numbers", "_law_found", "_law_number", "_law_one", "_law_other"]) scLineShareL (fun _ _ _ _ _ _ us hl => match us, hl with | [_], _ => rfl) ?_ ?_
  · intro vs H Q E h
    obtain ⟨a, ns, rfl, _⟩ := h
    rfl
  · intro f cd A out s H vs Q E hr h
    obtain ⟨a, ns, rfl, hS, q⟩ := h
    refine ⟨_, (pss_cons (ps_set (i := 1) scLineShareL.nd rfl (Or.inl rfl) pe_int)
      (pss_cons (ps_for PassesOwn.never rfl (pi_list (pv 0)) (pg_name (i := 2) scLineShareL.nd rfl (Or.inl rfl))
        (pss_cons (ps_par (i := 3) (j := 4) rfl scLineShareL.nd rfl rfl (by decide) rfl rfl (pa_cons (pv 1) (pa_cons (pe_callB call_abs rfl T.f_abs (by decide +kernel) (pa_cons (pv 2) pa_nil)) pa_nil)) (by rfl))
        (pss_cons (ps_while PassesOwn.never (pt_cmpR op_gt (pv 4) pe_int (nomark _))
          (pss_one (ps_par (i := 3) (j := 4) rfl scLineShareL.nd rfl rfl (by decide) rfl rfl (pa_cons (pv 4) (pa_cons (pe_op op_mod (pe_callTy call_int1 rfl T.f_int (by decide +kernel) (pa_cons (pv 3) pa_nil)) (pv 4)) pa_nil)) (by rfl))))
        (pss_one (ps_set (i := 1) scLineShareL.nd rfl (Or.inl rfl) (pv 3))))))
      (pss_one (ps_ret (pv 1))))), ?_⟩
    refine ⟨_, rfl, a, rfl, ⟨_, hS⟩, for_list (K := K) (a := a) (xs := ns.map V.int)
      (fun i σ H' => H' = H ∧ ∃ y z u, σ = [some (.ref a), some (.int (gcdL (ns.take i) : Nat)), y, z, u]) ⟨rfl, none, none, none, rfl⟩ (fun i σ H' _ e => by rw [e.1]; exact hS) ?_ ?_⟩
    · rintro i x σ H' hi ⟨rfl, y, z, u, rfl⟩
      obtain ⟨n, hn, rfl⟩ := map_int hi
      refine ⟨_, rfl, _, rfl, _, rfl, _, _, rfl, ?_⟩
      refine while_by (fun σ H2 => H2 = H' ∧ ∃ f o : Nat, σ = [some (.ref a), some (.int (gcdL (ns.take i) : Nat)), some (.int n), some (.int (f : Int)), some (.int (o : Int))] ∧ Nat.gcd f o = gcdL (ns.take (i + 1)))
        (fun σ _ => match σ with | [_, _, _, _, some (.int o)] => o.toNat | _ => 0) ⟨rfl, gcdL (ns.take i), n.natAbs, ?_, (gcdL_more hn).symm⟩ ?_ ?_
      · show [_, _, _, _, some (V.int (if n < 0 then -n else n))] = _
        rw [abs_nat]
      · rintro σ H2 ⟨rfl, f, o, rfl, eg⟩
        walk_at "st"
        refine ite2 (fun c => ?_) (fun c => ?_)
        · have o0 : 0 < o := by
            have := of_decide_eq_true c
            omega
          walk_at "st"
          refine ⟨⟨rfl, o, f % o, rfl, ?_⟩, ?_⟩
          · rw [← eg, Nat.gcd_comm f o, Nat.gcd_rec o f, Nat.gcd_comm]
          · show ((f : Int) % (o : Int)).toNat < ((o : Nat) : Int).toNat
            have := Int.emod_lt_of_pos (f : Int) (by omega : (0 : Int) < o)
            have := Int.emod_nonneg (f : Int) (by omega : (o : Int) ≠ 0)
            omega
        · have o0 : o = 0 := by
            by_cases e : o = 0
            · exact e
            · exact absurd (decide_eq_true (by omega : (0 : Int) < o)) c
          subst o0
          rw [Nat.gcd_zero_right] at eg
          refine ⟨_, rfl, rfl, some (.int n), some (.int f), some (.int 0), ?_⟩
          rw [← eg]
          rfl
      · rintro σ H2 Q1 Q2 m ⟨v, hv, i, j, e1, e2, k, e3, q⟩
        exact ⟨v, hv, i, j, e1, e2, k, e3, m _ _ q⟩
    · rintro σ H' ⟨rfl, y, z, u, rfl⟩
      rw [List.length_map, List.take_length]
      exact ⟨_, rfl, q⟩
def lcmL (ns : List Nat) : Nat := ns.foldl Nat.lcm 1
theorem lcmL_more {ns : List Nat} {i n : Nat} (h : ns[i]? = some n) : lcmL (ns.take (i + 1)) = Nat.lcm (lcmL (ns.take i)) n := by
  unfold lcmL
  rw [List.take_add_one, h, List.foldl_append]
  rfl
theorem share_eq (L k : Nat) : gcdL [(L : Int), (k : Int)] = Nat.gcd L k := by
  show Nat.gcd (Nat.gcd 0 (L : Int).natAbs) (k : Int).natAbs = _
  rw [Nat.gcd_zero_left, Int.natAbs_natCast, Int.natAbs_natCast]
theorem share_bd (L : Nat) {k : Nat} (h : 1 ≤ k) : 0 < gcdL [(L : Int), (k : Int)] ∧ gcdL [(L : Int), (k : Int)] ≤ k := by
  rw [share_eq]
  exact ⟨Nat.gcd_pos_of_pos_right _ h, Nat.gcd_le_right _ h⟩
theorem share_step (L k : Nat) : (L : Int) / ((gcdL [(L : Int), (k : Int)] : Nat) : Int) * (k : Int) = ((Nat.lcm L k : Nat) : Int) := by
  rw [share_eq, ← Int.natCast_ediv, ← Int.natCast_mul, Nat.div_mul_right_comm (Nat.gcd_dvd_left L k)]
  rfl
def spMult (K : PySem.W.Frag) : Sp := fun vs H Q _ => ∃ a ns, vs = [.ref a] ∧ SqL K H a (mv ns) ∧ (∀ n ∈ ns, 1 ≤ n ∧ n ≤ 24) ∧ (∀ i, lcmL (ns.take i) < 2 ^ 63) ∧ ∀ H', Same H H' → Q (.int (lcmL ns : Nat)) H'
theorem scOwnMultipleL : FnScope ["_law_numbers", "_law_found", "_law_number"] ["_law_numbers"] (defScope sOwnMultipleL) :=
  ⟨rfl, rfl, rfl, by decide +kernel, rfl, by decide +kernel, by decide +kernel⟩
theorem dOwnMultipleL (T : Tx K mg) (DLineShareL : Def P w K mg base CX0 1 "_law_line_share" ["_law_numbers"] (spShare K)) : Def P w K mg base CX0 2 "_law_own_multiple" ["_law_numbers"] (spMult K) := by
  refine T.t_law_own_multiple.def_ (N := ["_law_numbers", "_law_found", "_law_number"]) scOwnMultipleL (fun _ _ _ _ _ _ us hl => match us, hl with | [_], _ => rfl) ?_ ?_
  · intro vs H Q E h
    obtain ⟨a, ns, rfl, _⟩ := h
    rfl
  · intro f cd A out s H vs Q E hr h
    have hr1 : Rm 1 _ := hr.le (by decide)
    obtain ⟨a, ns, rfl, hS, hn, hl, q⟩ := h
    refine ⟨_, (pss_cons (ps_set (i := 1) scOwnMultipleL.nd rfl (Or.inl rfl) pe_int)
      (pss_cons (ps_for PassesOwn.never rfl (pi_list (pv 0)) (pg_name (i := 2) scOwnMultipleL.nd rfl (Or.inl rfl))
        (pss_one (ps_set (i := 1) scOwnMultipleL.nd rfl (Or.inl rfl) (pe_op op_mul (pe_op op_fdivW (pv 1) (pe_d DLineShareL (hr1.le (by decide)) pass0 (pa_cons (pe_lst (pa_cons (pv 1) (pa_cons (pv 2) pa_nil))) pa_nil))) (pv 2)))))
      (pss_one (ps_ret (pv 1))))), ?_⟩
    refine ⟨_, rfl, a, rfl, ⟨_, hS⟩, for_list (K := K) (a := a) (xs := mv ns)
      (fun i σ H' => Same H H' ∧ ∃ y, σ = [some (.ref a), some (.int (lcmL (ns.take i) : Nat)), y]) ⟨Same.refl H, none, rfl⟩ (fun i σ H' _ e => e.1.seq hS) ?_ ?_⟩
    · rintro i x σ H' hi ⟨sm, y, rfl⟩
      obtain ⟨li, rfl⟩ := mv_nth hi
      have e : ns[i]? = some (ns.getD i 0) := by rw [List.getD, List.getElem?_eq_getElem li]; rfl
      obtain ⟨m1, m2⟩ := hn (ns.getD i 0) (List.mem_of_getElem? e)
      have L9 := hl i
      generalize hk : ns.getD i 0 = k at e m1 m2 ⊢
      refine ⟨_, rfl, _, rfl, _, rfl, by (show 2 ≤ sizeLine); decide, fun t et => ?_⟩
      refine ⟨t, [((lcmL (ns.take i) : Nat) : Int), (k : Int)], rfl, .inl (.inl upd_same), ?_⟩
      obtain ⟨z0, z1⟩ := share_bd (lcmL (ns.take i)) m1
      refine ⟨_, _, rfl, rfl, wide_div (b := 20) (by omega) (by rw [Int.natAbs_natCast]; exact Nat.lt_of_le_of_lt z1 (Nat.lt_of_le_of_lt m2 (by decide))) (by decide) (by decide), _, rfl, _, _, rfl, rfl, .inr ⟨by omega, by omega⟩, ?_⟩
      refine ⟨sm.trans (same_new et), some (.int (k : Int)), ?_⟩
      show [some (V.ref a), some (V.int (((lcmL (ns.take i) : Nat) : Int) / ((gcdL [((lcmL (ns.take i) : Nat) : Int), (k : Int)] : Nat) : Int) * (k : Int))), some (V.int (k : Int))] = _
      rw [share_step, lcmL_more e]
    · rintro σ H' ⟨sm, y, rfl⟩
      rw [mv_len, List.take_length]
      exact ⟨_, rfl, q _ sm⟩
end
end K04


set_option Elab.async false
set_option linter.all false
namespace K04
/-! rings of a permutation -/
section
variable {f : Nat → Nat} {n : Nat}
/-- f moves the places below n, one to one -/
structure Pm (f : Nat → Nat) (n : Nat) : Prop where
  lt : ∀ k, k < n → f k < n
  inj : ∀ a b, a < n → b < n → f a = f b → a = b
def it (f : Nat → Nat) : Nat → Nat → Nat
  | 0, p => p
  | k + 1, p => f (it f k p)
theorem it_lt (h : Pm f n) {p : Nat} (hp : p < n) : ∀ k, it f k p < n
  | 0 => hp
  | k + 1 => h.lt _ (it_lt h hp k)
theorem it_add (f : Nat → Nat) (p : Nat) (b : Nat) : ∀ a, it f (a + b) p = it f a (it f b p)
  | 0 => by rw [Nat.zero_add]; rfl
  | a + 1 => by
    rw [Nat.succ_add]
    show f (it f (a + b) p) = f (it f a (it f b p))
    rw [it_add f p b a]
theorem it_inj (h : Pm f n) {a b : Nat} (ha : a < n) (hb : b < n) : ∀ k, it f k a = it f k b → a = b
  | 0, e => e
  | k + 1, e => it_inj h ha hb k (h.inj _ _ (it_lt h ha k) (it_lt h hb k) e)
theorem least {P : Nat → Prop} : ∀ n, P n → ∃ k, k ≤ n ∧ P k ∧ ∀ j, j < k → ¬ P j := by
  intro n
  induction n using Nat.strongRecOn with
  | ind n ih =>
    intro hn
    by_cases c : ∃ j, j < n ∧ P j
    · obtain ⟨j, lt, hj⟩ := c
      obtain ⟨k, le, hk, ho⟩ := ih j lt hj
      exact ⟨k, Nat.le_trans le (Nat.le_of_lt lt), hk, ho⟩
    · exact ⟨n, Nat.le_refl n, hn, fun j lt hj => c ⟨j, lt, hj⟩⟩
theorem back_home (h : Pm f n) {p : Nat} (hp : p < n) : ∃ k, 1 ≤ k ∧ k ≤ n ∧ it f k p = p := by
  by_cases c : ∃ i j, i < j ∧ j ≤ n ∧ it f i p = it f j p
  · obtain ⟨i, j, ij, jn, e⟩ := c
    refine ⟨j - i, by omega, by omega, ?_⟩
    have e2 : it f j p = it f i (it f (j - i) p) := by
      rw [← it_add f p (j - i) i, show i + (j - i) = j by omega]
    rw [e2] at e
    exact (it_inj h hp (it_lt h hp _) i e).symm
  · exfalso
    have nd : ((List.range (n + 1)).map fun k => it f k p).Nodup := by
      rw [List.Nodup, List.pairwise_map]
      refine List.Pairwise.imp_of_mem ?_ (List.pairwise_lt_range (n := n + 1))
      intro i j hi hj lt e
      exact c ⟨i, j, lt, by have := List.mem_range.mp hj; omega, e⟩
    have sub : ((List.range (n + 1)).map fun k => it f k p) ⊆ List.range n := by
      intro x hx
      obtain ⟨k, _, rfl⟩ := List.mem_map.mp hx
      exact List.mem_range.mpr (it_lt h hp k)
    have := nd.length_le_of_subset sub
    rw [List.length_map, List.length_range, List.length_range] at this
    omega
/-- the length of p's ring -/
theorem ring_len (h : Pm f n) {p : Nat} (hp : p < n) : ∃ L, 1 ≤ L ∧ L ≤ n ∧ it f L p = p ∧ ∀ k, 1 ≤ k → k < L → it f k p ≠ p := by
  obtain ⟨k, k1, kn, e⟩ := back_home h hp
  obtain ⟨L, le, ⟨l1, el⟩, no⟩ := least (P := fun k => 1 ≤ k ∧ it f k p = p) k ⟨k1, e⟩
  exact ⟨L, l1, by omega, el, fun j j1 jl e => no j jl ⟨j1, e⟩⟩
def ring (f : Nat → Nat) (p L : Nat) : List Nat := (List.range L).map fun k => it f k p
theorem ring_nodup (h : Pm f n) {p L : Nat} (hp : p < n) (no : ∀ k, 1 ≤ k → k < L → it f k p ≠ p) : (ring f p L).Nodup := by
  unfold ring
  rw [List.Nodup, List.pairwise_map]
  refine List.Pairwise.imp_of_mem ?_ (List.pairwise_lt_range (n := L))
  intro i j hi hj lt e
  have jl := List.mem_range.mp hj
  have e2 : it f j p = it f i (it f (j - i) p) := by
    rw [← it_add f p (j - i) i, show i + (j - i) = j by omega]
  rw [e2] at e
  exact no (j - i) (by omega) (by omega) (it_inj h hp (it_lt h hp _) i e).symm
theorem ring_step {p L k : Nat} (e : it f L p = p) (hk : k < L) : f ((ring f p L).getD k 0) = (ring f p L).getD ((k + 1) % L) 0 := by
  have g : ∀ j, j < L → (ring f p L).getD j 0 = it f j p := fun j hj => by
    unfold ring
    rw [List.getD, List.getElem?_map, List.getElem?_range hj]
    rfl
  have pos : 0 < L := by omega
  rw [g k hk, g _ (Nat.mod_lt _ pos)]
  by_cases c : k + 1 = L
  · rw [c, Nat.mod_self]
    show it f (k + 1) p = p
    rw [c, e]
  · rw [Nat.mod_eq_of_lt (by omega)]
    rfl
theorem ring_mem {p L x : Nat} : x ∈ ring f p L ↔ ∃ k, k < L ∧ x = it f k p := by
  unfold ring
  rw [List.mem_map]
  exact ⟨fun ⟨k, hk, e⟩ => ⟨k, List.mem_range.mp hk, e.symm⟩, fun ⟨k, hk, e⟩ => ⟨k, List.mem_range.mpr hk, e.symm⟩⟩
/-- a ring is closed, forward and back -/
theorem ring_closed (h : Pm f n) {p L : Nat} (hp : p < n) (pos : 1 ≤ L) (e : it f L p = p) {x : Nat} (hx : x < n) : f x ∈ ring f p L ↔ x ∈ ring f p L := by
  rw [ring_mem, ring_mem]
  constructor
  · rintro ⟨k, hk, ek⟩
    cases k with
    | zero =>
      refine ⟨L - 1, by omega, h.inj _ _ hx (it_lt h hp _) ?_⟩
      rw [ek]
      show p = it f (L - 1 + 1) p
      rw [show L - 1 + 1 = L by omega, e]
    | succ k => exact ⟨k, by omega, h.inj _ _ hx (it_lt h hp _) ek⟩
  · rintro ⟨k, hk, rfl⟩
    by_cases c : k + 1 = L
    · refine ⟨0, by omega, ?_⟩
      show it f (k + 1) p = p
      rw [c, e]
    · exact ⟨k + 1, by omega, rfl⟩
/-- the length of p's ring, reckoned -/
def lenOf (f : Nat → Nat) (n p : Nat) : Nat := ((List.range n).find? fun k => decide (it f (k + 1) p = p)).getD 0 + 1
theorem lenOf_ok (h : Pm f n) {p : Nat} (hp : p < n) : lenOf f n p ≤ n ∧ it f (lenOf f n p) p = p ∧ ∀ k, 1 ≤ k → k < lenOf f n p → it f k p ≠ p := by
  obtain ⟨L, l1, ln, e, no⟩ := ring_len h hp
  have found : (List.range n).find? (fun k => decide (it f (k + 1) p = p)) = some (L - 1) := by
    rw [List.find?_range_eq_some]
    refine ⟨?_, List.mem_range.mpr (by omega), fun j hj => ?_⟩
    · rw [show L - 1 + 1 = L by omega]
      exact decide_eq_true e
    · have := no (j + 1) (by omega) (by omega)
      simp [this]
  have el : lenOf f n p = L := by
    unfold lenOf
    rw [found]
    show L - 1 + 1 = L
    omega
  rw [el]
  exact ⟨ln, e, no⟩
def ringOf (f : Nat → Nat) (n p : Nat) : List Nat := ring f p (lenOf f n p)
theorem lenOf_pos (f : Nat → Nat) (n p : Nat) : 1 ≤ lenOf f n p := by unfold lenOf; omega
theorem ringOf_len (f : Nat → Nat) (n p : Nat) : (ringOf f n p).length = lenOf f n p := by
  unfold ringOf ring
  rw [List.length_map, List.length_range]
/-- the rings that begin below s -/
def ringsTo (f : Nat → Nat) (n : Nat) : Nat → List (List Nat)
  | 0 => []
  | s + 1 => if s ∈ (ringsTo f n s).flatten then ringsTo f n s else ringsTo f n s ++ [ringOf f n s]
/-- what holds of them: closed, each place once, all below n, every place below s -/
structure Good (f : Nat → Nat) (n s : Nat) (R : List (List Nat)) : Prop where
  closed : ∀ x, x < n → (f x ∈ R.flatten ↔ x ∈ R.flatten)
  once : R.flatten.Nodup
  below : ∀ x ∈ R.flatten, x < n
  all : ∀ x, x < s → x ∈ R.flatten
  each : ∀ r ∈ R, ∃ p, p < n ∧ r = ringOf f n p
theorem closed_it {S : List Nat} (h : Pm f n) (c : ∀ x, x < n → (f x ∈ S ↔ x ∈ S)) {p : Nat} (hp : p < n) : ∀ k, it f k p ∈ S ↔ p ∈ S
  | 0 => Iff.rfl
  | k + 1 => (c _ (it_lt h hp k)).trans (closed_it h c hp k)
theorem rings_good (h : Pm f n) : ∀ s, s ≤ n → Good f n s (ringsTo f n s)
  | 0, _ => ⟨fun x _ => by simp [ringsTo], by simp [ringsTo], by simp [ringsTo], fun x hx => by omega, by simp [ringsTo]⟩
  | s + 1, le => by
    have g := rings_good h s (by omega)
    have sn : s < n := le
    unfold ringsTo
    split
    · rename_i c
      refine ⟨g.closed, g.once, g.below, fun x hx => ?_, g.each⟩
      by_cases e : x = s
      · rw [e]
        exact c
      · exact g.all x (by omega)
    · rename_i c
      obtain ⟨ln, e, no⟩ := lenOf_ok h sn
      have pos := lenOf_pos f n s
      have fl : (ringsTo f n s ++ [ringOf f n s]).flatten = (ringsTo f n s).flatten ++ ringOf f n s := by simp
      refine ⟨fun x hx => ?_, ?_, ?_, fun x hx => ?_, fun r hr => ?_⟩
      · rw [fl, List.mem_append, List.mem_append, g.closed x hx]
        have := ring_closed h sn pos e hx
        exact or_congr Iff.rfl this
      · rw [fl, List.nodup_append]
        refine ⟨g.once, ring_nodup h sn no, fun a ha b hb z => ?_⟩
        subst z
        obtain ⟨k, _, rfl⟩ := ring_mem.mp hb
        exact c ((closed_it h g.closed sn k).mp ha)
      · rw [fl]
        intro x hx
        rcases List.mem_append.mp hx with hx | hx
        · exact g.below x hx
        · obtain ⟨k, _, rfl⟩ := ring_mem.mp hx
          exact it_lt h sn k
      · rw [fl]
        by_cases z : x = s
        · subst z
          exact List.mem_append_right _ (ring_mem.mpr ⟨0, pos, rfl⟩)
        · exact List.mem_append_left _ (g.all x (by omega))
      · rcases List.mem_append.mp hr with hr | hr
        · exact g.each r hr
        · exact ⟨s, sn, List.mem_singleton.mp hr⟩
def rings (f : Nat → Nat) (n : Nat) : List (List Nat) := ringsTo f n n
theorem it_times {p L : Nat} (e : it f L p = p) : ∀ q, it f (L * q) p = p
  | 0 => rfl
  | q + 1 => by
    rw [Nat.mul_succ, it_add, e]
    exact it_times e q
theorem it_mod {p L : Nat} (e : it f L p = p) (k : Nat) : it f k p = it f (k % L) p := by
  have h : k = k % L + L * (k / L) := (Nat.mod_add_div k L).symm
  have h2 : it f k p = it f (k % L) (it f (L * (k / L)) p) := by
    rw [← it_add, ← h]
  rw [h2, it_times e]
/-- the power e of f, where f's power M is the unit -/
def pwE (f : Nat → Nat) (M : Nat) (e : Int) (x : Nat) : Nat := it f (e % (M : Int)).toNat x
theorem ring_pow {p L M a : Nat} {e : Int} (eL : it f L p = p) (pos : 0 < L) (dv : L ∣ M) (pM : 0 < M) (ha : a < L) :
    (ring f p L).getD (((a : Int) + e) % (L : Int)).toNat 0 = pwE f M e (it f a p) := by
  have g : ∀ j, j < L → (ring f p L).getD j 0 = it f j p := fun j hj => by
    unfold ring
    rw [List.getD, List.getElem?_map, List.getElem?_range hj]
    rfl
  have m0 := Int.emod_nonneg ((a : Int) + e) (by omega : (L : Int) ≠ 0)
  have m1 := Int.emod_lt_of_pos ((a : Int) + e) (by omega : (0 : Int) < L)
  rw [g _ (by omega)]
  unfold pwE
  rw [← it_add, it_mod eL ((e % (M : Int)).toNat + a)]
  congr 1
  have e0 := Int.emod_nonneg e (by omega : (M : Int) ≠ 0)
  have key : (((e % (M : Int)).toNat + a : Nat) : Int) % (L : Int) = ((a : Int) + e) % (L : Int) := by
    rw [Int.natCast_add, Int.toNat_of_nonneg e0, Int.add_emod, Int.emod_emod_of_dvd e (Int.natCast_dvd_natCast.mpr dv), ← Int.add_emod, Int.add_comm]
  rw [← key, ← Int.natCast_emod, Int.toNat_natCast]
theorem pwE_add {M : Nat} (pM : 0 < M) {a b : Int} {x : Nat} (unit : it f M x = x) : pwE f M a (pwE f M b x) = pwE f M (a + b) x := by
  unfold pwE
  rw [← it_add, it_mod unit ((a % (M : Int)).toNat + (b % (M : Int)).toNat)]
  congr 1
  have a0 := Int.emod_nonneg a (by omega : (M : Int) ≠ 0)
  have b0 := Int.emod_nonneg b (by omega : (M : Int) ≠ 0)
  have key : (((a % (M : Int)).toNat + (b % (M : Int)).toNat : Nat) : Int) % (M : Int) = (a + b) % (M : Int) := by
    rw [Int.natCast_add, Int.toNat_of_nonneg a0, Int.toNat_of_nonneg b0, ← Int.add_emod]
  rw [← key, ← Int.natCast_emod, Int.toNat_natCast]
theorem pwE_zero (M : Nat) (x : Nat) : pwE f M 0 x = x := by
  unfold pwE
  rw [Int.zero_emod]
  rfl
theorem pwE_self {M x : Nat} : pwE f M (M : Int) x = x := by
  unfold pwE
  rw [Int.emod_self]
  rfl
end
end K04

set_option Elab.async false
set_option linter.all false
set_option maxRecDepth 100000
set_option maxHeartbeats 2000000
namespace K04
open PySem PySem.Spec PyProof.Rows L2 MM
/-! own words for the readings: a step, its side -/
local macro_rules | `(tactic| walk_at "side") => `(tactic| first
  | omega
  | exact ⟨by omega, by omega⟩
  | exact Or.inl ⟨by omega, by omega⟩
  | exact Or.inr ⟨by omega, by omega⟩
  | (show CPw _ _; decide +kernel)
  | (show (0 : Int) < _; decide +kernel)
  | (show CDivW _ _; first | assumption | exact ⟨by decide, by decide +kernel⟩))
local macro_rules | `(tactic| walk_at "here") => `(tactic| first
  | assumption
  | exact upd_same
  | exact Or.inl (Or.inl upd_same)
  | exact Or.inl upd_same)
local macro_rules | `(tactic| walk_at "one") => `(tactic| first
  | refine ⟨_, rfl, ?_⟩
  | refine Or.inl ⟨_, rfl, ?_⟩
  | refine Or.inr ⟨_, rfl, ?_⟩
  | refine ⟨_, _, rfl, rfl, (by walk_at "side"), ?_⟩
  | refine ⟨_, _, rfl, rfl, ?_⟩
  | refine ⟨_, _, rfl, Or.inl (by walk_at "here"), ?_⟩
  | refine ⟨_, _, rfl, Or.inr (by walk_at "here"), ?_⟩
  | refine ⟨_, _, rfl, (by walk_at "here"), ?_⟩
  | refine ⟨_, _, _, _, rfl, rfl, (by walk_at "here"), rfl, ?_⟩
  | refine ⟨_, _, rfl, ?_⟩
  | refine ifT (by rfl) ?_
  | refine ifF (by rfl) ?_
  | refine ifT (decide_eq_true (by omega)) ?_
  | refine ifF (decide_eq_false (by omega)) ?_)
local macro_rules | `(tactic| walk_at "st") => `(tactic| repeat (walk_at "one"))

section
variable {P : Program} {w : World} {K : PySem.W.Frag} {mg : Str → Option Value} {base : Heap}
/-- f of a move -/
def fn' (m : List Nat) : Nat → Nat := fun k => m.getD k 0
def Refs (K : PySem.W.Frag) (H : Hp) (vs : List V) (R : List (List Nat)) : Prop := Paired (fun v r => ∃ a, v = V.ref a ∧ SqT K H a (mv r)) vs R
theorem pm_of {m : List Nat} (h : Mv m) : Pm (fn' m) m.length := by
  have g : ∀ k, (hk : k < m.length) → fn' m k = m[k] := fun k hk => by
    unfold fn'
    rw [List.getD, List.getElem?_eq_getElem hk]
    rfl
  refine ⟨fun k hk => ?_, fun a b ha hb e => ?_⟩
  · rw [g k hk]
    exact h.2.1 _ (List.getElem_mem hk)
  · rw [g a ha, g b hb] at e
    by_cases c : a = b
    · exact c
    · exfalso
      have nd := List.pairwise_iff_getElem.mp h.1
      rcases Nat.lt_or_gt_of_ne c with lt | lt
      · exact nd a b ha hb lt e
      · exact nd b a hb ha lt e.symm
theorem flat_mv (l : List Nat) : (mv l).all flatV = true := by
  unfold mv
  rw [List.all_map, List.all_eq_true]
  intro x _
  rfl
theorem in_mv (l : List Nat) (k : Nat) : inV (.int (k : Int)) (mv l) = decide (k ∈ l) := by
  unfold inV mv
  rw [List.any_map]
  induction l with
  | nil => rfl
  | cons j r ih =>
    rw [List.any_cons, ih]
    have e : ((fun y => eqV y (V.int (k : Int))) ∘ fun (k : Nat) => V.int (k : Int)) j = decide (k = j) := by
      show eqV (V.int (j : Int)) (V.int (k : Int)) = _
      by_cases c : k = j
      · subst c
        simp [eqV]
      · have : ¬ (j : Int) = (k : Int) := by omega
        simp [eqV, c, this]
    rw [e]
    simp
theorem Refs.same {H H' : Hp} {vs : List V} {R : List (List Nat)} (h : Refs K H vs R) (s : Same H H') : Refs K H' vs R := by
  unfold Refs at h ⊢
  induction h with
  | nil => exact .nil
  | cons h _ ih =>
    obtain ⟨a, e, S⟩ := h
    exact .cons ⟨a, e, same_sqt s S⟩ ih
theorem mv_app (k l : List Nat) : mv (k ++ l) = mv k ++ mv l := List.map_append ..
theorem sqt_lst {H : Hp} {a F : Addr} {xs ys zs : List V} (h : SqT K H a xs) (e : H F = some (.lst zs)) : SqT K (upd H F (.lst ys)) a xs := by
  rcases h with (h | ⟨o, h⟩) | h
  · exact .inl (.inl (by rw [upd_ne (fun z => by rw [z, e] at h; cases h)]; exact h))
  · exact .inl (.inr ⟨o, by rw [upd_ne (fun z => by rw [z, e] at h; cases h)]; exact h⟩)
  · exact .inr h
theorem Refs.upd {H : Hp} {vs : List V} {R : List (List Nat)} {F : Addr} {ys zs : List V} (h : Refs K H vs R) (e : H F = some (.lst zs)) : Refs K (upd H F (.lst ys)) vs R := by
  unfold Refs at h ⊢
  induction h with
  | nil => exact .nil
  | cons h _ ih =>
    obtain ⟨a, e1, S⟩ := h
    exact .cons ⟨a, e1, sqt_lst S e⟩ ih
theorem Refs.snoc {H : Hp} {vs : List V} {R : List (List Nat)} {t : Addr} {r : List Nat} (h : Refs K H vs R) (S : SqT K H t (mv r)) : Refs K H (vs ++ [.ref t]) (R ++ [r]) := by
  unfold Refs at h ⊢
  induction h with
  | nil => exact .cons ⟨t, rfl, S⟩ .nil
  | cons h _ ih => exact .cons h ih
theorem ringsTo_len (f : Nat → Nat) (n : Nat) : ∀ s, (ringsTo f n s).length ≤ s
  | 0 => Nat.le_refl 0
  | s + 1 => by
    have := ringsTo_len f n s
    unfold ringsTo
    split
    · omega
    · rw [List.length_append]
      show _ + 1 ≤ _
      omega
def spOwn (K : PySem.W.Frag) : Sp := fun vs H Q _ => ∃ a m, vs = [.ref a] ∧ SqT K H a (mv m) ∧ Mv m ∧ ∀ H' t us, Same H H' → H t = none → H' t = some (.lst us) → Refs K H' us (rings (fn' m) m.length) → Q (.ref t) H'
theorem scOwnRingsL : FnScope ["_law_move", "_law_found", "_law_met", "_law_place", "_law_ring", "_law_here"] ["_law_move"] (defScope sOwnRingsL) :=
  ⟨rfl, rfl, rfl, by decide +kernel, rfl, by decide +kernel, by decide +kernel⟩
theorem dOwnRingsL (T : Tx K mg) : Def P w K mg base CX0 1 "_law_own_rings" ["_law_move"] (spOwn K) := by
  refine T.t_law_own_rings.def_ (N := ["_law_move", "_law_found", "_law_met", "_law_place", "_law_ring", "_law_here"]) scOwnRingsL (fun _ _ _ _ _ _ us hl => match us, hl with | [_], _ => rfl) ?_ ?_
  · intro vs H Q E h
    obtain ⟨a, m, rfl, _⟩ := h
    rfl
  · intro f cd A out s H vs Q E hr h
    obtain ⟨a, m, rfl, S, hm, q⟩ := h
    refine ⟨_, (pss_cons (ps_par (i := 1) (j := 2) rfl scOwnRingsL.nd rfl rfl (by decide) rfl rfl (pa_cons (pe_lst pa_nil) (pa_cons (pe_lst pa_nil) pa_nil)) (by rfl))
      (pss_cons (ps_for PassesOwn.never rfl (pi_range1 rfl T.f_range (pa_cons (pe_callB call_len_seq rfl T.f_len (by decide +kernel) (pa_cons (pv 0) pa_nil)) pa_nil)) (pg_name (i := 3) scOwnRingsL.nd rfl (Or.inl rfl))
        (pss_one (ps_if (pt_cmpR op_notIn_seq (pv 3) (pv 2) rfl) (pss_cons (ps_par (i := 4) (j := 5) rfl scOwnRingsL.nd rfl rfl (by decide) rfl rfl (pa_cons (pe_lst (pa_cons (pv 3) pa_nil)) (pa_cons (pe_ix ix_tup (pv 0) (pv 3) (fun _ _ => rfl)) pa_nil)) (by rfl))
          (pss_cons (ps_while PassesOwn.never (PW.pt (pw_and (pt_cmpR op_ne (pv 5) (pv 3) (nomark _)) (pw_and1 (pt_cmpR op_lt (pe_callB call_len_seq rfl T.f_len (by decide +kernel) (pa_cons (pv 4) pa_nil)) (pe_callB call_len_seq rfl T.f_len (by decide +kernel) (pa_cons (pv 0) pa_nil)) (nomark _)))))
            (pss_cons (ps_expr (pe_bm PySem.F.plainAttrs_list PySem.F.slot_list_append PySem.F.type_list_append mt_append (pv 4) (pa_cons (pv 5) pa_nil)))
            (pss_one (ps_set (i := 5) scOwnRingsL.nd rfl (Or.inl rfl) (pe_ix ix_tup (pv 0) (pv 5) (fun _ _ => rfl))))))
          (pss_cons (ps_expr (pe_bm PySem.F.plainAttrs_list PySem.F.slot_list_extend PySem.F.type_list_extend mt_extend (pv 2) (pa_cons (pv 4) pa_nil)))
          (pss_one (ps_expr (pe_bm PySem.F.plainAttrs_list PySem.F.slot_list_append PySem.F.type_list_append mt_append (pv 1) (pa_cons (pe_callTy call_tuple_of rfl T.f_tuple (by decide +kernel) (pa_cons (pv 4) pa_nil)) pa_nil))))))) pss_nil)))
      (pss_one (ps_ret (pv 1))))), ?_⟩
    have pm := pm_of hm
    refine ⟨by (show 0 ≤ sizeLine); decide, fun F fF => ?_⟩
    have S1 : Same H (upd H F (.lst [])) := same_new fF
    have F1 : (upd H F (.lst [])) F = some (.lst []) := upd_same
    generalize upd H F _ = H1 at S1 F1 ⊢
    refine ⟨by (show 0 ≤ sizeLine); decide, fun G fG => ?_⟩
    have GF : G ≠ F := (ne_of_none F1 fG).symm
    have S2 : Same H (upd H1 G (.lst [])) := S1.trans (same_new fG)
    have F2 : (upd H1 G (.lst [])) F = some (.lst []) := (upd_ne GF.symm).trans F1
    have G2 : (upd H1 G (.lst [])) G = some (.lst []) := upd_same
    have fG0 : ∀ b o, H b = some o → b ≠ G := fun b o e => ne_of_none (S1 b o e) fG
    have fF0 : ∀ b o, H b = some o → b ≠ F := fun b o e => ne_of_none e fF
    generalize upd H1 G _ = H2 at S2 F2 G2 ⊢
    refine ⟨_, _, rfl, ?_⟩
    refine ⟨_, rfl, a, _, rfl, .inr (same_sqt S2 S), (mv m).length, rfl, by omega, by rw [mv_len]; have := hm.2.2.2; omega, for_range (fun s σ H3 => Same H H3 ∧ ∃ us : List V, H3 F = some (.lst us) ∧ Refs K H3 us (ringsTo (fn' m) m.length s) ∧
        H3 G = some (.lst (mv (ringsTo (fn' m) m.length s).flatten)) ∧ ∃ x y z, σ = [some (.ref a), some (.ref F), some (.ref G), x, y, z]) ⟨S2, [], F2, .nil, G2, _, _, _, rfl⟩ ?_ ?_⟩
    · rintro s σ H3 hs ⟨S3, us, hF, rf, hG, x, y, z, rfl⟩
      have sn : s < m.length := by rw [← mv_len]; simpa using hs
      have g := rings_good pm s (by omega)
      refine ⟨_, rfl, _, rfl, G, _, rfl, .inl (.inl (.inl hG)), rfl, flat_mv _, ?_⟩
      refine ⟨_, rfl, ?_⟩
      show (if (!inV (V.int (0 + (s : Int))) (mv (ringsTo (fn' m) m.length s).flatten)) = true then _ else _)
      rw [Int.zero_add, in_mv]
      by_cases c : s ∈ (ringsTo (fn' m) m.length s).flatten
      · refine ifF (by rw [decide_eq_true c]; rfl) ?_
        have e : ringsTo (fn' m) m.length (s + 1) = ringsTo (fn' m) m.length s := by
          show (if s ∈ (ringsTo (fn' m) m.length s).flatten then _ else _) = _
          rw [if_pos c]
        rw [e]
        exact ⟨S3, us, hF, rf, hG, _, _, _, rfl⟩
      · refine ifT (by rw [decide_eq_false c]; rfl) ?_
        have e : ringsTo (fn' m) m.length (s + 1) = ringsTo (fn' m) m.length s ++ [ringOf (fn' m) m.length s] := by
          show (if s ∈ (ringsTo (fn' m) m.length s).flatten then _ else _) = _
          rw [if_neg c]
        obtain ⟨Ln, eL, no⟩ := lenOf_ok pm sn
        have L1 := lenOf_pos (fn' m) m.length s
        rw [e]
        refine ⟨_, rfl, by (show 1 ≤ sizeLine); decide, fun D fD => ?_⟩
        have FD : F ≠ D := ne_of_none hF fD
        have GD : G ≠ D := ne_of_none hG fD
        have S4 : Same H3 (upd H3 D (.lst [.int (s : Int)])) := same_new fD
        have D4 : (upd H3 D (.lst [.int (s : Int)])) D = some (.lst (mv (ring (fn' m) s 1))) := upd_same
        have fD0 : ∀ b o, H b = some o → b ≠ D := fun b o e => ne_of_none (S3 b o e) fD
        replace S3 := S3.trans S4
        replace hF := S4 _ _ hF
        replace hG := S4 _ _ hG
        replace rf := rf.same S4
        generalize upd H3 D _ = H4 at S3 hF hG rf D4 ⊢
        refine ⟨_, rfl, _, rfl, a, _, _, _, rfl, rfl, same_sqt S3 S, mv_at sn, _, _, rfl, ?_⟩
        refine while_by (fun σ H5 => Same H H5 ∧ H5 F = some (.lst us) ∧ Refs K H5 us (ringsTo (fn' m) m.length s) ∧ H5 G = some (.lst (mv (ringsTo (fn' m) m.length s).flatten)) ∧
            ∃ k, 1 ≤ k ∧ k ≤ lenOf (fn' m) m.length s ∧ H5 D = some (.lst (mv (ring (fn' m) s k))) ∧ σ = [some (.ref a), some (.ref F), some (.ref G), some (.int (s : Int)), some (.ref D), some (.int (it (fn' m) k s : Nat))])
          (fun _ H5 => match H5 D with | some (.lst xs) => lenOf (fn' m) m.length s - xs.length | _ => 0) ⟨S3, hF, rf, hG, 1, Nat.le_refl 1, L1, D4, rfl⟩ ?_ ?_
        · rintro σ H5 ⟨S5, hF, rf, hG, k, k1, kL, hD, rfl⟩
          have hk : it (fn' m) k s < m.length := it_lt pm sn k
          refine ⟨_, rfl, _, rfl, rfl, _, rfl, ?_⟩
          show (if (!decide (V.int ((it (fn' m) k s : Nat) : Int) = V.int (s : Int))) = true then _ else _)
          rw [dInt, show decide (((it (fn' m) k s : Nat) : Int) = (s : Int)) = decide (it (fn' m) k s = s) from decide_eq_decide.mpr (by omega)]
          by_cases kk : k = lenOf (fn' m) m.length s
          · subst kk
            refine ifF (by rw [eL, decide_eq_true rfl]; rfl) ?_
            have lG : (mv (ringsTo (fn' m) m.length s).flatten).length ≤ 1000 := by
              rw [mv_len]
              have := g.once.length_le_of_subset (fun x hx => List.mem_range.mpr (g.below x hx))
              rw [List.length_range] at this
              have := hm.2.2.2
              omega
            have lD : (mv (ring (fn' m) s (lenOf (fn' m) m.length s))).length ≤ 1000 := by
              rw [mv_len]
              unfold ring
              rw [List.length_map, List.length_range]
              have := hm.2.2.2
              omega
            refine ⟨_, rfl, .inl ⟨rfl, _, .inl (.inl hG)⟩, _, rfl, G, D, _, _, rfl, rfl, hG, hD, Nat.le_of_lt (Nat.lt_of_le_of_lt (Nat.add_le_add lG lD) (by decide)), ?_⟩
            rw [← mv_app]
            have F6 : (upd H5 G (.lst (mv ((ringsTo (fn' m) m.length s).flatten ++ ring (fn' m) s (lenOf (fn' m) m.length s))))) F = some (.lst us) := (upd_ne GF.symm).trans hF
            have D6 : (upd H5 G (.lst (mv ((ringsTo (fn' m) m.length s).flatten ++ ring (fn' m) s (lenOf (fn' m) m.length s))))) D = some (.lst (mv (ring (fn' m) s (lenOf (fn' m) m.length s)))) := (upd_ne GD.symm).trans hD
            have G6 : (upd H5 G (.lst (mv ((ringsTo (fn' m) m.length s).flatten ++ ring (fn' m) s (lenOf (fn' m) m.length s))))) G = some (.lst (mv ((ringsTo (fn' m) m.length s).flatten ++ ring (fn' m) s (lenOf (fn' m) m.length s)))) := upd_same
            have R6 := rf.upd (ys := mv ((ringsTo (fn' m) m.length s).flatten ++ ring (fn' m) s (lenOf (fn' m) m.length s))) hG
            have S6 : Same H (upd H5 G (.lst (mv ((ringsTo (fn' m) m.length s).flatten ++ ring (fn' m) s (lenOf (fn' m) m.length s))))) := fun b o e => (upd_ne (fG0 b o e)).trans (S5 b o e)
            generalize upd H5 G _ = H6 at F6 D6 G6 R6 S6 ⊢
            refine ⟨_, rfl, .inl ⟨rfl, _, .inl (.inl F6)⟩, _, rfl, D, _, rfl, .inl ⟨.inl (.inl D6), fun t ft => ?_⟩⟩
            have S7 : Same H6 (upd H6 t (.tup (mv (ring (fn' m) s (lenOf (fn' m) m.length s))))) := same_new ft
            have T7 : SqT K (upd H6 t (.tup (mv (ring (fn' m) s (lenOf (fn' m) m.length s))))) t (mv (ring (fn' m) s (lenOf (fn' m) m.length s))) := .inl (.inl upd_same)
            have F7 := S7 _ _ F6
            have G7 := S7 _ _ G6
            have R7 := R6.same S7
            have SS := S6.trans S7
            generalize upd H6 t _ = H7 at T7 F7 G7 R7 SS ⊢
            have lu : us.length ≤ 1000 := by
              have h1 : us.length = (ringsTo (fn' m) m.length s).length := Paired.length rf
              have h2 := ringsTo_len (fn' m) m.length s
              have := hm.2.2.2
              omega
            refine ⟨F, us, _, rfl, rfl, F7, Nat.lt_of_le_of_lt lu (by decide), ?_⟩
            refine ⟨fun b o e => (upd_ne (fF0 b o e)).trans (SS b o e), us ++ [.ref t], upd_same, ?_, ?_, _, _, _, rfl⟩
            · exact (R7.upd F7).snoc (sqt_lst T7 F7)
            · refine (upd_ne GF).trans (G7.trans ?_)
              rw [List.flatten_append]
              show _ = some (HO.lst (mv (_ ++ (ringOf (fn' m) m.length s ++ []))))
              rw [List.append_nil]
              rfl
          · refine ifT (by rw [decide_eq_false (no k k1 (by omega))]; rfl) ?_
            refine ⟨_, rfl, D, _, rfl, .inl (.inl (.inl hD)), _, rfl, a, _, rfl, .inr (same_sqt S5 S), _, _, rfl, rfl, _, rfl, ?_⟩
            have lr : (mv (ring (fn' m) s k)).length = k := by
              rw [mv_len]
              unfold ring
              rw [List.length_map, List.length_range]
            refine ifT (decide_eq_true (by rw [lr, mv_len]; omega)) ?_
            refine ⟨_, rfl, .inl ⟨rfl, _, .inl (.inl hD)⟩, _, rfl, D, _, _, rfl, rfl, hD, Nat.lt_of_le_of_lt (by rw [lr]; have := hm.2.2.2; omega : _ ≤ 1000) (by decide), ?_⟩
            have er : mv (ring (fn' m) s k) ++ [V.int ((it (fn' m) k s : Nat) : Int)] = mv (ring (fn' m) s (k + 1)) := by
              unfold ring
              rw [List.range_succ, List.map_append]
              unfold mv
              rw [List.map_append]
              rfl
            rw [er]
            have S6 : Same H (upd H5 D (.lst (mv (ring (fn' m) s (k + 1))))) := fun b o e => (upd_ne (fD0 b o e)).trans (S5 b o e)
            refine ⟨_, rfl, _, rfl, a, _, _, _, rfl, rfl, same_sqt S6 S, mv_at hk, ⟨S6, (upd_ne FD).trans hF, rf.upd hD, (upd_ne GD).trans hG, k + 1, by omega, by omega, upd_same, rfl⟩, ?_⟩
            rw [upd_same, hD]
            show lenOf (fn' m) m.length s - (mv (ring (fn' m) s (k + 1))).length < lenOf (fn' m) m.length s - (mv (ring (fn' m) s k)).length
            rw [lr, ← er, List.length_append, lr]
            show lenOf (fn' m) m.length s - (k + 1) < _
            omega
        · rintro σ H5 Q1 Q2 mono hyp
          obtain ⟨v, hv, v2, hv2, fl, c1, e1, body⟩ := hyp
          refine ⟨v, hv, v2, hv2, fl, c1, e1, ?_⟩
          cases c1 with
          | false => exact mono _ _ body
          | true =>
            obtain ⟨v3, hv3, p4, y4, e4, s4, v5, hv5, p6, y6, e6, s6, i7, j7, e7, e8, c9, e9, body⟩ := body
            exact ⟨v3, hv3, p4, y4, e4, s4, v5, hv5, p6, y6, e6, s6, i7, j7, e7, e8, c9, e9, mono _ _ body⟩
    · rintro σ H3 ⟨S3, us, hF, rf, hG, x, y, z, rfl⟩
      rw [mv_len] at rf
      exact ⟨_, rfl, q H3 F us S3 fF hF rf⟩
end
end K04


set_option Elab.async false
set_option linter.all false
set_option maxRecDepth 100000
set_option maxHeartbeats 2000000
namespace K04
open PySem PySem.Spec PyProof.Rows L2 MM
/-! own words for the readings: a step, its side -/
local macro_rules | `(tactic| walk_at "side") => `(tactic| first
  | omega
  | exact ⟨by omega, by omega⟩
  | exact Or.inl ⟨by omega, by omega⟩
  | exact Or.inr ⟨by omega, by omega⟩
  | (show CPw _ _; decide +kernel)
  | (show (0 : Int) < _; decide +kernel)
  | (show CDivW _ _; first | assumption | exact ⟨by decide, by decide +kernel⟩))
local macro_rules | `(tactic| walk_at "here") => `(tactic| first
  | assumption
  | exact upd_same
  | exact Or.inl (Or.inl upd_same)
  | exact Or.inl upd_same)
local macro_rules | `(tactic| walk_at "one") => `(tactic| first
  | refine ⟨_, rfl, ?_⟩
  | refine Or.inl ⟨_, rfl, ?_⟩
  | refine Or.inr ⟨_, rfl, ?_⟩
  | refine ⟨_, _, rfl, rfl, (by walk_at "side"), ?_⟩
  | refine ⟨_, _, rfl, rfl, ?_⟩
  | refine ⟨_, _, rfl, Or.inl (by walk_at "here"), ?_⟩
  | refine ⟨_, _, rfl, Or.inr (by walk_at "here"), ?_⟩
  | refine ⟨_, _, rfl, (by walk_at "here"), ?_⟩
  | refine ⟨_, _, _, _, rfl, rfl, (by walk_at "here"), rfl, ?_⟩
  | refine ⟨_, _, rfl, ?_⟩
  | refine ifT (by rfl) ?_
  | refine ifF (by rfl) ?_
  | refine ifT (decide_eq_true (by omega)) ?_
  | refine ifF (decide_eq_false (by omega)) ?_)
local macro_rules | `(tactic| walk_at "st") => `(tactic| repeat (walk_at "one"))

section
variable {P : Program} {w : World} {K : PySem.W.Frag} {mg : Str → Option Value} {base : Heap}
/-- the order of a move -/
def ordOf (f : Nat → Nat) (n : Nat) : Nat := lcmL ((rings f n).map List.length)
theorem lcmL_dvd : ∀ (ns : List Nat) (g : Nat), g ∣ ns.foldl Nat.lcm g ∧ ∀ n ∈ ns, n ∣ ns.foldl Nat.lcm g
  | [], g => ⟨Nat.dvd_refl g, by simp⟩
  | a :: r, g => by
    obtain ⟨h1, h2⟩ := lcmL_dvd r (Nat.lcm g a)
    refine ⟨Nat.dvd_trans (Nat.dvd_lcm_left g a) h1, fun n hn => ?_⟩
    rcases List.mem_cons.mp hn with z | z
    · subst z
      exact Nat.dvd_trans (Nat.dvd_lcm_right g n) h1
    · exact h2 n z
theorem lcmL_pos : ∀ (ns : List Nat) (g : Nat), 0 < g → (∀ n ∈ ns, 0 < n) → 0 < ns.foldl Nat.lcm g
  | [], _, h, _ => h
  | a :: r, g, h, all => lcmL_pos r (Nat.lcm g a) (Nat.lcm_pos h (all a (by simp))) fun n hn => all n (by simp [hn])
theorem ordOf_pos {f : Nat → Nat} {n : Nat} (h : Pm f n) : 0 < ordOf f n := by
  refine lcmL_pos _ 1 Nat.one_pos fun k hk => ?_
  obtain ⟨r, hr, rfl⟩ := List.mem_map.mp hk
  obtain ⟨p, _, rfl⟩ := (rings_good h n (Nat.le_refl n)).each r hr
  rw [ringOf_len]
  exact lenOf_pos f n p
theorem ord_dvd {f : Nat → Nat} {n : Nat} {r : List Nat} (hr : r ∈ rings f n) : r.length ∣ ordOf f n :=
  (lcmL_dvd _ 1).2 _ (List.mem_map.mpr ⟨r, hr, rfl⟩)
theorem Refs.get {H : Hp} {vs : List V} {R : List (List Nat)} (h : Refs K H vs R) : ∀ {i : Nat} {x : V}, vs[i]? = some x → ∃ r t, R[i]? = some r ∧ x = .ref t ∧ SqT K H t (mv r) := by
  unfold Refs at h
  induction h with
  | nil =>
    intro i x e
    simp at e
  | cons h _ ih =>
    intro i x e
    cases i with
    | zero =>
      obtain ⟨t, e1, S⟩ := h
      refine ⟨_, t, rfl, ?_, S⟩
      rw [← e1]
      exact (Option.some.inj e).symm
    | succ i => exact ih e
def spPow (K : PySem.W.Frag) : Sp := fun vs H Q _ => ∃ (a : Addr) (m : List Nat) (e : Int), vs = [.ref a, .int e] ∧ SqT K H a (mv m) ∧ Mv m ∧
  ∀ H' t, Same H H' → SqT K H' t (mv ((List.range m.length).map (pwE (fn' m) (ordOf (fn' m) m.length) e))) → Q (.ref t) H'
theorem scOwnPowerL : FnScope ["_law_move", "_law_number", "_law_found", "_law_ring", "_law_at", "_law_place"] ["_law_move", "_law_number"] (defScope sOwnPowerL) :=
  ⟨rfl, rfl, rfl, by decide +kernel, rfl, by decide +kernel, by decide +kernel⟩
theorem dOwnPowerL (T : Tx K mg) (DOwnRingsL : Def P w K mg base CX0 1 "_law_own_rings" ["_law_move"] (spOwn K)) : Def P w K mg base CX0 2 "_law_own_power" ["_law_move", "_law_number"] (spPow K) := by
  refine T.t_law_own_power.def_ (N := ["_law_move", "_law_number", "_law_found", "_law_ring", "_law_at", "_law_place"]) scOwnPowerL (fun _ _ _ _ _ _ us hl => match us, hl with | [_, _], _ => rfl) ?_ ?_
  · intro vs H Q E h
    obtain ⟨a, m, e, rfl, _⟩ := h
    rfl
  · intro f cd A out s H vs Q E hr h
    have hr1 : Rm 1 _ := hr.le (by decide)
    obtain ⟨a, m, e, rfl, S, hm, q⟩ := h
    refine ⟨_, (pss_cons (ps_set (i := 2) scOwnPowerL.nd rfl (Or.inl rfl) (pe_op op_rep (pe_lst (pa_cons pe_int pa_nil)) (pe_callB call_len_seq rfl T.f_len (by decide +kernel) (pa_cons (pv 0) pa_nil))))
      (pss_cons (ps_for PassesOwn.never rfl (pi_list (pe_d DOwnRingsL (hr1.le (by decide)) pass0 (pa_cons (pv 0) pa_nil))) (pg_name (i := 3) scOwnPowerL.nd rfl (Or.inl rfl))
        (pss_one (ps_for PassesOwn.never rfl (pi_enumT rfl T.f_enumerate (pa_cons (pv 3) pa_nil)) (pg_tup rfl (pgs_cons (pg_name (i := 4) scOwnPowerL.nd rfl (Or.inl rfl)) (pgs_cons (pg_name (i := 5) scOwnPowerL.nd rfl (Or.inl rfl)) pgs_nil)))
          (pss_one (ps_asg (pe_ix ix_tup (pv 3) (pe_op op_mod (pe_callTy call_int1 rfl T.f_int (by decide +kernel) (pa_cons (pe_op op_add (pv 4) (pv 1)) pa_nil)) (pe_callB call_len_seq rfl T.f_len (by decide +kernel) (pa_cons (pv 3) pa_nil))) (fun _ _ => rfl)) (pg_sub (pv 2) (pv 5) set_list))))))
      (pss_one (ps_ret (pe_callTy call_tuple_of rfl T.f_tuple (by decide +kernel) (pa_cons (pv 2) pa_nil)))))), ?_⟩
    have pm := pm_of hm
    refine ⟨by (show 1 ≤ sizeLine); decide, fun l fl => ?_⟩
    have S0 : Same H (upd H l (.lst [.int 0])) := same_new fl
    have L0 : (upd H l (.lst [.int 0])) l = some (.lst [.int 0]) := upd_same
    have Sa0 := same_sqt S0 S
    generalize upd H l _ = H0 at S0 L0 Sa0 ⊢
    refine ⟨_, rfl, a, _, rfl, .inr Sa0, l, _, _, rfl, rfl, L0, by omega, by rw [mv_len]; have := hm.2.2.2; omega, by rw [mv_len]; exact Nat.le_of_lt (small1000 (n := 1 * m.length) (by have := hm.2.2.2; omega)), fun F fF => ?_⟩
    rw [rep_zero]
    have S1 : Same H (upd H0 F (.lst (mv (backT m 0)))) := S0.trans (same_new fF)
    have F1 : (upd H0 F (.lst (mv (backT m 0)))) F = some (.lst (mv (backT m 0))) := upd_same
    have fF0 : ∀ b o, H b = some o → b ≠ F := fun b o e => ne_of_none (S0 b o e) fF
    have b0 := backT_len m 0
    generalize backT m 0 = z0 at F1 S1 b0 ⊢
    generalize upd H0 F _ = H1 at S1 F1 ⊢
    refine ⟨_, rfl, a, m, rfl, same_sqt S1 S, hm, fun H2 R us S2 fR hR rf => ?_⟩
    have RF : R ≠ F := (ne_of_none F1 fR).symm
    have fR0 : ∀ b o, H b = some o → b ≠ R := fun b o e => ne_of_none (S1 b o e) fR
    have F2 := S2 _ _ F1
    replace S2 := S1.trans S2
    refine ⟨R, rfl, ⟨_, .inl (.inl hR)⟩, for_list (K := K) (a := R) (xs := us) (fun i σ H3 => Same H H3 ∧ H3 R = some (.lst us) ∧ Refs K H3 us (rings (fn' m) m.length) ∧ ∃ b : List Nat, b.length = m.length ∧ H3 F = some (.lst (mv b)) ∧
        (∀ x ∈ ((rings (fn' m) m.length).take i).flatten, b.getD x 0 = pwE (fn' m) (ordOf (fn' m) m.length) e x) ∧ ∃ x y z, σ = [some (.ref a), some (.int e), some (.ref F), x, y, z])
      ⟨S2, hR, rf, z0, b0, F2, by simp, _, _, _, rfl⟩ (fun i σ H3 _ h => .inl (.inl h.2.1)) ?_ ?_⟩
    · rintro i v σ H3 hv ⟨S3, hR, rf, b, lb, hF, done, x, y, z, rfl⟩
      obtain ⟨r, t, hr, rfl, St⟩ := rf.get hv
      have mr : r ∈ rings (fn' m) m.length := List.mem_of_getElem? hr
      obtain ⟨p, pn, er⟩ := (rings_good pm m.length (Nat.le_refl _)).each r mr
      have lr : r.length = lenOf (fn' m) m.length p := by rw [er, ringOf_len]
      obtain ⟨Ln, eL, no⟩ := lenOf_ok pm pn
      have L1 := lenOf_pos (fn' m) m.length p
      have tF : ∀ H9 : Hp, SqT K H9 t (mv r) → ∀ zs, H9 F = some (.lst zs) → ∀ ys, SqT K (upd H9 F (.lst ys)) t (mv r) := fun H9 S9 zs e9 ys => sqt_lst S9 e9
      refine ⟨_, rfl, t, _, rfl, St, ?_⟩
      refine for_enumT (K := K) (a := t) (xs := mv r) (fun j σ H4 => (Same H H4 ∧ SqT K H4 t (mv r)) ∧ H4 R = some (.lst us) ∧ Refs K H4 us (rings (fn' m) m.length) ∧ ∃ b : List Nat, b.length = m.length ∧ H4 F = some (.lst (mv b)) ∧
          (∀ x, x ∈ ((rings (fn' m) m.length).take i).flatten ∨ x ∈ r.take j → b.getD x 0 = pwE (fn' m) (ordOf (fn' m) m.length) e x) ∧ ∃ y z, σ = [some (.ref a), some (.int e), some (.ref F), some (.ref t), y, z])
        ⟨⟨S3, St⟩, hR, rf, b, lb, hF, fun x hx => by rcases hx with hx | hx; exact done x hx; simp at hx, _, _, rfl⟩ (fun j σ H4 _ h => h.1.2) ?_ ?_
      · rintro j u σ H4 T hu ⟨⟨S4, St⟩, hR, rf, b, lb, hF, done, y, z, rfl⟩ fT
        obtain ⟨jr, rfl⟩ := mv_nth hu
        have FT : F ≠ T := ne_of_none hF fT
        have RT : R ≠ T := ne_of_none hR fT
        have St5 : SqT K (upd H4 T (.tup [.int (j : Nat), .int ((r.getD j 0 : Nat) : Int)])) t (mv r) := sqt_new St fT
        have pj : r.getD j 0 = it (fn' m) j p := by
          rw [er]
          unfold ringOf ring
          rw [List.getD, List.getElem?_map, List.getElem?_range (by omega)]
          rfl
        have pl : r.getD j 0 < m.length := by rw [pj]; exact it_lt pm pn j
        have Lp : 0 < ((mv r).length : Int) := by rw [mv_len]; omega
        have i0 := Int.emod_nonneg ((j : Int) + e) (by omega : ((mv r).length : Int) ≠ 0)
        have i1 := Int.emod_lt_of_pos ((j : Int) + e) Lp
        obtain ⟨ix, eix⟩ : ∃ ix : Nat, ((j : Int) + e) % ((mv r).length : Int) = (ix : Int) := ⟨_, (Int.toNat_of_nonneg i0).symm⟩
        have il : ix < r.length := by rw [eix, mv_len] at i1; omega
        have val : r.getD ix 0 = pwE (fn' m) (ordOf (fn' m) m.length) e (r.getD j 0) := by
          have dv := ord_dvd mr
          rw [lr] at dv
          have := ring_pow (f := fn' m) (p := p) (a := j) (e := e) eL (by omega) dv (ordOf_pos pm) (by omega)
          rw [← pj] at this
          rw [← this, ← lr, ← mv_len r, eix, Int.toNat_natCast, mv_len, lr, er]
          rfl
        have ate : atI (mv r) (((j : Int) + e) % ((mv r).length : Int)) = some (.int ((r.getD ix 0 : Nat) : Int)) := by
          rw [eix]
          exact mv_at il
        refine ⟨T, _, rfl, .inl (.inl upd_same), rfl, _, _, rfl, ?_⟩
        refine ⟨_, _, rfl, rfl, ?_⟩
        refine ⟨_, rfl, _, rfl, _, rfl, _, _, rfl, rfl, .inl ⟨_, rfl, _, rfl, t, _, rfl, .inr St5, _, _, rfl, rfl, Lp, t, _, _, _, rfl, rfl, St5, ate, ?_⟩⟩
        refine ⟨_, rfl, _, rfl, F, _, _, r.getD j 0, rfl, rfl, (upd_ne FT).trans hF, by rw [mv_len, lb]; exact ixN_lt pl, ?_⟩
        rw [mv_set]
        refine ⟨⟨fun b o h => (upd_ne (fF0 b o h)).trans (same_new fT b o (S4 b o h)), sqt_lst St5 ((upd_ne FT).trans hF)⟩, (upd_ne RF).trans ((upd_ne RT).trans hR), (rf.same (same_new fT)).upd ((upd_ne FT).trans hF), b.set (r.getD j 0) (r.getD ix 0), by rw [List.length_set, lb], upd_same, fun x hx => ?_, _, _, rfl⟩
        by_cases z : x = r.getD j 0
        · rw [z, ← val, List.getD, List.getElem?_set_self (by omega)]
          rfl
        · rw [List.getD, List.getElem?_set_ne (fun h => z h.symm), ← List.getD]
          refine done x ?_
          rcases hx with hx | hx
          · exact .inl hx
          · refine .inr ?_
            rw [List.take_add_one, List.getElem?_eq_getElem jr] at hx
            rcases List.mem_append.mp hx with hx | hx
            · exact hx
            · exfalso
              refine z ?_
              rw [List.getD, List.getElem?_eq_getElem jr]
              simpa using hx
      · rintro σ H4 ⟨⟨S4, St⟩, hR, rf, b, lb, hF, done, y, z, rfl⟩
        refine ⟨S4, hR, rf, b, lb, hF, fun x hx => done x ?_, _, _, _, rfl⟩
        rw [List.take_add_one, hr, List.flatten_append, List.mem_append] at hx
        rcases hx with hx | hx
        · exact .inl hx
        · refine .inr ?_
          rw [mv_len, List.take_length]
          simpa using hx
    · rintro σ H3 ⟨S3, hR, rf, b, lb, hF, done, x, y, z, rfl⟩
      have lus : us.length = (rings (fn' m) m.length).length := Paired.length rf
      rw [lus, List.take_length] at done
      have eb : b = (List.range m.length).map (pwE (fn' m) (ordOf (fn' m) m.length) e) := by
        refine List.ext_getElem (by rw [lb, List.length_map, List.length_range]) fun x h1 h2 => ?_
        have hx := (rings_good pm m.length (Nat.le_refl _)).all x (by omega)
        have := done x hx
        rw [List.getD, List.getElem?_eq_getElem h1] at this
        rw [List.getElem_map, List.getElem_range]
        exact this
      rw [eb] at hF
      exact ⟨_, rfl, F, _, rfl, .inl ⟨.inl (.inl hF), fun u fu => q _ u (S3.trans (same_new fu)) (.inl (.inl upd_same))⟩⟩
end
end K04


set_option Elab.async false
set_option linter.all false
set_option maxRecDepth 100000
set_option maxHeartbeats 2000000
namespace K04
open PySem PySem.Spec PyProof.Rows L2 MM
/-! own words for the readings: a step, its side -/
local macro_rules | `(tactic| walk_at "side") => `(tactic| first
  | omega
  | exact ⟨by omega, by omega⟩
  | exact Or.inl ⟨by omega, by omega⟩
  | exact Or.inr ⟨by omega, by omega⟩
  | (show CPw _ _; decide +kernel)
  | (show (0 : Int) < _; decide +kernel)
  | (show CDivW _ _; first | assumption | exact ⟨by decide, by decide +kernel⟩))
local macro_rules | `(tactic| walk_at "here") => `(tactic| first
  | assumption
  | exact upd_same
  | exact Or.inl (Or.inl upd_same)
  | exact Or.inl upd_same)
local macro_rules | `(tactic| walk_at "one") => `(tactic| first
  | refine ⟨_, rfl, ?_⟩
  | refine Or.inl ⟨_, rfl, ?_⟩
  | refine Or.inr ⟨_, rfl, ?_⟩
  | refine ⟨_, _, rfl, rfl, (by walk_at "side"), ?_⟩
  | refine ⟨_, _, rfl, rfl, ?_⟩
  | refine ⟨_, _, rfl, Or.inl (by walk_at "here"), ?_⟩
  | refine ⟨_, _, rfl, Or.inr (by walk_at "here"), ?_⟩
  | refine ⟨_, _, rfl, (by walk_at "here"), ?_⟩
  | refine ⟨_, _, _, _, rfl, rfl, (by walk_at "here"), rfl, ?_⟩
  | refine ⟨_, _, rfl, ?_⟩
  | refine ifT (by rfl) ?_
  | refine ifF (by rfl) ?_
  | refine ifT (decide_eq_true (by omega)) ?_
  | refine ifF (decide_eq_false (by omega)) ?_)
local macro_rules | `(tactic| walk_at "st") => `(tactic| repeat (walk_at "one"))

section
variable {P : Program} {w : World} {K : PySem.W.Frag} {mg : Str → Option Value} {base : Heap}
/-- a set of places -/
def SetN (w : World) (a : Addr) (l : List Nat) (H : Hp) : Prop := ∃ S c, H a = some (SetO w a S c) ∧ c ≤ l.length ∧ ∀ x : Nat, S (x : Int) = decide (x ∈ l)
theorem SetN.same {a : Addr} {l : List Nat} {H H' : Hp} (h : SetN w a l H) (s : Same H H') : SetN w a l H' :=
  let ⟨S, c, e, r⟩ := h
  ⟨S, c, s _ _ e, r⟩
theorem SetN.upd {a b : Addr} {l : List Nat} {H : Hp} {o : HO} (h : SetN w a l H) (n : a ≠ b) : SetN w a l (upd H b o) :=
  let ⟨S, c, e, r⟩ := h
  ⟨S, c, by rw [upd_ne n]; exact e, r⟩
theorem seto_ne {a b : Addr} {H : Hp} {S : Int → Bool} {c : Nat} {o : HO} (h : H a = some (SetO w a S c)) (e : H b = some o) (n : ∀ f, o ≠ .ext f) : a ≠ b := fun z => by
  subst z
  rw [h] at e
  exact n _ (Option.some.inj e).symm
theorem SetN.add {a : Addr} {l : List Nat} {H : Hp} {S : Int → Bool} {c : Nat} {x : Nat} (hc : c ≤ l.length) (hS : ∀ x : Nat, S (x : Int) = decide (x ∈ l)) :
    SetN w a (l ++ [x]) (L2.upd H a (SetO w a (fun j => S j || decide (j = (x : Int))) (if S (x : Int) = true then c else c + 1))) := by
  refine ⟨_, _, upd_same, ?_, fun y => ?_⟩
  · rw [List.length_append]
    show _ ≤ l.length + 1
    split <;> omega
  · show (S (y : Int) || decide ((y : Int) = (x : Int))) = _
    rw [hS y, ← Bool.decide_or]
    refine decide_eq_decide.mpr ?_
    rw [List.mem_append, List.mem_singleton]
    exact or_congr Iff.rfl (by omega)
theorem rings_small {f : Nat → Nat} {n s : Nat} (h : Pm f n) (hn : n ≤ 24) (hs : s ≤ n) : (ringsTo f n s).flatten.length ≤ 24 := by
  have g := rings_good h s hs
  have := g.once.length_le_of_subset (fun x hx => List.mem_range.mpr (g.below x hx))
  rw [List.length_range] at this
  omega
def NoTup : HO → Prop
  | .tup _ => False
  | .frz _ _ => False
  | _ => True
theorem sqt_ext {H : Hp} {a F : Addr} {xs : List V} {o o' : HO} (h : SqT K H a xs) (e : H F = some o') (n : NoTup o') : SqT K (upd H F o) a xs := by
  rcases h with (h | ⟨u, h⟩) | h
  · exact .inl (.inl (by rw [upd_ne (fun z => by rw [z, e] at h; rw [Option.some.inj h] at n; exact n)]; exact h))
  · exact .inl (.inr ⟨u, by rw [upd_ne (fun z => by rw [z, e] at h; rw [Option.some.inj h] at n; exact n)]; exact h⟩)
  · exact .inr h
theorem Refs.ext {H : Hp} {vs : List V} {R : List (List Nat)} {F : Addr} {o o' : HO} (h : Refs K H vs R) (e : H F = some o') (n : NoTup o') : Refs K (L2.upd H F o) vs R := by
  unfold Refs at h ⊢
  induction h with
  | nil => exact .nil
  | cons h _ ih =>
    obtain ⟨a, e1, S⟩ := h
    exact .cons ⟨a, e1, sqt_ext S e n⟩ ih
theorem ring_succ (f : Nat → Nat) (p k : Nat) : ring f p (k + 1) = ring f p k ++ [it f k p] := by
  unfold ring
  rw [List.range_succ, List.map_append]
  rfl
def spCyc (K : PySem.W.Frag) : Sp := fun vs H Q _ => ∃ a m, vs = [.ref a] ∧ SqT K H a (mv m) ∧ Mv m ∧ ∀ H' t us, Same H H' → SqT K H' t us → Refs K H' us (rings (fn' m) m.length) → Q (.ref t) H'
theorem scCyclesU : FnScope ["move", "seen", "rings", "start", "ring", "place"] ["move"] (defScope sCyclesU) :=
  ⟨rfl, rfl, rfl, by decide +kernel, rfl, by decide +kernel, by decide +kernel⟩
theorem dCyclesU (T : Tx K mg) : Def P w K mg base CX0 1 "_cycles" ["move"] (spCyc K) := by
  refine T.t_cyclesU.def_ (N := ["move", "seen", "rings", "start", "ring", "place"]) scCyclesU (fun _ _ _ _ _ _ us hl => match us, hl with | [_], _ => rfl) ?_ ?_
  · intro vs H Q E h
    obtain ⟨a, m, rfl, _⟩ := h
    rfl
  · intro f cd A out s H vs Q E hr h
    obtain ⟨a, m, rfl, S, hm, q⟩ := h
    refine ⟨_, (pss_cons (ps_set (i := 1) scCyclesU.nd rfl (Or.inl rfl) (pe_callTy0 (cr_set0W (w := w) rfl) rfl T.f_set (by decide +kernel)))
      (pss_cons (ps_set (i := 2) scCyclesU.nd rfl (Or.inl rfl) (pe_lst pa_nil))
      (pss_cons (ps_for PassesOwn.never rfl (pi_range1 rfl T.f_range (pa_cons (pe_callB call_len_seq rfl T.f_len (by decide +kernel) (pa_cons (pv 0) pa_nil)) pa_nil)) (pg_name (i := 3) scCyclesU.nd rfl (Or.inl rfl))
        (pss_one (ps_if (pt_cmpR (or_snotinW (w := w) rfl) (pv 3) (pv 1) rfl) (pss_cons (ps_set (i := 4) scCyclesU.nd rfl (Or.inl rfl) (pe_lst pa_nil))
          (pss_cons (ps_set (i := 5) scCyclesU.nd rfl (Or.inl rfl) (pv 3))
          (pss_cons (ps_while PassesOwn.never (pt_cmpR (or_snotinW (w := w) rfl) (pv 5) (pv 1) rfl)
            (pss_cons (ps_expr (pe_saddW (w := w) rfl (pv 1) (pa_cons (pv 5) pa_nil)))
            (pss_cons (ps_expr (pe_bm PySem.F.plainAttrs_list PySem.F.slot_list_append PySem.F.type_list_append mt_append (pv 4) (pa_cons (pv 5) pa_nil)))
            (pss_one (ps_set (i := 5) scCyclesU.nd rfl (Or.inl rfl) (pe_ix ix_tup (pv 0) (pv 5) (fun _ _ => rfl)))))))
          (pss_one (ps_expr (pe_bm PySem.F.plainAttrs_list PySem.F.slot_list_append PySem.F.type_list_append mt_append (pv 2) (pa_cons (pe_callTy call_tuple_of rfl T.f_tuple (by decide +kernel) (pa_cons (pv 4) pa_nil)) pa_nil))))))) pss_nil)))
      (pss_one (ps_ret (pe_callTy call_tuple_of rfl T.f_tuple (by decide +kernel) (pa_cons (pv 2) pa_nil))))))), ?_⟩
    have pm := pm_of hm
    have m24 := hm.2.2.2
    refine ⟨rfl, fun G fG => ?_⟩
    have S1 : Same H (upd H G (SetO w G (fun _ => false) 0)) := same_new fG
    have G1 : SetN w G [] (upd H G (SetO w G (fun _ => false) 0)) := ⟨_, _, upd_same, Nat.le_refl _, fun x => by simp⟩
    have fG0 : ∀ b o, H b = some o → b ≠ G := fun b o e => ne_of_none e fG
    generalize upd H G _ = H1 at S1 G1 ⊢
    refine ⟨by (show 0 ≤ sizeLine); decide, fun F fF => ?_⟩
    have GF : G ≠ F := by
      obtain ⟨S0, c0, e0, _⟩ := id G1
      exact ne_of_none e0 fF
    have S2 : Same H (upd H1 F (.lst [])) := S1.trans (same_new fF)
    have F2 : (upd H1 F (.lst [])) F = some (.lst []) := upd_same
    have G2 : SetN w G [] (upd H1 F (.lst [])) := G1.upd GF
    have fF0 : ∀ b o, H b = some o → b ≠ F := fun b o e => ne_of_none (S1 b o e) fF
    generalize upd H1 F _ = H2 at S2 F2 G2 ⊢
    refine ⟨_, rfl, a, _, rfl, .inr (same_sqt S2 S), (mv m).length, rfl, by omega, by rw [mv_len]; omega, for_range (fun s σ H3 => Same H H3 ∧ ∃ us : List V, H3 F = some (.lst us) ∧ Refs K H3 us (ringsTo (fn' m) m.length s) ∧
        SetN w G (ringsTo (fn' m) m.length s).flatten H3 ∧ ∃ x y z, σ = [some (.ref a), some (.ref G), some (.ref F), x, y, z]) ⟨S2, [], F2, .nil, G2, _, _, _, rfl⟩ ?_ ?_⟩
    · rintro s σ H3 hs ⟨S3, us, hF, rf, hG, x, y, z, rfl⟩
      have sn : s < m.length := by rw [← mv_len]; simpa using hs
      have g := rings_good pm s (by omega)
      have small := rings_small pm m24 (Nat.le_of_lt sn)
      obtain ⟨S9, c9, e9, l9, r9⟩ := id hG
      refine ⟨_, rfl, _, rfl, _, G, S9, c9, rfl, rfl, e9, ?_⟩
      refine ⟨_, rfl, ?_⟩
      show (if (!S9 (0 + (s : Int))) = true then _ else _)
      rw [Int.zero_add, r9]
      by_cases c : s ∈ (ringsTo (fn' m) m.length s).flatten
      · refine ifF (by rw [decide_eq_true c]; rfl) ?_
        have e : ringsTo (fn' m) m.length (s + 1) = ringsTo (fn' m) m.length s := by
          show (if s ∈ (ringsTo (fn' m) m.length s).flatten then _ else _) = _
          rw [if_pos c]
        rw [e]
        exact ⟨S3, us, hF, rf, hG, _, _, _, rfl⟩
      · refine ifT (by rw [decide_eq_false c]; rfl) ?_
        have e : ringsTo (fn' m) m.length (s + 1) = ringsTo (fn' m) m.length s ++ [ringOf (fn' m) m.length s] := by
          show (if s ∈ (ringsTo (fn' m) m.length s).flatten then _ else _) = _
          rw [if_neg c]
        obtain ⟨Ln, eL, no⟩ := lenOf_ok pm sn
        have L1 := lenOf_pos (fn' m) m.length s
        have out : ∀ k, k < lenOf (fn' m) m.length s → it (fn' m) k s ∉ (ringsTo (fn' m) m.length s).flatten ++ ring (fn' m) s k := by
          intro k kl h
          rcases List.mem_append.mp h with h | h
          · exact c ((closed_it pm g.closed sn k).mp h)
          · have nd := ring_nodup pm sn (L := k + 1) (fun j j1 jl => no j j1 (by omega))
            rw [ring_succ, List.nodup_append] at nd
            exact nd.2.2 _ h _ (List.mem_singleton.mpr rfl) rfl
        rw [e]
        refine ⟨by (show 0 ≤ sizeLine); decide, fun D fD => ?_⟩
        have FD : F ≠ D := ne_of_none hF fD
        have GD : G ≠ D := ne_of_none e9 fD
        have S4 : Same H3 (upd H3 D (.lst [])) := same_new fD
        have D4 : (upd H3 D (.lst [])) D = some (.lst (mv (ring (fn' m) s 0))) := upd_same
        have fD0 : ∀ b o, H b = some o → b ≠ D := fun b o e => ne_of_none (S3 b o e) fD
        replace S3 := S3.trans S4
        replace hF := S4 _ _ hF
        replace hG : SetN w G ((ringsTo (fn' m) m.length s).flatten ++ ring (fn' m) s 0) (upd H3 D (.lst [])) := by
          have e0 : ring (fn' m) s 0 = [] := rfl
          rw [e0, List.append_nil]
          exact hG.same S4
        replace rf := rf.same S4
        generalize upd H3 D _ = H4 at S3 hF hG rf D4 ⊢
        refine ⟨_, rfl, ?_⟩
        refine while_by (fun σ H5 => Same H H5 ∧ H5 F = some (.lst us) ∧ Refs K H5 us (ringsTo (fn' m) m.length s) ∧
            ∃ k, k ≤ lenOf (fn' m) m.length s ∧ SetN w G ((ringsTo (fn' m) m.length s).flatten ++ ring (fn' m) s k) H5 ∧ H5 D = some (.lst (mv (ring (fn' m) s k))) ∧ σ = [some (.ref a), some (.ref G), some (.ref F), some (.int (s : Int)), some (.ref D), some (.int (it (fn' m) k s : Nat))])
          (fun _ H5 => match H5 D with | some (.lst xs) => lenOf (fn' m) m.length s - xs.length | _ => 0) ⟨S3, hF, rf, 0, Nat.zero_le _, hG, D4, rfl⟩ ?_ ?_
        · rintro σ H5 ⟨S5, hF, rf, k, kL, hG, hD, rfl⟩
          have hk : it (fn' m) k s < m.length := it_lt pm sn k
          obtain ⟨S8, c8, e8, l8, r8⟩ := id hG
          have lr : (ring (fn' m) s k).length = k := by
            unfold ring
            rw [List.length_map, List.length_range]
          refine ⟨_, rfl, _, rfl, _, G, S8, c8, rfl, rfl, e8, ?_⟩
          refine ⟨_, rfl, ?_⟩
          show (if (!S8 ((it (fn' m) k s : Nat) : Int)) = true then _ else _)
          rw [r8]
          have FG : F ≠ G := (seto_ne e8 hF (fun f z => nomatch z)).symm
          by_cases kk : k = lenOf (fn' m) m.length s
          · subst kk
            have inn : it (fn' m) (lenOf (fn' m) m.length s) s ∈ (ringsTo (fn' m) m.length s).flatten ++ ring (fn' m) s (lenOf (fn' m) m.length s) :=
              List.mem_append_right _ (ring_mem.mpr ⟨0, by omega, eL⟩)
            refine ifF (by rw [decide_eq_true inn]; rfl) ?_
            refine ⟨_, rfl, .inl ⟨rfl, _, .inl (.inl hF)⟩, _, rfl, D, _, rfl, .inl ⟨.inl (.inl hD), fun t ft => ?_⟩⟩
            have S7 : Same H5 (upd H5 t (.tup (mv (ring (fn' m) s (lenOf (fn' m) m.length s))))) := same_new ft
            have T7 : SqT K (upd H5 t (.tup (mv (ring (fn' m) s (lenOf (fn' m) m.length s))))) t (mv (ring (fn' m) s (lenOf (fn' m) m.length s))) := .inl (.inl upd_same)
            have F7 := S7 _ _ hF
            have G7 := hG.same S7
            have R7 := rf.same S7
            have SS := S5.trans S7
            generalize upd H5 t _ = H7 at T7 F7 G7 R7 SS ⊢
            have lu : us.length ≤ 1000 := by
              have h1 : us.length = (ringsTo (fn' m) m.length s).length := Paired.length rf
              have h2 := ringsTo_len (fn' m) m.length s
              omega
            refine ⟨F, us, _, rfl, rfl, F7, Nat.lt_of_le_of_lt lu (by decide), ?_⟩
            refine ⟨fun b o e => (upd_ne (fF0 b o e)).trans (SS b o e), us ++ [.ref t], upd_same, ?_, ?_, _, _, _, rfl⟩
            · exact (R7.upd F7).snoc (sqt_lst T7 F7)
            · rw [List.flatten_append]
              show SetN w G (_ ++ (ringOf (fn' m) m.length s ++ [])) _
              rw [List.append_nil]
              exact G7.upd FG.symm
          · have kl : k < lenOf (fn' m) m.length s := by omega
            refine ifT (by rw [decide_eq_false (out k kl)]; rfl) ?_
            have room : c8 + 1 < scanBound := by
              have : c8 ≤ 100 := by
                rw [List.length_append, lr] at l8
                omega
              exact Nat.lt_of_le_of_lt (Nat.add_le_add_right this 1) (by decide)
            refine ⟨_, rfl, ⟨G, S8, c8, rfl, e8⟩, _, rfl, G, _, S8, c8, rfl, rfl, e8, room, ?_⟩
            have G6 := SetN.add (w := w) (a := G) (H := H5) (x := it (fn' m) k s) l8 r8
            have F6 := (upd_ne (o := SetO w G (fun j => S8 j || decide (j = ((it (fn' m) k s : Nat) : Int))) (if S8 ((it (fn' m) k s : Nat) : Int) = true then c8 else c8 + 1)) FG).trans hF
            have D6 := (upd_ne (o := SetO w G (fun j => S8 j || decide (j = ((it (fn' m) k s : Nat) : Int))) (if S8 ((it (fn' m) k s : Nat) : Int) = true then c8 else c8 + 1)) GD.symm).trans hD
            have R6 := rf.ext (o := SetO w G (fun j => S8 j || decide (j = ((it (fn' m) k s : Nat) : Int))) (if S8 ((it (fn' m) k s : Nat) : Int) = true then c8 else c8 + 1)) e8 trivial
            have S6 : Same H (upd H5 G (SetO w G (fun j => S8 j || decide (j = ((it (fn' m) k s : Nat) : Int))) (if S8 ((it (fn' m) k s : Nat) : Int) = true then c8 else c8 + 1))) := fun b o e => (upd_ne (fG0 b o e)).trans (S5 b o e)
            rw [List.append_assoc, ← ring_succ] at G6
            generalize upd H5 G _ = H6 at G6 F6 D6 R6 S6 ⊢
            refine ⟨_, rfl, .inl ⟨rfl, _, .inl (.inl D6)⟩, _, rfl, D, _, _, rfl, rfl, D6, Nat.lt_of_le_of_lt (by rw [mv_len, lr]; omega : _ ≤ 1000) (by decide), ?_⟩
            have er : mv (ring (fn' m) s k) ++ [V.int ((it (fn' m) k s : Nat) : Int)] = mv (ring (fn' m) s (k + 1)) := by
              rw [ring_succ, mv_app]
              rfl
            rw [er]
            have S7 : Same H (upd H6 D (.lst (mv (ring (fn' m) s (k + 1))))) := fun b o e => (upd_ne (fD0 b o e)).trans (S6 b o e)
            refine ⟨_, rfl, _, rfl, a, _, _, _, rfl, rfl, same_sqt S7 S, mv_at hk, ⟨S7, (upd_ne FD).trans F6, R6.upd D6, k + 1, kl, G6.upd GD, upd_same, rfl⟩, ?_⟩
            rw [upd_same, hD]
            show lenOf (fn' m) m.length s - (mv (ring (fn' m) s (k + 1))).length < lenOf (fn' m) m.length s - (mv (ring (fn' m) s k)).length
            rw [← er, List.length_append, mv_len, lr]
            show lenOf (fn' m) m.length s - (k + 1) < _
            omega
        · rintro σ H5 Q1 Q2 mono ⟨v, hv, v2, hv2, k, a, S, n, e1, e2, e3, c, e4, body⟩
          exact ⟨v, hv, v2, hv2, k, a, S, n, e1, e2, e3, c, e4, mono _ _ body⟩
    · rintro σ H3 ⟨S3, us, hF, rf, hG, x, y, z, rfl⟩
      rw [mv_len] at rf
      exact ⟨_, rfl, F, _, rfl, .inl ⟨.inl (.inl hF), fun t ft => q _ t us (S3.trans (same_new ft)) (.inl (.inl upd_same)) (rf.same (same_new ft))⟩⟩
end
end K04


set_option Elab.async false
set_option linter.all false
set_option maxRecDepth 100000
set_option maxHeartbeats 2000000
namespace K04
open PySem PySem.Spec PyProof.Rows L2 MM
/-! own words for the readings: a step, its side -/
local macro_rules | `(tactic| walk_at "side") => `(tactic| first
  | omega
  | exact ⟨by omega, by omega⟩
  | exact Or.inl ⟨by omega, by omega⟩
  | exact Or.inr ⟨by omega, by omega⟩
  | (show CPw _ _; decide +kernel)
  | (show (0 : Int) < _; decide +kernel)
  | (show CDivW _ _; first | assumption | exact ⟨by decide, by decide +kernel⟩))
local macro_rules | `(tactic| walk_at "here") => `(tactic| first
  | assumption
  | exact upd_same
  | exact Or.inl (Or.inl upd_same)
  | exact Or.inl upd_same)
local macro_rules | `(tactic| walk_at "one") => `(tactic| first
  | refine ⟨_, rfl, ?_⟩
  | refine Or.inl ⟨_, rfl, ?_⟩
  | refine Or.inr ⟨_, rfl, ?_⟩
  | refine ⟨_, _, rfl, rfl, (by walk_at "side"), ?_⟩
  | refine ⟨_, _, rfl, rfl, ?_⟩
  | refine ⟨_, _, rfl, Or.inl (by walk_at "here"), ?_⟩
  | refine ⟨_, _, rfl, Or.inr (by walk_at "here"), ?_⟩
  | refine ⟨_, _, rfl, (by walk_at "here"), ?_⟩
  | refine ⟨_, _, _, _, rfl, rfl, (by walk_at "here"), rfl, ?_⟩
  | refine ⟨_, _, rfl, ?_⟩
  | refine ifT (by rfl) ?_
  | refine ifF (by rfl) ?_
  | refine ifT (decide_eq_true (by omega)) ?_
  | refine ifF (decide_eq_false (by omega)) ?_)
local macro_rules | `(tactic| walk_at "st") => `(tactic| repeat (walk_at "one"))

section
variable {P : Program} {w : World} {K : PySem.W.Frag} {mg : Str → Option Value} {base : Heap}
def spPowOf (K : PySem.W.Frag) : Sp := fun vs H Q _ => ∃ (a : Addr) (m : List Nat) (e : Int), vs = [.ref a, .int e] ∧ SqT K H a (mv m) ∧ Mv m ∧ -(10 ^ 30) ≤ e ∧ e ≤ 10 ^ 30 ∧
  ∀ H' t, Same H H' → SqT K H' t (mv ((List.range m.length).map (pwE (fn' m) (ordOf (fn' m) m.length) e))) → Q (.ref t) H'
theorem scPowerOf : FnScope ["move", "number", "power", "_", "ring", "at", "place"] ["move", "number"] (defScope sPowerOf) :=
  ⟨rfl, rfl, rfl, by decide +kernel, rfl, by decide +kernel, by decide +kernel⟩
theorem dPowerOf (T : Tx K mg) (DNeedMove : Def P w K mg base CX0 4 "_need_move" ["move"] (spNeedMove K)) (DNeedBetween : Def P w K mg base CX0 3 "need_between" ["value", "least", "most"] (spNeedBetween K)) (DCyclesU : Def P w K mg base CX0 1 "_cycles" ["move"] (spCyc K)) : Def P w K mg base CX0 5 "power_of" ["move", "number"] (spPowOf K) := by
  refine T.t_power_of.def_ (N := ["move", "number", "power", "_", "ring", "at", "place"]) scPowerOf (fun _ _ _ _ _ _ us hl => match us, hl with | [_, _], _ => rfl) ?_ ?_
  · intro vs H Q E h
    obtain ⟨a, m, e, rfl, _⟩ := h
    rfl
  · intro f cd A out s H vs Q E hr h
    have hr1 : Rm 4 _ := hr.le (by decide)
    obtain ⟨a, m, e, rfl, S, hm, e0, e1, q⟩ := h
    refine ⟨_, (pss_cons (ps_expr (pe_d DNeedMove (hr1.le (by decide)) pass0 (pa_cons (pv 0) pa_nil)))
      (pss_cons (ps_expr (pe_d DNeedBetween (hr1.le (by decide)) pass0 (pa_cons (pv 1) (pa_cons (pe_un un_neg (C8.pe_gc rfl T.c_MAX_POWER)) (pa_cons (C8.pe_gc rfl T.c_MAX_POWER) pa_nil)))))
      (pss_cons (ps_setLc (i := 2) (own := [("_", 3)]) (g := gName 3) (tt := tYes) rfl scPowerOf.nd rfl rfl (sw_true rfl rfl rfl rfl) (pi_tup (pv 0)) (blkOk_by (N := ["move", "number", "power", "_", "ring", "at", "place"]) (sc := defScope sPowerOf) (by decide +kernel)) (fun _ _ _ _ _ => pg_name (i := 3) scPowerOf.nd rfl (Or.inl rfl)) (fun _ _ _ _ _ => pts_nil) (fun _ _ _ _ _ => pe_int))
      (pss_cons (ps_for PassesOwn.never rfl (pi_tup (pe_d DCyclesU (hr1.le (by decide)) pass0 (pa_cons (pv 0) pa_nil))) (pg_name (i := 4) scPowerOf.nd rfl (Or.inl rfl))
        (pss_one (ps_for PassesOwn.never rfl (pi_enumT rfl T.f_enumerate (pa_cons (pv 4) pa_nil)) (pg_tup rfl (pgs_cons (pg_name (i := 5) scPowerOf.nd rfl (Or.inl rfl)) (pgs_cons (pg_name (i := 6) scPowerOf.nd rfl (Or.inl rfl)) pgs_nil)))
          (pss_one (ps_asg (pe_ix ix_tup (pv 4) (pe_op op_mod (pe_op op_add (pv 5) (pv 1)) (pe_callB call_len_seq rfl T.f_len (by decide +kernel) (pa_cons (pv 4) pa_nil))) (fun _ _ => rfl)) (pg_sub (pv 2) (pv 6) set_list))))))
      (pss_one (ps_ret (pe_callTy call_tuple_of rfl T.f_tuple (by decide +kernel) (pa_cons (pv 2) pa_nil)))))))), ?_⟩
    have pm := pm_of hm
    refine ⟨_, rfl, a, m, rfl, S, hm, fun H0 S0 => ?_⟩
    refine ⟨_, rfl, _, rfl, e, _, _, rfl, e0, e1, ?_⟩
    have Sa0 := same_sqt S0 S
    refine ⟨_, rfl, a, rfl, ⟨_, Sa0⟩, fun F fF => ?_⟩
    have fF0 : ∀ b o, H b = some o → b ≠ F := fun b o e => ne_of_none (S0 b o e) fF
    refine lc_tpl (fun _ => V.int 0) Sa0 fF (by rw [mv_len]; exact Nat.le_of_lt (small1000 (by have := hm.2.2.2; omega))) (fun x acc hx Q' q' => q') ?_
    have ez : (mv m).map (fun _ => V.int 0) = mv (backT m 0) := by
      unfold backT mv
      rw [List.map_map]
      show _ = (List.replicate m.length 0).map _
      rw [List.map_replicate]
      exact List.map_const' ..
    rw [ez]
    have S1 : Same H (upd H0 F (.lst (mv (backT m 0)))) := S0.trans (same_new fF)
    have F1 : (upd H0 F (.lst (mv (backT m 0)))) F = some (.lst (mv (backT m 0))) := upd_same
    have b0 := backT_len m 0
    generalize backT m 0 = z0 at F1 S1 b0 ⊢
    generalize upd H0 F _ = H1 at S1 F1 ⊢
    refine ⟨_, rfl, a, m, rfl, same_sqt S1 S, hm, fun H2 R us S2 hR rf => ?_⟩
    have F2 := S2 _ _ F1
    replace S2 := S1.trans S2
    refine ⟨R, rfl, ⟨_, hR⟩, for_tup (K := K) (a := R) (xs := us) (fun i σ H3 => Same H H3 ∧ SqT K H3 R us ∧ Refs K H3 us (rings (fn' m) m.length) ∧ ∃ b : List Nat, b.length = m.length ∧ H3 F = some (.lst (mv b)) ∧
        (∀ x ∈ ((rings (fn' m) m.length).take i).flatten, b.getD x 0 = pwE (fn' m) (ordOf (fn' m) m.length) e x) ∧ ∃ x y z, σ = [some (.ref a), some (.int e), some (.ref F), none, x, y, z])
      ⟨S2, hR, rf, z0, b0, F2, by simp, _, _, _, rfl⟩ (fun i σ H3 _ h => h.2.1) ?_ ?_⟩
    · rintro i v σ H3 hv ⟨S3, hR, rf, b, lb, hF, done, x, y, z, rfl⟩
      obtain ⟨r, t, hr, rfl, St⟩ := rf.get hv
      have mr : r ∈ rings (fn' m) m.length := List.mem_of_getElem? hr
      obtain ⟨p, pn, er⟩ := (rings_good pm m.length (Nat.le_refl _)).each r mr
      have lr : r.length = lenOf (fn' m) m.length p := by rw [er, ringOf_len]
      obtain ⟨Ln, eL, no⟩ := lenOf_ok pm pn
      have L1 := lenOf_pos (fn' m) m.length p
      have tF : ∀ H9 : Hp, SqT K H9 t (mv r) → ∀ zs, H9 F = some (.lst zs) → ∀ ys, SqT K (upd H9 F (.lst ys)) t (mv r) := fun H9 S9 zs e9 ys => sqt_lst S9 e9
      refine ⟨_, rfl, t, _, rfl, St, ?_⟩
      refine for_enumT (K := K) (a := t) (xs := mv r) (fun j σ H4 => (Same H H4 ∧ SqT K H4 t (mv r)) ∧ SqT K H4 R us ∧ Refs K H4 us (rings (fn' m) m.length) ∧ ∃ b : List Nat, b.length = m.length ∧ H4 F = some (.lst (mv b)) ∧
          (∀ x, x ∈ ((rings (fn' m) m.length).take i).flatten ∨ x ∈ r.take j → b.getD x 0 = pwE (fn' m) (ordOf (fn' m) m.length) e x) ∧ ∃ y z, σ = [some (.ref a), some (.int e), some (.ref F), none, some (.ref t), y, z])
        ⟨⟨S3, St⟩, hR, rf, b, lb, hF, fun x hx => by rcases hx with hx | hx; exact done x hx; simp at hx, _, _, rfl⟩ (fun j σ H4 _ h => h.1.2) ?_ ?_
      · rintro j u σ H4 T hu ⟨⟨S4, St⟩, hR, rf, b, lb, hF, done, y, z, rfl⟩ fT
        obtain ⟨jr, rfl⟩ := mv_nth hu
        have FT : F ≠ T := ne_of_none hF fT
        have St5 : SqT K (upd H4 T (.tup [.int (j : Nat), .int ((r.getD j 0 : Nat) : Int)])) t (mv r) := sqt_new St fT
        have pj : r.getD j 0 = it (fn' m) j p := by
          rw [er]
          unfold ringOf ring
          rw [List.getD, List.getElem?_map, List.getElem?_range (by omega)]
          rfl
        have pl : r.getD j 0 < m.length := by rw [pj]; exact it_lt pm pn j
        have Lp : 0 < ((mv r).length : Int) := by rw [mv_len]; omega
        have i0 := Int.emod_nonneg ((j : Int) + e) (by omega : ((mv r).length : Int) ≠ 0)
        have i1 := Int.emod_lt_of_pos ((j : Int) + e) Lp
        obtain ⟨ix, eix⟩ : ∃ ix : Nat, ((j : Int) + e) % ((mv r).length : Int) = (ix : Int) := ⟨_, (Int.toNat_of_nonneg i0).symm⟩
        have il : ix < r.length := by rw [eix, mv_len] at i1; omega
        have val : r.getD ix 0 = pwE (fn' m) (ordOf (fn' m) m.length) e (r.getD j 0) := by
          have dv := ord_dvd mr
          rw [lr] at dv
          have := ring_pow (f := fn' m) (p := p) (a := j) (e := e) eL (by omega) dv (ordOf_pos pm) (by omega)
          rw [← pj] at this
          rw [← this, ← lr, ← mv_len r, eix, Int.toNat_natCast, mv_len, lr, er]
          rfl
        have ate : atI (mv r) (((j : Int) + e) % ((mv r).length : Int)) = some (.int ((r.getD ix 0 : Nat) : Int)) := by
          rw [eix]
          exact mv_at il
        refine ⟨T, _, rfl, .inl (.inl upd_same), rfl, _, _, rfl, ?_⟩
        refine ⟨_, _, rfl, rfl, ?_⟩
        refine ⟨_, rfl, _, rfl, _, rfl, _, _, rfl, rfl, _, rfl, t, _, rfl, .inr St5, _, _, rfl, rfl, Lp, t, _, _, _, rfl, rfl, St5, ate, ?_⟩
        refine ⟨_, rfl, _, rfl, F, _, _, r.getD j 0, rfl, rfl, (upd_ne FT).trans hF, by rw [mv_len, lb]; exact ixN_lt pl, ?_⟩
        rw [mv_set]
        refine ⟨⟨fun b o h => (upd_ne (fF0 b o h)).trans (same_new fT b o (S4 b o h)), sqt_lst St5 ((upd_ne FT).trans hF)⟩, sqt_lst (sqt_new hR fT) ((upd_ne FT).trans hF), (rf.same (same_new fT)).upd ((upd_ne FT).trans hF), b.set (r.getD j 0) (r.getD ix 0), by rw [List.length_set, lb], upd_same, fun x hx => ?_, _, _, rfl⟩
        by_cases z : x = r.getD j 0
        · rw [z, ← val, List.getD, List.getElem?_set_self (by omega)]
          rfl
        · rw [List.getD, List.getElem?_set_ne (fun h => z h.symm), ← List.getD]
          refine done x ?_
          rcases hx with hx | hx
          · exact .inl hx
          · refine .inr ?_
            rw [List.take_add_one, List.getElem?_eq_getElem jr] at hx
            rcases List.mem_append.mp hx with hx | hx
            · exact hx
            · exfalso
              refine z ?_
              rw [List.getD, List.getElem?_eq_getElem jr]
              simpa using hx
      · rintro σ H4 ⟨⟨S4, St⟩, hR, rf, b, lb, hF, done, y, z, rfl⟩
        refine ⟨S4, hR, rf, b, lb, hF, fun x hx => done x ?_, _, _, _, rfl⟩
        rw [List.take_add_one, hr, List.flatten_append, List.mem_append] at hx
        rcases hx with hx | hx
        · exact .inl hx
        · refine .inr ?_
          rw [mv_len, List.take_length]
          simpa using hx
    · rintro σ H3 ⟨S3, hR, rf, b, lb, hF, done, x, y, z, rfl⟩
      have lus : us.length = (rings (fn' m) m.length).length := Paired.length rf
      rw [lus, List.take_length] at done
      have eb : b = (List.range m.length).map (pwE (fn' m) (ordOf (fn' m) m.length) e) := by
        refine List.ext_getElem (by rw [lb, List.length_map, List.length_range]) fun x h1 h2 => ?_
        have hx := (rings_good pm m.length (Nat.le_refl _)).all x (by omega)
        have := done x hx
        rw [List.getD, List.getElem?_eq_getElem h1] at this
        rw [List.getElem_map, List.getElem_range]
        exact this
      rw [eb] at hF
      exact ⟨_, rfl, F, _, rfl, .inl ⟨.inl (.inl hF), fun u fu => q _ u (S3.trans (same_new fu)) (.inl (.inl upd_same))⟩⟩
def spOrd (K : PySem.W.Frag) : Sp := fun vs H Q _ => ∃ (a : Addr) (m : List Nat), vs = [.ref a] ∧ SqT K H a (mv m) ∧ Mv m ∧ (∀ i, lcmL (((rings (fn' m) m.length).map List.length).take i) < 2 ^ 63) ∧
  ∀ H', Same H H' → Q (.int (ordOf (fn' m) m.length : Nat)) H'
theorem len_in {f : Nat → Nat} {n : Nat} (h : Pm f n) {r : List Nat} (hr : r ∈ rings f n) : 1 ≤ r.length ∧ r.length ≤ n := by
  obtain ⟨p, pn, rfl⟩ := (rings_good h n (Nat.le_refl _)).each r hr
  rw [ringOf_len]
  exact ⟨lenOf_pos f n p, (lenOf_ok h pn).1⟩
theorem scOrderOf : FnScope ["move", "order", "ring"] ["move"] (defScope sOrderOf) :=
  ⟨rfl, rfl, rfl, by decide +kernel, rfl, by decide +kernel, by decide +kernel⟩
theorem dOrderOf (T : Tx K mg) (DNeedMove : Def P w K mg base CX0 4 "_need_move" ["move"] (spNeedMove K)) (DCyclesU : Def P w K mg base CX0 1 "_cycles" ["move"] (spCyc K)) : Def P w K mg base CX0 5 "order_of" ["move"] (spOrd K) := by
  refine T.t_order_of.def_ (N := ["move", "order", "ring"]) scOrderOf (fun _ _ _ _ _ _ us hl => match us, hl with | [_], _ => rfl) ?_ ?_
  · intro vs H Q E h
    obtain ⟨a, m, rfl, _⟩ := h
    rfl
  · intro f cd A out s H vs Q E hr h
    have hr1 : Rm 4 _ := hr.le (by decide)
    obtain ⟨a, m, rfl, S, hm, hl, q⟩ := h
    refine ⟨_, (pss_cons (ps_expr (pe_d DNeedMove (hr1.le (by decide)) pass0 (pa_cons (pv 0) pa_nil)))
      (pss_cons (ps_set (i := 1) scOrderOf.nd rfl (Or.inl rfl) pe_int)
      (pss_cons (ps_for PassesOwn.never rfl (pi_tup (pe_d DCyclesU (hr1.le (by decide)) pass0 (pa_cons (pv 0) pa_nil))) (pg_name (i := 2) scOrderOf.nd rfl (Or.inl rfl))
        (pss_one (ps_set (i := 1) scOrderOf.nd rfl (Or.inl rfl) (pe_callBfun cr_lcm rfl T.b_lcm (pa_cons (pv 1) (pa_cons (pe_callB call_len_seq rfl T.f_len (by decide +kernel) (pa_cons (pv 2) pa_nil)) pa_nil))))))
      (pss_one (ps_ret (pv 1)))))), ?_⟩
    have pm := pm_of hm
    refine ⟨_, rfl, a, m, rfl, S, hm, fun H0 S0 => ?_⟩
    refine ⟨_, rfl, a, m, rfl, same_sqt S0 S, hm, fun H1 R us S1 hR rf => ?_⟩
    have S2 := S0.trans S1
    refine ⟨R, rfl, ⟨_, hR⟩, for_tup (K := K) (a := R) (xs := us) (fun i σ H3 => H3 = H1 ∧ ∃ x, σ = [some (.ref a), some (.int (lcmL (((rings (fn' m) m.length).map List.length).take i) : Nat)), x]) ⟨rfl, _, rfl⟩ (fun i σ H3 _ h => by rw [h.1]; exact hR) ?_ ?_⟩
    · rintro i v σ H3 hv ⟨rfl, x, rfl⟩
      obtain ⟨r, t, hr, rfl, St⟩ := rf.get hv
      have mr : r ∈ rings (fn' m) m.length := List.mem_of_getElem? hr
      obtain ⟨r1, r2⟩ := len_in pm mr
      have e : ((rings (fn' m) m.length).map List.length)[i]? = some r.length := by rw [List.getElem?_map, hr]; rfl
      have m24 := hm.2.2.2
      refine ⟨_, rfl, _, rfl, t, _, rfl, .inr St, ?_⟩
      refine ⟨_, _, rfl, ?_, ?_, rfl, some (.ref t), ?_⟩
      · rw [Int.natAbs_natCast]
        exact Nat.lt_trans (hl i) (by decide)
      · rw [Int.natAbs_natCast, mv_len]
        exact Nat.lt_of_le_of_lt (Nat.le_trans r2 m24) (by decide)
      · rw [lcmL_more e, mv_len]
        rfl
    · rintro σ H3 ⟨rfl, x, rfl⟩
      have : us.length = (rings (fn' m) m.length).length := Paired.length rf
      rw [this, ← List.length_map (f := List.length) , List.take_length]
      exact ⟨_, rfl, q _ S2⟩
def evenS (n : Nat) : Int := if n % 2 = 0 then 1 else -1
def spSign (K : PySem.W.Frag) : Sp := fun vs H Q _ => ∃ (a : Addr) (m : List Nat), vs = [.ref a] ∧ SqT K H a (mv m) ∧ Mv m ∧ ∀ H', Same H H' → Q (.int (evenS (m.length - (rings (fn' m) m.length).length))) H'
theorem scSignOf : FnScope ["move"] ["move"] (defScope sSignOf) :=
  ⟨rfl, rfl, rfl, by decide +kernel, rfl, by decide +kernel, by decide +kernel⟩
theorem dSignOf (T : Tx K mg) (DNeedMove : Def P w K mg base CX0 4 "_need_move" ["move"] (spNeedMove K)) (DCyclesU : Def P w K mg base CX0 1 "_cycles" ["move"] (spCyc K)) : Def P w K mg base CX0 5 "sign_of" ["move"] (spSign K) := by
  refine T.t_sign_of.def_ (N := ["move"]) scSignOf (fun _ _ _ _ _ _ us hl => match us, hl with | [_], _ => rfl) ?_ ?_
  · intro vs H Q E h
    obtain ⟨a, m, rfl, _⟩ := h
    rfl
  · intro f cd A out s H vs Q E hr h
    have hr1 : Rm 4 _ := hr.le (by decide)
    obtain ⟨a, m, rfl, S, hm, q⟩ := h
    refine ⟨_, (pss_cons (ps_expr (pe_d DNeedMove (hr1.le (by decide)) pass0 (pa_cons (pv 0) pa_nil)))
      (pss_one (ps_ret (pe_ifExp (pt_cmpR op_eq (pe_op op_mod (pe_op op_sub (pe_callB call_len_seq rfl T.f_len (by decide +kernel) (pa_cons (pv 0) pa_nil)) (pe_callB call_len_seq rfl T.f_len (by decide +kernel) (pa_cons (pe_d DCyclesU (hr1.le (by decide)) pass0 (pa_cons (pv 0) pa_nil)) pa_nil))) pe_int) pe_int (nomark _)) pe_int (pe_un un_neg pe_int))))), ?_⟩
    have pm := pm_of hm
    refine ⟨_, rfl, a, m, rfl, S, hm, fun H0 S0 => ?_⟩
    refine ⟨_, rfl, a, _, rfl, .inr (same_sqt S0 S), ?_⟩
    refine ⟨_, rfl, a, m, rfl, same_sqt S0 S, hm, fun H1 R us S1 hR rf => ?_⟩
    have S2 := S0.trans S1
    refine ⟨R, us, rfl, .inr hR, ?_⟩
    refine ⟨_, _, rfl, rfl, ?_⟩
    refine ⟨_, _, rfl, rfl, (by show (0 : Int) < 2; decide), ?_⟩
    refine ⟨rfl, _, rfl, ?_⟩
    have e1 : us.length = (rings (fn' m) m.length).length := Paired.length rf
    have e2 : (rings (fn' m) m.length).length ≤ m.length := ringsTo_len _ _ _
    have q2 := q H1 S2
    rw [e1, mv_len]
    unfold evenS at q2
    generalize (rings (fn' m) m.length).length = c at e2 q2 ⊢
    refine ite2 (fun d => ?_) (fun d => ?_)
    · rw [dInt] at d
      have := of_decide_eq_true d
      rw [if_pos (by omega)] at q2
      exact q2
    · rw [dInt] at d
      have := of_decide_eq_false (Bool.eq_false_iff.mpr d)
      rw [if_neg (by omega)] at q2
      exact ⟨_, rfl, q2⟩
def spCycles (K : PySem.W.Frag) : Sp := spCyc K
theorem scCycles : FnScope ["move"] ["move"] (defScope sCycles) :=
  ⟨rfl, rfl, rfl, by decide +kernel, rfl, by decide +kernel, by decide +kernel⟩
theorem dCycles (T : Tx K mg) (DNeedMove : Def P w K mg base CX0 4 "_need_move" ["move"] (spNeedMove K)) (DCyclesU : Def P w K mg base CX0 1 "_cycles" ["move"] (spCyc K)) : Def P w K mg base CX0 5 "cycles" ["move"] (spCyc K) := by
  refine T.t_cycles.def_ (N := ["move"]) scCycles (fun _ _ _ _ _ _ us hl => match us, hl with | [_], _ => rfl) ?_ ?_
  · intro vs H Q E h
    obtain ⟨a, m, rfl, _⟩ := h
    rfl
  · intro f cd A out s H vs Q E hr h
    have hr1 : Rm 4 _ := hr.le (by decide)
    obtain ⟨a, m, rfl, S, hm, q⟩ := h
    refine ⟨_, (pss_cons (ps_expr (pe_d DNeedMove (hr1.le (by decide)) pass0 (pa_cons (pv 0) pa_nil)))
      (pss_one (ps_ret (pe_d DCyclesU (hr1.le (by decide)) pass0 (pa_cons (pv 0) pa_nil))))), ?_⟩
    refine ⟨_, rfl, a, m, rfl, S, hm, fun H0 S0 => ?_⟩
    exact ⟨_, rfl, a, m, rfl, same_sqt S0 S, hm, fun H1 R us S1 hR rf => q H1 R us (S0.trans S1) hR rf⟩
def stillOf (m : List Nat) : List Nat := (List.range m.length).filter fun k => decide (k = fn' m k)
def spStill (K : PySem.W.Frag) : Sp := fun vs H Q _ => ∃ (a : Addr) (m : List Nat), vs = [.ref a] ∧ SqT K H a (mv m) ∧ Mv m ∧ ∀ H' t, Same H H' → SqT K H' t (mv (stillOf m)) → Q (.ref t) H'
theorem scStillPlaces : FnScope ["move", "place", "target"] ["move"] (defScope sStillPlaces) :=
  ⟨rfl, rfl, rfl, by decide +kernel, rfl, by decide +kernel, by decide +kernel⟩
theorem dStillPlaces (T : Tx K mg) (DNeedMove : Def P w K mg base CX0 4 "_need_move" ["move"] (spNeedMove K)) : Def P w K mg base CX0 5 "still_places" ["move"] (spStill K) := by
  refine T.t_still_places.def_ (N := ["move", "place", "target"]) scStillPlaces (fun _ _ _ _ _ _ us hl => match us, hl with | [_], _ => rfl) ?_ ?_
  · intro vs H Q E h
    obtain ⟨a, m, rfl, _⟩ := h
    rfl
  · intro f cd A out s H vs Q E hr h
    have hr1 : Rm 4 _ := hr.le (by decide)
    obtain ⟨a, m, rfl, S, hm, q⟩ := h
    refine ⟨_, (pss_cons (ps_expr (pe_d DNeedMove (hr1.le (by decide)) pass0 (pa_cons (pv 0) pa_nil)))
      (pss_one (ps_ret (pe_callTy call_tuple_of rfl T.f_tuple (by decide +kernel) (pa_cons (pe_lc (own := [("place", 1), ("target", 2)]) (g := gTup K 2 (gCons (gName 1) (gCons (gName 2) gNil))) rfl scStillPlaces.nd (pi_enumT rfl T.f_enumerate (pa_cons (pv 0) pa_nil)) (blkOk_by (N := ["move", "place", "target"]) (sc := defScope sStillPlaces) (by decide +kernel)) (fun _ _ _ _ _ => (show PG _ _ (gTup K 2 (gCons (gName 1) (gCons (gName 2) gNil))) from pg_tup rfl (pgs_cons (pg_name (i := 1) scStillPlaces.nd rfl (Or.inl rfl)) (pgs_cons (pg_name (i := 2) scStillPlaces.nd rfl (Or.inl rfl)) pgs_nil)))) (fun _ _ _ _ _ => (pts_one (pt_cmpR op_eq (pv 1) (pv 2) (nomark _)))) (fun _ _ _ _ _ => (pv 1))) pa_nil))))), ?_⟩
    have m24 := hm.2.2.2
    refine ⟨_, rfl, a, m, rfl, S, hm, fun H0 S0 => ?_⟩
    have S1 := same_sqt S0 S
    refine ⟨_, rfl, a, _, rfl, S1, fun D nD => ?_⟩
    refine lc_enumT (K := K) (a := a) (xs := mv m) (Pv := fun i H3 => Same H0 H3 ∧ H3 D = some (.lst (mv ((List.range i).filter fun k => decide (k = fn' m k))))) ⟨same_new nD, upd_same⟩ (fun i H3 _ h => same_sqt h.1 S1) ?_ ?_
    · rintro i x H3 T hx ⟨S3, hD⟩ fT
      obtain ⟨li, rfl⟩ := mv_nth hx
      have DT : D ≠ T := ne_of_none hD fT
      have nD0 : ∀ b o, H0 b = some o → b ≠ D := fun b o e => ne_of_none e nD
      refine ⟨T, _, rfl, .inl (.inl upd_same), rfl, _, _, rfl, ?_⟩
      refine ⟨_, _, rfl, rfl, rfl, ?_⟩
      refine ⟨_, rfl, _, rfl, rfl, ?_⟩
      have sm : Same H0 (upd H3 T (.tup [.int (i : Nat), .int ((m.getD i 0 : Nat) : Int)])) := S3.trans (same_new fT)
      have hD2 := (upd_ne (o := .tup [.int (i : Nat), .int ((m.getD i 0 : Nat) : Int)]) DT).trans hD
      have st : (List.range (i + 1)).filter (fun k => decide (k = fn' m k)) = (List.range i).filter (fun k => decide (k = fn' m k)) ++ if i = fn' m i then [i] else [] := by
        rw [List.range_succ, List.filter_append]
        congr 1
        by_cases c : i = fn' m i
        · rw [if_pos c]
          simp [← c]
        · rw [if_neg c]
          simp [c]
      rw [st]
      have dd : decide (V.int ((i : Nat) : Int) = V.int ((m.getD i 0 : Nat) : Int)) = decide (i = fn' m i) := by
        rw [dInt]
        exact decide_eq_decide.mpr (by show _ ↔ i = m.getD i 0; omega)
      refine ⟨_, rfl, ?_⟩
      rw [dd]
      by_cases c : i = fn' m i
      · rw [if_pos c]
        refine ifT (decide_eq_true c) ?_
        refine ⟨_, rfl, _, hD2, ?_, fun b o e => (upd_ne (nD0 b o e)).trans (sm b o e), ?_⟩
        · refine Nat.lt_of_le_of_lt ?_ (small1000 (n := 1000) (by omega))
          rw [mv_len]
          exact Nat.le_trans (List.length_filter_le _ _) (by rw [List.length_range]; omega)
        · rw [mv_app]
          exact upd_same
      · rw [if_neg c, List.append_nil]
        exact ifF (decide_eq_false c) ⟨sm, hD2⟩
    · rintro H3 ⟨S3, hD⟩
      rw [mv_len] at hD
      exact ⟨D, _, rfl, .inl ⟨.inl (.inl hD), fun t ft => q _ t ((S0.trans S3).trans (same_new ft)) (.inl (.inl upd_same))⟩⟩
end
end K04


set_option Elab.async false
set_option linter.all false
set_option maxRecDepth 100000
set_option maxHeartbeats 2000000
namespace K04
open PySem PySem.Spec PyProof.Rows L2 MM
/-! own words for the readings: a step, its side -/
local macro_rules | `(tactic| walk_at "side") => `(tactic| first
  | omega
  | exact ⟨by omega, by omega⟩
  | exact Or.inl ⟨by omega, by omega⟩
  | exact Or.inr ⟨by omega, by omega⟩
  | (show CPw _ _; decide +kernel)
  | (show (0 : Int) < _; decide +kernel)
  | (show CDivW _ _; first | assumption | exact ⟨by decide, by decide +kernel⟩))
local macro_rules | `(tactic| walk_at "here") => `(tactic| first
  | assumption
  | exact upd_same
  | exact Or.inl (Or.inl upd_same)
  | exact Or.inl upd_same)
local macro_rules | `(tactic| walk_at "one") => `(tactic| first
  | refine ⟨_, rfl, ?_⟩
  | refine Or.inl ⟨_, rfl, ?_⟩
  | refine Or.inr ⟨_, rfl, ?_⟩
  | refine ⟨_, _, rfl, rfl, (by walk_at "side"), ?_⟩
  | refine ⟨_, _, rfl, rfl, ?_⟩
  | refine ⟨_, _, rfl, Or.inl (by walk_at "here"), ?_⟩
  | refine ⟨_, _, rfl, Or.inr (by walk_at "here"), ?_⟩
  | refine ⟨_, _, rfl, (by walk_at "here"), ?_⟩
  | refine ⟨_, _, _, _, rfl, rfl, (by walk_at "here"), rfl, ?_⟩
  | refine ⟨_, _, rfl, ?_⟩
  | refine ifT (by rfl) ?_
  | refine ifF (by rfl) ?_
  | refine ifT (decide_eq_true (by omega)) ?_
  | refine ifF (decide_eq_false (by omega)) ?_)
local macro_rules | `(tactic| walk_at "st") => `(tactic| repeat (walk_at "one"))

section
variable {P : Program} {w : World} {K : PySem.W.Frag} {mg : Str → Option Value} {base : Heap}
theorem split_at {α : Type} {l : List α} {i : Nat} {x : α} (h : l[i]? = some x) : l = l.take i ++ x :: l.drop (i + 1) := by
  obtain ⟨lt, e⟩ := List.getElem?_eq_some_iff.mp h
  rw [← e, ← List.drop_eq_getElem_cons lt, List.take_append_drop]
/-- rings of places below n -/
structure Rings (n : Nat) (R : List (List Nat)) : Prop where
  full : ∀ r ∈ R, 1 ≤ r.length
  once : R.flatten.Nodup
  below : ∀ x ∈ R.flatten, x < n
theorem Rings.small {n : Nat} {R : List (List Nat)} (h : Rings n R) : R.flatten.length ≤ n := by
  have := h.once.length_le_of_subset (fun x hx => List.mem_range.mpr (h.below x hx))
  rwa [List.length_range] at this
theorem Rings.flat {R : List (List Nat)} {i j x : Nat} {r : List Nat} (hr : R[i]? = some r) (hx : r[j]? = some x) :
    R.flatten = ((R.take i).flatten ++ r.take j) ++ x :: (r.drop (j + 1) ++ (R.drop (i + 1)).flatten) := by
  have e1 := split_at hr
  have e2 := split_at hx
  have e3 : R.flatten = (R.take i ++ r :: R.drop (i + 1)).flatten := congrArg List.flatten e1
  rw [e3, List.flatten_append, List.flatten_cons]
  have e4 : r ++ (R.drop (i + 1)).flatten = r.take j ++ (x :: (r.drop (j + 1) ++ (R.drop (i + 1)).flatten)) := by
    have : r ++ (R.drop (i + 1)).flatten = (r.take j ++ x :: r.drop (j + 1)) ++ (R.drop (i + 1)).flatten := by rw [← e2]
    rw [this, List.append_assoc, List.cons_append]
  rw [e4, List.append_assoc]
theorem Rings.new {n : Nat} {R : List (List Nat)} (h : Rings n R) {i j x : Nat} {r : List Nat} (hr : R[i]? = some r) (hx : r[j]? = some x) :
    x ∉ (R.take i).flatten ++ r.take j ∧ x < n ∧ ((R.take i).flatten ++ r.take j).length ≤ n := by
  have e := Rings.flat hr hx
  have nd := h.once
  have sm := h.small
  rw [e] at nd sm
  refine ⟨fun z => ?_, h.below x (by rw [e]; simp), ?_⟩
  · have := (List.nodup_append.mp nd).2.2 x z x (by simp)
    exact this rfl
  · rw [List.length_append] at sm
    omega
def spNeedRings (K : PySem.W.Frag) : Sp := fun vs H Q _ => ∃ (n : Nat) (a : Addr) (us : List V) (R : List (List Nat)), vs = [.int (n : Int), .ref a] ∧ SqT K H a us ∧ Refs K H us R ∧ Rings n R ∧ n ≤ 24 ∧ ∀ H', Same H H' → Q .non H'
theorem scNeedRings : FnScope ["places", "rings", "seen", "ring", "place"] ["places", "rings"] (defScope sNeedRings) :=
  ⟨rfl, rfl, rfl, by decide +kernel, rfl, by decide +kernel, by decide +kernel⟩
theorem dNeedRings (T : Tx K mg) (DIsBetween : Def P w K mg base CX0 2 "is_between" ["value", "least", "most"] (spIsBetween K)) : Def P w K mg base CX0 3 "_need_rings" ["places", "rings"] (spNeedRings K) := by
  refine T.t_need_rings.def_ (N := ["places", "rings", "seen", "ring", "place"]) scNeedRings (fun _ _ _ _ _ _ us hl => match us, hl with | [_, _], _ => rfl) ?_ ?_
  · intro vs H Q E h
    obtain ⟨n, a, us, R, rfl, _⟩ := h
    rfl
  · intro f cd A out s H vs Q E hr h
    have hr1 : Rm 2 _ := hr.le (by decide)
    obtain ⟨n, a, us, R, rfl, S, rf, hR, n24, q⟩ := h
    refine ⟨_, (pss_cons (ps_if (pt_not (pt_val (pe_callB (cr_is .tup) rfl T.f_isinstance (by decide +kernel) (pa_cons (pv 1) (pa_cons (pe_ty .tup T.f_tuple (by decide +kernel)) pa_nil))))) (pss_one ps_never) pss_nil)
      (pss_cons (ps_set (i := 2) scNeedRings.nd rfl (Or.inl rfl) (pe_callTy0 (cr_set0W (w := w) rfl) rfl T.f_set (by decide +kernel)))
      (pss_one (ps_for PassesOwn.never rfl (pi_tup (pv 1)) (pg_name (i := 3) scNeedRings.nd rfl (Or.inl rfl))
        (pss_cons (ps_if (PW.pt (pw_or (pt_not (pt_val (pe_callB (cr_is .tup) rfl T.f_isinstance (by decide +kernel) (pa_cons (pv 3) (pa_cons (pe_ty .tup T.f_tuple (by decide +kernel)) pa_nil))))) (pw_or1 (pt_cmpR op_eq (pe_callB call_len_seq rfl T.f_len (by decide +kernel) (pa_cons (pv 3) pa_nil)) pe_int (nomark _))))) (pss_one ps_never) pss_nil)
        (pss_one (ps_for PassesOwn.never rfl (pi_tup (pv 3)) (pg_name (i := 4) scNeedRings.nd rfl (Or.inl rfl))
          (pss_cons (ps_if (PW.pt (pw_or (pt_not (pt_val (pe_d DIsBetween (hr1.le (by decide)) pass0 (pa_cons (pv 4) (pa_cons pe_int (pa_cons (pe_op op_sub (pv 0) pe_int) pa_nil)))))) (pw_or1 (pt_cmpR (or_sinW (w := w) rfl) (pv 4) (pv 2) rfl)))) (pss_one ps_never) pss_nil)
          (pss_one (ps_expr (pe_saddW (w := w) rfl (pv 2) (pa_cons (pv 4) pa_nil)))))))))))), ?_⟩
    refine ⟨_, rfl, _, _, rfl, .tup S, _, rfl, ?_⟩
    refine ifF rfl ?_
    refine ⟨rfl, fun G fG => ?_⟩
    have S1 : Same H (upd H G (SetO w G (fun _ => false) 0)) := same_new fG
    have G1 : SetN w G [] (upd H G (SetO w G (fun _ => false) 0)) := ⟨_, _, upd_same, Nat.le_refl _, fun x => by simp⟩
    have fG0 : ∀ b o, H b = some o → b ≠ G := fun b o e => ne_of_none e fG
    generalize upd H G _ = H1 at S1 G1 ⊢
    refine ⟨_, rfl, a, rfl, ⟨_, same_sqt S1 S⟩, for_tup (K := K) (a := a) (xs := us) (fun i σ H3 => Same H H3 ∧ SetN w G (R.take i).flatten H3 ∧ ∃ x y, σ = [some (.int (n : Int)), some (.ref a), some (.ref G), x, y])
      ⟨S1, by simpa using G1, _, _, rfl⟩ (fun i σ H3 _ h => same_sqt h.1 S) ?_ ?_⟩
    · rintro i v σ H3 hv ⟨S3, hG, x, y, rfl⟩
      obtain ⟨r, t, hr, rfl, St⟩ := rf.get hv
      have mr : r ∈ R := List.mem_of_getElem? hr
      have r1 := hR.full r mr
      have St3 := same_sqt S3 St
      refine ⟨_, rfl, _, _, rfl, .tup St3, _, rfl, ?_⟩
      refine ifF rfl ?_
      refine ⟨_, rfl, t, _, rfl, .inr St3, rfl, _, rfl, ?_⟩
      refine ifF (by rw [dInt]; exact decide_eq_false (by rw [mv_len]; omega)) ?_
      refine ⟨_, rfl, t, rfl, ⟨_, St3⟩, for_tup (K := K) (a := t) (xs := mv r) (fun j σ H4 => Same H H4 ∧ SetN w G ((R.take i).flatten ++ r.take j) H4 ∧ ∃ y, σ = [some (.int (n : Int)), some (.ref a), some (.ref G), some (.ref t), y])
        ⟨S3, by simpa using hG, _, rfl⟩ (fun j σ H4 _ h => same_sqt h.1 St) ?_ ?_⟩
      · rintro j u σ H4 hu ⟨S4, hG4, y, rfl⟩
        obtain ⟨jr, rfl⟩ := mv_nth hu
        have ej : r[j]? = some (r.getD j 0) := by rw [List.getD, List.getElem?_eq_getElem jr]; rfl
        obtain ⟨new, lt, sm⟩ := hR.new hr ej
        obtain ⟨S9, c9, e9, l9, r9⟩ := id hG4
        refine ⟨_, rfl, _, rfl, _, _, rfl, rfl, _, _, _, _, rfl, .int _, ?_⟩
        refine ⟨_, rfl, ?_⟩
        refine ifF ?_ ?_
        · show (!(decide (0 ≤ ((r.getD j 0 : Nat) : Int)) && decide (((r.getD j 0 : Nat) : Int) ≤ (n : Int) - 1))) = false
          rw [decide_eq_true (by omega), decide_eq_true (by omega)]
          rfl
        refine ⟨_, rfl, _, rfl, _, G, S9, c9, rfl, rfl, e9, ?_⟩
        refine ⟨_, rfl, ?_⟩
        refine ifF (by rw [r9]; exact decide_eq_false new) ?_
        have room : c9 + 1 < scanBound := by
          have : c9 ≤ 100 := by omega
          exact Nat.lt_of_le_of_lt (Nat.add_le_add_right this 1) (by decide)
        refine ⟨_, rfl, ⟨G, S9, c9, rfl, e9⟩, _, rfl, G, _, S9, c9, rfl, rfl, e9, room, ?_⟩
        have G6 := SetN.add (w := w) (a := G) (H := H4) (x := r.getD j 0) l9 r9
        rw [List.append_assoc] at G6
        refine ⟨fun b o e => (upd_ne (fG0 b o e)).trans (S4 b o e), ?_, _, rfl⟩
        have ts : r.take (j + 1) = r.take j ++ [r.getD j 0] := by rw [List.take_add_one, ej]; rfl
        rw [ts]
        exact G6
      · rintro σ H4 ⟨S4, hG4, y, rfl⟩
        refine ⟨S4, ?_, _, _, rfl⟩
        rw [mv_len, List.take_length] at hG4
        rw [List.take_add_one, hr, List.flatten_append]
        show SetN w G (_ ++ (r ++ [])) _
        rw [List.append_nil]
        exact hG4
    · rintro σ H3 ⟨S3, hG, x, y, rfl⟩
      exact q _ S3
/-- f goes round the rings, and leaves the rest -/
structure Goes (f : Nat → Nat) (n : Nat) (R : List (List Nat)) : Prop where
  ring : ∀ r ∈ R, ∀ j, j < r.length → f (r.getD j 0) = r.getD ((j + 1) % r.length) 0
  rest : ∀ x, x < n → x ∉ R.flatten → f x = x
def spMoveOf (K : PySem.W.Frag) : Sp := fun vs H Q _ => ∃ (n : Nat) (a : Addr) (us : List V) (R : List (List Nat)) (f : Nat → Nat), vs = [.int (n : Int), .ref a] ∧ SqT K H a us ∧ Refs K H us R ∧ Rings n R ∧ Goes f n R ∧ 1 ≤ n ∧ n ≤ 24 ∧
  ∀ H' t, Same H H' → SqT K H' t (mv ((List.range n).map f)) → Q (.ref t) H'
theorem scMoveOfCycles : FnScope ["places", "rings", "move", "ring", "at", "place"] ["places", "rings"] (defScope sMoveOfCycles) :=
  ⟨rfl, rfl, rfl, by decide +kernel, rfl, by decide +kernel, by decide +kernel⟩
theorem dMoveOfCycles (T : Tx K mg) (DNeedPlaces : Def P w K mg base CX0 4 "need_places" ["places"] (spNeedPlaces K)) (DNeedRings : Def P w K mg base CX0 3 "_need_rings" ["places", "rings"] (spNeedRings K)) : Def P w K mg base CX0 5 "move_of_cycles" ["places", "rings"] (spMoveOf K) := by
  refine T.t_move_of_cycles.def_ (N := ["places", "rings", "move", "ring", "at", "place"]) scMoveOfCycles (fun _ _ _ _ _ _ us hl => match us, hl with | [_, _], _ => rfl) ?_ ?_
  · intro vs H Q E h
    obtain ⟨n, a, us, R, f, rfl, _⟩ := h
    rfl
  · intro f cd A out s H vs Q E hr h
    have hr1 : Rm 4 _ := hr.le (by decide)
    obtain ⟨n, a, us, R, g, rfl, S, rf, hR, hg, n1, n24, q⟩ := h
    refine ⟨_, (pss_cons (ps_expr (pe_d DNeedPlaces (hr1.le (by decide)) pass0 (pa_cons (pv 0) pa_nil)))
      (pss_cons (ps_expr (pe_d DNeedRings (hr1.le (by decide)) pass0 (pa_cons (pv 0) (pa_cons (pv 1) pa_nil))))
      (pss_cons (ps_set (i := 2) scMoveOfCycles.nd rfl (Or.inl rfl) (pe_listRg rfl rfl T.f_list (prg_1 rfl T.f_range (pv 0))))
      (pss_cons (ps_for PassesOwn.never rfl (pi_tup (pv 1)) (pg_name (i := 3) scMoveOfCycles.nd rfl (Or.inl rfl))
        (pss_one (ps_for PassesOwn.never rfl (pi_enumT rfl T.f_enumerate (pa_cons (pv 3) pa_nil)) (pg_tup rfl (pgs_cons (pg_name (i := 4) scMoveOfCycles.nd rfl (Or.inl rfl)) (pgs_cons (pg_name (i := 5) scMoveOfCycles.nd rfl (Or.inl rfl)) pgs_nil)))
          (pss_one (ps_asg (pe_ix ix_tup (pv 3) (pe_op op_mod (pe_op op_add (pv 4) pe_int) (pe_callB call_len_seq rfl T.f_len (by decide +kernel) (pa_cons (pv 3) pa_nil))) (fun _ _ => rfl)) (pg_sub (pv 2) (pv 5) set_list))))))
      (pss_one (ps_ret (pe_callTy call_tuple_of rfl T.f_tuple (by decide +kernel) (pa_cons (pv 2) pa_nil)))))))), ?_⟩
    refine ⟨_, rfl, n, rfl, n1, n24, ?_⟩
    refine ⟨_, rfl, _, rfl, n, a, us, R, rfl, S, rf, hR, n24, fun H0 S0 => ?_⟩
    refine ⟨_, rfl, _, rfl, ⟨by omega, by omega, by omega, by omega, by omega⟩, fun F fF => ?_⟩
    rw [rg_mv]
    have fF0 : ∀ b o, H b = some o → b ≠ F := fun b o e => ne_of_none (S0 b o e) fF
    have S1 : Same H (upd H0 F (.lst (mv (List.range n)))) := S0.trans (same_new fF)
    have F1 : (upd H0 F (.lst (mv (List.range n)))) F = some (.lst (mv (List.range n))) := upd_same
    generalize upd H0 F _ = H1 at S1 F1 ⊢
    refine ⟨_, rfl, a, rfl, ⟨_, same_sqt S1 S⟩, for_tup (K := K) (a := a) (xs := us) (fun i σ H3 => Same H H3 ∧ ∃ b : List Nat, b.length = n ∧ H3 F = some (.lst (mv b)) ∧
        (∀ x, x < n → b.getD x 0 = if x ∈ (R.take i).flatten then g x else x) ∧ ∃ x y z, σ = [some (.int (n : Int)), some (.ref a), some (.ref F), x, y, z])
      ⟨S1, _, List.length_range, F1, ?_, _, _, _, rfl⟩ (fun i σ H3 _ h => same_sqt h.1 S) ?_ ?_⟩
    · intro x hx
      rw [if_neg (by simp), List.getD, List.getElem?_range hx]
      rfl
    · rintro i v σ H3 hv ⟨S3, b, lb, hF, done, x, y, z, rfl⟩
      obtain ⟨r, t, hr, rfl, St⟩ := rf.get hv
      have mr : r ∈ R := List.mem_of_getElem? hr
      have r1 := hR.full r mr
      refine ⟨_, rfl, t, _, rfl, same_sqt S3 St, ?_⟩
      refine for_enumT (K := K) (a := t) (xs := mv r) (fun j σ H4 => Same H H4 ∧ ∃ b : List Nat, b.length = n ∧ H4 F = some (.lst (mv b)) ∧
          (∀ x, x < n → b.getD x 0 = if x ∈ (R.take i).flatten ++ r.take j then g x else x) ∧ ∃ y z, σ = [some (.int (n : Int)), some (.ref a), some (.ref F), some (.ref t), y, z])
        ⟨S3, b, lb, hF, by simpa using done, _, _, rfl⟩ (fun j σ H4 _ h => same_sqt h.1 St) ?_ ?_
      · rintro j u σ H4 T hu ⟨S4, b, lb, hF, done, y, z, rfl⟩ fT
        obtain ⟨jr, rfl⟩ := mv_nth hu
        have ej : r[j]? = some (r.getD j 0) := by rw [List.getD, List.getElem?_eq_getElem jr]; rfl
        obtain ⟨new, lt, sm⟩ := hR.new hr ej
        have FT : F ≠ T := ne_of_none hF fT
        have St5 : SqT K (upd H4 T (.tup [.int (j : Nat), .int ((r.getD j 0 : Nat) : Int)])) t (mv r) := sqt_new (same_sqt S4 St) fT
        have Lp : 0 < ((mv r).length : Int) := by rw [mv_len]; omega
        have ix : ((j : Int) + 1) % ((mv r).length : Int) = (((j + 1) % r.length : Nat) : Int) := by
          rw [mv_len, Int.natCast_emod, Int.natCast_add]
          rfl
        have ate : atI (mv r) (((j : Int) + 1) % ((mv r).length : Int)) = some (.int ((r.getD ((j + 1) % r.length) 0 : Nat) : Int)) := by
          rw [ix]
          exact mv_at (Nat.mod_lt _ (by omega))
        refine ⟨T, _, rfl, .inl (.inl upd_same), rfl, _, _, rfl, ?_⟩
        refine ⟨_, _, rfl, rfl, ?_⟩
        refine ⟨_, rfl, _, rfl, _, _, rfl, rfl, _, rfl, t, _, rfl, .inr St5, _, _, rfl, rfl, Lp, t, _, _, _, rfl, rfl, St5, ate, ?_⟩
        refine ⟨_, rfl, _, rfl, F, _, _, r.getD j 0, rfl, rfl, (upd_ne FT).trans hF, by rw [mv_len, lb]; exact ixN_lt lt, ?_⟩
        rw [mv_set, ← hg.ring r mr j jr]
        refine ⟨fun b o h => (upd_ne (fF0 b o h)).trans (same_new fT b o (S4 b o h)), b.set (r.getD j 0) (g (r.getD j 0)), by rw [List.length_set, lb], upd_same, fun x hx => ?_, _, _, rfl⟩
        have ts : r.take (j + 1) = r.take j ++ [r.getD j 0] := by rw [List.take_add_one, ej]; rfl
        rw [ts, ← List.append_assoc]
        by_cases z : x = r.getD j 0
        · rw [if_pos (by rw [z]; simp), z, List.getD, List.getElem?_set_self (by omega)]
          rfl
        · rw [List.getD, List.getElem?_set_ne (fun h => z h.symm), ← List.getD, done x hx]
          have : (x ∈ (R.take i).flatten ++ r.take j ++ [r.getD j 0]) ↔ x ∈ (R.take i).flatten ++ r.take j := by
            rw [List.mem_append]
            exact ⟨fun h => h.elim id fun h => absurd (List.mem_singleton.mp h) z, .inl⟩
          by_cases c : x ∈ (R.take i).flatten ++ r.take j
          · rw [if_pos c, if_pos (this.mpr c)]
          · rw [if_neg c, if_neg fun h => c (this.mp h)]
      · rintro σ H4 ⟨S4, b, lb, hF, done, y, z, rfl⟩
        refine ⟨S4, b, lb, hF, ?_, _, _, _, rfl⟩
        rw [mv_len, List.take_length] at done
        rw [List.take_add_one, hr, List.flatten_append]
        show ∀ x, x < n → b.getD x 0 = if x ∈ (R.take i).flatten ++ (r ++ []) then g x else x
        rw [List.append_nil]
        exact done
    · rintro σ H3 ⟨S3, b, lb, hF, done, x, y, z, rfl⟩
      have lus : us.length = R.length := Paired.length rf
      rw [lus, List.take_length] at done
      have eb : b = (List.range n).map g := by
        refine List.ext_getElem (by rw [lb, List.length_map, List.length_range]) fun x h1 h2 => ?_
        have hx : x < n := by omega
        have := done x hx
        rw [List.getD, List.getElem?_eq_getElem h1] at this
        rw [List.getElem_map, List.getElem_range]
        refine Eq.trans this ?_
        split
        · rfl
        · rename_i c
          exact (hg.rest x hx c).symm
      rw [eb] at hF
      exact ⟨_, rfl, F, _, rfl, .inl ⟨.inl (.inl hF), fun u fu => q _ u (S3.trans (same_new fu)) (.inl (.inl upd_same))⟩⟩
end
end K04


set_option Elab.async false
set_option linter.all false
set_option maxRecDepth 100000
set_option maxHeartbeats 1000000
namespace K04
/-! inversions -/
def inv : List Nat → Nat
  | [] => 0
  | x :: r => r.countP (fun y => decide (y < x)) + inv r
theorem inv_adj {x y : Nat} (ne : x ≠ y) (B : List Nat) : ∀ A : List Nat, (inv (A ++ x :: y :: B) + inv (A ++ y :: x :: B)) % 2 = 1
  | [] => by
    show (((y :: B).countP (fun z => decide (z < x)) + (B.countP (fun z => decide (z < y)) + inv B)) + ((x :: B).countP (fun z => decide (z < y)) + (B.countP (fun z => decide (z < x)) + inv B))) % 2 = 1
    rw [List.countP_cons, List.countP_cons]
    by_cases c : y < x
    · have d : ¬ x < y := by omega
      simp only [c, d, decide_true, decide_false, if_true, Bool.false_eq_true, if_false]
      omega
    · have d : x < y := by omega
      simp only [c, d, decide_true, decide_false, if_true, Bool.false_eq_true, if_false]
      omega
  | a :: A => by
    have ih := inv_adj ne B A
    have p : (A ++ x :: y :: B).Perm (A ++ y :: x :: B) := List.Perm.append_left A (List.Perm.swap ..)
    show ((A ++ x :: y :: B).countP (fun z => decide (z < a)) + inv (A ++ x :: y :: B) + ((A ++ y :: x :: B).countP (fun z => decide (z < a)) + inv (A ++ y :: x :: B))) % 2 = 1
    rw [p.countP_eq]
    omega
theorem inv_over {x : Nat} (C : List Nat) : ∀ (B A : List Nat), x ∉ B → (inv (A ++ x :: (B ++ C)) + inv (A ++ (B ++ x :: C)) + B.length) % 2 = 0
  | [], A, _ => by
    show (inv (A ++ x :: C) + inv (A ++ x :: C) + 0) % 2 = 0
    omega
  | b :: B, A, h => by
    have h1 : x ≠ b := fun e => h (by simp [e])
    have h2 : x ∉ B := fun e => h (by simp [e])
    have s1 := inv_adj h1 (B ++ C) A
    have s2 := inv_over C B (A ++ [b]) h2
    have e1 : A ++ [b] ++ x :: (B ++ C) = A ++ b :: x :: (B ++ C) := by simp
    have e2 : A ++ [b] ++ (B ++ x :: C) = A ++ (b :: B ++ x :: C) := by simp
    rw [e1, e2] at s2
    show (inv (A ++ x :: b :: (B ++ C)) + inv (A ++ (b :: B ++ x :: C)) + (B.length + 1)) % 2 = 0
    omega
theorem inv_swap {x y : Nat} {A B C : List Nat} (nd : (A ++ x :: (B ++ y :: C)).Nodup) : (inv (A ++ x :: (B ++ y :: C)) + inv (A ++ y :: (B ++ x :: C))) % 2 = 1 := by
  have n1 := (List.nodup_append.mp nd).2.1
  have n2 := List.nodup_cons.mp n1
  have xB : x ∉ B ++ [y] := fun h => n2.1 (by
    rcases List.mem_append.mp h with h | h
    · simp [h]
    · simp [List.mem_singleton.mp h])
  have yB : y ∉ B := fun h => (List.nodup_append.mp n2.2).2.2 y h y (by simp) rfl
  have s1 := inv_over C (B ++ [y]) A xB
  have s2 := inv_over (x :: C) B A yB
  have e1 : B ++ [y] ++ C = B ++ y :: C := by simp
  have e2 : B ++ [y] ++ x :: C = B ++ y :: (x :: C) := by simp
  rw [e1, e2, List.length_append] at s1
  have e3 : (B ++ y :: x :: C) = B ++ y :: (x :: C) := rfl
  rw [show [y].length = 1 from rfl] at s1
  omega
theorem inv_range : ∀ n k, inv (List.range' k n) = 0
  | 0, _ => rfl
  | n + 1, k => by
    rw [List.range'_succ]
    show (List.range' (k + 1) n).countP _ + inv _ = 0
    rw [inv_range n (k + 1), List.countP_eq_zero.mpr]
    intro y hy
    have := (List.mem_range'_1.mp hy).1
    simp
    omega
/-! starts of rings -/
section
variable {f : Nat → Nat} {n : Nat}
theorem rings_from (f : Nat → Nat) (n : Nat) : ∀ s, ∀ r ∈ ringsTo f n s, ∃ p, p < s ∧ r = ringOf f n p
  | 0, r, h => by simp [ringsTo] at h
  | s + 1, r, h => by
    unfold ringsTo at h
    split at h
    · obtain ⟨p, hp, e⟩ := rings_from f n s r h
      exact ⟨p, by omega, e⟩
    · rcases List.mem_append.mp h with h | h
      · obtain ⟨p, hp, e⟩ := rings_from f n s r h
        exact ⟨p, by omega, e⟩
      · exact ⟨s, by omega, List.mem_singleton.mp h⟩
theorem start_iff (h : Pm f n) {s : Nat} (hs : s < n) : s ∉ (ringsTo f n s).flatten ↔ ∀ j, s ≤ it f j s := by
  have g := rings_good h s (by omega)
  constructor
  · intro no j
    by_cases c : s ≤ it f j s
    · exact c
    · exfalso
      exact no ((closed_it h g.closed hs j).mp (g.all _ (by omega)))
  · intro all hin
    obtain ⟨r, hr, hx⟩ := List.mem_flatten.mp hin
    obtain ⟨p, ps, rfl⟩ := rings_from f n s r hr
    obtain ⟨k, hk, e⟩ := ring_mem.mp hx
    obtain ⟨ln, eL, no⟩ := lenOf_ok h (p := p) (by omega)
    have := all (lenOf f n p - k)
    rw [e, ← it_add, show lenOf f n p - k + k = lenOf f n p by omega, eL] at this
    omega
def isSt (f : Nat → Nat) (n : Nat) (s : Nat) : Bool := decide (s ∉ (ringsTo f n s).flatten)
theorem rings_count (f : Nat → Nat) (n : Nat) : ∀ s, (ringsTo f n s).length = (List.range s).countP (isSt f n)
  | 0 => rfl
  | s + 1 => by
    rw [List.range_succ, List.countP_append, ← rings_count f n s]
    show (if s ∈ (ringsTo f n s).flatten then ringsTo f n s else ringsTo f n s ++ [ringOf f n s]).length = _ + [s].countP (isSt f n)
    rw [List.countP_singleton]
    unfold isSt
    by_cases c : s ∈ (ringsTo f n s).flatten
    · simp [c]
    · simp [c]
end
theorem count_flip {p q : Nat → Bool} {k : Nat} : ∀ {l : List Nat}, l.Nodup → k ∈ l → (∀ x ∈ l, x ≠ k → p x = q x) → p k = false → q k = true → l.countP q = l.countP p + 1
  | [], _, h, _, _, _ => by simp at h
  | a :: r, nd, h, same, hp, hq => by
    obtain ⟨na, nr⟩ := List.nodup_cons.mp nd
    rw [List.countP_cons, List.countP_cons]
    by_cases c : a = k
    · subst c
      have : r.countP q = r.countP p := List.countP_congr fun x hx => by
        rw [same x (by simp [hx]) fun z => na (by rw [← z]; exact hx)]
      rw [this, hp, hq]
      simp
    · have hk : k ∈ r := by
        rcases List.mem_cons.mp h with z | z
        · exact absurd z.symm c
        · exact z
      have ih := count_flip nr hk (fun x hx => same x (by simp [hx])) hp hq
      rw [ih, same a (by simp) c]
      omega
/-- k, the last place that moves, is taken out of its ring -/
theorem rings_cut {f g : Nat → Nat} {n k p : Nat} (hf : Pm f n) (hg : Pm g n) (kn : k < n) (top : ∀ x, k < x → x < n → f x = x) (mv : f k ≠ k) (pn : p < n) (ep : f p = k)
    (gk : g k = k) (gp : g p = f k) (oth : ∀ x, x < n → x ≠ k → x ≠ p → g x = f x) : (rings g n).length = (rings f n).length + 1 := by
  have pk : p ≠ k := fun z => mv (by rw [← z, ep, z])
  have plt : p < k := by
    rcases Nat.lt_or_ge k p with c | c
    · exact absurd ((top p c pn).symm.trans ep) pk
    · omega
  have fk : f k < k := by
    rcases Nat.lt_or_ge k (f k) with c | c
    · have := top (f k) c (hf.lt k kn)
      exact absurd (hf.inj _ _ (hf.lt k kn) kn this) mv
    · omega
  -- g's iterates are f's
  have gf : ∀ x, x < n → x ≠ k → ∀ j, it g j x ≠ k ∧ ∃ i, it g j x = it f i x := by
    intro x xn xk j
    induction j with
    | zero => exact ⟨xk, 0, rfl⟩
    | succ j ih =>
      obtain ⟨nk, i, e⟩ := ih
      have bn := it_lt hg xn j
      refine ⟨fun z => nk (hg.inj _ _ bn kn (by rw [gk]; exact z)), ?_⟩
      show ∃ i, g (it g j x) = it f i x
      by_cases c : it g j x = p
      · refine ⟨i + 2, ?_⟩
        show _ = f (f (it f i x))
        rw [← e, c, gp, ep]
      · refine ⟨i + 1, ?_⟩
        show _ = f (it f i x)
        rw [oth _ bn nk c, e]
  have fg : ∀ x, x < n → x ≠ k → ∀ i, (∃ j, it f i x = it g j x) ∨ (it f i x = k ∧ ∃ j, p = it g j x) := by
    intro x xn xk i
    induction i with
    | zero => exact .inl ⟨0, rfl⟩
    | succ i ih =>
      rcases ih with ⟨j, e⟩ | ⟨e, j, ej⟩
      · by_cases c : it g j x = p
        · refine .inr ⟨?_, j, c.symm⟩
          show f (it f i x) = k
          rw [e, c, ep]
        · refine .inl ⟨j + 1, ?_⟩
          show f (it f i x) = g (it g j x)
          rw [oth _ (it_lt hg xn j) (gf x xn xk j).1 c, e]
      · refine .inl ⟨j + 1, ?_⟩
        show f (it f i x) = g (it g j x)
        rw [e, ← ej, gp]
  unfold rings
  rw [rings_count, rings_count]
  refine count_flip List.nodup_range (List.mem_range.mpr kn) (fun x hx xk => ?_) ?_ ?_
  · have xn := List.mem_range.mp hx
    unfold isSt
    refine decide_eq_decide.mpr ?_
    rw [start_iff hf xn, start_iff hg xn]
    constructor
    · intro all j
      obtain ⟨_, i, e⟩ := gf x xn xk j
      rw [e]
      exact all i
    · intro all i
      rcases fg x xn xk i with ⟨j, e⟩ | ⟨e, j, ej⟩
      · rw [e]
        exact all j
      · have := all j
        omega
  · unfold isSt
    refine decide_eq_false fun z => ?_
    have := (start_iff hf kn).mp z 1
    have e : it f 1 k = f k := rfl
    omega
  · unfold isSt
    refine decide_eq_true ((start_iff hg kn).mpr fun j => ?_)
    have : it g j k = k := by
      induction j with
      | zero => rfl
      | succ j ih =>
        show g (it g j k) = k
        rw [ih, gk]
    omega
theorem rings_unit {f : Nat → Nat} {n : Nat} (id_ : ∀ x, x < n → f x = x) : (rings f n).length = n := by
  have h : Pm f n := ⟨fun k hk => by rw [id_ k hk]; exact hk, fun a b ha hb e => by rw [id_ a ha, id_ b hb] at e; exact e⟩
  unfold rings
  rw [rings_count]
  refine (List.countP_eq_length (p := isSt f n)).mpr (fun x hx => ?_) |>.trans List.length_range
  have xn := List.mem_range.mp hx
  unfold isSt
  refine decide_eq_true ((start_iff h xn).mpr fun j => ?_)
  have : it f j x = x := by
    induction j with
    | zero => rfl
    | succ j ih =>
      show f (it f j x) = x
      rw [ih, id_ x xn]
  omega
/-! moves as lists -/
theorem fn_at {m : List Nat} {k : Nat} (h : k < m.length) : fn' m k = m[k] := by
  unfold fn'
  rw [List.getD, List.getElem?_eq_getElem h]
  rfl
theorem onto {f : Nat → Nat} {n : Nat} (h : Pm f n) {k : Nat} (hk : k < n) : ∃ p, p < n ∧ f p = k := by
  obtain ⟨L, l1, _, e⟩ := back_home h hk
  refine ⟨it f (L - 1) k, it_lt h hk _, ?_⟩
  show it f (L - 1 + 1) k = k
  rw [show L - 1 + 1 = L by omega, e]
theorem fn_ext {m l : List Nat} (e : m.length = l.length) (h : ∀ x, x < m.length → fn' m x = fn' l x) : m = l :=
  List.ext_getElem e fun x h1 h2 => by rw [← fn_at h1, ← fn_at h2, h x h1]
theorem fn_map {n : Nat} {f : Nat → Nat} {x : Nat} (h : x < n) : fn' ((List.range n).map f) x = f x := by
  rw [fn_at (by rw [List.length_map, List.length_range]; exact h), List.getElem_map, List.getElem_range]
theorem map_mv {n : Nat} {f : Nat → Nat} (h : Pm f n) (n1 : 1 ≤ n) (n24 : n ≤ 24) : Mv ((List.range n).map f) := by
  refine ⟨?_, fun k hk => ?_, by rw [List.length_map, List.length_range]; exact n1, by rw [List.length_map, List.length_range]; exact n24⟩
  · rw [List.Nodup, List.pairwise_map]
    refine List.Pairwise.imp_of_mem ?_ (List.pairwise_lt_range (n := n))
    intro i j hi hj lt e
    have := h.inj _ _ (List.mem_range.mp hi) (List.mem_range.mp hj) e
    omega
  · obtain ⟨x, hx, rfl⟩ := List.mem_map.mp hk
    rw [List.length_map, List.length_range]
    exact h.lt _ (List.mem_range.mp hx)
theorem mv_map {m : List Nat} : m = (List.range m.length).map (fn' m) :=
  fn_ext (by rw [List.length_map, List.length_range]) fun x hx => (fn_map hx).symm
theorem comp_len (m l : List Nat) : (comp m l).length = l.length := List.length_map _
theorem fn_comp {m l : List Nat} {x : Nat} (h : x < l.length) : fn' (comp m l) x = fn' m (fn' l x) := by
  rw [fn_at (by rw [comp_len]; exact h), fn_at h]
  unfold comp
  rw [List.getElem_map]
  rfl
theorem comp_mv {m l : List Nat} (hm : Mv m) (hl : Mv l) (e : m.length = l.length) : Mv (comp m l) := by
  have p1 := pm_of hm
  have p2 := pm_of hl
  rw [e] at p1
  have : comp m l = (List.range l.length).map fun x => fn' m (fn' l x) :=
    fn_ext (by rw [comp_len, List.length_map, List.length_range]) fun x hx => by
      rw [comp_len] at hx
      rw [fn_comp hx, fn_map hx]
  rw [this]
  exact map_mv ⟨fun k hk => p1.lt _ (p2.lt k hk), fun a b ha hb z => p2.inj a b ha hb (p1.inj _ _ (p2.lt a ha) (p2.lt b hb) z)⟩ hl.2.2.1 hl.2.2.2
theorem perm_mv {m l : List Nat} (h : l.Perm m) (hm : Mv m) : Mv l := by
  have e := h.length_eq
  exact ⟨h.nodup_iff.mpr hm.1, fun k hk => by rw [e]; exact hm.2.1 k (h.mem_iff.mp hk), by rw [e]; exact hm.2.2.1, by rw [e]; exact hm.2.2.2⟩
theorem two_at {l : List Nat} {p k : Nat} (pk : p < k) (kl : k < l.length) : ∃ A B C x y, l = A ++ x :: (B ++ y :: C) ∧ A.length = p ∧ A.length + 1 + B.length = k ∧ x = fn' l p ∧ y = fn' l k := by
  have h1 : l[p]? = some l[p] := List.getElem?_eq_getElem (by omega)
  have e1 := split_at h1
  have lt : k - p - 1 < (l.drop (p + 1)).length := by rw [List.length_drop]; omega
  have h2 : (l.drop (p + 1))[k - p - 1]? = some (l[k]) := by
    rw [List.getElem?_drop, show p + 1 + (k - p - 1) = k by omega]
    exact List.getElem?_eq_getElem kl
  have e2 := split_at h2
  refine ⟨l.take p, (l.drop (p + 1)).take (k - p - 1), (l.drop (p + 1)).drop (k - p - 1 + 1), l[p], l[k], ?_, ?_, ?_, (fn_at _).symm, (fn_at _).symm⟩
  · rw [← e2]
    exact e1
  · rw [List.length_take]
    omega
  · rw [List.length_take, List.length_take, List.length_drop]
    omega
theorem fn_app {A : List Nat} {x : Nat} {R : List Nat} (j : Nat) : fn' (A ++ x :: R) j = if j < A.length then fn' A j else if j = A.length then x else fn' R (j - A.length - 1) := by
  unfold fn'
  rw [List.getD, List.getElem?_append]
  split
  · rfl
  · split
    · rename_i h
      rw [h, Nat.sub_self]
      rfl
    · rename_i h1 h2
      rw [show j - A.length = (j - A.length - 1) + 1 by omega, List.getElem?_cons_succ]
      rfl
theorem sign_main {n : Nat} : ∀ t, t ≤ n → ∀ l, Mv l → l.length = n → (∀ x, t ≤ x → x < n → fn' l x = x) →
    (inv l + n + (rings (fn' l) n).length) % 2 = 0 ∧ ∀ m, Mv m → m.length = n → (inv (comp m l) + inv m + inv l) % 2 = 0
  | 0, _, l, hl, ln, fix => by
    have el : l = List.range n := fn_ext (by rw [ln, List.length_range]) fun x hx => by
      rw [fix x (Nat.zero_le _) (by omega), fn_at (by rw [List.length_range]; omega), List.getElem_range]
    have i0 : inv l = 0 := by rw [el, List.range_eq_range']; exact inv_range n 0
    refine ⟨by rw [rings_unit fun x hx => fix x (Nat.zero_le _) hx, i0]; omega, fun m hm mn => ?_⟩
    have : comp m l = m := fn_ext (by rw [comp_len, ln, mn]) fun x hx => by
      rw [comp_len] at hx
      rw [fn_comp hx, fix x (Nat.zero_le _) (by omega)]
    rw [this, i0]
    omega
  | k + 1, kn, l, hl, ln, fix => by
    by_cases c : fn' l k = k
    · refine sign_main k (by omega) l hl ln fun x hx xn => ?_
      by_cases e : x = k
      · rw [e, c]
      · exact fix x (by omega) xn
    · have pm := pm_of hl
      rw [ln] at pm
      obtain ⟨p, pn, ep⟩ := onto pm (k := k) (by omega)
      have pk : p ≠ k := fun z => c (by rw [← z, ep, z])
      have plt : p < k := by
        rcases Nat.lt_or_ge k p with z | z
        · exact absurd ((fix p (by omega) pn).symm.trans ep) pk
        · omega
      obtain ⟨A, B, C, x, y, el, hA, hB, ex, ey⟩ := two_at plt (l := l) (by omega)
      rw [ep] at ex
      subst ex
      have sw : (A ++ y :: (B ++ x :: C)).Perm l := by
        rw [el]
        refine List.Perm.append_left A ?_
        have h1 : (y :: (B ++ x :: C)).Perm (y :: x :: (B ++ C)) := List.Perm.cons y List.perm_middle
        have h2 : (x :: (B ++ y :: C)).Perm (x :: y :: (B ++ C)) := List.Perm.cons x List.perm_middle
        exact h1.trans ((List.Perm.swap ..).trans h2.symm)
      have hl2 := perm_mv sw hl
      have ln2 : (A ++ y :: (B ++ x :: C)).length = n := by rw [sw.length_eq, ln]
      have g : ∀ j, j ≠ p → j ≠ x → fn' (A ++ y :: (B ++ x :: C)) j = fn' l j := by
        intro j j1 j2
        rw [el, fn_app (A := A) (x := y) (R := B ++ x :: C), fn_app (A := A) (x := x) (R := B ++ y :: C)]
        by_cases c1 : j < A.length
        · rw [if_pos c1, if_pos c1]
        · rw [if_neg c1, if_neg c1, if_neg (by omega), if_neg (by omega), fn_app (A := B) (x := x) (R := C), fn_app (A := B) (x := y) (R := C)]
          by_cases c2 : j - A.length - 1 < B.length
          · rw [if_pos c2, if_pos c2]
          · rw [if_neg c2, if_neg c2, if_neg (by omega), if_neg (by omega)]
      have gk : fn' (A ++ y :: (B ++ x :: C)) x = x := by
        rw [fn_app, if_neg (by omega), if_neg (by omega), fn_app, if_neg (by omega), if_pos (by omega)]
      have gp : fn' (A ++ y :: (B ++ x :: C)) p = fn' l x := by
        rw [fn_app, if_neg (by omega), if_pos (by omega), ey]
      have pm2 := pm_of hl2
      rw [ln2] at pm2
      have cut := rings_cut pm pm2 (k := x) (p := p) (by omega) (fun z h1 h2 => fix z (by omega) h2) c pn ep gk gp (fun z _ z1 z2 => g z z2 z1)
      obtain ⟨r1, r2⟩ := sign_main x (by omega) _ hl2 ln2 fun z hz zn => by
        by_cases e : z = x
        · rw [e, gk]
        · rw [g z (by omega) e]
          exact fix z (by omega) zn
      have s1 := inv_swap (A := A) (x := x) (B := B) (y := y) (C := C) (by rw [← el]; exact hl.1)
      rw [← el] at s1
      refine ⟨by omega, fun m hm mn => ?_⟩
      have hc := comp_mv hm hl (by rw [mn, ln])
      have e1 : comp m l = comp m A ++ m.getD x 0 :: (comp m B ++ m.getD y 0 :: comp m C) := by
        rw [el]
        unfold comp
        rw [List.map_append, List.map_cons, List.map_append, List.map_cons]
      have e2 : comp m (A ++ y :: (B ++ x :: C)) = comp m A ++ m.getD y 0 :: (comp m B ++ m.getD x 0 :: comp m C) := by
        unfold comp
        rw [List.map_append, List.map_cons, List.map_append, List.map_cons]
      have s2 := inv_swap (A := comp m A) (x := m.getD x 0) (B := comp m B) (y := m.getD y 0) (C := comp m C) (by rw [← e1]; exact hc.1)
      have r3 := r2 m hm mn
      rw [e2] at r3
      rw [← e1] at s2
      omega
theorem sign_rings {l : List Nat} (h : Mv l) : evenS (inv l) = evenS (l.length - (rings (fn' l) l.length).length) := by
  have := (sign_main l.length (Nat.le_refl _) l h rfl fun x h1 h2 => by omega).1
  have le : (rings (fn' l) l.length).length ≤ l.length := ringsTo_len _ _ _
  unfold evenS
  rw [show inv l % 2 = (l.length - (rings (fn' l) l.length).length) % 2 by omega]
theorem sign_comp {m l : List Nat} (hm : Mv m) (hl : Mv l) (e : m.length = l.length) : evenS (inv (comp m l)) = evenS (inv m) * evenS (inv l) := by
  have := (sign_main l.length (Nat.le_refl _) l hl rfl fun x h1 h2 => by omega).2 m hm e
  unfold evenS
  by_cases a : inv m % 2 = 0
  · by_cases b : inv l % 2 = 0
    · rw [if_pos a, if_pos b, if_pos (by omega)]
      rfl
    · rw [if_pos a, if_neg b, if_neg (by omega)]
      rfl
  · by_cases b : inv l % 2 = 0
    · rw [if_neg a, if_pos b, if_neg (by omega)]
      rfl
    · rw [if_neg a, if_neg b, if_pos (by omega)]
      rfl
end K04

set_option Elab.async false
set_option linter.all false
set_option maxRecDepth 100000
set_option maxHeartbeats 1000000
namespace K04
/-! the move undone -/
theorem back_len (m : List Nat) : (back m).length = m.length := backT_len m _
theorem backT_at {m : List Nat} (h : Mv m) : ∀ i, i ≤ m.length → ∀ j, j < i → (backT m i).getD (fn' m j) 0 = j
  | 0, _, j, hj => by omega
  | i + 1, le, j, hj => by
    have pm := pm_of h
    rw [backT_succ]
    by_cases e : j = i
    · subst e
      rw [List.getD, show m.getD j 0 = fn' m j from rfl, List.getElem?_set_self (by rw [backT_len]; exact pm.lt j (by omega))]
      rfl
    · have ne : fn' m i ≠ fn' m j := fun z => e (pm.inj i j (by omega) (by omega) z).symm
      rw [List.getD, show m.getD i 0 = fn' m i from rfl, List.getElem?_set_ne ne, ← List.getD]
      exact backT_at h i (by omega) j (by omega)
theorem back_at {m : List Nat} (h : Mv m) {x : Nat} (hx : x < m.length) : fn' (back m) (fn' m x) = x := backT_at h _ (Nat.le_refl _) x hx
theorem back_mv {m : List Nat} (h : Mv m) : Mv (back m) := by
  have pm := pm_of h
  rw [mv_map (m := back m), back_len]
  refine map_mv ⟨fun y hy => ?_, fun a b ha hb e => ?_⟩ h.2.2.1 h.2.2.2
  · obtain ⟨x, hx, rfl⟩ := onto pm hy
    rw [back_at h hx]
    exact hx
  · obtain ⟨x, hx, rfl⟩ := onto pm ha
    obtain ⟨y, hy, rfl⟩ := onto pm hb
    rw [back_at h hx, back_at h hy] at e
    rw [e]
theorem comp_back {m : List Nat} (h : Mv m) : comp m (back m) = List.range m.length := by
  have pm := pm_of h
  refine fn_ext (by rw [comp_len, back_len, List.length_range]) fun y hy => ?_
  rw [comp_len] at hy
  rw [fn_comp hy]
  rw [back_len] at hy
  obtain ⟨x, hx, rfl⟩ := onto pm hy
  rw [back_at h hx, fn_at (m := List.range _) (by rw [List.length_range]; exact hy), List.getElem_range]
theorem back_comp {m l : List Nat} (hm : Mv m) (hl : Mv l) (e : m.length = l.length) : back (comp m l) = comp (back l) (back m) := by
  have pm := pm_of hm
  have pl := pm_of hl
  have hc := comp_mv hm hl e
  refine fn_ext (by rw [back_len, comp_len, comp_len, back_len, e]) fun y hy => ?_
  rw [back_len, comp_len] at hy
  obtain ⟨u, hu, rfl⟩ := onto pm (k := y) (by omega)
  obtain ⟨x, hx, rfl⟩ := onto pl (k := u) (by omega)
  rw [fn_comp (by rw [back_len, e]; exact hy), back_at hm hu, back_at hl hx, ← fn_comp hx, back_at hc (by rw [comp_len]; exact hx)]
/-! powers -/
def pwL (m : List Nat) (e : Int) : List Nat := (List.range m.length).map (pwE (fn' m) (ordOf (fn' m) m.length) e)
theorem pwL_len (m : List Nat) (e : Int) : (pwL m e).length = m.length := by
  unfold pwL
  rw [List.length_map, List.length_range]
theorem it_ord {f : Nat → Nat} {n x : Nat} (h : Pm f n) (hx : x < n) : it f (ordOf f n) x = x := by
  have g := rings_good h n (Nat.le_refl _)
  obtain ⟨r, hr, hxr⟩ := List.mem_flatten.mp (g.all x hx)
  obtain ⟨p, pn, er⟩ := g.each r hr
  have dv := ord_dvd (f := f) (n := n) hr
  rw [er] at hxr
  obtain ⟨a, _, rfl⟩ := ring_mem.mp hxr
  obtain ⟨ln, eL, no⟩ := lenOf_ok h pn
  rw [er, ringOf_len] at dv
  obtain ⟨q, eq⟩ := dv
  rw [← it_add, Nat.add_comm, it_add, eq, it_times eL]
theorem pwE_pm {f : Nat → Nat} {n M : Nat} (h : Pm f n) (e : Int) : Pm (pwE f M e) n :=
  ⟨fun k hk => it_lt h hk _, fun a b ha hb z => it_inj h ha hb _ z⟩
theorem pwL_mv {m : List Nat} (h : Mv m) (e : Int) : Mv (pwL m e) := map_mv (pwE_pm (pm_of h) e) h.2.2.1 h.2.2.2
theorem pwL_add {m : List Nat} (h : Mv m) (a b : Int) : comp (pwL m a) (pwL m b) = pwL m (a + b) := by
  have pm := pm_of h
  refine fn_ext (by rw [comp_len, pwL_len, pwL_len]) fun x hx => ?_
  rw [comp_len, pwL_len] at hx
  rw [fn_comp (by rw [pwL_len]; exact hx)]
  unfold pwL
  rw [fn_map hx, fn_map hx, fn_map ((pwE_pm pm b).lt x hx), pwE_add (ordOf_pos pm) (it_ord pm hx)]
theorem pwL_zero {m : List Nat} : pwL m 0 = List.range m.length := by
  refine fn_ext (by rw [pwL_len, List.length_range]) fun x hx => ?_
  rw [pwL_len] at hx
  unfold pwL
  rw [fn_map hx, pwE_zero, fn_at (m := List.range _) (by rw [List.length_range]; exact hx), List.getElem_range]
theorem pwL_ord {m : List Nat} : pwL m (ordOf (fn' m) m.length : Nat) = List.range m.length := by
  refine fn_ext (by rw [pwL_len, List.length_range]) fun x hx => ?_
  rw [pwL_len] at hx
  unfold pwL
  rw [fn_map hx, pwE_self, fn_at (m := List.range _) (by rw [List.length_range]; exact hx), List.getElem_range]
/-! how great orders can be -/
theorem lcm_le (ns : List Nat) : ∀ g, 0 < g → (∀ n ∈ ns, 1 ≤ n) → ns.foldl Nat.lcm g ≤ g * 2 ^ ns.sum := by
  induction ns with
  | nil =>
    intro g _ _
    simp
  | cons a r ih =>
    intro g hg all
    have a1 := all a (by simp)
    have p := ih (Nat.lcm g a) (Nat.lcm_pos hg a1) fun n hn => all n (by simp [hn])
    have h1 : Nat.lcm g a ≤ g * a := Nat.div_le_self _ _
    have h2 : a ≤ 2 ^ a := Nat.le_of_lt Nat.lt_two_pow_self
    rw [List.sum_cons, Nat.pow_add, ← Nat.mul_assoc]
    exact Nat.le_trans p (Nat.mul_le_mul_right _ (Nat.le_trans h1 (Nat.mul_le_mul_left _ h2)))
theorem ord_small {f : Nat → Nat} {n : Nat} (h : Pm f n) (n24 : n ≤ 24) (i : Nat) : lcmL (((rings f n).map List.length).take i) ≤ 2 ^ 24 := by
  have g := rings_good h n (Nat.le_refl _)
  have small := rings_small h n24 (Nat.le_refl n)
  rw [← List.map_take]
  have l1 := lcm_le (((rings f n).take i).map List.length) 1 Nat.one_pos fun k hk => by
    obtain ⟨r, hr, rfl⟩ := List.mem_map.mp hk
    exact (len_in h (List.mem_of_mem_take hr)).1
  rw [← List.length_flatten] at l1
  have cut : ((rings f n).take i).flatten.length ≤ (rings f n).flatten.length := by
    have e : (rings f n).flatten = ((rings f n).take i).flatten ++ ((rings f n).drop i).flatten := by
      rw [← List.flatten_append, List.take_append_drop]
    rw [e, List.length_append]
    omega
  have small2 : (rings f n).flatten.length ≤ 24 := small
  unfold lcmL
  refine Nat.le_trans l1 ?_
  rw [Nat.one_mul]
  exact Nat.pow_le_pow_right (by decide) (by omega)
/-! places that stay -/
theorem stills {f : Nat → Nat} {n : Nat} (h : Pm f n) : ∀ s, s ≤ n → ((ringsTo f n s).filter fun r => decide (r.length = 1)).map (fun r => r.getD 0 0) = (List.range s).filter fun k => decide (k = f k)
  | 0, _ => rfl
  | s + 1, le => by
    have ih := stills h s (by omega)
    have sn : s < n := le
    obtain ⟨ln, eL, no⟩ := lenOf_ok h sn
    have L1 := lenOf_pos f n s
    rw [List.range_succ, List.filter_append, ← ih, show ringsTo f n (s + 1) = if s ∈ (ringsTo f n s).flatten then ringsTo f n s else ringsTo f n s ++ [ringOf f n s] from rfl]
    clear ih
    by_cases c : s ∈ (ringsTo f n s).flatten
    · rw [if_pos c]
      have ne : ¬ s = f s := fun e => by
        refine absurd c ((start_iff h sn).mpr fun j => ?_)
        have : it f j s = s := by
          induction j with
          | zero => rfl
          | succ j ih2 =>
            show f (it f j s) = s
            rw [ih2, ← e]
        omega
      have : [s].filter (fun k => decide (k = f k)) = [] := by simp [ne]
      rw [this, List.append_nil]
    · rw [if_neg c, List.filter_append, List.map_append]
      congr 1
      by_cases e : s = f s
      · have l1 : lenOf f n s = 1 := by
          rcases Nat.lt_or_ge 1 (lenOf f n s) with z | z
          · exact absurd e.symm (no 1 (Nat.le_refl 1) z)
          · omega
        have : ringOf f n s = [s] := by
          unfold ringOf
          rw [l1]
          rfl
        rw [this]
        simp [← e]
      · have l2 : lenOf f n s ≠ 1 := fun z => e (by rw [z] at eL; exact eL.symm)
        have : decide ((ringOf f n s).length = 1) = false := decide_eq_false (by rw [ringOf_len]; exact l2)
        simp [this, e]
/-! the rings of a move make it -/
theorem rings_ok {f : Nat → Nat} {n : Nat} (h : Pm f n) : Rings n (rings f n) :=
  have g := rings_good h n (Nat.le_refl _)
  ⟨fun r hr => (len_in h hr).1, g.once, g.below⟩
theorem ring_turn {f : Nat → Nat} {n : Nat} (h : Pm f n) {r : List Nat} (hr : r ∈ rings f n) {j : Nat} (hj : j < r.length) : f (r.getD j 0) = r.getD ((j + 1) % r.length) 0 := by
  obtain ⟨p, pn, rfl⟩ := (rings_good h n (Nat.le_refl _)).each r hr
  obtain ⟨ln, eL, no⟩ := lenOf_ok h pn
  rw [ringOf_len] at hj ⊢
  exact ring_step eL hj
theorem goes_rings {f : Nat → Nat} {n : Nat} (h : Pm f n) : Goes f n (rings f n) :=
  ⟨fun r hr j hj => ring_turn h hr hj, fun x hx no => absurd ((rings_good h n (Nat.le_refl _)).all x hx) no⟩
/-- rings begun elsewhere; single ones left out -/
inductive Bent : List (List Nat) → List (List Nat) → Prop where
  | nil : Bent [] []
  | keep {Z R : List (List Nat)} {r : List Nat} {a : Nat} (h : Bent Z R) (ha : a < r.length) : Bent (Z ++ [r]) (R ++ [r.drop a ++ r.take a])
  | skip {Z R : List (List Nat)} {r : List Nat} (h : Bent Z R) (h1 : r.length = 1) : Bent (Z ++ [r]) R
theorem Bent.len {Z R : List (List Nat)} (h : Bent Z R) : R.length ≤ Z.length := by
  induction h with
  | nil => exact Nat.le_refl _
  | keep h ha ih =>
    rw [List.length_append, List.length_append]
    show _ + 1 ≤ _ + 1
    omega
  | skip h h1 ih =>
    rw [List.length_append]
    omega
theorem Bent.sub {Z R : List (List Nat)} (h : Bent Z R) : (∀ r' ∈ R, ∃ r ∈ Z, ∃ a, a < r.length ∧ r' = r.drop a ++ r.take a) ∧ (∀ x ∈ Z.flatten, x ∉ R.flatten → [x] ∈ Z) ∧ ∃ S, (R.flatten ++ S).Perm Z.flatten := by
  induction h with
  | nil => exact ⟨by simp, by simp, [], .refl _⟩
  | keep h ha ih =>
    rename_i Z R r a
    obtain ⟨i1, i2, S, i3⟩ := ih
    have pr : (r.drop a ++ r.take a).Perm r := List.perm_append_comm.trans (.of_eq (List.take_append_drop a r))
    refine ⟨fun r' hr => ?_, fun x hx no => ?_, S, ?_⟩
    · rcases List.mem_append.mp hr with z | z
      · obtain ⟨q, hq, b, hb, e⟩ := i1 r' z
        exact ⟨q, List.mem_append_left _ hq, b, hb, e⟩
      · exact ⟨r, by simp, a, ha, List.mem_singleton.mp z⟩
    · rw [List.flatten_append, List.mem_append] at hx no
      rcases hx with hx | hx
      · exact List.mem_append_left _ (i2 x hx fun z => no (.inl z))
      · refine absurd (.inr ?_) no
        have : x ∈ r := by simpa using hx
        have := pr.mem_iff.mpr this
        simpa using this
    · rw [List.flatten_append, List.flatten_append]
      have e1 : [r.drop a ++ r.take a].flatten = r.drop a ++ r.take a := by simp
      have e2 : [r].flatten = r := by simp
      rw [e1, e2, List.append_assoc]
      refine (List.Perm.append_left _ List.perm_append_comm).trans ?_
      rw [← List.append_assoc]
      exact List.Perm.append i3 pr
  | skip h h1 ih =>
    rename_i Z R r
    obtain ⟨i1, i2, S, i3⟩ := ih
    refine ⟨fun r' hr => ?_, fun x hx no => ?_, S ++ r, ?_⟩
    · obtain ⟨q, hq, b, hb, e⟩ := i1 r' hr
      exact ⟨q, List.mem_append_left _ hq, b, hb, e⟩
    · rw [List.flatten_append, List.mem_append] at hx
      rcases hx with hx | hx
      · exact List.mem_append_left _ (i2 x hx no)
      · have hxr : x ∈ r := by simpa using hx
        obtain ⟨y, ey⟩ := List.length_eq_one_iff.mp h1
        rw [ey] at hxr
        have := List.mem_singleton.mp hxr
        subst this
        rw [ey]
        simp
    · rw [List.flatten_append, ← List.append_assoc]
      have e2 : [r].flatten = r := by simp
      rw [e2]
      exact List.Perm.append_right r i3
theorem rot_at {r : List Nat} {a j : Nat} (ha : a < r.length) (hj : j < r.length) : (r.drop a ++ r.take a).getD j 0 = r.getD ((a + j) % r.length) 0 := by
  rw [List.getD, List.getElem?_append, List.length_drop]
  by_cases c : j < r.length - a
  · rw [if_pos c, List.getElem?_drop, Nat.mod_eq_of_lt (by omega)]
    rfl
  · rw [if_neg c, List.getElem?_take_of_lt (by omega), show (a + j) % r.length = j - (r.length - a) from ?_]
    · rfl
    · rw [Nat.mod_eq_sub_mod (by omega), Nat.mod_eq_of_lt (by omega)]
      omega
theorem bent_ok {f : Nat → Nat} {n : Nat} (h : Pm f n) {Z R : List (List Nat)} (pz : Z.Perm (rings f n)) (hb : Bent Z R) : Rings n R ∧ Goes f n R := by
  have g := rings_good h n (Nat.le_refl _)
  have go := rings_ok h
  obtain ⟨b1, b2, S, b3⟩ := hb.sub
  have pf : (R.flatten ++ S).Perm (rings f n).flatten := b3.trans pz.flatten
  have len : ∀ (r : List Nat) (a : Nat), (r.drop a ++ r.take a).length = r.length := fun r a => by
    rw [List.length_append, List.length_drop, List.length_take]
    omega
  refine ⟨⟨fun r' hr => ?_, ?_, fun x hx => ?_⟩, ⟨fun r' hr j hj => ?_, fun x hx no => ?_⟩⟩
  · obtain ⟨r, hz, a, ha, rfl⟩ := b1 r' hr
    rw [len]
    omega
  · have := (pf.nodup_iff.mpr go.once)
    exact (List.nodup_append.mp this).1
  · exact go.below x (pf.mem_iff.mp (List.mem_append_left _ hx))
  · obtain ⟨r, hz, a, ha, rfl⟩ := b1 r' hr
    rw [len] at hj ⊢
    have pos : 0 < r.length := by omega
    rw [rot_at ha hj, rot_at ha (Nat.mod_lt _ pos), ring_turn h (pz.mem_iff.mp hz) (Nat.mod_lt _ pos)]
    congr 1
    rw [Nat.mod_add_mod, Nat.add_mod_mod, Nat.add_assoc]
  · have inZ := b2 x ((pz.flatten).mem_iff.mpr (g.all x hx)) no
    have := ring_turn h (pz.mem_iff.mp inZ) (j := 0) (by simp)
    simpa using this
end K04

set_option Elab.async false
set_option linter.all false
set_option maxRecDepth 100000
set_option maxHeartbeats 2000000
namespace K04
open PySem PySem.Spec PyProof.Rows L2 MM
/-! own words for the readings: a step, its side -/
local macro_rules | `(tactic| walk_at "side") => `(tactic| first
  | omega
  | exact ⟨by omega, by omega⟩
  | exact Or.inl ⟨by omega, by omega⟩
  | exact Or.inr ⟨by omega, by omega⟩
  | (show CPw _ _; decide +kernel)
  | (show (0 : Int) < _; decide +kernel)
  | (show CDivW _ _; first | assumption | exact ⟨by decide, by decide +kernel⟩))
local macro_rules | `(tactic| walk_at "here") => `(tactic| first
  | assumption
  | exact upd_same
  | exact Or.inl (Or.inl upd_same)
  | exact Or.inl upd_same)
local macro_rules | `(tactic| walk_at "one") => `(tactic| first
  | refine ⟨_, rfl, ?_⟩
  | refine Or.inl ⟨_, rfl, ?_⟩
  | refine Or.inr ⟨_, rfl, ?_⟩
  | refine ⟨_, _, rfl, rfl, (by walk_at "side"), ?_⟩
  | refine ⟨_, _, rfl, rfl, ?_⟩
  | refine ⟨_, _, rfl, Or.inl (by walk_at "here"), ?_⟩
  | refine ⟨_, _, rfl, Or.inr (by walk_at "here"), ?_⟩
  | refine ⟨_, _, rfl, (by walk_at "here"), ?_⟩
  | refine ⟨_, _, _, _, rfl, rfl, (by walk_at "here"), rfl, ?_⟩
  | refine ⟨_, _, rfl, ?_⟩
  | refine ifT (by rfl) ?_
  | refine ifF (by rfl) ?_
  | refine ifT (decide_eq_true (by omega)) ?_
  | refine ifF (decide_eq_false (by omega)) ?_)
local macro_rules | `(tactic| walk_at "st") => `(tactic| repeat (walk_at "one"))

section
variable {P : Program} {w : World} {K : PySem.W.Frag} {mg : Str → Option Value} {base : Heap}
theorem cut_take {m : List Nat} {i : Nat} (h : i ≤ m.length) : cutV (mv m) none (some (i : Int)) = mv (m.take i) := by
  unfold cutV
  rw [HT.sIx_none, HT.sIx_nat, List.drop_zero, Nat.sub_zero, mv_len, Nat.min_eq_left h]
  unfold mv
  rw [List.map_take]
theorem cut_drop {m : List Nat} {i : Nat} (h : i ≤ m.length) : cutV (mv m) (some (i : Int)) none = mv (m.drop i) := by
  unfold cutV
  rw [HT.sIx_none, HT.sIx_nat, mv_len, Nat.min_eq_left h]
  unfold mv
  rw [← List.map_drop, List.take_of_length_le (by rw [List.length_map, List.length_drop]; exact Nat.le_refl _)]
/-- how many stand ahead of i and are greater -/
def aheads (m : List Nat) (i : Nat) : Nat := (m.take i).countP fun x => decide (fn' m i < x)
theorem aheads_sum : ∀ m : List Nat, ((List.range m.length).map (aheads m)).sum = inv m
  | [] => rfl
  | x :: r => by
    rw [List.length_cons, List.range_succ_eq_map, List.map_cons, List.map_map, List.sum_cons]
    have h0 : aheads (x :: r) 0 = 0 := rfl
    have hs : ∀ j ∈ List.range r.length, (aheads (x :: r) ∘ Nat.succ) j = (if r.getD j 0 < x then 1 else 0) + aheads r j := by
      intro j _
      show ((x :: r).take (j + 1)).countP (fun y => decide (fn' (x :: r) (j + 1) < y)) = _
      rw [List.take_succ_cons, List.countP_cons]
      have e : fn' (x :: r) (j + 1) = fn' r j := rfl
      rw [e]
      show _ + (if decide (fn' r j < x) = true then 1 else 0) = (if r.getD j 0 < x then 1 else 0) + (r.take j).countP _
      have e2 : fn' r j = r.getD j 0 := rfl
      rw [e2, Nat.add_comm]
      simp
    rw [h0, List.map_congr_left hs]
    have spl : ∀ (l : List Nat) (a b : Nat → Nat), (l.map fun j => a j + b j).sum = (l.map a).sum + (l.map b).sum := by
      intro l a b
      induction l with
      | nil => rfl
      | cons y l ih =>
        rw [List.map_cons, List.map_cons, List.map_cons, List.sum_cons, List.sum_cons, List.sum_cons, ih]
        omega
    rw [spl, aheads_sum r]
    have cnt : ((List.range r.length).map fun j => if r.getD j 0 < x then 1 else 0).sum = r.countP fun y => decide (y < x) := by
      clear hs h0 spl
      induction r with
      | nil => rfl
      | cons y r ih =>
        rw [List.length_cons, List.range_succ_eq_map, List.map_cons, List.map_map, List.sum_cons, List.countP_cons, ← ih]
        show (if y < x then 1 else 0) + _ = _ + (if decide (y < x) = true then 1 else 0)
        rw [Nat.add_comm]
        congr 1
        simp
    rw [cnt]
    show 0 + _ = _
    rw [Nat.zero_add]
    rfl
def spOwnSign (K : PySem.W.Frag) : Sp := fun vs H Q _ => ∃ (a : Addr) (m : List Nat), vs = [.ref a] ∧ SqT K H a (mv m) ∧ Mv m ∧ ∀ H', Same H H' → Q (.int (evenS (inv m))) H'
theorem scOwnSignL : FnScope ["_law_move", "_law_many", "_law_low", "_law_at", "_law_goal"] ["_law_move"] (defScope sOwnSignL) :=
  ⟨rfl, rfl, rfl, by decide +kernel, rfl, by decide +kernel, by decide +kernel⟩
theorem dOwnSignL (T : Tx K mg) : Def P w K mg base CX0 1 "_law_own_sign" ["_law_move"] (spOwnSign K) := by
  refine T.t_law_own_sign.def_ (N := ["_law_move", "_law_many", "_law_low", "_law_at", "_law_goal"]) scOwnSignL (fun _ _ _ _ _ _ us hl => match us, hl with | [_], _ => rfl) ?_ ?_
  · intro vs H Q E h
    obtain ⟨a, m, rfl, _⟩ := h
    rfl
  · intro f cd A out s H vs Q E hr h
    obtain ⟨a, m, rfl, S, hm, q⟩ := h
    refine ⟨_, (pss_cons (ps_set (i := 1) scOwnSignL.nd rfl (Or.inl rfl) (pe_callB (cr_sum rfl) rfl T.f_sum (by decide +kernel) (pa_cons (pe_lc (own := [("_law_at", 3), ("_law_goal", 4)]) (g := gTup K 2 (gCons (gName 3) (gCons (gName 4) gNil))) (tt := tYes) rfl scOwnSignL.nd (pi_enumT rfl T.f_enumerate (pa_cons (pv 0) pa_nil)) (blkOk_by (N := ["_law_move", "_law_many", "_law_low", "_law_at", "_law_goal"]) (sc := defScope sOwnSignL) (by decide +kernel)) (fun _ _ _ _ _ => (show PG _ _ (gTup K 2 (gCons (gName 3) (gCons (gName 4) gNil))) from pg_tup rfl (pgs_cons (pg_name (i := 3) scOwnSignL.nd rfl (Or.inl rfl)) (pgs_cons (pg_name (i := 4) scOwnSignL.nd rfl (Or.inr rfl)) pgs_nil)))) (fun _ _ _ _ _ => pts_nil) (fun _ _ _ _ _ => (pe_callB (cr_lenK (K := K) rfl) rfl T.f_len (by decide +kernel) (pa_cons (pe_lc (own := [("_law_low", 2)]) (g := gName 2) rfl scOwnSignL.nd (show PI _ _ _ (iTup K _) from pi_tup (pe_slice (show SlR _ (rSlA K) from sl_tupA) (pv 0) po_none (po_some (pv 3)))) (blkOk_by (N := ["_law_move", "_law_many", "_law_low", "_law_at", "_law_goal"]) (sc := _) (by kernel_rfl)) (fun _ _ _ _ _ => pg_name (i := 2) scOwnSignL.nd rfl (Or.inl rfl)) (fun _ _ _ _ _ => (pts_one (pt_cmpR op_gt (pv 2) (pv 4) (nomark _)))) (fun _ _ _ _ _ => (pv 2))) pa_nil)))) pa_nil)))
      (pss_one (ps_ret (pe_ifExp (pt_cmpR op_eq (pe_op op_mod (pv 1) pe_int) pe_int (nomark _)) pe_int (pe_un un_neg pe_int))))), ?_⟩
    have m24 := hm.2.2.2
    refine ⟨_, rfl, a, _, rfl, S, fun D nD => ?_⟩
    refine lc_enumT (K := K) (a := a) (xs := mv m) (Pv := fun i H3 => Same H H3 ∧ H3 D = some (.lst (mv ((List.range i).map (aheads m))))) ⟨same_new nD, upd_same⟩ (fun i H3 _ h => same_sqt h.1 S) ?_ ?_
    · rintro i x H3 T hx ⟨S3, hD⟩ fT
      obtain ⟨li, rfl⟩ := mv_nth hx
      have DT : D ≠ T := ne_of_none hD fT
      have nD0 : ∀ b o, H b = some o → b ≠ D := fun b o e => ne_of_none e nD
      refine ⟨T, _, rfl, .inl (.inl upd_same), rfl, _, _, rfl, ?_⟩
      refine ⟨_, _, rfl, rfl, rfl, ?_⟩
      have sm : Same H (upd H3 T (.tup [.int (i : Nat), .int ((m.getD i 0 : Nat) : Int)])) := S3.trans (same_new fT)
      have hD2 := (upd_ne (o := .tup [.int (i : Nat), .int ((m.getD i 0 : Nat) : Int)]) DT).trans hD
      generalize upd H3 T _ = H4 at sm hD2 ⊢
      refine yes_ ?_
      refine ⟨_, rfl, _, rfl, _, rfl, slA (same_sqt sm S) fun H5 t S5 St => ?_⟩
      rw [cut_take (Nat.le_of_lt li)] at St
      refine ⟨t, rfl, ⟨_, St⟩, fun D2 nD2 => ?_⟩
      have D5 := S5 _ _ hD2
      have ltl : (mv (m.take i)).length ≤ 1000 := by rw [mv_len, List.length_take]; omega
      refine lc_tplF (fun x => match x with | .int y => decide (((m.getD i 0 : Nat) : Int) < y) | _ => false) id St nD2 (Nat.le_of_lt (small1000 ltl)) ?_ ?_ ?_
      · intro x acc hx Q' q'
        obtain ⟨k, _, rfl⟩ := List.mem_map.mp hx
        exact ⟨_, rfl, _, rfl, _, _, rfl, rfl, _, rfl, q'⟩
      · intro x acc hx _ Q' q'
        exact ⟨_, rfl, q'⟩
      · refine ⟨D2, _, rfl, .inl (.inl (.inl upd_same)), ?_⟩
        have DD2 : D ≠ D2 := ne_of_none D5 nD2
        refine ⟨_, (upd_ne DD2).trans D5, ?_, fun b o e => ?_, ?_⟩
        · rw [mv_len, List.length_map, List.length_range]
          exact Nat.lt_of_le_of_lt (by omega : i ≤ 1000) (by decide)
        · rw [upd_ne (nD0 b o e)]
          exact same_new nD2 _ _ ((sm.trans S5) b o e)
        · rw [upd_same, List.range_succ, List.map_append, mv_app]
          have e2 : ∀ l : List Nat, (((mv l).filter fun x => match x with | .int y => decide (((m.getD i 0 : Nat) : Int) < y) | _ => false).map id).length = l.countP fun x => decide (fn' m i < x) := by
            intro l
            rw [List.map_id, List.countP_eq_length_filter]
            unfold mv
            rw [List.filter_map, List.length_map]
            congr 2
            funext k
            show decide (((m.getD i 0 : Nat) : Int) < (k : Int)) = decide (m.getD i 0 < k)
            exact decide_eq_decide.mpr (by omega)
          rw [e2]
          rfl
    · rintro H3 ⟨S3, hD⟩
      rw [mv_len] at hD
      refine ⟨D, ((List.range m.length).map (aheads m)).map fun (k : Nat) => (k : Int), rfl, ?_, ?_⟩
      · rw [List.map_map]
        exact .inl (.inl hD)
      have es : ∀ l : List Nat, (l.map fun (k : Nat) => (k : Int)).sum = ((l.sum : Nat) : Int) := by
        intro l
        induction l with
        | nil => rfl
        | cons a l ih =>
          rw [List.map_cons, List.sum_cons, List.sum_cons, ih]
          omega
      rw [es, aheads_sum]
      have q2 := q H3 S3
      unfold evenS at q2
      refine ⟨_, rfl, _, _, rfl, rfl, (by show (0 : Int) < 2; decide), rfl, _, rfl, ?_⟩
      generalize inv m = c at q2 ⊢
      refine ite2 (fun d => ?_) (fun d => ?_)
      · rw [dInt] at d
        have := of_decide_eq_true d
        rw [if_pos (by omega)] at q2
        exact q2
      · rw [dInt] at d
        have := of_decide_eq_false (Bool.eq_false_iff.mpr d)
        rw [if_neg (by omega)] at q2
        exact ⟨_, rfl, q2⟩
end
end K04


set_option Elab.async false
set_option linter.all false
set_option maxRecDepth 100000
set_option maxHeartbeats 2000000
namespace K04
open PySem PySem.Spec PyProof.Rows L2 MM
/-! own words for the readings: a step, its side -/
local macro_rules | `(tactic| walk_at "side") => `(tactic| first
  | omega
  | exact ⟨by omega, by omega⟩
  | exact Or.inl ⟨by omega, by omega⟩
  | exact Or.inr ⟨by omega, by omega⟩
  | (show CPw _ _; decide +kernel)
  | (show (0 : Int) < _; decide +kernel)
  | (show CDivW _ _; first | assumption | exact ⟨by decide, by decide +kernel⟩))
local macro_rules | `(tactic| walk_at "here") => `(tactic| first
  | assumption
  | exact upd_same
  | exact Or.inl (Or.inl upd_same)
  | exact Or.inl upd_same)
local macro_rules | `(tactic| walk_at "one") => `(tactic| first
  | refine ⟨_, rfl, ?_⟩
  | refine Or.inl ⟨_, rfl, ?_⟩
  | refine Or.inr ⟨_, rfl, ?_⟩
  | refine ⟨_, _, rfl, rfl, (by walk_at "side"), ?_⟩
  | refine ⟨_, _, rfl, rfl, ?_⟩
  | refine ⟨_, _, rfl, Or.inl (by walk_at "here"), ?_⟩
  | refine ⟨_, _, rfl, Or.inr (by walk_at "here"), ?_⟩
  | refine ⟨_, _, rfl, (by walk_at "here"), ?_⟩
  | refine ⟨_, _, _, _, rfl, rfl, (by walk_at "here"), rfl, ?_⟩
  | refine ⟨_, _, rfl, ?_⟩
  | refine ifT (by rfl) ?_
  | refine ifF (by rfl) ?_
  | refine ifT (decide_eq_true (by omega)) ?_
  | refine ifF (decide_eq_false (by omega)) ?_)
local macro_rules | `(tactic| walk_at "st") => `(tactic| repeat (walk_at "one"))

section
variable {P : Program} {w : World} {K : PySem.W.Frag} {mg : Str → Option Value} {base : Heap}
/-! equality of tuples of places -/
def dM (m : List Nat) : PyData := .tuple ((m.map fun (k : Nat) => (k : Int)).map PyData.int)
theorem mv_ints (m : List Nat) : mv m = (m.map fun (k : Nat) => (k : Int)).map V.int := by
  rw [List.map_map]
  rfl
theorem dp_mv {H : Hp} {a : Addr} {m : List Nat} (S : SqT K H a (mv m)) : Dp K H (.ref a) (dM m) := by
  rw [mv_ints] at S
  exact .tup S (dp_ints _)
theorem dM_eqv (m l : List Nat) : PyData.eqv (dM m) (dM l) = decide (m = l) := by
  show PyData.eqvAll _ _ = _
  rw [eqvAll_ints]
  refine decide_eq_decide.mpr ⟨fun h => ?_, fun h => by rw [h]⟩
  exact (List.map_inj_right (fun a b e => by omega)).mp h
theorem neT {H : Hp} {a b : Addr} {m l : List Nat} {Q : VK} (S : SqT K H a (mv m)) (S2 : SqT K H b (mv l)) (q : Q (.bl (!decide (m = l))) H) : rNeD K (.ref a) (.ref b) H Q :=
  ⟨dM m, dM l, dp_mv S, dp_mv S2, shapedT_ints _, shapedT_ints _, by rw [dM_eqv]; exact q⟩
theorem eqT {H : Hp} {a b : Addr} {m l : List Nat} {Q : VK} (S : SqT K H a (mv m)) (S2 : SqT K H b (mv l)) (q : Q (.bl (decide (m = l))) H) : rEqD K (.ref a) (.ref b) H Q :=
  ⟨dM m, dM l, dp_mv S, dp_mv S2, shapedT_ints _, shapedT_ints _, by rw [dM_eqv]; exact q⟩
theorem up_sqt {p a : Addr} {H H' : Hp} {xs : List V} (h : Upto p H H') (b : BagAt H p) (s : SqT K H a xs) : SqT K H' a xs := by
  obtain ⟨x, y, z, e⟩ := b
  rcases s with (s | ⟨u, s⟩) | s
  · exact .inl (.inl (h.same _ _ (fun z => by rw [z, e] at s; cases s) s))
  · exact .inl (.inr ⟨u, h.same _ _ (fun z => by rw [z, e] at s; cases s) s⟩)
  · exact .inr s
theorem bag_same {p : Addr} {H H' : Hp} (b : BagAt H p) (s : Same H H') : BagAt H' p :=
  let ⟨x, y, z, e⟩ := b
  ⟨x, y, z, s _ _ e⟩
theorem up_draw {p : Addr} {H : Hp} {g m c g' m' c' : Int} (e : H p = some (.lst [.int g, .int m, .int c])) : Upto p H (upd H p (.lst [.int g', .int m', .int c'])) := (Upto.refl ⟨_, _, _, e⟩).draw
theorem up_same {p : Addr} {H H' : Hp} (b : BagAt H p) (s : Same H H') : Upto p H H' := (Upto.refl b).keep s
/-- what stands while moves are held against one another -/
structure M4 (K : PySem.W.Frag) (p a b c u : Addr) (m l : List Nat) (H Hn : Hp) : Prop where
  up : Upto p H Hn
  sa : SqT K Hn a (mv m)
  sb : SqT K Hn b (mv l)
  sc : SqT K Hn c (mv (comp m l))
  su : SqT K Hn u (mv (List.range m.length))
theorem M4.same {p a b c u : Addr} {m l : List Nat} {H Hn H' : Hp} (h : M4 K p a b c u m l H Hn) (s : Same Hn H') : M4 K p a b c u m l H H' :=
  ⟨h.up.keep s, same_sqt s h.sa, same_sqt s h.sb, same_sqt s h.sc, same_sqt s h.su⟩
theorem M4.upto {p a b c u : Addr} {m l : List Nat} {H Hn H' : Hp} (h : M4 K p a b c u m l H Hn) (s : Upto p Hn H') : M4 K p a b c u m l H H' :=
  ⟨h.up.trans s, up_sqt s h.up.bag h.sa, up_sqt s h.up.bag h.sb, up_sqt s h.up.bag h.sc, up_sqt s h.up.bag h.su⟩
theorem even_cases (n : Nat) : evenS n = 1 ∨ evenS n = -1 := by
  unfold evenS
  split
  · exact .inl rfl
  · exact .inr rfl
theorem rg_range (m : List Nat) : rgV 0 ((mv m).length : Int) = mv (List.range m.length) := by rw [mv_len, rg_mv]
theorem ne_self (m : List Nat) : (!decide (m = m)) = false := by rw [decide_eq_true rfl]; rfl
theorem ne_self' (i : Int) : (!decide (V.int i = V.int i)) = false := by rw [decide_eq_true rfl]; rfl
def spMovesRight (K : PySem.W.Frag) : Sp := fun vs H Q _ => ∃ (p a b : Addr) (m l : List Nat), vs = [.ref p, .ref a, .ref b] ∧ BagAt H p ∧ SqT K H a (mv m) ∧ SqT K H b (mv l) ∧ Mv m ∧ Mv l ∧ m.length = l.length ∧
  ∀ H', Upto p H H' → Q (.bl true) H'
theorem scMovesRightL : FnScope ["_law_bag_here", "_law_one", "_law_other", "_law_both", "_law_unit", "_law_ring", "_law_first", "_law_last"] ["_law_bag_here", "_law_one", "_law_other"] (defScope sMovesRightL) :=
  ⟨rfl, rfl, rfl, by decide +kernel, rfl, by decide +kernel, by decide +kernel⟩
theorem dMovesRightL (T : Tx K mg) (DLotTimesL : Def P w K mg base CX0 1 "_law_lot_times" ["_law_one", "_law_other"] (spComp K)) (DProductOf : Def P w K mg base CX0 6 "product_of" ["one", "other"] (spProduct K)) (DUndone : Def P w K mg base CX0 5 "undone" ["move"] (spUndone K)) (DLotUndoneL : Def P w K mg base CX0 1 "_law_lot_undone" ["_law_move"] (spBack K)) (DUnitOf : Def P w K mg base CX0 5 "unit_of" ["places"] (spUnit K)) (DSignOf : Def P w K mg base CX0 5 "sign_of" ["move"] (spSign K)) (DOwnSignL : Def P w K mg base CX0 1 "_law_own_sign" ["_law_move"] (spOwnSign K)) (DPowerOf : Def P w K mg base CX0 5 "power_of" ["move", "number"] (spPowOf K)) (DOrderOf : Def P w K mg base CX0 5 "order_of" ["move"] (spOrd K)) (DOwnMultipleL : Def P w K mg base CX0 2 "_law_own_multiple" ["_law_numbers"] (spMult K)) (DOwnRingsL : Def P w K mg base CX0 1 "_law_own_rings" ["_law_move"] (spOwn K)) (DGrabL : Def P w K mg base CX0 1 "_law_grab" ["_law_bag_here", "_law_total"] spGrab) (DOneOfL : Def P w K mg base CX0 2 "_law_one_of" ["_law_bag_here", "_law_items"] (spOneOf K)) (DOwnPowerL : Def P w K mg base CX0 2 "_law_own_power" ["_law_move", "_law_number"] (spPow K)) : Def P w K mg base CX0 7 "_law_moves_right" ["_law_bag_here", "_law_one", "_law_other"] (spMovesRight K) := by
  refine T.t_law_moves_right.def_ (N := ["_law_bag_here", "_law_one", "_law_other", "_law_both", "_law_unit", "_law_ring", "_law_first", "_law_last"]) scMovesRightL (fun _ _ _ _ _ _ us hl => match us, hl with | [_, _, _], _ => rfl) ?_ ?_
  · intro vs H Q E h
    obtain ⟨p, a, b, m, l, rfl, _⟩ := h
    rfl
  · intro f cd A out s H vs Q E hr h
    have hr1 : Rm 6 _ := hr.le (by decide)
    obtain ⟨p, a, b, m, l, rfl, hb, Sa, Sb, hm, hl, eq, q⟩ := h
    refine ⟨_, (pss_cons (ps_par (i := 3) (j := 4) rfl scMovesRightL.nd rfl rfl (by decide) rfl rfl (pa_cons (pe_d DLotTimesL (hr1.le (by decide)) pass0 (pa_cons (pv 1) (pa_cons (pv 2) pa_nil))) (pa_cons (pe_tupRg rfl rfl T.f_tuple (prg_1 rfl T.f_range (pe_callB call_len_seq rfl T.f_len (by decide +kernel) (pa_cons (pv 1) pa_nil)))) pa_nil)) (by rfl))
      (pss_cons (ps_if (PW.pt (pw_or (pt_cmpR (op_neD hr.hu) (pe_d DProductOf (hr1.le (by decide)) pass0 (pa_cons (pv 1) (pa_cons (pv 2) pa_nil))) (pv 3) (nomark _)) (pw_or (pt_cmpR (op_neD hr.hu) (pe_d DUndone (hr1.le (by decide)) pass0 (pa_cons (pv 1) pa_nil)) (pe_d DLotUndoneL (hr1.le (by decide)) pass0 (pa_cons (pv 1) pa_nil)) (nomark _)) (pw_or1 (pt_cmpR (op_neD hr.hu) (pe_d DProductOf (hr1.le (by decide)) pass0 (pa_cons (pv 1) (pa_cons (pe_d DUndone (hr1.le (by decide)) pass0 (pa_cons (pv 1) pa_nil)) pa_nil))) (pv 4) (nomark _)))))) (pss_one (ps_ret pe_bl)) pss_nil)
      (pss_cons (ps_if (PW.pt (pw_or (pt_cmpR (op_neD hr.hu) (pe_d DUnitOf (hr1.le (by decide)) pass0 (pa_cons (pe_callB call_len_seq rfl T.f_len (by decide +kernel) (pa_cons (pv 1) pa_nil)) pa_nil)) (pv 4) (nomark _)) (pw_or1 (pt_cmpR (op_neD hr.hu) (pe_d DUndone (hr1.le (by decide)) pass0 (pa_cons (pv 3) pa_nil)) (pe_d DProductOf (hr1.le (by decide)) pass0 (pa_cons (pe_d DUndone (hr1.le (by decide)) pass0 (pa_cons (pv 2) pa_nil)) (pa_cons (pe_d DUndone (hr1.le (by decide)) pass0 (pa_cons (pv 1) pa_nil)) pa_nil))) (nomark _))))) (pss_one (ps_ret pe_bl)) pss_nil)
      (pss_cons (ps_if (PW.pt (pw_or (pt_cmpR op_ne (pe_d DSignOf (hr1.le (by decide)) pass0 (pa_cons (pv 1) pa_nil)) (pe_d DOwnSignL (hr1.le (by decide)) pass0 (pa_cons (pv 1) pa_nil)) (nomark _)) (pw_or1 (pt_cmpR op_ne (pe_d DSignOf (hr1.le (by decide)) pass0 (pa_cons (pv 3) pa_nil)) (pe_op op_mul (pe_d DSignOf (hr1.le (by decide)) pass0 (pa_cons (pv 1) pa_nil)) (pe_d DSignOf (hr1.le (by decide)) pass0 (pa_cons (pv 2) pa_nil))) (nomark _))))) (pss_one (ps_ret pe_bl)) pss_nil)
      (pss_cons (ps_if (PW.pt (pw_or (pt_cmpR op_ne (pe_d DOrderOf (hr1.le (by decide)) pass0 (pa_cons (pv 1) pa_nil)) (pe_d DOwnMultipleL (hr1.le (by decide)) pass0 (pa_cons (pe_lc (own := [("_law_ring", 5)]) (g := gName 5) (tt := tYes) rfl scMovesRightL.nd (pi_list (pe_d DOwnRingsL (hr1.le (by decide)) pass0 (pa_cons (pv 1) pa_nil))) (blkOk_by (N := ["_law_bag_here", "_law_one", "_law_other", "_law_both", "_law_unit", "_law_ring", "_law_first", "_law_last"]) (sc := defScope sMovesRightL) (by decide +kernel)) (fun _ _ _ _ _ => pg_name (i := 5) scMovesRightL.nd rfl (Or.inl rfl)) (fun _ _ _ _ _ => pts_nil) (fun _ _ _ _ _ => (pe_callB (cr_lenK (K := K) rfl) rfl T.f_len (by decide +kernel) (pa_cons (pv 5) pa_nil)))) pa_nil)) (nomark _)) (pw_or1 (pt_cmpR (op_neD hr.hu) (pe_d DPowerOf (hr1.le (by decide)) pass0 (pa_cons (pv 1) (pa_cons (pe_d DOrderOf (hr1.le (by decide)) pass0 (pa_cons (pv 1) pa_nil)) pa_nil))) (pv 4) (nomark _))))) (pss_one (ps_ret pe_bl)) pss_nil)
      (pss_cons (ps_par (i := 6) (j := 7) rfl scMovesRightL.nd rfl rfl (by decide) rfl rfl (pa_cons (pe_op op_mul (pe_d DGrabL (hr1.le (by decide)) pass0 (pa_cons (pv 0) (pa_cons (pe_op op_pw pe_int pe_int) pa_nil))) (pe_d DOneOfL (hr1.le (by decide)) pass0 (pa_cons (pv 0) (pa_cons (pe_lst (pa_cons pe_int (pa_cons (pe_un un_neg pe_int) pa_nil))) pa_nil)))) (pa_cons (pe_op op_sub (pe_d DGrabL (hr1.le (by decide)) pass0 (pa_cons (pv 0) (pa_cons pe_int pa_nil))) pe_int) pa_nil)) (by rfl))
      (pss_cons (ps_if (PW.pt (pw_or (pt_cmpR (op_neD hr.hu) (pe_d DPowerOf (hr1.le (by decide)) pass0 (pa_cons (pv 1) (pa_cons (pv 6) pa_nil))) (pe_d DOwnPowerL (hr1.le (by decide)) pass0 (pa_cons (pv 1) (pa_cons (pv 6) pa_nil))) (nomark _)) (pw_or1 (pt_cmpR (op_neD hr.hu) (pe_d DPowerOf (hr1.le (by decide)) pass0 (pa_cons (pv 1) (pa_cons (pv 7) pa_nil))) (pe_d DOwnPowerL (hr1.le (by decide)) pass0 (pa_cons (pv 1) (pa_cons (pv 7) pa_nil))) (nomark _))))) (pss_one (ps_ret pe_bl)) pss_nil)
      (pss_one (ps_ret (pe_and (pe_cmpR (op_eqD hr.hu) (pe_d DProductOf (hr1.le (by decide)) pass0 (pa_cons (pe_d DPowerOf (hr1.le (by decide)) pass0 (pa_cons (pv 1) (pa_cons (pv 6) pa_nil))) (pa_cons (pe_d DPowerOf (hr1.le (by decide)) pass0 (pa_cons (pv 1) (pa_cons (pv 7) pa_nil))) pa_nil))) (pe_d DOwnPowerL (hr1.le (by decide)) pass0 (pa_cons (pv 1) (pa_cons (pe_op op_add (pv 6) (pv 7)) pa_nil))) (nomark _)) (pe_one (pe_cmpR (op_eqD hr.hu) (pe_d DPowerOf (hr1.le (by decide)) pass0 (pa_cons (pv 1) (pa_cons pe_int pa_nil))) (pv 4) (nomark _))))))))))))), ?_⟩
    have m24 := hm.2.2.2
    have m1 := hm.2.2.1
    have pm := pm_of hm
    have hc := comp_mv hm hl eq
    refine ⟨_, rfl, _, rfl, a, b, m, l, rfl, Sa, Sb, by omega, fun k hk => by rw [eq]; exact hl.2.1 k hk, fun H1 c S1 Sc => ?_⟩
    refine ⟨_, rfl, a, _, rfl, .inr (same_sqt S1 Sa), _, rfl, ⟨by omega, by omega, by omega, by rw [mv_len]; omega, by rw [mv_len]; omega⟩, fun u fu => ?_⟩
    rw [rg_range]
    have I : M4 K p a b c u m l H (upd H1 u (.tup (mv (List.range m.length)))) :=
      have S2 := S1.trans (same_new (o := .tup (mv (List.range m.length))) fu)
      ⟨up_same hb S2, same_sqt S2 Sa, same_sqt S2 Sb, same_sqt (same_new fu) Sc, .inl (.inl upd_same)⟩
    generalize upd H1 u _ = H2 at I ⊢
    clear Sa Sb Sc S1
    refine ⟨_, _, rfl, ?_⟩
    -- products and moves undone
    refine ⟨_, rfl, _, rfl, a, b, m, l, rfl, I.sa, I.sb, hm, hl, eq, fun H3 t S3 St => ?_⟩
    replace I := I.same S3
    refine ⟨_, rfl, neT St I.sc ?_⟩
    refine ⟨_, rfl, ?_⟩
    refine ifF (ne_self _) ?_
    clear S3 St
    refine ⟨_, rfl, a, m, rfl, I.sa, hm, fun H4 t S4 St => ?_⟩
    replace I := I.same S4
    refine ⟨_, rfl, a, m, rfl, I.sa, by omega, hm.2.1, fun H5 t2 S5 St2 => ?_⟩
    replace I := I.same S5
    refine neT (same_sqt S5 St) St2 ?_
    refine ⟨_, rfl, ?_⟩
    refine ifF (ne_self _) ?_
    clear S4 S5 St St2
    refine ⟨_, rfl, _, rfl, a, m, rfl, I.sa, hm, fun H6 t S6 St => ?_⟩
    replace I := I.same S6
    have hbk := back_mv hm
    refine ⟨a, t, m, back m, rfl, I.sa, St, hm, hbk, (back_len m).symm, fun H7 t2 S7 St2 => ?_⟩
    replace I := I.same S7
    rw [comp_back hm] at St2
    refine ⟨_, rfl, neT St2 I.su ?_⟩
    refine ⟨_, rfl, ?_⟩
    refine ifF (ne_self _) ?_
    clear S6 S7 St St2
    -- the unit; a product undone
    refine ⟨_, rfl, a, _, rfl, .inr I.sa, m.length, by rw [mv_len], m1, m24, fun t ft => ?_⟩
    have St : SqT K (upd H7 t (.tup (mv (List.range m.length)))) t (mv (List.range m.length)) := .inl (.inl upd_same)
    replace I := I.same (same_new (o := .tup (mv (List.range m.length))) ft)
    generalize upd H7 t _ = H8 at I St ⊢
    refine ⟨_, rfl, neT St I.su ?_⟩
    refine ⟨_, rfl, ?_⟩
    refine ifF (ne_self _) ?_
    clear St
    refine ⟨_, rfl, c, comp m l, rfl, I.sc, hc, fun H9 t S9 St => ?_⟩
    replace I := I.same S9
    refine ⟨_, rfl, b, l, rfl, I.sb, hl, fun H10 t2 S10 St2 => ?_⟩
    replace I := I.same S10
    replace St := same_sqt S10 St
    refine ⟨_, rfl, a, m, rfl, I.sa, hm, fun H11 t3 S11 St3 => ?_⟩
    replace I := I.same S11
    replace St := same_sqt S11 St
    replace St2 := same_sqt S11 St2
    refine ⟨t2, t3, back l, back m, rfl, St2, St3, back_mv hl, back_mv hm, by rw [back_len, back_len, eq], fun H12 t4 S12 St4 => ?_⟩
    replace I := I.same S12
    replace St := same_sqt S12 St
    rw [back_comp hm hl eq] at St
    refine neT St St4 ?_
    refine ⟨_, rfl, ?_⟩
    refine ifF (ne_self _) ?_
    clear S9 S10 S11 S12 St St2 St3 St4
    -- signs
    refine ⟨_, rfl, a, m, rfl, I.sa, hm, fun H13 S13 => ?_⟩
    replace I := I.same S13
    refine ⟨_, rfl, a, m, rfl, I.sa, hm, fun H14 S14 => ?_⟩
    replace I := I.same S14
    rw [← sign_rings hm]
    refine ⟨rfl, _, rfl, ?_⟩
    refine ifF (ne_self' _) ?_
    refine ⟨_, rfl, c, comp m l, rfl, I.sc, hc, fun H15 S15 => ?_⟩
    replace I := I.same S15
    refine ⟨_, rfl, a, m, rfl, I.sa, hm, fun H16 S16 => ?_⟩
    replace I := I.same S16
    refine ⟨_, rfl, b, l, rfl, I.sb, hl, fun H17 S17 => ?_⟩
    replace I := I.same S17
    rw [← sign_rings hm, ← sign_rings hl, ← sign_rings hc, sign_comp hm hl eq]
    refine ⟨_, _, rfl, rfl, .inl ?_, ?_⟩
    · rcases even_cases (inv m) with h | h <;> rw [h] <;> exact ⟨by decide, by decide⟩
    refine ⟨rfl, _, rfl, ?_⟩
    refine ifF (ne_self' _) ?_
    clear S13 S14 S15 S16 S17
    -- the order
    have hlt : ∀ i, lcmL (((rings (fn' m) m.length).map List.length).take i) < 2 ^ 63 := fun i => Nat.lt_of_le_of_lt (ord_small pm m24 i) (by decide)
    have hord : ((ordOf (fn' m) m.length : Nat) : Int) ≤ 10 ^ 30 := by
      have h := ord_small pm m24 ((rings (fn' m) m.length).map List.length).length
      rw [List.take_length] at h
      have h2 : ordOf (fn' m) m.length ≤ 2 ^ 24 := h
      omega
    refine ⟨_, rfl, a, m, rfl, I.sa, hm, hlt, fun H18 S18 => ?_⟩
    replace I := I.same S18
    refine ⟨_, rfl, a, m, rfl, I.sa, hm, fun H19 R us S19 fR hR rf => ?_⟩
    replace I := I.same S19
    refine ⟨R, rfl, ⟨_, .inl (.inl hR)⟩, fun D nD => ?_⟩
    have hRL : SqL K H19 R us := .inl (.inl hR)
    have lus : us.length = (rings (fn' m) m.length).length := Paired.length rf
    have lle : (rings (fn' m) m.length).length ≤ m.length := ringsTo_len _ _ _
    refine lc_list (xs := us) (Pv := fun i H3 => H3 = upd H19 D (.lst (mv (((rings (fn' m) m.length).map List.length).take i)))) rfl (fun i H3 _ e => by rw [e]; exact sql_new hRL nD) ?_ ?_
    · intro i x H3 hx e
      subst e
      obtain ⟨r, t, hr, rfl, St⟩ := rf.get hx
      refine ⟨wipe_one, yes_ ?_⟩
      have il : i < m.length := by
        have := (List.getElem?_eq_some_iff.mp hx).1
        omega
      refine ⟨_, rfl, t, _, rfl, .inr (sqt_new St nD), _, upd_same, ?_, ?_⟩
      · rw [mv_len, List.length_take]
        exact Nat.lt_of_le_of_lt (by omega : _ ≤ 1000) (by decide)
      · have e2 : ((rings (fn' m) m.length).map List.length)[i]? = some r.length := by rw [List.getElem?_map, hr]; rfl
        rw [upd_upd, List.take_add_one, e2, mv_app, mv_len]
        rfl
    rintro H20 rfl
    rw [lus, ← List.length_map (f := List.length), List.take_length]
    replace I := I.same (same_new (o := .lst (mv ((rings (fn' m) m.length).map List.length))) nD)
    refine ⟨D, _, rfl, .inl (.inl upd_same), ?_, hlt, fun H21 S21 => ?_⟩
    · intro k hk
      obtain ⟨r, hr, rfl⟩ := List.mem_map.mp hk
      have := len_in pm hr
      omega
    replace I := I.same S21
    refine ⟨rfl, _, rfl, ?_⟩
    refine ifF (ne_self' _) ?_
    refine ⟨_, rfl, _, rfl, a, m, rfl, I.sa, hm, hlt, fun H22 S22 => ?_⟩
    replace I := I.same S22
    refine ⟨a, m, _, rfl, I.sa, hm, by omega, hord, fun H23 t S23 St => ?_⟩
    replace I := I.same S23
    replace St : SqT K H23 t (mv (pwL m (ordOf (fn' m) m.length : Nat))) := St
    rw [pwL_ord] at St
    refine ⟨_, rfl, neT St I.su ?_⟩
    refine ⟨_, rfl, ?_⟩
    refine ifF (ne_self _) ?_
    clear S18 S19 S21 S22 S23 St rf hR fR hRL
    -- powers
    clear nD hord hlt lus lle
    have I24 : M4 K p a b c u m l H H23 := I
    clear I
    revert I24
    generalize H23 = H24
    intro I
    obtain ⟨g1, g2, g3, eb⟩ := I.up.bag
    refine ⟨_, rfl, _, _, rfl, rfl, (by (show CPw _ _); decide +kernel), p, _, g1, g2, g3, rfl, eb, (by (show CDivW _ _); decide +kernel), fun r x1 x2 x3 r0 r1 => ?_⟩
    replace I := I.upto (up_draw (g' := x1) (m' := x2) (c' := x3) eb)
    generalize upd H24 p _ = H25 at I ⊢
    obtain ⟨g4, g5, g6, eb2⟩ := I.up.bag
    refine ⟨_, rfl, _, rfl, (by (show 2 ≤ sizeLine); decide), fun L fL => ?_⟩
    have Lp : L ≠ p := (ne_of_none eb2 fL).symm
    replace eb2 := same_new (o := .lst [.int 1, .int (-1)]) fL _ _ eb2
    replace I := I.same (same_new (o := .lst [.int 1, .int (-1)]) fL)
    have hL : SqL K (upd H25 L (.lst [.int 1, .int (-1)])) L [.int 1, .int (-1)] := .inl (.inl upd_same)
    refine ⟨p, L, _, _, _, _, rfl, eb2, hL, Lp, by decide, by decide, fun v y1 y2 y3 hv => ?_⟩
    replace I := I.upto (up_draw (g' := y1) (m' := y2) (c' := y3) eb2)
    clear hL eb2 eb
    generalize upd (upd H25 L _) p _ = H26 at I ⊢
    obtain ⟨e, rfl, e0, e1⟩ : ∃ e : Int, v = .int e ∧ -1 ≤ e ∧ e ≤ 1 := by
      rcases List.mem_cons.mp hv with h | h
      · exact ⟨1, h, by decide, by decide⟩
      · exact ⟨-1, List.mem_singleton.mp h, by decide, by decide⟩
    refine ⟨_, _, rfl, rfl, .inr ⟨by omega, by omega⟩, ?_⟩
    obtain ⟨first, ef, f0, f1⟩ : ∃ first : Int, r * e = first ∧ -(10 ^ 30) ≤ first ∧ first ≤ 10 ^ 30 := by
      have r2 : r < 10 ^ 30 := r1
      refine ⟨_, rfl, ?_, ?_⟩
      · rcases (by omega : e = -1 ∨ e = 0 ∨ e = 1) with z | z | z <;> rw [z] <;> omega
      · rcases (by omega : e = -1 ∨ e = 0 ∨ e = 1) with z | z | z <;> rw [z] <;> omega
    clear hv e0 e1 r0 r1
    obtain ⟨g1, g2, g3, eb⟩ := I.up.bag
    refine ⟨_, rfl, p, _, g1, g2, g3, rfl, eb, (by (show CDivW _ _); decide +kernel), fun r' x1 x2 x3 r0 r1 => ?_⟩
    replace I := I.upto (up_draw (g' := x1) (m' := x2) (c' := x3) eb)
    clear eb
    generalize upd H26 p _ = H27 at I ⊢
    refine ⟨_, _, rfl, rfl, ?_⟩
    obtain ⟨last, el⟩ : ∃ last : Int, r' - 12 = last := ⟨_, rfl⟩
    refine ⟨_, _, rfl, ?_⟩
    have r1' : r' < 25 := r1
    have l0 : -(10 ^ 30) ≤ last := by omega
    have l1 : last ≤ 10 ^ 30 := by omega
    subst ef
    subst el
    refine ⟨_, rfl, _, rfl, a, m, r * e, rfl, I.sa, hm, f0, f1, fun H28 t S28 St => ?_⟩
    replace I := I.same S28
    refine ⟨_, rfl, _, rfl, a, m, r * e, rfl, I.sa, hm, fun H29 t2 S29 St2 => ?_⟩
    replace I := I.same S29
    refine neT (same_sqt S29 St) St2 ?_
    refine ⟨_, rfl, ?_⟩
    refine ifF (ne_self _) ?_
    refine ⟨_, rfl, _, rfl, a, m, r' - 12, rfl, I.sa, hm, l0, l1, fun H30 t3 S30 St3 => ?_⟩
    replace I := I.same S30
    refine ⟨_, rfl, _, rfl, a, m, r' - 12, rfl, I.sa, hm, fun H31 t4 S31 St4 => ?_⟩
    replace I := I.same S31
    refine neT (same_sqt S31 St3) St4 ?_
    refine ⟨_, rfl, ?_⟩
    refine ifF (ne_self _) ?_
    clear S28 S29 S30 S31 St St2 St3 St4
    refine ⟨_, rfl, _, rfl, a, m, r * e, rfl, I.sa, hm, f0, f1, fun H32 t S32 St => ?_⟩
    replace I := I.same S32
    refine ⟨_, rfl, _, rfl, a, m, r' - 12, rfl, I.sa, hm, l0, l1, fun H33 t2 S33 St2 => ?_⟩
    replace I := I.same S33
    refine ⟨t, t2, pwL m (r * e), pwL m (r' - 12), rfl, same_sqt S33 St, St2, pwL_mv hm _, pwL_mv hm _, by rw [pwL_len, pwL_len], fun H34 t3 S34 St3 => ?_⟩
    replace I := I.same S34
    refine ⟨_, rfl, _, rfl, _, rfl, _, _, rfl, rfl, a, m, r * e + (r' - 12), rfl, I.sa, hm, fun H35 t4 S35 St4 => ?_⟩
    replace I := I.same S35
    replace St3 := same_sqt S35 St3
    rw [pwL_add hm] at St3
    refine eqT St3 St4 ?_
    refine ⟨_, rfl, ?_⟩
    refine ifT (decide_eq_true rfl) ?_
    refine ⟨_, rfl, a, m, 0, rfl, I.sa, hm, by omega, by omega, fun H36 t5 S36 St5 => ?_⟩
    replace I := I.same S36
    replace St5 : SqT K H36 t5 (mv (pwL m 0)) := St5
    rw [pwL_zero] at St5
    refine ⟨_, rfl, eqT St5 I.su ?_⟩
    rw [decide_eq_true rfl]
    exact q _ I.up
end
end K04


set_option Elab.async false
set_option linter.all false
set_option maxRecDepth 100000
set_option maxHeartbeats 2000000
namespace K04
open PySem PySem.Spec PyProof.Rows L2 MM
/-! own words for the readings: a step, its side -/
local macro_rules | `(tactic| walk_at "side") => `(tactic| first
  | omega
  | exact ⟨by omega, by omega⟩
  | exact Or.inl ⟨by omega, by omega⟩
  | exact Or.inr ⟨by omega, by omega⟩
  | (show CPw _ _; decide +kernel)
  | (show (0 : Int) < _; decide +kernel)
  | (show CDivW _ _; first | assumption | exact ⟨by decide, by decide +kernel⟩))
local macro_rules | `(tactic| walk_at "here") => `(tactic| first
  | assumption
  | exact upd_same
  | exact Or.inl (Or.inl upd_same)
  | exact Or.inl upd_same)
local macro_rules | `(tactic| walk_at "one") => `(tactic| first
  | refine ⟨_, rfl, ?_⟩
  | refine Or.inl ⟨_, rfl, ?_⟩
  | refine Or.inr ⟨_, rfl, ?_⟩
  | refine ⟨_, _, rfl, rfl, (by walk_at "side"), ?_⟩
  | refine ⟨_, _, rfl, rfl, ?_⟩
  | refine ⟨_, _, rfl, Or.inl (by walk_at "here"), ?_⟩
  | refine ⟨_, _, rfl, Or.inr (by walk_at "here"), ?_⟩
  | refine ⟨_, _, rfl, (by walk_at "here"), ?_⟩
  | refine ⟨_, _, _, _, rfl, rfl, (by walk_at "here"), rfl, ?_⟩
  | refine ⟨_, _, rfl, ?_⟩
  | refine ifT (by rfl) ?_
  | refine ifF (by rfl) ?_
  | refine ifT (decide_eq_true (by omega)) ?_
  | refine ifF (decide_eq_false (by omega)) ?_)
local macro_rules | `(tactic| walk_at "st") => `(tactic| repeat (walk_at "one"))

section
variable {P : Program} {w : World} {K : PySem.W.Frag} {mg : Str → Option Value} {base : Heap}
theorem dp_refs {H : Hp} {us : List V} {R : List (List Nat)} (h : Refs K H us R) : DpAll K H us (R.map dM) := by
  unfold Refs at h
  induction h with
  | nil => exact .nil
  | cons h _ ih =>
    obtain ⟨a, rfl, S⟩ := h
    exact .cons (dp_mv S) ih
theorem dms_eqv : ∀ R Z : List (List Nat), PyData.eqvAll (R.map dM) (Z.map dM) = decide (R = Z)
  | [], [] => rfl
  | [], _ :: _ => rfl
  | _ :: _, [] => rfl
  | r :: R, z :: Z => by
    show (PyData.eqv (dM r) (dM z) && PyData.eqvAll (R.map dM) (Z.map dM)) = _
    rw [dms_eqv R Z, dM_eqv, ← Bool.decide_and]
    exact decide_eq_decide.mpr (by rw [List.cons.injEq])
theorem lay_dms : ∀ R : List (List Nat), PyData.canLayAll0 (R.map dM) = true
  | [] => rfl
  | r :: R => by
    show (PyData.canLay0 (dM r) && PyData.canLayAll0 (R.map dM)) = true
    rw [lay_dms R, show PyData.canLay0 (dM r) = true from lay_ints _]
    rfl
theorem dep_dms : ∀ R : List (List Nat), PyData.depthAll (R.map dM) ≤ 3
  | [] => by decide
  | r :: R => by
    have := dep_dms R
    have h := dep_ints (r.map fun (k : Nat) => (k : Int))
    have h2 : PyData.depth (dM r) ≤ 2 := by
      unfold dM
      simp only [PyData.depth]
      omega
    simp only [List.map_cons, PyData.depthAll]
    omega
theorem shaped_dms (R : List (List Nat)) : SeqAt.shaped (.tuple (R.map dM)) = true := by
  unfold SeqAt.shaped
  have h := dep_dms R
  rw [show PyData.canLay0 (.tuple (R.map dM)) = true from lay_dms R, Bool.true_and]
  refine decide_eq_true ?_
  simp only [PyData.depth]
  omega
theorem neTT {H : Hp} {a b : Addr} {us vs : List V} {R Z : List (List Nat)} {Q : VK} (S : SqT K H a us) (r : Refs K H us R) (S2 : SqT K H b vs) (r2 : Refs K H vs Z) (q : Q (.bl (!decide (R = Z))) H) : rNeD K (.ref a) (.ref b) H Q :=
  ⟨.tuple (R.map dM), .tuple (Z.map dM), .tup S (dp_refs r), .tup S2 (dp_refs r2), shaped_dms _, shaped_dms _, by
    rw [show PyData.eqv (.tuple (R.map dM)) (.tuple (Z.map dM)) = PyData.eqvAll (R.map dM) (Z.map dM) from rfl, dms_eqv]
    exact q⟩
theorem paired_perm {α β : Type} {P : α → β → Prop} {ys us : List α} (h : ys.Perm us) : ∀ {R : List β}, Paired P us R → ∃ Z, Z.Perm R ∧ Paired P ys Z := by
  induction h with
  | nil =>
    intro R r
    exact ⟨R, .refl _, r⟩
  | cons x _ ih =>
    intro R r
    cases r with
    | cons h1 h2 =>
      obtain ⟨Z, z1, z2⟩ := ih h2
      exact ⟨_ :: Z, List.Perm.cons _ z1, .cons h1 z2⟩
  | swap x y l =>
    intro R r
    cases r with
    | cons h1 h2 =>
      cases h2 with
      | cons h3 h4 => exact ⟨_ :: _ :: _, List.Perm.swap .., .cons h3 (.cons h1 h4)⟩
  | trans _ _ ih1 ih2 =>
    intro R r
    obtain ⟨Z, z1, z2⟩ := ih2 r
    obtain ⟨Y, y1, y2⟩ := ih1 z2
    exact ⟨Y, y1.trans z1, y2⟩
theorem refs_upto {p : Addr} {H H' : Hp} {us : List V} {R : List (List Nat)} (u : Upto p H H') (b : BagAt H p) (h : Refs K H us R) : Refs K H' us R := by
  unfold Refs at h ⊢
  induction h with
  | nil => exact .nil
  | cons h _ ih =>
    obtain ⟨a, e, S⟩ := h
    exact .cons ⟨a, e, up_sqt u b S⟩ ih
theorem lst_upto {p F : Addr} {H H' : Hp} {xs : List V} (u : Upto p H H') (ne : F ≠ p) (e : H F = some (.lst xs)) : H' F = some (.lst xs) := u.same _ _ ne e
structure R5 (K : PySem.W.Frag) (p a R : Addr) (m : List Nat) (us : List V) (H Hn : Hp) : Prop where
  up : Upto p H Hn
  sa : SqT K Hn a (mv m)
  hR : Hn R = some (.lst us)
  rf : Refs K Hn us (rings (fn' m) m.length)
theorem R5.same {p a R : Addr} {m : List Nat} {us : List V} {H Hn H' : Hp} (h : R5 K p a R m us H Hn) (s : Same Hn H') : R5 K p a R m us H H' :=
  ⟨h.up.keep s, same_sqt s h.sa, s _ _ h.hR, h.rf.same s⟩
theorem R5.upto {p a R : Addr} {m : List Nat} {us : List V} {H Hn H' : Hp} (h : R5 K p a R m us H Hn) (n : R ≠ p) (s : Upto p Hn H') : R5 K p a R m us H H' :=
  ⟨h.up.trans s, up_sqt s h.up.bag h.sa, lst_upto s n h.hR, refs_upto s h.up.bag h.rf⟩
structure R6 (K : PySem.W.Frag) (p a t F : Addr) (m : List Nat) (ys vs : List V) (Z R : List (List Nat)) (H Hn : Hp) : Prop where
  up : Upto p H Hn
  sa : SqT K Hn a (mv m)
  lt : Hn t = some (.lst ys)
  rz : Refs K Hn ys Z
  lF : Hn F = some (.lst vs)
  rr : Refs K Hn vs R
theorem R6.same {p a t F : Addr} {m : List Nat} {ys vs : List V} {Z R : List (List Nat)} {H Hn H' : Hp} (h : R6 K p a t F m ys vs Z R H Hn) (s : Same Hn H') : R6 K p a t F m ys vs Z R H H' :=
  ⟨h.up.keep s, same_sqt s h.sa, s _ _ h.lt, h.rz.same s, s _ _ h.lF, h.rr.same s⟩
theorem R6.upto {p a t F : Addr} {m : List Nat} {ys vs : List V} {Z R : List (List Nat)} {H Hn H' : Hp} (h : R6 K p a t F m ys vs Z R H Hn) (n : t ≠ p) (n2 : F ≠ p) (s : Upto p Hn H') : R6 K p a t F m ys vs Z R H H' :=
  ⟨h.up.trans s, up_sqt s h.up.bag h.sa, lst_upto s n h.lt, refs_upto s h.up.bag h.rz, lst_upto s n2 h.lF, refs_upto s h.up.bag h.rr⟩
theorem R6.push {p a t F t7 : Addr} {m r : List Nat} {ys vs : List V} {Z R : List (List Nat)} {H Hn : Hp} (h : R6 K p a t F m ys vs Z R H Hn) (tF : t ≠ F) (Fp : F ≠ p) (fF : H F = none) (S : SqT K Hn t7 (mv r)) :
    R6 K p a t F m ys (vs ++ [.ref t7]) Z (R ++ [r]) H (upd Hn F (.lst (vs ++ [.ref t7]))) :=
  ⟨h.up.put Fp fF, sqt_lst h.sa h.lF, (upd_ne tF).trans h.lt, h.rz.upd h.lF, upd_same, (h.rr.upd h.lF).snoc (sqt_lst S h.lF)⟩
theorem ite_both {c : Bool} {A B G : Prop} (ha : c = true → G → A) (hb : ¬ c = true → G → B) (g : G) : if c = true then A else B := by
  by_cases h : c = true
  · rw [if_pos h]
    exact ha h g
  · rw [if_neg h]
    exact hb h g
def spRingsRight (K : PySem.W.Frag) : Sp := fun vs H Q _ => ∃ (p a : Addr) (m : List Nat), vs = [.ref p, .ref a] ∧ BagAt H p ∧ SqT K H a (mv m) ∧ Mv m ∧ ∀ H', Upto p H H' → Q (.bl true) H'
theorem scRingsRightL : FnScope ["_law_bag_here", "_law_move", "_law_due", "_law_places", "_law_ring", "_law_mixed_here", "_law_at"] ["_law_bag_here", "_law_move"] (defScope sRingsRightL) :=
  ⟨rfl, rfl, rfl, by decide +kernel, rfl, by decide +kernel, by decide +kernel⟩
theorem dRingsRightL (T : Tx K mg) (DOwnRingsL : Def P w K mg base CX0 1 "_law_own_rings" ["_law_move"] (spOwn K)) (DStillPlaces : Def P w K mg base CX0 5 "still_places" ["move"] (spStill K)) (DCycles : Def P w K mg base CX0 5 "cycles" ["move"] (spCyc K)) (DSignOf : Def P w K mg base CX0 5 "sign_of" ["move"] (spSign K)) (DMoveOfCycles : Def P w K mg base CX0 5 "move_of_cycles" ["places", "rings"] (spMoveOf K)) (DMixedL : Def P w K mg base CX0 2 "_law_mixed" ["_law_bag_here", "_law_items"] (spMixed K)) (DGrabL : Def P w K mg base CX0 1 "_law_grab" ["_law_bag_here", "_law_total"] spGrab) : Def P w K mg base CX0 6 "_law_rings_right" ["_law_bag_here", "_law_move"] (spRingsRight K) := by
  refine T.t_law_rings_right.def_ (N := ["_law_bag_here", "_law_move", "_law_due", "_law_places", "_law_ring", "_law_mixed_here", "_law_at"]) scRingsRightL (fun _ _ _ _ _ _ us hl => match us, hl with | [_, _], _ => rfl) ?_ ?_
  · intro vs H Q E h
    obtain ⟨p, a, m, rfl, _⟩ := h
    rfl
  · intro f cd A out s H vs Q E hr h
    have hr1 : Rm 5 _ := hr.le (by decide)
    obtain ⟨p, a, m, rfl, hb, Sa, hm, q⟩ := h
    refine ⟨_, (pss_cons (ps_par (i := 2) (j := 3) rfl scRingsRightL.nd rfl rfl (by decide) rfl rfl (pa_cons (pe_d DOwnRingsL (hr1.le (by decide)) pass0 (pa_cons (pv 1) pa_nil)) (pa_cons (pe_callB call_len_seq rfl T.f_len (by decide +kernel) (pa_cons (pv 1) pa_nil)) pa_nil)) (by rfl))
      (pss_cons (ps_if (PW.pt (pw_or (pt_cmpR (op_neD hr.hu) (pe_d DCycles (hr1.le (by decide)) pass0 (pa_cons (pv 1) pa_nil)) (pe_callTy call_tuple_of rfl T.f_tuple (by decide +kernel) (pa_cons (pv 2) pa_nil)) (nomark _)) (pw_or1 (pt_cmpR (op_neD hr.hu) (pe_d DStillPlaces (hr1.le (by decide)) pass0 (pa_cons (pv 1) pa_nil)) (pe_callTy call_tuple_of rfl T.f_tuple (by decide +kernel) (pa_cons (pe_lc (own := [("_law_ring", 4)]) (g := gName 4) rfl scRingsRightL.nd (pi_list (pv 2)) (blkOk_by (N := ["_law_bag_here", "_law_move", "_law_due", "_law_places", "_law_ring", "_law_mixed_here", "_law_at"]) (sc := defScope sRingsRightL) (by decide +kernel)) (fun _ _ _ _ _ => pg_name (i := 4) scRingsRightL.nd rfl (Or.inl rfl)) (fun _ _ _ _ _ => (pts_one (pt_cmpR op_eq (pe_callB (cr_lenK (K := K) rfl) rfl T.f_len (by decide +kernel) (pa_cons (pv 4) pa_nil)) pe_int (nomark _)))) (fun _ _ _ _ _ => (pe_ix (show IxR _ (rIxT K) from ix_tup) (pv 4) pe_int (fun _ _ => rfl)))) pa_nil)) (nomark _))))) (pss_one (ps_ret pe_bl)) pss_nil)
      (pss_cons (ps_if (PW.pt (pw_or (pt_cmpR (op_neD hr.hu) (pe_d DMoveOfCycles (hr1.le (by decide)) pass0 (pa_cons (pv 3) (pa_cons (pe_callTy call_tuple_of rfl T.f_tuple (by decide +kernel) (pa_cons (pv 2) pa_nil)) pa_nil))) (pv 1) (nomark _)) (pw_or1 (pt_cmpR op_ne (pe_d DSignOf (hr1.le (by decide)) pass0 (pa_cons (pv 1) pa_nil)) (pe_ifExp (pt_cmpR op_eq (pe_op op_mod (pe_op op_sub (pv 3) (pe_callB call_len_seq rfl T.f_len (by decide +kernel) (pa_cons (pv 2) pa_nil))) pe_int) pe_int (nomark _)) pe_int (pe_un un_neg pe_int)) (nomark _))))) (pss_one (ps_ret pe_bl)) pss_nil)
      (pss_cons (ps_set (i := 5) scRingsRightL.nd rfl (Or.inl rfl) (pe_lst pa_nil))
      (pss_cons (ps_for PassesOwn.never rfl (pi_list (pe_d DMixedL (hr1.le (by decide)) pass0 (pa_cons (pv 0) (pa_cons (pv 2) pa_nil)))) (pg_name (i := 4) scRingsRightL.nd rfl (Or.inl rfl))
        (pss_cons (ps_set (i := 6) scRingsRightL.nd rfl (Or.inl rfl) (pe_d DGrabL (hr1.le (by decide)) pass0 (pa_cons (pv 0) (pa_cons (pe_callB call_len_seq rfl T.f_len (by decide +kernel) (pa_cons (pv 4) pa_nil)) pa_nil))))
        (pss_one (ps_if (PW.pt (pw_or (pt_cmpR op_gt (pe_callB call_len_seq rfl T.f_len (by decide +kernel) (pa_cons (pv 4) pa_nil)) pe_int (nomark _)) (pw_or1 (pt_cmpR op_eq (pe_d DGrabL (hr1.le (by decide)) pass0 (pa_cons (pv 0) (pa_cons pe_int pa_nil))) pe_int (nomark _))))) (pss_one (ps_expr (pe_bm PySem.F.plainAttrs_list PySem.F.slot_list_append PySem.F.type_list_append mt_append (pv 5) (pa_cons (pe_op op_catA (pe_slice sl_tupA (pv 4) (po_some (pv 6)) po_none) (pe_slice sl_tupA (pv 4) po_none (po_some (pv 6)))) pa_nil)))) pss_nil))))
      (pss_one (ps_ret (pe_cmpR (op_eqD hr.hu) (pe_d DMoveOfCycles (hr1.le (by decide)) pass0 (pa_cons (pv 3) (pa_cons (pe_callTy call_tuple_of rfl T.f_tuple (by decide +kernel) (pa_cons (pv 5) pa_nil)) pa_nil))) (pv 1) (nomark _))))))))), ?_⟩
    have m24 := hm.2.2.2
    have m1 := hm.2.2.1
    have pm := pm_of hm
    refine ⟨_, rfl, a, m, rfl, Sa, hm, fun H1 R us S1 fR hR rf => ?_⟩
    have Rp : R ≠ p := by
      obtain ⟨x, y, z, e⟩ := id hb
      exact (ne_of_none e fR).symm
    have up := up_same hb S1
    replace Sa := same_sqt S1 Sa
    clear S1 fR
    have I : R5 K p a R m us H H1 := ⟨up, Sa, hR, rf⟩
    clear up Sa hR rf
    have lus : us.length = (rings (fn' m) m.length).length := Paired.length I.rf
    have lle : (rings (fn' m) m.length).length ≤ m.length := ringsTo_len _ _ _
    refine ⟨_, rfl, a, _, rfl, .inr I.sa, ?_⟩
    refine ⟨_, _, rfl, ?_⟩
    rw [mv_len]
    refine ⟨_, rfl, a, m, rfl, I.sa, hm, fun H2 t us2 S2 St rt => ?_⟩
    replace I := I.same S2
    refine ⟨_, rfl, R, _, rfl, .inl ⟨.inl (.inl I.hR), fun t2 ft => ?_⟩⟩
    have St2 : SqT K (upd H2 t2 (.tup us)) t2 us := .inl (.inl upd_same)
    replace I := I.same (same_new (o := .tup us) ft)
    refine neTT (sqt_new St ft) (rt.same (same_new ft)) St2 I.rf ?_
    refine ⟨_, rfl, ?_⟩
    refine ifF (by rw [decide_eq_true rfl]; rfl) ?_
    clear St St2 rt
    generalize upd H2 t2 _ = H3 at I ⊢
    refine ⟨_, rfl, a, m, rfl, I.sa, hm, fun H4 t S4 St => ?_⟩
    replace I := I.same S4
    refine ⟨_, rfl, R, rfl, ⟨_, .inl (.inl I.hR)⟩, fun D nD => ?_⟩
    have hRL : SqL K H4 R us := .inl (.inl I.hR)
    refine lc_list (xs := us) (Pv := fun i H3 => H3 = upd H4 D (.lst (mv ((((rings (fn' m) m.length).take i).filter fun r => decide (r.length = 1)).map fun r => r.getD 0 0)))) rfl (fun i H3 _ e => by rw [e]; exact sql_new hRL nD) ?_ ?_
    · intro i x H5 hx e
      subst e
      obtain ⟨r, t, hr, rfl, Sr⟩ := I.rf.get hx
      have il : i < m.length := by
        have := (List.getElem?_eq_some_iff.mp hx).1
        omega
      have r1 := (len_in pm (List.mem_of_getElem? hr)).1
      refine ⟨wipe_one, ?_⟩
      have Sr2 := sqt_new (o := .lst (mv ((((rings (fn' m) m.length).take i).filter fun r => decide (r.length = 1)).map fun r => r.getD 0 0))) Sr nD
      refine ⟨_, rfl, t, _, rfl, .inr Sr2, rfl, _, rfl, ?_⟩
      have dd : decide (V.int ((mv r).length : Int) = V.int 1) = decide (r.length = 1) := by
        rw [dInt, mv_len]
        exact decide_eq_decide.mpr (by omega)
      rw [dd]
      have st : (((rings (fn' m) m.length).take (i + 1)).filter fun r => decide (r.length = 1)) = (((rings (fn' m) m.length).take i).filter fun r => decide (r.length = 1)) ++ if r.length = 1 then [r] else [] := by
        rw [List.take_add_one, hr, List.filter_append]
        congr 1
        by_cases c : r.length = 1
        · rw [if_pos c]
          simp [c]
        · rw [if_neg c]
          simp [c]
      by_cases c : r.length = 1
      · refine ifT (decide_eq_true c) ?_
        refine ⟨_, rfl, t, _, _, _, rfl, rfl, Sr2, mv_at (k := 0) (by omega), _, upd_same, ?_, ?_⟩
        · rw [mv_len, List.length_map]
          refine Nat.lt_of_le_of_lt (Nat.le_trans (List.length_filter_le _ _) ?_ : _ ≤ 1000) (by decide)
          rw [List.length_take]
          omega
        · rw [upd_upd, st, if_pos c, List.map_append, mv_app]
          rfl
      · refine ifF (decide_eq_false c) ?_
        rw [st, if_neg c, List.append_nil]
    rintro H5 rfl
    rw [lus, List.take_length, show (((rings (fn' m) m.length).filter fun r => decide (r.length = 1)).map fun r => r.getD 0 0) = stillOf m from stills pm m.length (Nat.le_refl _)]
    replace I := I.same (same_new (o := .lst (mv (stillOf m))) nD)
    refine ⟨D, _, rfl, .inl ⟨.inl (.inl upd_same), fun t3 ft => ?_⟩⟩
    have St3 : SqT K (upd (upd H4 D (.lst (mv (stillOf m)))) t3 (.tup (mv (stillOf m)))) t3 (mv (stillOf m)) := .inl (.inl upd_same)
    replace I := I.same (same_new (o := .tup (mv (stillOf m))) ft)
    refine neT (sqt_new (sqt_new St nD) ft) St3 ?_
    refine ⟨_, rfl, ?_⟩
    refine ifF (ne_self _) ?_
    clear St St3 hRL
    generalize upd (upd H4 D _) t3 _ = H6 at I ⊢
    -- moves by their rings
    refine ⟨_, rfl, _, rfl, R, _, rfl, .inl ⟨.inl (.inl I.hR), fun t ft => ?_⟩⟩
    have St : SqT K (upd H6 t (.tup us)) t us := .inl (.inl upd_same)
    replace I := I.same (same_new (o := .tup us) ft)
    refine ⟨m.length, t, us, _, fn' m, rfl, St, I.rf, rings_ok pm, goes_rings pm, m1, m24, fun H7 t2 S7 St2 => ?_⟩
    replace I := I.same S7
    rw [← mv_map] at St2
    refine ⟨_, rfl, neT St2 I.sa ?_⟩
    refine ⟨_, rfl, ?_⟩
    refine ifF (ne_self _) ?_
    clear St St2
    refine ⟨_, rfl, a, m, rfl, I.sa, hm, fun H8 S8 => ?_⟩
    replace I := I.same S8
    refine ⟨_, rfl, _, rfl, R, _, rfl, .inl (.inl (.inl I.hR)), _, _, rfl, rfl, _, _, rfl, rfl, (by show (0 : Int) < 2; decide), rfl, _, rfl, ?_⟩
    rw [lus]
    have key : ∀ A B : Prop, (A → B) → (∀ d : Bool, d = decide (V.int (((m.length : Int) - ((rings (fn' m) m.length).length : Int)) % 2) = V.int 0) → evenS (m.length - (rings (fn' m) m.length).length) = if d = true then 1 else -1) := by
      intro _ _ _ d hd
      rw [hd, dInt]
      unfold evenS
      by_cases c : (m.length - (rings (fn' m) m.length).length) % 2 = 0
      · rw [if_pos c, if_pos (decide_eq_true (by omega))]
      · rw [if_neg c, if_neg (by rw [decide_eq_false (by omega)]; exact Bool.false_ne_true)]
    have ev := key True True id _ rfl
    clear key
    generalize H8 = H9 at I ⊢
    have tail : ∀ i : Int, i = evenS (m.length - (rings (fn' m) m.length).length) → (!decide (V.int (evenS (m.length - (rings (fn' m) m.length).length)) = V.int i)) = false := fun i h => by rw [h]; exact ne_self' _
    refine ite_both (fun d go => ⟨rfl, _, rfl, ifF (tail 1 (by rw [ev, if_pos d])) go⟩) (fun d go => ⟨_, rfl, rfl, _, rfl, ifF (tail (-1) (by rw [ev, if_neg d])) go⟩) ?_
    clear tail ev
    -- rings begun elsewhere
    refine ⟨by (show 0 ≤ sizeLine); decide, fun F fF => ?_⟩
    obtain ⟨Fp, fF0⟩ := I.up.free fF
    have hF : (upd H9 F (.lst [])) F = some (.lst []) := upd_same
    replace I := I.same (same_new (o := .lst []) fF)
    generalize upd H9 F _ = H10 at I hF ⊢
    refine ⟨_, rfl, _, rfl, p, R, us, rfl, I.up.bag, .inl (.inl I.hR), Rp, by omega, fun H11 t ys up11 ft pmy hy => ?_⟩
    obtain ⟨Z, zp, rz⟩ := paired_perm pmy I.rf
    replace rz : Refs K H10 ys Z := rz
    have tF : t ≠ F := (ne_of_none hF ft).symm
    have tp : t ≠ p := by
      obtain ⟨x, y, z, e⟩ := I.up.bag
      exact (ne_of_none e ft).symm
    have J : R6 K p a t F m ys [] Z [] H H11 := ⟨I.up.trans up11, up_sqt up11 I.up.bag I.sa, hy, refs_upto up11 I.up.bag rz, lst_upto up11 Fp hF, .nil⟩
    have lys : ys.length = us.length := pmy.length_eq
    have lz : ys.length = Z.length := Paired.length rz
    clear rz hF hy ft up11 I
    refine ⟨t, rfl, ⟨_, .inl (.inl J.lt)⟩, for_list (K := K) (a := t) (xs := ys) (fun i σ H3 => ∃ (vs : List V) (R' : List (List Nat)), R6 K p a t F m ys vs Z R' H H3 ∧ Bent (Z.take i) R' ∧ ∃ x y, σ = [some (.ref p), some (.ref a), some (.ref R), some (.int (m.length : Int)), x, some (.ref F), y])
      ⟨[], [], J, .nil, _, _, rfl⟩ (fun i σ H3 _ h => by obtain ⟨_, _, h, _⟩ := h; exact .inl (.inl h.lt)) ?_ ?_⟩
    · rintro i x σ H3 hx ⟨vs, R', J, be, x1, y1, rfl⟩
      obtain ⟨r, tr, hr, rfl, St⟩ := J.rz.get hx
      have r1 := len_in pm (zp.mem_iff.mp (List.mem_of_getElem? hr))
      obtain ⟨g1, g2, g3, eb⟩ := J.up.bag
      refine ⟨_, rfl, _, rfl, tr, _, rfl, .inr St, p, _, g1, g2, g3, rfl, eb, div_small (by rw [mv_len]; omega) (by rw [mv_len]; omega), fun at_ x1 x2 x3 a0 a1 => ?_⟩
      have ud := up_draw (g' := x1) (m' := x2) (c' := x3) eb
      replace St := up_sqt ud J.up.bag St
      replace J := J.upto tp Fp ud
      clear ud eb
      generalize upd H3 p _ = H4 at J St ⊢
      obtain ⟨k, rfl⟩ : ∃ k : Nat, at_ = (k : Int) := ⟨at_.toNat, by omega⟩
      rw [mv_len] at a1
      have kr : k < r.length := by omega
      have lvs : vs.length ≤ 1000 := by
        have h1 : vs.length = R'.length := Paired.length J.rr
        have h2 := be.len
        rw [List.length_take] at h2
        omega
      refine ⟨_, rfl, tr, _, rfl, .inr St, _, _, rfl, rfl, _, rfl, ?_⟩
      by_cases c : 1 < r.length
      · refine ifT (decide_eq_true (by rw [mv_len]; omega)) ?_
        refine ⟨_, rfl, .inl ⟨rfl, _, .inl (.inl J.lF)⟩, _, rfl, _, rfl, _, rfl, ?_⟩
        simp only [tNoPart]
        refine slA St fun H5 t5 S5 St5 => ?_
        rw [cut_drop (Nat.le_of_lt kr)] at St5
        replace J := J.same S5
        replace St := same_sqt S5 St
        refine ⟨_, rfl, _, rfl, _, rfl, slA St fun H6 t6 S6 St6 => ?_⟩
        rw [cut_take (Nat.le_of_lt kr)] at St6
        replace J := J.same S6
        replace St5 := same_sqt S6 St5
        refine catA St5 St6 (by rw [mv_len, mv_len, List.length_drop, List.length_take]; exact Nat.le_of_lt (small1000 (by omega))) fun H7 t7 S7 St7 => ?_
        replace J := J.same S7
        rw [← mv_app] at St7
        refine ⟨F, _, _, rfl, rfl, J.lF, Nat.lt_of_le_of_lt lvs (by decide), vs ++ [.ref t7], _, J.push tF Fp fF0 St7, ?_, _, _, rfl⟩
        rw [List.take_add_one, hr]
        exact .keep be kr
      · refine ifF (decide_eq_false (by rw [mv_len]; omega)) ?_
        obtain ⟨g1, g2, g3, eb⟩ := J.up.bag
        refine ⟨_, rfl, p, _, g1, g2, g3, rfl, eb, ⟨by decide, by decide⟩, fun b2 x1 x2 x3 b0 b1 => ?_⟩
        have ud := up_draw (g' := x1) (m' := x2) (c' := x3) eb
        replace St := up_sqt ud J.up.bag St
        replace J := J.upto tp Fp ud
        clear ud eb
        generalize upd H4 p _ = H8 at J St ⊢
        refine ⟨rfl, _, rfl, ?_⟩
        refine ite2 (fun d => ?_) (fun d => ?_)
        · skip
          refine ⟨_, rfl, .inl ⟨rfl, _, .inl (.inl J.lF)⟩, _, rfl, _, rfl, _, rfl, ?_⟩
          simp only [tNoPart]
          refine slA St fun H5 t5 S5 St5 => ?_
          rw [cut_drop (Nat.le_of_lt kr)] at St5
          replace J := J.same S5
          replace St := same_sqt S5 St
          refine ⟨_, rfl, _, rfl, _, rfl, slA St fun H6 t6 S6 St6 => ?_⟩
          rw [cut_take (Nat.le_of_lt kr)] at St6
          replace J := J.same S6
          replace St5 := same_sqt S6 St5
          refine catA St5 St6 (by rw [mv_len, mv_len, List.length_drop, List.length_take]; exact Nat.le_of_lt (small1000 (by omega))) fun H7 t7 S7 St7 => ?_
          replace J := J.same S7
          rw [← mv_app] at St7
          refine ⟨F, _, _, rfl, rfl, J.lF, Nat.lt_of_le_of_lt lvs (by decide), vs ++ [.ref t7], _, J.push tF Fp fF0 St7, ?_, _, _, rfl⟩
          rw [List.take_add_one, hr]
          exact .keep be kr
        · refine ⟨vs, R', J, ?_, _, _, rfl⟩
          rw [List.take_add_one, hr]
          exact .skip be (by omega)
    · rintro σ H3 ⟨vs, R', J, be, x, y, rfl⟩
      rw [lz, List.take_length] at be
      obtain ⟨b1, b2⟩ := bent_ok pm zp be
      refine ⟨_, rfl, _, rfl, F, _, rfl, .inl ⟨.inl (.inl J.lF), fun t2 ft => ?_⟩⟩
      have St : SqT K (upd H3 t2 (.tup vs)) t2 vs := .inl (.inl upd_same)
      replace J := J.same (same_new (o := .tup vs) ft)
      refine ⟨m.length, t2, vs, R', fn' m, rfl, St, J.rr, b1, b2, m1, m24, fun H7 t3 S7 St3 => ?_⟩
      replace J := J.same S7
      rw [← mv_map] at St3
      refine ⟨_, rfl, eqT St3 J.sa ?_⟩
      rw [decide_eq_true rfl]
      exact q _ J.up
end
end K04


set_option Elab.async false
set_option linter.all false
set_option maxRecDepth 100000
set_option maxHeartbeats 2000000
namespace K04
open PySem PySem.Spec PyProof.Rows L2 MM
/-! own words for the readings: a step, its side -/
local macro_rules | `(tactic| walk_at "side") => `(tactic| first
  | omega
  | exact ⟨by omega, by omega⟩
  | exact Or.inl ⟨by omega, by omega⟩
  | exact Or.inr ⟨by omega, by omega⟩
  | (show CPw _ _; decide +kernel)
  | (show (0 : Int) < _; decide +kernel)
  | (show CDivW _ _; first | assumption | exact ⟨by decide, by decide +kernel⟩))
local macro_rules | `(tactic| walk_at "here") => `(tactic| first
  | assumption
  | exact upd_same
  | exact Or.inl (Or.inl upd_same)
  | exact Or.inl upd_same)
local macro_rules | `(tactic| walk_at "one") => `(tactic| first
  | refine ⟨_, rfl, ?_⟩
  | refine Or.inl ⟨_, rfl, ?_⟩
  | refine Or.inr ⟨_, rfl, ?_⟩
  | refine ⟨_, _, rfl, rfl, (by walk_at "side"), ?_⟩
  | refine ⟨_, _, rfl, rfl, ?_⟩
  | refine ⟨_, _, rfl, Or.inl (by walk_at "here"), ?_⟩
  | refine ⟨_, _, rfl, Or.inr (by walk_at "here"), ?_⟩
  | refine ⟨_, _, rfl, (by walk_at "here"), ?_⟩
  | refine ⟨_, _, _, _, rfl, rfl, (by walk_at "here"), rfl, ?_⟩
  | refine ⟨_, _, rfl, ?_⟩
  | refine ifT (by rfl) ?_
  | refine ifF (by rfl) ?_
  | refine ifT (decide_eq_true (by omega)) ?_
  | refine ifF (decide_eq_false (by omega)) ?_)
local macro_rules | `(tactic| walk_at "st") => `(tactic| repeat (walk_at "one"))

section
variable {P : Program} {w : World} {K : PySem.W.Frag} {mg : Str → Option Value} {base : Heap}
theorem Rv.same {H H' : Hp} {x : V} {o : Option (List V)} (h : Rv K H x o) (s : Same H H') : Rv K H' x o := by
  cases h with
  | no h ne => exact .no (h.same s) ne
  | yes h m => exact .yes (same_sqt s h) fun y hy => let ⟨n, k⟩ := m y hy; ⟨n, k.same s⟩
/-- values that are no moves of n places -/
def Bad (K : PySem.W.Frag) (n : Nat) (H : Hp) (x : V) : Prop := ∃ o, Rv K H x o ∧ isArr n o = false
def Bads (K : PySem.W.Frag) (n : Nat) (H : Hp) (vs : List V) : Prop := ∀ x ∈ vs, Bad K n H x
theorem Bads.same {n : Nat} {H H' : Hp} {vs : List V} (h : Bads K n H vs) (s : Same H H') : Bads K n H' vs := fun x hx =>
  let ⟨o, r, e⟩ := h x hx
  ⟨o, r.same s, e⟩
theorem Bads.snoc {n : Nat} {H : Hp} {vs : List V} {x : V} (h : Bads K n H vs) (b : Bad K n H x) : Bads K n H (vs ++ [x]) := fun y hy => by
  rcases List.mem_append.mp hy with z | z
  · exact h y z
  · rw [List.mem_singleton.mp z]
    exact b
theorem Bads.nil {n : Nat} {H : Hp} : Bads K n H [] := fun x hx => by cases hx
theorem bad_kd {n : Nat} {H : Hp} {x : V} {k : Kn} (h : Kd K H x k) (ne : k.isa .tup = false) : Bad K n H x := ⟨none, .no h ne, rfl⟩
theorem bad_len {n : Nat} {H : Hp} {a : Addr} {xs : List V} (S : SqT K H a xs) (m : ∀ y, y ∈ xs → ∃ k, Kd K H y k) (ne : xs.length ≠ n) : Bad K n H (.ref a) :=
  ⟨some xs, .yes S m, by rw [isArr_some, decide_eq_false ne]; rfl⟩
theorem bad_mem {n : Nat} {H : Hp} {a : Addr} {xs : List V} {x : V} (S : SqT K H a xs) (m : ∀ y, y ∈ xs → ∃ k, Kd K H y k) (hx : x ∈ xs) (no : isB x 0 ((n : Int) - 1) = false) : Bad K n H (.ref a) := by
  refine ⟨some xs, .yes S m, ?_⟩
  rw [isArr_some]
  have : (xs.map fun x => isB x 0 ((n : Int) - 1)).all id = false := by
    rw [List.all_map, List.all_eq_false]
    exact ⟨x, hx, by simp [no]⟩
  rw [this]
  simp
theorem kd_mv {H : Hp} (l : List Nat) : ∀ y, y ∈ mv l → ∃ k, Kd K H y k := fun y hy => by
  obtain ⟨k, _, rfl⟩ := List.mem_map.mp hy
  exact ⟨_, .int _⟩
theorem kd_mid {H : Hp} {A B : List Nat} {x : V} (h : ∃ k, Kd K H x k) : ∀ y, y ∈ mv A ++ [x] ++ mv B → ∃ k, Kd K H y k := fun y hy => by
  rcases List.mem_append.mp hy with z | z
  · rcases List.mem_append.mp z with z | z
    · exact kd_mv A y z
    · rw [List.mem_singleton.mp z]
      exact h
  · exact kd_mv B y z
theorem bad_mid {n : Nat} {H : Hp} {a : Addr} {A B : List Nat} {x : V} {k : Kn} (S : SqT K H a (mv A ++ [x] ++ mv B)) (h : Kd K H x k) (no : isB x 0 ((n : Int) - 1) = false) : Bad K n H (.ref a) :=
  bad_mem S (kd_mid ⟨_, h⟩) (x := x) (by simp) no
theorem isB_no {i l h : Int} (c : ¬ (l ≤ i ∧ i ≤ h)) : isB (.int i) l h = false := by
  show (decide (l ≤ i) && decide (i ≤ h)) = false
  by_cases a : l ≤ i
  · rw [decide_eq_false (fun b => c ⟨a, b⟩), Bool.and_false]
  · rw [decide_eq_false a, Bool.false_and]
theorem mid_ok {a : Addr} {m : List Nat} {k : Nat} {x : V} {tx : TE} {σ : L2.St} {H : Hp} {Q : VK} (e1 : σ[1]? = some (some (.ref a))) (e3 : σ[3]? = some (some (.int (k : Int)))) (S : SqT K H a (mv m)) (kr : k < m.length) (m24 : m.length ≤ 24)
    (hx : ∀ (H' : Hp) (Q' : VK), Same H H' → Q' x H' → tx σ H' Q') (q : ∀ H' t, Same H H' → SqT K H' t (mv (m.take k) ++ [x] ++ mv (m.drop (k + 1))) → Q (.ref t) H') :
    tOp (rCatA K) (tOp (rCatA K) (tSl (rSlA K) (tVar 1) tNoPart (tPart (tVar 3))) (tTup (tCons tx tNil))) (tSl (rSlA K) (tVar 1) (tPart (tOp (rI0 fun i j => V.int (i + j)) (tVar 3) (tC (V.int 1)))) tNoPart) σ H Q := by
  refine ⟨_, e1, _, e3, _, rfl, slA S fun H2 t2 S2 St2 => ?_⟩
  rw [cut_take (Nat.le_of_lt kr)] at St2
  refine hx _ _ S2 ?_
  refine ⟨by (show 1 ≤ sizeLine); decide, fun t3 f3 => ?_⟩
  have St3 : SqT K (upd H2 t3 (.tup [x])) t3 [x] := .inl (.inl upd_same)
  refine catA (sqt_new St2 f3) St3 ?_ fun H4 t4 S4 St4 => ?_
  · rw [mv_len, List.length_take]
    exact Nat.le_of_lt (small1000 (by show _ + 1 ≤ _; omega))
  have S5 := (S2.trans (same_new f3)).trans S4
  refine ⟨_, e1, _, e3, _, _, rfl, rfl, _, rfl, ?_⟩
  simp only [tNoPart]
  have ek : (k : Int) + 1 = ((k + 1 : Nat) : Int) := by omega
  rw [ek]
  refine slA (same_sqt S5 S) fun H6 t6 S6 St6 => ?_
  rw [cut_drop (by omega)] at St6
  refine catA (same_sqt S6 St4) St6 ?_ fun H7 t7 S7 St7 => q _ _ ((S5.trans S6).trans S7) St7
  · rw [List.length_append, mv_len, mv_len, List.length_take, List.length_drop]
    exact Nat.le_of_lt (small1000 (by show _ + 1 + _ ≤ _; omega))
theorem tif_ok {c : Bool} {ta tb : TE} {σ : L2.St} {H : Hp} {Q : VK} {G : Hp → Addr → Prop} (ha : c = true → ∀ Q' : VK, (∀ H' t, Same H H' → G H' t → Q' (.ref t) H') → ta σ H Q')
    (hb : ¬ c = true → ∀ Q' : VK, (∀ H' t, Same H H' → G H' t → Q' (.ref t) H') → tb σ H Q') (q : ∀ H' t, Same H H' → G H' t → Q (.ref t) H') : if c = true then ta σ H Q else tb σ H Q := by
  by_cases h : c = true
  · rw [if_pos h]
    exact ha h Q q
  · rw [if_neg h]
    exact hb h Q q
theorem bad_dup {n : Nat} {H : Hp} {a : Addr} {l : List Nat} (S : SqT K H a (mv l)) (nd : ¬ l.Nodup) : Bad K n H (.ref a) := by
  refine ⟨some (mv l), .yes S (kd_mv l), ?_⟩
  rw [isArr_some]
  have e : (mv l).map toI = l.map fun (k : Nat) => (k : Int) := by
    unfold mv
    rw [List.map_map]
    rfl
  have : ¬ ((mv l).map toI).Nodup := fun h => nd (by
    rw [e, List.Nodup, List.pairwise_map] at h
    refine List.Pairwise.imp ?_ h
    intro a b z y
    exact z (by rw [y]))
  rw [decide_eq_false this, Bool.and_false, Bool.and_false]
def spJudged (K : PySem.W.Frag) : Sp := fun vs H Q _ => ∃ (p a : Addr) (m : List Nat), vs = [.ref p, .ref a] ∧ BagAt H p ∧ SqT K H a (mv m) ∧ Mv m ∧ ∀ H', Upto p H H' → Q (.bl true) H'
theorem scJudgedRightL : FnScope ["_law_bag_here", "_law_move", "_law_places", "_law_at", "_law_bent", "_law_odd", "_law_one", "_law_value"] ["_law_bag_here", "_law_move"] (defScope sJudgedRightL) :=
  ⟨rfl, rfl, rfl, by decide +kernel, rfl, by decide +kernel, by decide +kernel⟩
theorem dJudgedRightL (T : Tx K mg) (DGrabL : Def P w K mg base CX0 1 "_law_grab" ["_law_bag_here", "_law_total"] spGrab) (DIsMove : Def P w K mg base CX0 5 "is_move" ["places", "value"] (spIsMove K)) : Def P w K mg base CX0 6 "_law_judged_right" ["_law_bag_here", "_law_move"] (spJudged K) := by
  refine T.t_law_judged_right.def_ (N := ["_law_bag_here", "_law_move", "_law_places", "_law_at", "_law_bent", "_law_odd", "_law_one", "_law_value"]) scJudgedRightL (fun _ _ _ _ _ _ us hl => match us, hl with | [_, _], _ => rfl) ?_ ?_
  · intro vs H Q E h
    obtain ⟨p, a, m, rfl, _⟩ := h
    rfl
  · intro f cd A out s H vs Q E hr h
    have hr1 : Rm 5 _ := hr.le (by decide)
    obtain ⟨p, a, m, rfl, hb, Sa, hm, q⟩ := h
    refine ⟨_, (pss_cons (ps_asg (pe_tup (pa_cons (pe_callB call_len_seq rfl T.f_len (by decide +kernel) (pa_cons (pv 1) pa_nil)) (pa_cons (pe_d DGrabL (hr1.le (by decide)) pass0 (pa_cons (pv 0) (pa_cons (pe_callB call_len_seq rfl T.f_len (by decide +kernel) (pa_cons (pv 1) pa_nil)) pa_nil))) pa_nil))) (pg_tup rfl (pgs_cons (pg_name (i := 2) scJudgedRightL.nd rfl (Or.inr rfl)) (pgs_cons (pg_name (i := 3) scJudgedRightL.nd rfl (Or.inl rfl)) pgs_nil))))
      (pss_cons (ps_set (i := 4) scJudgedRightL.nd rfl (Or.inl rfl) (pe_op op_catA (pe_op op_catA (pe_slice sl_tupA (pv 1) po_none (po_some (pv 3))) (pe_tup (pa_cons (pv 2) pa_nil))) (pe_slice sl_tupA (pv 1) (po_some (pe_op op_add (pv 3) pe_int)) po_none)))
      (pss_cons (ps_set (i := 5) scJudgedRightL.nd rfl (Or.inl rfl) (pe_lst (pa_cons (pv 4) (pa_cons (pe_callTy call_list_of rfl T.f_list (by decide +kernel) (pa_cons (pv 1) pa_nil)) (pa_cons (pe_op op_catA (pv 1) (pe_tup (pa_cons (pv 2) pa_nil))) (pa_cons (pe_slice sl_tupA (pv 1) po_none (po_some (pe_un un_neg pe_int))) (pa_cons pe_non (pa_cons pe_int (pa_cons pe_str (pa_cons pe_dnewK (pa_cons (pe_tup (pa_cons (pv 1) pa_nil)) (pa_cons (pe_op op_catA (pe_op op_catA (pe_slice sl_tupA (pv 1) po_none (po_some (pv 3))) (pe_tup (pa_cons (pe_un un_neg pe_int) pa_nil))) (pe_slice sl_tupA (pv 1) (po_some (pe_op op_add (pv 3) pe_int)) po_none)) (pa_cons (pe_callTy call_tuple_of rfl T.f_tuple (by decide +kernel) (pa_cons (pe_lc (own := [("_law_one", 6)]) (g := gName 6) (tt := tYes) rfl scJudgedRightL.nd (pi_tup (pv 1)) (blkOk_by (N := ["_law_bag_here", "_law_move", "_law_places", "_law_at", "_law_bent", "_law_odd", "_law_one", "_law_value"]) (sc := defScope sJudgedRightL) (by decide +kernel)) (fun _ _ _ _ _ => pg_name (i := 6) scJudgedRightL.nd rfl (Or.inl rfl)) (fun _ _ _ _ _ => pts_nil) (fun _ _ _ _ _ => (pe_callTy call_str_int rfl T.f_str (by decide +kernel) (pa_cons (pv 6) pa_nil)))) pa_nil)) pa_nil)))))))))))))
      (pss_cons (ps_set (i := 5) scJudgedRightL.nd rfl (Or.inl rfl) (pe_op op_cat (pv 5) (pe_lst (pa_cons (pe_op op_catA (pe_op op_catA (pe_slice sl_tupA (pv 1) po_none (po_some (pv 3))) (pe_tup (pa_cons pe_non pa_nil))) (pe_slice sl_tupA (pv 1) (po_some (pe_op op_add (pv 3) pe_int)) po_none)) (pa_cons (pe_ifExp (pt_cmpR op_gt (pv 2) pe_int (nomark _)) (pe_op op_catA (pe_slice sl_tupA (pv 1) (po_some pe_int) po_none) (pe_tup (pa_cons (pe_ix ix_tup (pv 1) pe_int (fun _ _ => rfl)) pa_nil))) (pe_tup (pa_cons pe_bl pa_nil))) (pa_cons (pe_callTy call_tuple_of rfl T.f_tuple (by decide +kernel) (pa_cons (pe_lc (own := [("_law_one", 6)]) (g := gName 6) (tt := tYes) rfl scJudgedRightL.nd (pi_tup (pv 1)) (blkOk_by (N := ["_law_bag_here", "_law_move", "_law_places", "_law_at", "_law_bent", "_law_odd", "_law_one", "_law_value"]) (sc := defScope sJudgedRightL) (by decide +kernel)) (fun _ _ _ _ _ => pg_name (i := 6) scJudgedRightL.nd rfl (Or.inl rfl)) (fun _ _ _ _ _ => pts_nil) (fun _ _ _ _ _ => (pe_callTy call_bool1 rfl T.f_bool (by decide +kernel) (pa_cons (pv 6) pa_nil)))) pa_nil)) pa_nil))))))
      (pss_cons (ps_if (pt_cmpR (op_neD hr.hu) (pe_lc (own := [("_law_value", 7)]) (g := gName 7) rfl scJudgedRightL.nd (pi_list (pv 5)) (blkOk_by (N := ["_law_bag_here", "_law_move", "_law_places", "_law_at", "_law_bent", "_law_odd", "_law_one", "_law_value"]) (sc := defScope sJudgedRightL) (by decide +kernel)) (fun _ _ _ _ _ => pg_name (i := 7) scJudgedRightL.nd rfl (Or.inl rfl)) (fun _ _ _ _ _ => (pts_one (pt_val (pe_d DIsMove (hr1.le (by decide)) pass0 (pa_cons (pv 2) (pa_cons (pv 7) pa_nil)))))) (fun _ _ _ _ _ => (pv 7))) (pe_lst pa_nil) (nomark _)) (pss_one (ps_ret pe_bl)) pss_nil)
      (pss_one (ps_ret (pe_and (pe_d DIsMove (hr1.le (by decide)) pass0 (pa_cons (pv 2) (pa_cons (pv 1) pa_nil))) (pe_and (pe_d DIsMove (hr1.le (by decide)) pass0 (pa_cons pe_int (pa_cons (pe_tupRg rfl rfl T.f_tuple (prg_1 rfl T.f_range pe_int)) pa_nil))) (pe_one (pe_cmpR op_isBl (pe_d DIsMove (hr1.le (by decide)) pass0 (pa_cons (pe_op op_add (pe_op op_mod (pv 2) pe_int) pe_int) (pa_cons (pv 1) pa_nil))) pe_bl (nomark _)))))))))))), ?_⟩
    have m24 := hm.2.2.2
    have m1 := hm.2.2.1
    obtain ⟨g1, g2, g3, eb⟩ := hb
    refine ⟨_, rfl, a, _, rfl, .inr Sa, ?_⟩
    refine ⟨_, rfl, _, rfl, a, _, rfl, .inr Sa, p, _, g1, g2, g3, rfl, eb, div_small (by rw [mv_len]; omega) (by rw [mv_len]; omega), fun at_ x1 x2 x3 a0 a1 => ?_⟩
    have ud := up_draw (g' := x1) (m' := x2) (c' := x3) eb
    have up : Upto p H (upd H p (.lst [.int x1, .int x2, .int x3])) := ud
    replace Sa := up_sqt ud ⟨_, _, _, eb⟩ Sa
    clear ud eb
    generalize upd H p _ = H1 at up Sa ⊢
    obtain ⟨k, rfl⟩ : ∃ k : Nat, at_ = (k : Int) := ⟨at_.toNat, by omega⟩
    rw [mv_len] at a1
    have kr : k < m.length := by omega
    refine ⟨by (show 2 ≤ sizeLine); decide, fun T fT => ?_⟩
    refine ⟨T, _, rfl, .inl (.inl upd_same), rfl, _, _, rfl, ?_⟩
    refine ⟨_, _, rfl, rfl, ?_⟩
    have S2 := same_new (o := .tup [.int ((mv m).length : Nat), .int (k : Nat)]) fT
    replace up := up.keep S2
    replace Sa := same_sqt S2 Sa
    clear S2
    generalize upd H1 T _ = H2 at up Sa ⊢
    refine mid_ok (k := k) (a := a) (m := m) rfl rfl Sa kr m24 (x := .int ((mv m).length : Nat)) (fun H' Q' s' q' => ⟨_, rfl, q'⟩) fun H3 bt S3 Sb => ?_
    replace up := up.keep S3
    replace Sa := same_sqt S3 Sa
    have B : Bads K m.length H3 [.ref bt] := Bads.nil.snoc (bad_mid Sb (.int _) (isB_no (by rw [mv_len]; omega)))
    clear S3 Sb
    -- the first eleven values
    refine ⟨_, rfl, ?_⟩
    refine ⟨_, rfl, a, _, rfl, .inr Sa, fun l fl => ?_⟩
    have S4 := same_new (o := .lst (mv m)) fl
    replace up := up.keep S4
    replace Sa := same_sqt S4 Sa
    replace B := (B.same S4).snoc (x := .ref l) (bad_kd (.lst (xs := mv m) (.inl (.inl upd_same))) rfl)
    clear S4
    generalize upd H3 l _ = H4 at up Sa B ⊢
    refine ⟨_, rfl, _, rfl, by (show 1 ≤ sizeLine); decide, fun t ft => ?_⟩
    have S5 := same_new (o := .tup [.int ((mv m).length : Nat)]) ft
    have St : SqT K (upd H4 t (.tup [.int ((mv m).length : Nat)])) t [.int ((mv m).length : Nat)] := .inl (.inl upd_same)
    replace up := up.keep S5
    replace Sa := same_sqt S5 Sa
    replace B := B.same S5
    clear S5
    generalize upd H4 t _ = H5 at up Sa B St ⊢
    refine catA Sa St (by rw [mv_len]; exact Nat.le_of_lt (small1000 (by show _ + 1 ≤ _; omega))) fun H6 t2 S6 St2 => ?_
    replace up := up.keep S6
    replace Sa := same_sqt S6 Sa
    replace B := (B.same S6).snoc (x := .ref t2) (bad_len St2 (fun y hy => by
      rcases List.mem_append.mp hy with z | z
      · exact kd_mv m y z
      · rw [List.mem_singleton.mp z]
        exact ⟨_, .int _⟩) (by rw [List.length_append, mv_len]; show _ + 1 ≠ _; omega))
    clear S6 St St2
    refine ⟨_, rfl, _, rfl, _, rfl, slA Sa fun H7 t3 S7 St3 => ?_⟩
    replace up := up.keep S7
    replace Sa := same_sqt S7 Sa
    have e7 : cutV (mv m) none (some (-1)) = mv (m.take (m.length - 1)) := by
      unfold cutV
      rw [HT.sIx_none, mv_len, List.drop_zero, Nat.sub_zero]
      have : HT.sIx m.length m.length (some (-1)) = m.length - 1 := by
        show (if (-1 : Int) < 0 then ((-1 : Int) + (m.length : Int)).toNat else min (-1 : Int).toNat m.length) = _
        rw [if_pos (by decide)]
        omega
      rw [this]
      unfold mv
      rw [List.map_take]
    replace B := (B.same S7).snoc (x := .ref t3) (by
      have h : SqT K H7 t3 (mv (m.take (m.length - 1))) := by rw [← e7]; exact St3
      exact bad_len h (kd_mv _) (by rw [mv_len, List.length_take]; omega))
    clear S7 St3 e7
    replace B := ((B.snoc (x := .non) (bad_kd .non rfl)).snoc (x := .int 0) (bad_kd (.int 0) rfl)).snoc (x := .str "01") (bad_kd (.str "01") rfl)
    refine fun d fd => ?_
    have S8 := same_new (o := .dK []) fd
    replace up := up.keep S8
    replace Sa := same_sqt S8 Sa
    replace B := (B.same S8).snoc (x := .ref d) (bad_kd (.dct upd_same) rfl)
    clear S8
    generalize upd H7 d _ = H8 at up Sa B ⊢
    refine ⟨_, rfl, by (show 1 ≤ sizeLine); decide, fun t ft => ?_⟩
    have S9 := same_new (o := .tup [.ref a]) ft
    replace up := up.keep S9
    replace Sa := same_sqt S9 Sa
    have Stu : SqT K (upd H8 t (.tup [.ref a])) t [.ref a] := .inl (.inl upd_same)
    replace B := (B.same S9).snoc (x := .ref t) (bad_mem Stu (fun y hy => by
      rw [List.mem_singleton.mp hy]
      exact ⟨_, .tup Sa⟩) (x := .ref a) (by simp) rfl)
    clear S9 Stu
    generalize upd H8 t _ = H9 at up Sa B ⊢
    refine mid_ok (k := k) (a := a) (m := m) rfl rfl Sa kr m24 (x := .int (-1)) (fun H' Q' s' q' => ⟨_, rfl, q'⟩) fun H10 t4 S10 Sb => ?_
    replace up := up.keep S10
    replace Sa := same_sqt S10 Sa
    replace B := (B.same S10).snoc (x := .ref t4) (bad_mid Sb (.int _) (isB_no (by omega)))
    clear S10 Sb
    refine ⟨_, rfl, a, rfl, ⟨_, Sa⟩, fun D nD => ?_⟩
    refine lc_tpl (fun x => match x with | .int i => .str (toString i) | _ => .non) Sa nD (by rw [mv_len]; exact Nat.le_of_lt (small1000 (by omega))) ?_ ?_
    · intro x acc hx Q' q'
      obtain ⟨j, hj, rfl⟩ := List.mem_map.mp hx
      have lj := hm.2.1 j hj
      refine ⟨_, rfl, _, rfl, ?_, q'⟩
      rw [Int.natAbs_natCast]
      exact Nat.lt_of_le_of_lt (Nat.log2_le_self j) (by omega)
    have SD := same_new (o := .lst ((mv m).map fun x => match x with | .int i => V.str (toString i) | _ => .non)) nD
    refine ⟨D, _, rfl, .inl ⟨.inl (.inl upd_same), fun t5 ft => ?_⟩⟩
    have S11 := SD.trans (same_new (o := .tup ((mv m).map fun x => match x with | .int i => V.str (toString i) | _ => .non)) ft)
    replace up := up.keep S11
    replace Sa := same_sqt S11 Sa
    obtain ⟨m0, hm0⟩ : ∃ j, j ∈ m := List.exists_mem_of_ne_nil m (by intro z; rw [z] at m1; exact absurd m1 (by decide))
    replace B := (B.same S11).snoc (x := .ref t5) (bad_mem (.inl (.inl upd_same)) (fun y hy => by
      obtain ⟨v, hv, rfl⟩ := List.mem_map.mp hy
      obtain ⟨j, hj, rfl⟩ := List.mem_map.mp hv
      exact ⟨_, .str _⟩) (List.mem_map.mpr ⟨.int (m0 : Int), List.mem_map.mpr ⟨m0, hm0, rfl⟩, rfl⟩) rfl)
    clear S11 SD
    generalize upd (upd H10 D _) t5 _ = H11 at up Sa B ⊢
    refine ⟨by (show 11 ≤ sizeLine); decide, fun L fL => ?_⟩
    have e11 : [V.ref bt] ++ [V.ref l] ++ [V.ref t2] ++ [V.ref t3] ++ [V.non] ++ [V.int 0] ++ [V.str "01"] ++ [V.ref d] ++ [V.ref t] ++ [V.ref t4] ++ [V.ref t5] = [V.ref bt, V.ref l, V.ref t2, V.ref t3, V.non, V.int 0, V.str "01", V.ref d, V.ref t, V.ref t4, V.ref t5] := rfl
    rw [e11] at B
    clear e11
    have hL : (upd H11 L (.lst [V.ref bt, V.ref l, V.ref t2, V.ref t3, V.non, V.int 0, V.str "01", V.ref d, V.ref t, V.ref t4, V.ref t5])) L = some (.lst [V.ref bt, V.ref l, V.ref t2, V.ref t3, V.non, V.int 0, V.str "01", V.ref d, V.ref t, V.ref t4, V.ref t5]) := upd_same
    have S12 := same_new (o := .lst [V.ref bt, V.ref l, V.ref t2, V.ref t3, V.non, V.int 0, V.str "01", V.ref d, V.ref t, V.ref t4, V.ref t5]) fL
    replace up := up.keep S12
    replace Sa := same_sqt S12 Sa
    replace B := B.same S12
    clear S12
    generalize upd H11 L _ = H12 at up Sa B hL ⊢
    have len11 : [V.ref bt, V.ref l, V.ref t2, V.ref t3, V.non, V.int 0, V.str "01", V.ref d, V.ref t, V.ref t4, V.ref t5].length = 11 := rfl
    generalize [V.ref bt, V.ref l, V.ref t2, V.ref t3, V.non, V.int 0, V.str "01", V.ref d, V.ref t, V.ref t4, V.ref t5] = vs at B hL len11 ⊢
    -- three more
    refine ⟨_, rfl, ?_⟩
    refine mid_ok (k := k) (a := a) (m := m) rfl rfl Sa kr m24 (x := .non) (fun H' Q' s' q' => q') fun H13 u1 S13 Sb => ?_
    replace up := up.keep S13
    replace Sa := same_sqt S13 Sa
    replace hL := S13 _ _ hL
    replace B := (B.same S13).snoc (x := .ref u1) (bad_mid Sb .non rfl)
    clear S13 Sb
    refine ⟨_, rfl, _, _, rfl, rfl, _, rfl, ?_⟩
    refine tif_ok (G := fun H' t => Bad K m.length H' (.ref t)) (fun c Q' q' => ?_) (fun c Q' q' => ?_) ?_
    · have c2 : (1 : Int) < ((mv m).length : Int) := of_decide_eq_true c
      rw [mv_len] at c2
      refine ⟨_, rfl, _, rfl, ?_⟩
      simp only [tNoPart]
      have e1 : (1 : Int) = ((1 : Nat) : Int) := rfl
      refine slA Sa fun H14 t6 S14 St6 => ?_
      rw [e1, cut_drop m1] at St6
      refine ⟨_, rfl, a, _, _, _, rfl, rfl, same_sqt S14 Sa, mv_at (k := 1) (by omega), by (show 1 ≤ sizeLine); decide, fun t7 f7 => ?_⟩
      have St7 : SqT K (upd H14 t7 (.tup [.int ((m.getD 1 0 : Nat) : Int)])) t7 (mv [m.getD 1 0]) := .inl (.inl upd_same)
      have S15 := S14.trans (same_new (o := .tup [.int ((m.getD 1 0 : Nat) : Int)]) f7)
      replace St6 := sqt_new (o := .tup [.int ((m.getD 1 0 : Nat) : Int)]) St6 f7
      refine catA St6 St7 (by rw [mv_len, mv_len, List.length_drop]; exact Nat.le_of_lt (small1000 (by show _ + 1 ≤ _; omega))) fun H16 t8 S16 St8 => ?_
      rw [← mv_app] at St8
      refine q' _ _ (S15.trans S16) (bad_dup St8 fun nd => ?_)
      have i1 : m.getD 1 0 ∈ m.drop 1 := by
        have lt : 1 < m.length := by omega
        rw [List.getD, List.getElem?_eq_getElem lt]
        have := List.getElem_mem (l := m.drop 1) (n := 0) (by rw [List.length_drop]; omega)
        rw [List.getElem_drop] at this
        exact this
      exact (List.nodup_append.mp nd).2.2 _ i1 _ (List.mem_singleton.mpr rfl) rfl
    · refine ⟨by (show 1 ≤ sizeLine); decide, fun t6 f6 => ?_⟩
      refine q' _ _ (same_new f6) (bad_mem (xs := [.bl true]) (.inl (.inl upd_same)) (fun y hy => by
        rw [List.mem_singleton.mp hy]
        exact ⟨_, .bl _⟩) (x := .bl true) (by simp) rfl)
    intro H14 u2 S14 B2
    replace up := up.keep S14
    replace Sa := same_sqt S14 Sa
    replace hL := S14 _ _ hL
    replace B := (B.same S14).snoc B2
    clear S14 B2
    refine ⟨_, rfl, a, rfl, ⟨_, Sa⟩, fun D nD => ?_⟩
    refine lc_tpl (fun x => match x with | .int i => .bl (i != 0) | _ => .non) Sa nD (by rw [mv_len]; exact Nat.le_of_lt (small1000 (by omega))) ?_ ?_
    · intro x acc hx Q' q'
      obtain ⟨j, hj, rfl⟩ := List.mem_map.mp hx
      exact ⟨_, rfl, .inl ⟨_, rfl, q'⟩⟩
    have SD := same_new (o := .lst ((mv m).map fun x => match x with | .int i => V.bl (i != 0) | _ => .non)) nD
    refine ⟨D, _, rfl, .inl ⟨.inl (.inl upd_same), fun u3 ft => ?_⟩⟩
    have S11 := SD.trans (same_new (o := .tup ((mv m).map fun x => match x with | .int i => V.bl (i != 0) | _ => .non)) ft)
    replace up := up.keep S11
    replace Sa := same_sqt S11 Sa
    replace hL := S11 _ _ hL
    replace B := (B.same S11).snoc (x := .ref u3) (bad_mem (.inl (.inl upd_same)) (fun y hy => by
      obtain ⟨v, hv, rfl⟩ := List.mem_map.mp hy
      obtain ⟨j, hj, rfl⟩ := List.mem_map.mp hv
      exact ⟨_, .bl _⟩) (List.mem_map.mpr ⟨.int (m0 : Int), List.mem_map.mpr ⟨m0, hm0, rfl⟩, rfl⟩) rfl)
    clear S11 SD
    generalize upd (upd H14 D _) u3 _ = H15 at up Sa B hL ⊢
    refine ⟨by (show 3 ≤ sizeLine); decide, fun L3 f3 => ?_⟩
    have S12 := same_new (o := .lst [V.ref u1, V.ref u2, V.ref u3]) f3
    have hL3 : (upd H15 L3 (.lst [V.ref u1, V.ref u2, V.ref u3])) L3 = some (.lst [V.ref u1, V.ref u2, V.ref u3]) := upd_same
    replace up := up.keep S12
    replace Sa := same_sqt S12 Sa
    replace hL := S12 _ _ hL
    replace B := B.same S12
    clear S12
    generalize upd H15 L3 _ = H16 at up Sa B hL hL3 ⊢
    refine ⟨L, L3, _, _, rfl, rfl, hL, hL3, by rw [len11]; exact Nat.le_of_lt (small1000 (by show 11 + 3 ≤ _; decide)), fun O fO => ?_⟩
    have B14 : Bads K m.length H16 (vs ++ [V.ref u1, V.ref u2, V.ref u3]) := by
      have : vs ++ [V.ref u1] ++ [V.ref u2] ++ [V.ref u3] = vs ++ [V.ref u1, V.ref u2, V.ref u3] := by simp
      rw [← this]
      exact B
    have l14 : (vs ++ [V.ref u1, V.ref u2, V.ref u3]).length = 14 := by rw [List.length_append, len11]; rfl
    clear B hL hL3 len11
    generalize vs ++ [V.ref u1, V.ref u2, V.ref u3] = ws at B14 l14 ⊢
    have S17 := same_new (o := .lst ws) fO
    have hO : (upd H16 O (.lst ws)) O = some (.lst ws) := upd_same
    replace up := up.keep S17
    replace Sa := same_sqt S17 Sa
    replace B14 := B14.same S17
    clear S17
    generalize upd H16 O _ = H17 at up Sa B14 hO ⊢
    -- none of them is told to be a move
    refine ⟨_, rfl, O, rfl, ⟨_, .inl (.inl hO)⟩, fun D nD => ?_⟩
    have nD0 : ∀ b o, H17 b = some o → b ≠ D := fun b o e => ne_of_none e nD
    refine lc_list (xs := ws) (Pv := fun i H3 => Same H17 H3 ∧ H3 D = some (.lst [])) ⟨same_new nD, upd_same⟩ (fun i H3 _ e => .inl (.inl (e.1 _ _ hO))) ?_ ?_
    · rintro i x H3 hx ⟨s3, hD⟩
      obtain ⟨o, rv, no⟩ := B14 x (List.mem_of_getElem? hx)
      refine ⟨wipe_one, ?_⟩
      refine ⟨_, rfl, _, rfl, (mv m).length, x, o, rfl, rv.same s3, by rw [mv_len]; exact m1, by rw [mv_len]; exact m24, fun H4 s4 => ?_⟩
      refine ⟨_, rfl, ?_⟩
      exact ifF (by rw [mv_len]; exact no) ⟨s3.trans s4, s4 _ _ hD⟩
    rintro H18 ⟨S18, hD⟩
    replace up := up.keep S18
    replace Sa := same_sqt S18 Sa
    refine ⟨by (show 0 ≤ sizeLine); decide, fun E2 fE => ?_⟩
    have S19 := same_new (o := .lst []) fE
    replace up := up.keep S19
    replace Sa := same_sqt S19 Sa
    refine ⟨.list [], .list [], .lst (.inl (.inl (S19 _ _ hD))) .nil, .lst (.inl (.inl upd_same)) .nil, rfl, rfl, ?_⟩
    refine ⟨_, rfl, ?_⟩
    refine ifF rfl ?_
    generalize upd H18 E2 _ = H19 at up Sa ⊢
    -- moves are told to be some
    refine ⟨_, rfl, _, rfl, (mv m).length, .ref a, some (mv m), rfl, rv_mv Sa, by rw [mv_len]; exact m1, by rw [mv_len]; exact m24, fun H20 S20 => ?_⟩
    refine ⟨_, rfl, ?_⟩
    refine ifT (by rw [mv_len]; exact arr_mv hm) ?_
    replace up := up.keep S20
    replace Sa := same_sqt S20 Sa
    refine ⟨_, rfl, ⟨by omega, by omega, by omega, by omega, by omega⟩, fun t24 f24 => ?_⟩
    have S21 := same_new (o := .tup (rgV 0 24)) f24
    have St : SqT K (upd H20 t24 (.tup (rgV 0 24))) t24 (mv (List.range 24)) := .inl (.inl upd_same)
    replace up := up.keep S21
    replace Sa := same_sqt S21 Sa
    have h24 := (mv_of_perm (.refl (List.range 24)) (by decide) (by decide)).1
    refine ⟨24, .ref t24, some (mv (List.range 24)), rfl, rv_mv St, by decide, by decide, fun H22 S22 => ?_⟩
    refine ⟨_, rfl, ?_⟩
    refine ifT (arr_mv h24) ?_
    replace up := up.keep S22
    replace Sa := same_sqt S22 Sa
    refine ⟨_, rfl, _, _, rfl, rfl, (by show (0 : Int) < 24; decide), _, _, rfl, rfl, _, rfl, m.length % 24 + 1, .ref a, some (mv m), ?_, rv_mv Sa, by omega, by omega, fun H23 S23 => ?_⟩
    · rw [mv_len]
      have e : ((m.length : Int) % 24 + 1) = ((m.length % 24 + 1 : Nat) : Int) := by omega
      show [V.int ((m.length : Int) % 24 + 1), V.ref a] = _
      rw [e]
    refine ⟨_, _, rfl, rfl, ?_⟩
    have no : isArr (m.length % 24 + 1) (some (mv m)) = false := by
      rw [isArr_some, decide_eq_false (by rw [mv_len]; omega)]
      rfl
    rw [no, decide_eq_true rfl]
    exact q _ (up.keep S23)
end
end K04


set_option Elab.async false
set_option linter.all false
set_option maxRecDepth 100000
set_option maxHeartbeats 2000000
namespace K04
open PySem PySem.Spec PyProof.Rows L2 MM
/-! own words for the readings: a step, its side -/
local macro_rules | `(tactic| walk_at "side") => `(tactic| first
  | omega
  | exact ⟨by omega, by omega⟩
  | exact Or.inl ⟨by omega, by omega⟩
  | exact Or.inr ⟨by omega, by omega⟩
  | (show CPw _ _; decide +kernel)
  | (show (0 : Int) < _; decide +kernel)
  | (show CDivW _ _; first | assumption | exact ⟨by decide, by decide +kernel⟩))
local macro_rules | `(tactic| walk_at "here") => `(tactic| first
  | assumption
  | exact upd_same
  | exact Or.inl (Or.inl upd_same)
  | exact Or.inl upd_same)
local macro_rules | `(tactic| walk_at "one") => `(tactic| first
  | refine ⟨_, rfl, ?_⟩
  | refine Or.inl ⟨_, rfl, ?_⟩
  | refine Or.inr ⟨_, rfl, ?_⟩
  | refine ⟨_, _, rfl, rfl, (by walk_at "side"), ?_⟩
  | refine ⟨_, _, rfl, rfl, ?_⟩
  | refine ⟨_, _, rfl, Or.inl (by walk_at "here"), ?_⟩
  | refine ⟨_, _, rfl, Or.inr (by walk_at "here"), ?_⟩
  | refine ⟨_, _, rfl, (by walk_at "here"), ?_⟩
  | refine ⟨_, _, _, _, rfl, rfl, (by walk_at "here"), rfl, ?_⟩
  | refine ⟨_, _, rfl, ?_⟩
  | refine ifT (by rfl) ?_
  | refine ifF (by rfl) ?_
  | refine ifT (decide_eq_true (by omega)) ?_
  | refine ifF (decide_eq_false (by omega)) ?_)
local macro_rules | `(tactic| walk_at "st") => `(tactic| repeat (walk_at "one"))

section
variable {P : Program} {w : World} {K : PySem.W.Frag} {mg : Str → Option Value} {base : Heap}
theorem keep_script {p a : Addr} {H H1 H2 : Hp} {xs : List V} (sm : Same H H1) (np : H p = none) (up : Upto p H1 H2) (h : SqL K H a xs) : SqL K H2 a xs := by
  rcases h with (h | ⟨o, h⟩) | h
  · exact .inl (.inl (up.same a _ (ne_of_none h np) (sm _ _ h)))
  · exact .inl (.inr ⟨o, up.same a _ (ne_of_none h np) (sm _ _ h)⟩)
  · exact .inr h
theorem SqT.new3 {H : Hp} (m : List Nat) (t : Addr) : SqT K (upd H t (.tup (mv m))) t (mv m) := .inl (.inl upd_same)
theorem m3 {m : List Nat} (h : m.Nodup ∧ (∀ k ∈ m, k < m.length) ∧ 1 ≤ m.length ∧ m.length ≤ 24) : Mv m := h
def spLaw (K : PySem.W.Frag) : Sp := fun vs H Q _ => ∃ (a : Addr) (ns : List Int), vs = [.ref a] ∧ SqL K H a (ns.map V.int) ∧ ns.length ≤ 1000 ∧ ∀ H', Q (.bl true) H'
theorem scLaw : FnScope ["_law_script", "_law_spot", "_law_bag_here", "_law_places", "_law_one", "_law_other", "_law_told"] ["_law_script"] (defScope sLaw) :=
  ⟨rfl, rfl, rfl, by decide +kernel, rfl, by decide +kernel, by decide +kernel⟩
theorem dLaw (T : Tx K mg) (DBagL : Def P w K mg base CX0 1 "_law_bag" ["_law_script", "_law_spot"] (spBag K)) (DOneOfL : Def P w K mg base CX0 2 "_law_one_of" ["_law_bag_here", "_law_items"] (spOneOf K)) (DGrabL : Def P w K mg base CX0 1 "_law_grab" ["_law_bag_here", "_law_total"] spGrab) (DSomeMoveL : Def P w K mg base CX0 3 "_law_some_move" ["_law_bag_here", "_law_places"] (spSome K)) (DJudgedRightL : Def P w K mg base CX0 6 "_law_judged_right" ["_law_bag_here", "_law_move"] (spJudged K)) (DRingsRightL : Def P w K mg base CX0 6 "_law_rings_right" ["_law_bag_here", "_law_move"] (spRingsRight K)) (DMovesRightL : Def P w K mg base CX0 7 "_law_moves_right" ["_law_bag_here", "_law_one", "_law_other"] (spMovesRight K)) (DPowerOf : Def P w K mg base CX0 5 "power_of" ["move", "number"] (spPowOf K)) (DUndone : Def P w K mg base CX0 5 "undone" ["move"] (spUndone K)) (DProductOf : Def P w K mg base CX0 6 "product_of" ["one", "other"] (spProduct K)) (DStillPlaces : Def P w K mg base CX0 5 "still_places" ["move"] (spStill K)) (DSignOf : Def P w K mg base CX0 5 "sign_of" ["move"] (spSign K)) (DOrderOf : Def P w K mg base CX0 5 "order_of" ["move"] (spOrd K)) (DCycles : Def P w K mg base CX0 5 "cycles" ["move"] (spCyc K)) (DMoveOfCycles : Def P w K mg base CX0 5 "move_of_cycles" ["places", "rings"] (spMoveOf K)) : Def P w K mg base CX0 8 "law" ["_law_script"] (spLaw K) := by
  refine T.t_law.def_ (N := ["_law_script", "_law_spot", "_law_bag_here", "_law_places", "_law_one", "_law_other", "_law_told"]) scLaw (fun _ _ _ _ _ _ us hl => match us, hl with | [_], _ => rfl) ?_ ?_
  · intro vs H Q E h
    obtain ⟨a, ns, rfl, _⟩ := h
    rfl
  · intro f cd A out s H vs Q E hr h
    have hr1 : Rm 7 _ := hr.le (by decide)
    obtain ⟨a, ns, rfl, hS, hl, q⟩ := h
    refine ⟨_, (pss_cons (ps_for PassesOwn.never rfl (pi_range1 rfl T.f_range (pa_cons (pe_callB (call_max2 rfl) rfl T.f_max (by decide +kernel) (pa_cons pe_int (pa_cons (pe_callB (call_min2 rfl) rfl T.f_min (by decide +kernel) (pa_cons pe_int (pa_cons (pe_callB call_len_seq rfl T.f_len (by decide +kernel) (pa_cons (pv 0) pa_nil)) pa_nil))) pa_nil))) pa_nil)) (pg_name (i := 1) scLaw.nd rfl (Or.inl rfl))
        (pss_cons (ps_set (i := 2) scLaw.nd rfl (Or.inl rfl) (pe_d DBagL (hr1.le (by decide)) pass0 (pa_cons (pv 0) (pa_cons (pv 1) pa_nil))))
        (pss_cons (ps_set (i := 3) scLaw.nd rfl (Or.inl rfl) (pe_d DOneOfL (hr1.le (by decide)) pass0 (pa_cons (pv 2) (pa_cons (pe_lst (pa_cons pe_int (pa_cons pe_int (pa_cons pe_int (pa_cons pe_int (pa_cons pe_int (pa_cons pe_int (pa_cons pe_int (pa_cons pe_int (pa_cons (pe_op op_add pe_int (pe_d DGrabL (hr1.le (by decide)) pass0 (pa_cons (pv 2) (pa_cons pe_int pa_nil)))) pa_nil)))))))))) pa_nil))))
        (pss_cons (ps_par (i := 4) (j := 5) rfl scLaw.nd rfl rfl (by decide) rfl rfl (pa_cons (pe_d DSomeMoveL (hr1.le (by decide)) pass0 (pa_cons (pv 2) (pa_cons (pv 3) pa_nil))) (pa_cons (pe_d DSomeMoveL (hr1.le (by decide)) pass0 (pa_cons (pv 2) (pa_cons (pv 3) pa_nil))) pa_nil)) (by rfl))
        (pss_one (ps_if (PW.pt (pw_or (pt_not (pt_val (pe_d DMovesRightL (hr1.le (by decide)) pass0 (pa_cons (pv 2) (pa_cons (pv 4) (pa_cons (pv 5) pa_nil)))))) (pw_or (pt_not (pt_val (pe_d DRingsRightL (hr1.le (by decide)) pass0 (pa_cons (pv 2) (pa_cons (pv 4) pa_nil))))) (pw_or1 (pt_not (pt_val (pe_d DJudgedRightL (hr1.le (by decide)) pass0 (pa_cons (pv 2) (pa_cons (pv 5) pa_nil))))))))) (pss_one (ps_ret pe_bl)) pss_nil))))))
      (pss_cons (ps_set (i := 6) scLaw.nd rfl (Or.inl rfl) (pe_lst (pa_cons (pe_d DProductOf (hr1.le (by decide)) pass0 (pa_cons (pe_tup (pa_cons pe_int (pa_cons pe_int (pa_cons pe_int pa_nil)))) (pa_cons (pe_tup (pa_cons pe_int (pa_cons pe_int (pa_cons pe_int pa_nil)))) pa_nil))) (pa_cons (pe_d DUndone (hr1.le (by decide)) pass0 (pa_cons (pe_tup (pa_cons pe_int (pa_cons pe_int (pa_cons pe_int pa_nil)))) pa_nil)) (pa_cons (pe_d DPowerOf (hr1.le (by decide)) pass0 (pa_cons (pe_tup (pa_cons pe_int (pa_cons pe_int (pa_cons pe_int pa_nil)))) (pa_cons (pe_un un_neg pe_int) pa_nil))) (pa_cons (pe_d DPowerOf (hr1.le (by decide)) pass0 (pa_cons (pe_tup (pa_cons pe_int (pa_cons pe_int (pa_cons pe_int (pa_cons pe_int (pa_cons pe_int pa_nil)))))) (pa_cons (pe_op op_pw pe_int pe_int) pa_nil))) pa_nil))))))
      (pss_cons (ps_if (pt_cmpR (op_neD hr.hu) (pv 6) (pe_lst (pa_cons (pe_tup (pa_cons pe_int (pa_cons pe_int (pa_cons pe_int pa_nil)))) (pa_cons (pe_tup (pa_cons pe_int (pa_cons pe_int (pa_cons pe_int pa_nil)))) (pa_cons (pe_tup (pa_cons pe_int (pa_cons pe_int (pa_cons pe_int pa_nil)))) (pa_cons (pe_tup (pa_cons pe_int (pa_cons pe_int (pa_cons pe_int (pa_cons pe_int (pa_cons pe_int pa_nil)))))) pa_nil))))) (nomark _)) (pss_one (ps_ret pe_bl)) pss_nil)
      (pss_cons (ps_set (i := 6) scLaw.nd rfl (Or.inl rfl) (pe_lst (pa_cons (pe_d DCycles (hr1.le (by decide)) pass0 (pa_cons (pe_tup (pa_cons pe_int (pa_cons pe_int (pa_cons pe_int (pa_cons pe_int (pa_cons pe_int pa_nil)))))) pa_nil)) (pa_cons (pe_d DCycles (hr1.le (by decide)) pass0 (pa_cons (pe_tup (pa_cons pe_int (pa_cons pe_int (pa_cons pe_int pa_nil)))) pa_nil)) (pa_cons (pe_d DOrderOf (hr1.le (by decide)) pass0 (pa_cons (pe_tup (pa_cons pe_int (pa_cons pe_int (pa_cons pe_int (pa_cons pe_int (pa_cons pe_int pa_nil)))))) pa_nil)) (pa_cons (pe_d DSignOf (hr1.le (by decide)) pass0 (pa_cons (pe_tup (pa_cons pe_int (pa_cons pe_int (pa_cons pe_int (pa_cons pe_int (pa_cons pe_int pa_nil)))))) pa_nil)) (pa_cons (pe_d DStillPlaces (hr1.le (by decide)) pass0 (pa_cons (pe_tup (pa_cons pe_int (pa_cons pe_int (pa_cons pe_int pa_nil)))) pa_nil)) pa_nil)))))))
      (pss_one (ps_ret (pe_and (pe_cmpR (op_eqD hr.hu) (pv 6) (pe_lst (pa_cons (pe_tup (pa_cons (pe_tup (pa_cons pe_int (pa_cons pe_int (pa_cons pe_int pa_nil)))) (pa_cons (pe_tup (pa_cons pe_int (pa_cons pe_int pa_nil))) pa_nil))) (pa_cons (pe_tup (pa_cons (pe_tup (pa_cons pe_int pa_nil)) (pa_cons (pe_tup (pa_cons pe_int (pa_cons pe_int pa_nil))) pa_nil))) (pa_cons pe_int (pa_cons (pe_un un_neg pe_int) (pa_cons (pe_tup (pa_cons pe_int pa_nil)) pa_nil)))))) (nomark _)) (pe_one (pe_cmpR (op_eqD hr.hu) (pe_d DMoveOfCycles (hr1.le (by decide)) pass0 (pa_cons pe_int (pa_cons (pe_tup pa_nil) pa_nil))) (pe_tup (pa_cons pe_int (pa_cons pe_int (pa_cons pe_int pa_nil)))) (nomark _)))))))))), ?_⟩
    refine ⟨_, rfl, a, _, rfl, .inl hS, _, _, rfl, _, _, rfl, ?_⟩
    obtain ⟨j, ej, j1, j2⟩ : ∃ j : Int, j = (if (if ((ns.map V.int).length : Int) < 4 then ((ns.map V.int).length : Int) else 4) > 1 then (if ((ns.map V.int).length : Int) < 4 then ((ns.map V.int).length : Int) else 4) else 1) ∧ 1 ≤ j ∧ j ≤ 4 := by
      refine ⟨_, rfl, ?_, ?_⟩
      all_goals
        split
        · split <;> omega
        · omega
    refine ⟨j, by rw [ej], by omega, by omega, for_range (fun i σ H' => SqL K H' a (ns.map V.int) ∧ ∃ y z u v, σ = [some (.ref a), y, z, u, v.1, v.2, none]) ⟨hS, none, none, none, (none, none), rfl⟩ ?_ ?_⟩
    · rintro i σ H' hi ⟨hS, y, z, u, v, rfl⟩
      refine ⟨_, rfl, _, rfl, a, i, ns, ?_, hS, by omega, fun H1 p sm np hb => ?_⟩
      · show [V.ref a, V.int (0 + (i : Int))] = _
        rw [Int.zero_add]
      obtain ⟨g1, g2, g3, eb⟩ := id hb
      refine ⟨_, rfl, _, rfl, p, _, g1, g2, g3, rfl, eb, (by (show CDivW _ _); decide +kernel), fun r x1 x2 x3 r0 r1 => ?_⟩
      have up : Upto p H1 (upd H1 p (.lst [.int x1, .int x2, .int x3])) := up_draw eb
      clear eb
      generalize upd H1 p _ = H2 at up ⊢
      refine ⟨_, _, rfl, rfl, by (show 9 ≤ sizeLine); decide, fun L fL => ?_⟩
      obtain ⟨g1, g2, g3, eb⟩ := up.bag
      have Lp : L ≠ p := (ne_of_none eb fL).symm
      have s3 := same_new (o := .lst [.int 1, .int 2, .int 3, .int 4, .int 5, .int 7, .int 10, .int 24, .int (1 + r)]) fL
      replace up := up.keep s3
      replace eb := s3 _ _ eb
      refine ⟨p, L, _, _, _, _, rfl, eb, .inl (.inl upd_same), Lp, (by show 0 < 9; decide), (by show 9 ≤ 1000; decide), fun v g' m' c' hv => ?_⟩
      replace up := up.draw (a := g') (b := m') (c := c')
      clear eb s3
      generalize upd (upd H2 L _) p _ = H3 at up ⊢
      obtain ⟨n, rfl, n1, n24⟩ : ∃ n : Nat, v = .int (n : Int) ∧ 1 ≤ n ∧ n ≤ 24 := by
        simp only [List.mem_cons, List.not_mem_nil, or_false] at hv
        rcases hv with h | h | h | h | h | h | h | h | h
        · exact ⟨1, h, by decide, by decide⟩
        · exact ⟨2, h, by decide, by decide⟩
        · exact ⟨3, h, by decide, by decide⟩
        · exact ⟨4, h, by decide, by decide⟩
        · exact ⟨5, h, by decide, by decide⟩
        · exact ⟨7, h, by decide, by decide⟩
        · exact ⟨10, h, by decide, by decide⟩
        · exact ⟨24, h, by decide, by decide⟩
        · exact ⟨(1 + r).toNat, by rw [h, Int.toNat_of_nonneg (by omega)], by omega, by omega⟩
      clear hv
      refine ⟨_, rfl, _, rfl, p, n, rfl, up.bag, n1, n24, fun H4 t1 m up4 tp1 St1 hm lm => ?_⟩
      replace up := up.trans up4
      refine ⟨_, rfl, _, rfl, p, n, rfl, up.bag, n1, n24, fun H5 t2 l up5 tp2 St2 hl lln => ?_⟩
      replace St1 := up_sqt up5 up.bag St1
      replace up := up.trans up5
      refine ⟨_, _, rfl, ?_⟩
      refine ⟨_, rfl, _, rfl, _, rfl, p, t1, t2, m, l, rfl, up.bag, St1, St2, hm, hl, by rw [lm, lln], fun H6 up6 => ?_⟩
      replace St1 := up_sqt up6 up.bag St1
      replace St2 := up_sqt up6 up.bag St2
      replace up := up.trans up6
      refine ⟨_, rfl, ?_⟩
      refine ⟨_, rfl, _, rfl, p, t1, m, rfl, up.bag, St1, hm, fun H7 up7 => ?_⟩
      replace St2 := up_sqt up7 up.bag St2
      replace up := up.trans up7
      refine ⟨_, rfl, ?_⟩
      refine ⟨_, rfl, _, rfl, p, t2, l, rfl, up.bag, St2, hl, fun H8 up8 => ?_⟩
      replace up := up.trans up8
      refine ⟨_, rfl, ?_⟩
      exact ⟨keep_script sm np up hS, _, _, _, (_, _), rfl⟩
    · rintro σ H' ⟨hS, y, z, u, v, rfl⟩
      clear hS
      refine ⟨by (show 3 ≤ sizeLine); decide, fun t1 f1 => ?_⟩
      have S1 := SqT.new3 (K := K) (H := H') [1, 0, 2] t1
      have e0 : ∃ H1, H1 = upd H' t1 (.tup [V.int 1, V.int 0, V.int 2]) := ⟨_, rfl⟩
      obtain ⟨H1, eh⟩ := e0
      rw [← eh]
      replace S1 : SqT K H1 t1 (mv [1, 0, 2]) := by rw [eh]; exact S1
      clear eh
      refine ⟨by (show 3 ≤ sizeLine); decide, fun t2 f2 => ?_⟩
      have S2 := SqT.new3 (K := K) (H := H1) [0, 2, 1] t2
      replace S1 := sqt_new (o := .tup (mv [0, 2, 1])) S1 f2
      refine ⟨t1, t2, [1, 0, 2], [0, 2, 1], rfl, S1, S2, m3 (by decide), m3 (by decide), rfl, fun H2 p1 _ T1 => ?_⟩
      clear S1 S2 f1 f2
      refine ⟨by (show 3 ≤ sizeLine); decide, fun t3 f3 => ?_⟩
      replace T1 := sqt_new (o := .tup (mv [1, 2, 0])) T1 f3
      refine ⟨t3, [1, 2, 0], rfl, SqT.new3 [1, 2, 0] t3, m3 (by decide), fun H3 p2 s3 T2 => ?_⟩
      replace T1 := same_sqt s3 T1
      clear s3
      refine ⟨by (show 3 ≤ sizeLine); decide, fun t4 f4 => ?_⟩
      replace T1 := sqt_new (o := .tup (mv [1, 2, 0])) T1 f4
      replace T2 := sqt_new (o := .tup (mv [1, 2, 0])) T2 f4
      refine ⟨_, rfl, t4, [1, 2, 0], -4, rfl, SqT.new3 [1, 2, 0] t4, m3 (by decide), by decide, by decide, fun H4 p3 s4 T3 => ?_⟩
      replace T1 := same_sqt s4 T1
      replace T2 := same_sqt s4 T2
      clear s4
      refine ⟨by (show 5 ≤ sizeLine); decide, fun t5 f5 => ?_⟩
      replace T1 := sqt_new (o := .tup (mv [1, 2, 0, 4, 3])) T1 f5
      replace T2 := sqt_new (o := .tup (mv [1, 2, 0, 4, 3])) T2 f5
      replace T3 := sqt_new (o := .tup (mv [1, 2, 0, 4, 3])) T3 f5
      refine ⟨_, _, rfl, rfl, by (show CPw _ _); decide +kernel, t5, [1, 2, 0, 4, 3], 10 ^ 30, rfl, SqT.new3 [1, 2, 0, 4, 3] t5, m3 (by decide), by decide, by decide, fun H5 p4 s5 T4 => ?_⟩
      replace T1 := same_sqt s5 T1
      replace T2 := same_sqt s5 T2
      replace T3 := same_sqt s5 T3
      clear s5
      have e1 : comp [1, 0, 2] [0, 2, 1] = [1, 2, 0] := by decide +kernel
      have e2 : back [1, 2, 0] = [2, 0, 1] := by decide +kernel
      have e3 : (List.range ([1, 2, 0] : List Nat).length).map (pwE (fn' [1, 2, 0]) (ordOf (fn' [1, 2, 0]) ([1, 2, 0] : List Nat).length) (-4)) = [2, 0, 1] := by decide +kernel
      have e4 : (List.range ([1, 2, 0, 4, 3] : List Nat).length).map (pwE (fn' [1, 2, 0, 4, 3]) (ordOf (fn' [1, 2, 0, 4, 3]) ([1, 2, 0, 4, 3] : List Nat).length) (10 ^ 30)) = [1, 2, 0, 3, 4] := by decide +kernel
      rw [e1] at T1
      rw [e2] at T2
      rw [e3] at T3
      rw [e4] at T4
      clear e1 e2 e3 e4
      -- held against what is due
      refine ⟨by (show 4 ≤ sizeLine); decide, fun L fL => ?_⟩
      have sL := same_new (o := .lst [V.ref p1, V.ref p2, V.ref p3, V.ref p4]) fL
      have hL : (upd H5 L (.lst [V.ref p1, V.ref p2, V.ref p3, V.ref p4])) L = some (.lst [V.ref p1, V.ref p2, V.ref p3, V.ref p4]) := upd_same
      replace T1 := same_sqt sL T1
      replace T2 := same_sqt sL T2
      replace T3 := same_sqt sL T3
      replace T4 := same_sqt sL T4
      clear sL
      generalize upd H5 L _ = H6 at T1 T2 T3 T4 hL ⊢
      refine ⟨_, rfl, ?_⟩
      refine ⟨by (show 3 ≤ sizeLine); decide, fun q1 g1 => ?_⟩
      refine ⟨by (show 3 ≤ sizeLine); decide, fun q2 g2 => ?_⟩
      refine ⟨by (show 3 ≤ sizeLine); decide, fun q3 g3 => ?_⟩
      refine ⟨by (show 5 ≤ sizeLine); decide, fun q4 g4 => ?_⟩
      refine ⟨by (show 4 ≤ sizeLine); decide, fun M fM => ?_⟩
      have c1 : Same H6 (upd H6 q1 (.tup (mv [1, 2, 0]))) := same_new g1
      have Q1 : SqT K (upd H6 q1 (.tup (mv [1, 2, 0]))) q1 (mv [1, 2, 0]) := SqT.new3 _ _
      have c2 : Same (upd H6 q1 (.tup (mv [1, 2, 0]))) (upd (upd H6 q1 (.tup (mv [1, 2, 0]))) q2 (.tup (mv [2, 0, 1]))) := same_new g2
      have Q2 : SqT K (upd (upd H6 q1 (.tup (mv [1, 2, 0]))) q2 (.tup (mv [2, 0, 1]))) q2 (mv [2, 0, 1]) := SqT.new3 _ _
      have c3 : Same (upd (upd H6 q1 (.tup (mv [1, 2, 0]))) q2 (.tup (mv [2, 0, 1]))) (upd (upd (upd H6 q1 (.tup (mv [1, 2, 0]))) q2 (.tup (mv [2, 0, 1]))) q3 (.tup (mv [2, 0, 1]))) := same_new g3
      have Q3 : SqT K (upd (upd (upd H6 q1 (.tup (mv [1, 2, 0]))) q2 (.tup (mv [2, 0, 1]))) q3 (.tup (mv [2, 0, 1]))) q3 (mv [2, 0, 1]) := SqT.new3 _ _
      have c4 : Same (upd (upd (upd H6 q1 (.tup (mv [1, 2, 0]))) q2 (.tup (mv [2, 0, 1]))) q3 (.tup (mv [2, 0, 1]))) (upd (upd (upd (upd H6 q1 (.tup (mv [1, 2, 0]))) q2 (.tup (mv [2, 0, 1]))) q3 (.tup (mv [2, 0, 1]))) q4 (.tup (mv [1, 2, 0, 3, 4]))) := same_new g4
      have Q4 : SqT K (upd (upd (upd (upd H6 q1 (.tup (mv [1, 2, 0]))) q2 (.tup (mv [2, 0, 1]))) q3 (.tup (mv [2, 0, 1]))) q4 (.tup (mv [1, 2, 0, 3, 4]))) q4 (mv [1, 2, 0, 3, 4]) := SqT.new3 _ _
      have c5 := same_new (o := .lst [V.ref q1, V.ref q2, V.ref q3, V.ref q4]) fM
      have c25 := (c2.trans (c3.trans (c4.trans c5)))
      have c15 := c1.trans c25
      refine ⟨.list [dM [1, 2, 0], dM [2, 0, 1], dM [2, 0, 1], dM [1, 2, 0, 3, 4]], .list [dM [1, 2, 0], dM [2, 0, 1], dM [2, 0, 1], dM [1, 2, 0, 3, 4]],
        .lst (.inl (.inl (c15 _ _ hL))) (.cons (dp_mv (same_sqt c15 T1)) (.cons (dp_mv (same_sqt c15 T2)) (.cons (dp_mv (same_sqt c15 T3)) (.cons (dp_mv (same_sqt c15 T4)) .nil)))),
        .lst (.inl (.inl upd_same)) (.cons (dp_mv (same_sqt c25 Q1)) (.cons (dp_mv (same_sqt (c3.trans (c4.trans c5)) Q2)) (.cons (dp_mv (same_sqt (c4.trans c5) Q3)) (.cons (dp_mv (same_sqt c5 Q4)) .nil)))),
        by decide +kernel, by decide +kernel, ?_⟩
      refine ⟨_, rfl, ?_⟩
      refine ifF (by decide +kernel) ?_
      clear c1 c2 c3 c4 c5 c25 c15 Q1 Q2 Q3 Q4 T1 T2 T3 T4 hL
      refine ⟨by (show 5 ≤ sizeLine); decide, fun t1 f1 => ?_⟩
      refine ⟨t1, [1, 2, 0, 4, 3], rfl, SqT.new3 [1, 2, 0, 4, 3] t1, m3 (by decide), fun H8 R1 us1 _ hR1 rf1 => ?_⟩
      refine ⟨by (show 3 ≤ sizeLine); decide, fun t2 f2 => ?_⟩
      have d1 := same_new (o := .tup (mv [0, 2, 1])) f2
      refine ⟨t2, [0, 2, 1], rfl, SqT.new3 [0, 2, 1] t2, m3 (by decide), fun H9 R2 us2 s9 hR2 rf2 => ?_⟩
      replace hR1 := same_sqt (d1.trans s9) hR1
      replace rf1 := rf1.same (d1.trans s9)
      clear d1 s9
      refine ⟨by (show 5 ≤ sizeLine); decide, fun t3 f3 => ?_⟩
      have d1 := same_new (o := .tup (mv [1, 2, 0, 4, 3])) f3
      have hm5 : Mv [1, 2, 0, 4, 3] := m3 (by decide)
      refine ⟨t3, [1, 2, 0, 4, 3], rfl, SqT.new3 [1, 2, 0, 4, 3] t3, hm5, fun i => Nat.lt_of_le_of_lt (ord_small (pm_of hm5) hm5.2.2.2 i) (by decide), fun H10 s10 => ?_⟩
      replace hR1 := same_sqt (d1.trans s10) hR1
      replace rf1 := rf1.same (d1.trans s10)
      replace hR2 := same_sqt (d1.trans s10) hR2
      replace rf2 := rf2.same (d1.trans s10)
      clear d1 s10
      refine ⟨by (show 5 ≤ sizeLine); decide, fun t4 f4 => ?_⟩
      have d1 := same_new (o := .tup (mv [1, 2, 0, 4, 3])) f4
      refine ⟨t4, [1, 2, 0, 4, 3], rfl, SqT.new3 [1, 2, 0, 4, 3] t4, hm5, fun H11 s11 => ?_⟩
      replace hR1 := same_sqt (d1.trans s11) hR1
      replace rf1 := rf1.same (d1.trans s11)
      replace hR2 := same_sqt (d1.trans s11) hR2
      replace rf2 := rf2.same (d1.trans s11)
      clear d1 s11
      refine ⟨by (show 3 ≤ sizeLine); decide, fun t5 f5 => ?_⟩
      have d1 := same_new (o := .tup (mv [0, 2, 1])) f5
      refine ⟨t5, [0, 2, 1], rfl, SqT.new3 [0, 2, 1] t5, m3 (by decide), fun H12 p5 s12 T5 => ?_⟩
      replace hR1 := same_sqt (d1.trans s12) hR1
      replace rf1 := rf1.same (d1.trans s12)
      replace hR2 := same_sqt (d1.trans s12) hR2
      replace rf2 := rf2.same (d1.trans s12)
      clear d1 s12
      have e1 : rings (fn' [1, 2, 0, 4, 3]) ([1, 2, 0, 4, 3] : List Nat).length = [[0, 1, 2], [3, 4]] := by decide +kernel
      have e2 : rings (fn' [0, 2, 1]) ([0, 2, 1] : List Nat).length = [[0], [1, 2]] := by decide +kernel
      have e3 : ordOf (fn' [1, 2, 0, 4, 3]) ([1, 2, 0, 4, 3] : List Nat).length = 6 := by decide +kernel
      have e4 : stillOf [0, 2, 1] = [0] := by decide +kernel
      rw [e1] at rf1
      rw [e2] at rf2
      rw [e4] at T5
      have v4 : V.int (evenS (([1, 2, 0, 4, 3] : List Nat).length - (rings (fn' [1, 2, 0, 4, 3]) ([1, 2, 0, 4, 3] : List Nat).length).length)) = V.int (-1) := by rw [e1]; rfl
      have v3 : V.int ((ordOf (fn' [1, 2, 0, 4, 3]) ([1, 2, 0, 4, 3] : List Nat).length : Nat) : Int) = V.int 6 := by rw [e3]; rfl
      rw [v3, v4]
      clear e1 e2 e3 e4 v3 v4
      refine ⟨by (show 5 ≤ sizeLine); decide, fun L fL => ?_⟩
      have d1 := same_new (o := .lst [V.ref R1, V.ref R2, V.int 6, V.int (-1), V.ref p5]) fL
      have hL : (upd H12 L (.lst [V.ref R1, V.ref R2, V.int 6, V.int (-1), V.ref p5])) L = some (.lst [V.ref R1, V.ref R2, V.int 6, V.int (-1), V.ref p5]) := upd_same
      replace hR1 := same_sqt d1 hR1
      replace rf1 := rf1.same d1
      replace hR2 := same_sqt d1 hR2
      replace rf2 := rf2.same d1
      replace T5 := same_sqt d1 T5
      clear d1
      generalize upd H12 L _ = H13 at hR1 rf1 hR2 rf2 T5 hL ⊢
      refine ⟨_, rfl, ?_⟩
      refine ⟨by (show 3 ≤ sizeLine); decide, fun w1 fw1 => ?_⟩
      have d1 : Same H13 (upd H13 w1 (.tup [V.int 0, V.int 1, V.int 2])) := same_new fw1
      have Fw1 : SqT K (upd H13 w1 (.tup [V.int 0, V.int 1, V.int 2])) w1 (mv [0, 1, 2]) := .inl (.inl upd_same)
      replace hR1 := same_sqt d1 hR1
      replace hR2 := same_sqt d1 hR2
      replace T5 := same_sqt d1 T5
      replace rf1 := rf1.same d1
      replace rf2 := rf2.same d1
      replace hL := d1 _ _ hL
      clear d1 fw1
      obtain ⟨H14, eh⟩ : ∃ M, M = upd H13 w1 (.tup [V.int 0, V.int 1, V.int 2]) := ⟨_, rfl⟩
      rw [← eh] at hR1 rf1 hR2 rf2 T5 hL Fw1 
      rw [← eh]
      clear eh
      refine ⟨by (show 2 ≤ sizeLine); decide, fun w2 fw2 => ?_⟩
      have d1 : Same H14 (upd H14 w2 (.tup [V.int 3, V.int 4])) := same_new fw2
      have Fw2 : SqT K (upd H14 w2 (.tup [V.int 3, V.int 4])) w2 (mv [3, 4]) := .inl (.inl upd_same)
      replace hR1 := same_sqt d1 hR1
      replace hR2 := same_sqt d1 hR2
      replace T5 := same_sqt d1 T5
      replace Fw1 := same_sqt d1 Fw1
      replace rf1 := rf1.same d1
      replace rf2 := rf2.same d1
      replace hL := d1 _ _ hL
      clear d1 fw2
      obtain ⟨H15, eh⟩ : ∃ M, M = upd H14 w2 (.tup [V.int 3, V.int 4]) := ⟨_, rfl⟩
      rw [← eh] at hR1 rf1 hR2 rf2 T5 hL Fw2 Fw1
      rw [← eh]
      clear eh
      refine ⟨by (show 2 ≤ sizeLine); decide, fun w3 fw3 => ?_⟩
      have d1 : Same H15 (upd H15 w3 (.tup [V.ref w1, V.ref w2])) := same_new fw3
      have Fw3 : SqT K (upd H15 w3 (.tup [V.ref w1, V.ref w2])) w3 [V.ref w1, V.ref w2] := .inl (.inl upd_same)
      replace hR1 := same_sqt d1 hR1
      replace hR2 := same_sqt d1 hR2
      replace T5 := same_sqt d1 T5
      replace Fw1 := same_sqt d1 Fw1
      replace Fw2 := same_sqt d1 Fw2
      replace rf1 := rf1.same d1
      replace rf2 := rf2.same d1
      replace hL := d1 _ _ hL
      clear d1 fw3
      obtain ⟨H16, eh⟩ : ∃ M, M = upd H15 w3 (.tup [V.ref w1, V.ref w2]) := ⟨_, rfl⟩
      rw [← eh] at hR1 rf1 hR2 rf2 T5 hL Fw3 Fw1 Fw2
      rw [← eh]
      clear eh
      refine ⟨by (show 1 ≤ sizeLine); decide, fun w4 fw4 => ?_⟩
      have d1 : Same H16 (upd H16 w4 (.tup [V.int 0])) := same_new fw4
      have Fw4 : SqT K (upd H16 w4 (.tup [V.int 0])) w4 (mv [0]) := .inl (.inl upd_same)
      replace hR1 := same_sqt d1 hR1
      replace hR2 := same_sqt d1 hR2
      replace T5 := same_sqt d1 T5
      replace Fw1 := same_sqt d1 Fw1
      replace Fw2 := same_sqt d1 Fw2
      replace Fw3 := same_sqt d1 Fw3
      replace rf1 := rf1.same d1
      replace rf2 := rf2.same d1
      replace hL := d1 _ _ hL
      clear d1 fw4
      obtain ⟨H17, eh⟩ : ∃ M, M = upd H16 w4 (.tup [V.int 0]) := ⟨_, rfl⟩
      rw [← eh] at hR1 rf1 hR2 rf2 T5 hL Fw4 Fw1 Fw2 Fw3
      rw [← eh]
      clear eh
      refine ⟨by (show 2 ≤ sizeLine); decide, fun w5 fw5 => ?_⟩
      have d1 : Same H17 (upd H17 w5 (.tup [V.int 1, V.int 2])) := same_new fw5
      have Fw5 : SqT K (upd H17 w5 (.tup [V.int 1, V.int 2])) w5 (mv [1, 2]) := .inl (.inl upd_same)
      replace hR1 := same_sqt d1 hR1
      replace hR2 := same_sqt d1 hR2
      replace T5 := same_sqt d1 T5
      replace Fw1 := same_sqt d1 Fw1
      replace Fw2 := same_sqt d1 Fw2
      replace Fw3 := same_sqt d1 Fw3
      replace Fw4 := same_sqt d1 Fw4
      replace rf1 := rf1.same d1
      replace rf2 := rf2.same d1
      replace hL := d1 _ _ hL
      clear d1 fw5
      obtain ⟨H18, eh⟩ : ∃ M, M = upd H17 w5 (.tup [V.int 1, V.int 2]) := ⟨_, rfl⟩
      rw [← eh] at hR1 rf1 hR2 rf2 T5 hL Fw5 Fw1 Fw2 Fw3 Fw4
      rw [← eh]
      clear eh
      refine ⟨by (show 2 ≤ sizeLine); decide, fun w6 fw6 => ?_⟩
      have d1 : Same H18 (upd H18 w6 (.tup [V.ref w4, V.ref w5])) := same_new fw6
      have Fw6 : SqT K (upd H18 w6 (.tup [V.ref w4, V.ref w5])) w6 [V.ref w4, V.ref w5] := .inl (.inl upd_same)
      replace hR1 := same_sqt d1 hR1
      replace hR2 := same_sqt d1 hR2
      replace T5 := same_sqt d1 T5
      replace Fw1 := same_sqt d1 Fw1
      replace Fw2 := same_sqt d1 Fw2
      replace Fw3 := same_sqt d1 Fw3
      replace Fw4 := same_sqt d1 Fw4
      replace Fw5 := same_sqt d1 Fw5
      replace rf1 := rf1.same d1
      replace rf2 := rf2.same d1
      replace hL := d1 _ _ hL
      clear d1 fw6
      obtain ⟨H19, eh⟩ : ∃ M, M = upd H18 w6 (.tup [V.ref w4, V.ref w5]) := ⟨_, rfl⟩
      rw [← eh] at hR1 rf1 hR2 rf2 T5 hL Fw6 Fw1 Fw2 Fw3 Fw4 Fw5
      rw [← eh]
      clear eh
      refine ⟨_, rfl, ?_⟩
      refine ⟨by (show 1 ≤ sizeLine); decide, fun w7 fw7 => ?_⟩
      have d1 : Same H19 (upd H19 w7 (.tup [V.int 0])) := same_new fw7
      have Fw7 : SqT K (upd H19 w7 (.tup [V.int 0])) w7 (mv [0]) := .inl (.inl upd_same)
      replace hR1 := same_sqt d1 hR1
      replace hR2 := same_sqt d1 hR2
      replace T5 := same_sqt d1 T5
      replace Fw1 := same_sqt d1 Fw1
      replace Fw2 := same_sqt d1 Fw2
      replace Fw3 := same_sqt d1 Fw3
      replace Fw4 := same_sqt d1 Fw4
      replace Fw5 := same_sqt d1 Fw5
      replace Fw6 := same_sqt d1 Fw6
      replace rf1 := rf1.same d1
      replace rf2 := rf2.same d1
      replace hL := d1 _ _ hL
      clear d1 fw7
      obtain ⟨H20, eh⟩ : ∃ M, M = upd H19 w7 (.tup [V.int 0]) := ⟨_, rfl⟩
      rw [← eh] at hR1 rf1 hR2 rf2 T5 hL Fw7 Fw1 Fw2 Fw3 Fw4 Fw5 Fw6
      rw [← eh]
      clear eh
      refine ⟨by (show 5 ≤ sizeLine); decide, fun M fM => ?_⟩
      have d1 := same_new (o := .lst [V.ref w3, V.ref w6, V.int 6, V.int (-1), V.ref w7]) fM
      refine ⟨.list [.tuple ([[0, 1, 2], [3, 4]].map dM), .tuple ([[0], [1, 2]].map dM), .int 6, .int (-1), dM [0]], .list [.tuple ([[0, 1, 2], [3, 4]].map dM), .tuple ([[0], [1, 2]].map dM), .int 6, .int (-1), dM [0]],
        .lst (.inl (.inl (d1 _ _ hL))) (.cons (.tup (same_sqt d1 hR1) (dp_refs (rf1.same d1))) (.cons (.tup (same_sqt d1 hR2) (dp_refs (rf2.same d1))) (.cons (.int 6) (.cons (.int (-1)) (.cons (dp_mv (same_sqt d1 T5)) .nil))))),
        .lst (.inl (.inl upd_same)) (.cons (.tup (same_sqt d1 Fw3) (.cons (dp_mv (same_sqt d1 Fw1)) (.cons (dp_mv (same_sqt d1 Fw2)) .nil))) (.cons (.tup (same_sqt d1 Fw6) (.cons (dp_mv (same_sqt d1 Fw4)) (.cons (dp_mv (same_sqt d1 Fw5)) .nil))) (.cons (.int 6) (.cons (.int (-1)) (.cons (dp_mv (same_sqt d1 Fw7)) .nil))))),
        by decide +kernel, by decide +kernel, ?_⟩
      refine ⟨_, rfl, ?_⟩
      refine ifT (by decide +kernel) ?_
      clear d1 hR1 rf1 hR2 rf2 T5 hL Fw1 Fw2 Fw3 Fw4 Fw5 Fw6 Fw7
      generalize upd H20 M _ = H30
      refine ⟨by (show 0 ≤ sizeLine); decide, fun t fe => ?_⟩
      refine ⟨3, t, [], [], id, rfl, .inl (.inl upd_same), .nil, ⟨by simp, by simp, by simp⟩, ⟨by simp, fun x _ _ => rfl⟩, by decide, by decide, fun H31 p6 _ T6 => ?_⟩
      have e5 : (List.range 3).map id = [0, 1, 2] := by decide
      rw [e5] at T6
      refine ⟨by (show 3 ≤ sizeLine); decide, fun t7 f7 => ?_⟩
      have T7 : SqT K (upd H31 t7 (.tup [V.int 0, V.int 1, V.int 2])) t7 (mv [0, 1, 2]) := .inl (.inl upd_same)
      refine eqT (sqt_new T6 f7) T7 ?_
      rw [decide_eq_true rfl]
      exact q _
end
end K04


set_option Elab.async false
set_option linter.all false
set_option maxRecDepth 100000
set_option maxHeartbeats 0
namespace K04
open PySem PySem.Spec PyProof.Rows L2 MM
theorem law_def {P : Program} {w : World} {K : PySem.W.Frag} {mg : Str → Option Value} {base : Heap} (T : Tx K mg) : Def P w K mg base CX0 8 "law" ["_law_script"] (spLaw K) := by
  have DBagL := dBagL (P := P) (w := w) (base := base) T 
  have DGrabL := dGrabL (P := P) (w := w) (base := base) T 
  have DOneOfL := dOneOfL (P := P) (w := w) (base := base) T DGrabL
  have DMixedL := dMixedL (P := P) (w := w) (base := base) T DGrabL
  have DSomeMoveL := dSomeMoveL (P := P) (w := w) (base := base) T DGrabL DMixedL
  have DIsWhole := dIsWhole (P := P) (w := w) (base := base) T 
  have DIsBetween := dIsBetween (P := P) (w := w) (base := base) T DIsWhole
  have DNeedBetween := dNeedBetween (P := P) (w := w) (base := base) T DIsBetween
  have DNeedPlaces := dNeedPlaces (P := P) (w := w) (base := base) T DNeedBetween
  have DIsArrangement := dIsArrangement (P := P) (w := w) (base := base) T DIsBetween
  have DIsMove := dIsMove (P := P) (w := w) (base := base) T DNeedPlaces DIsArrangement
  have DJudgedRightL := dJudgedRightL (P := P) (w := w) (base := base) T DGrabL DIsMove
  have DOwnRingsL := dOwnRingsL (P := P) (w := w) (base := base) T 
  have DNeedMove := dNeedMove (P := P) (w := w) (base := base) T DIsArrangement
  have DStillPlaces := dStillPlaces (P := P) (w := w) (base := base) T DNeedMove
  have DCyclesU := dCyclesU (P := P) (w := w) (base := base) T 
  have DCycles := dCycles (P := P) (w := w) (base := base) T DNeedMove DCyclesU
  have DSignOf := dSignOf (P := P) (w := w) (base := base) T DNeedMove DCyclesU
  have DNeedRings := dNeedRings (P := P) (w := w) (base := base) T DIsBetween
  have DMoveOfCycles := dMoveOfCycles (P := P) (w := w) (base := base) T DNeedPlaces DNeedRings
  have DRingsRightL := dRingsRightL (P := P) (w := w) (base := base) T DOwnRingsL DStillPlaces DCycles DSignOf DMoveOfCycles DMixedL DGrabL
  have DLotTimesL := dLotTimesL (P := P) (w := w) (base := base) T 
  have DNeedPair := dNeedPair (P := P) (w := w) (base := base) T DNeedMove
  have DFollowed := dFollowed (P := P) (w := w) (base := base) T 
  have DProductOf := dProductOf (P := P) (w := w) (base := base) T DNeedPair DFollowed
  have DTurnedBack := dTurnedBack (P := P) (w := w) (base := base) T 
  have DUndone := dUndone (P := P) (w := w) (base := base) T DNeedMove DTurnedBack
  have DLotUndoneL := dLotUndoneL (P := P) (w := w) (base := base) T 
  have DUnitOf := dUnitOf (P := P) (w := w) (base := base) T DNeedPlaces
  have DOwnSignL := dOwnSignL (P := P) (w := w) (base := base) T 
  have DPowerOf := dPowerOf (P := P) (w := w) (base := base) T DNeedMove DNeedBetween DCyclesU
  have DOrderOf := dOrderOf (P := P) (w := w) (base := base) T DNeedMove DCyclesU
  have DLineShareL := dLineShareL (P := P) (w := w) (base := base) T 
  have DOwnMultipleL := dOwnMultipleL (P := P) (w := w) (base := base) T DLineShareL
  have DOwnPowerL := dOwnPowerL (P := P) (w := w) (base := base) T DOwnRingsL
  have DMovesRightL := dMovesRightL (P := P) (w := w) (base := base) T DLotTimesL DProductOf DUndone DLotUndoneL DUnitOf DSignOf DOwnSignL DPowerOf DOrderOf DOwnMultipleL DOwnRingsL DGrabL DOneOfL DOwnPowerL
  exact dLaw T DBagL DOneOfL DGrabL DSomeMoveL DJudgedRightL DRingsRightL DMovesRightL DPowerOf DUndone DProductOf DStillPlaces DSignOf DOrderOf DCycles DMoveOfCycles
def dd (x : Str) (st : Stmt) : He.DefD := ⟨(x, none), x, x, defArgs st, defBody st, defScope st, [], []⟩
def fn : List He.DefD := [dd "is_whole" sIsWhole, dd "is_between" sIsBetween, dd "need_between" sNeedBetween, dd "is_arrangement" sIsArrangement, dd "need_places" sNeedPlaces, dd "is_move" sIsMove, dd "unit_of" sUnitOf, dd "_need_move" sNeedMove, dd "_need_pair" sNeedPair, dd "followed" sFollowed, dd "turned_back" sTurnedBack, dd "product_of" sProductOf, dd "undone" sUndone, dd "_cycles" sCyclesU, dd "power_of" sPowerOf, dd "order_of" sOrderOf, dd "sign_of" sSignOf, dd "cycles" sCycles, dd "still_places" sStillPlaces, dd "_need_rings" sNeedRings, dd "move_of_cycles" sMoveOfCycles, dd "_law_bag" sBagL, dd "_law_grab" sGrabL, dd "_law_one_of" sOneOfL, dd "_law_mixed" sMixedL, dd "_law_lot_times" sLotTimesL, dd "_law_lot_undone" sLotUndoneL, dd "_law_line_share" sLineShareL, dd "_law_own_rings" sOwnRingsL, dd "_law_own_multiple" sOwnMultipleL, dd "_law_own_power" sOwnPowerL, dd "_law_own_sign" sOwnSignL, dd "_law_some_move" sSomeMoveL, dd "_law_moves_right" sMovesRightL, dd "_law_rings_right" sRingsRightL, dd "_law_judged_right" sJudgedRightL, dd "law" sLaw]
def fa : List He.Fa := [.glo "is_whole", .glo "is_between", .glo "need_between", .glo "is_arrangement", .glo "need_places", .glo "is_move", .glo "unit_of", .glo "_need_move", .glo "_need_pair", .glo "followed", .glo "turned_back", .glo "product_of", .glo "undone", .glo "_cycles", .glo "power_of", .glo "order_of", .glo "sign_of", .glo "cycles", .glo "still_places", .glo "_need_rings", .glo "move_of_cycles", .glo "_law_bag", .glo "_law_grab", .glo "_law_one_of", .glo "_law_mixed", .glo "_law_lot_times", .glo "_law_lot_undone", .glo "_law_line_share", .glo "_law_own_rings", .glo "_law_own_multiple", .glo "_law_own_power", .glo "_law_own_sign", .glo "_law_some_move", .glo "_law_moves_right", .glo "_law_rings_right", .glo "_law_judged_right", .glo "law", .free "abs", .free "all", .free "bool", .free "enumerate", .free "int", .free "isinstance", .free "len", .free "list", .free "max", .free "min", .free "range", .free "set", .free "str", .free "sum", .free "tuple", .int "MAX_PLACES" (24), .int "MAX_POWER" (10 ^ 30)]
def ex (K : PySem.W.Frag) : Bool := He.eqO (PySem.W.nsIn K mainGlobals "lcm") (some (some (.builtin "math.lcm")))
theorem tx {K : PySem.W.Frag} {h : Heap} {mg : Str → Option Value} (X : K.In h) (G : h.Ns mainGlobals mg) (c : He.SaysD fa fn K) (e : ex K = true) : Tx K mg := by
  exact {
    t_is_whole := ⟨c.def_ 0 rfl, He.glo_ok X G (c.fact 0 rfl)⟩
    t_is_between := ⟨c.def_ 1 rfl, He.glo_ok X G (c.fact 1 rfl)⟩
    t_need_between := ⟨c.def_ 2 rfl, He.glo_ok X G (c.fact 2 rfl)⟩
    t_is_arrangement := ⟨c.def_ 3 rfl, He.glo_ok X G (c.fact 3 rfl)⟩
    t_need_places := ⟨c.def_ 4 rfl, He.glo_ok X G (c.fact 4 rfl)⟩
    t_is_move := ⟨c.def_ 5 rfl, He.glo_ok X G (c.fact 5 rfl)⟩
    t_unit_of := ⟨c.def_ 6 rfl, He.glo_ok X G (c.fact 6 rfl)⟩
    t_need_move := ⟨c.def_ 7 rfl, He.glo_ok X G (c.fact 7 rfl)⟩
    t_need_pair := ⟨c.def_ 8 rfl, He.glo_ok X G (c.fact 8 rfl)⟩
    t_followed := ⟨c.def_ 9 rfl, He.glo_ok X G (c.fact 9 rfl)⟩
    t_turned_back := ⟨c.def_ 10 rfl, He.glo_ok X G (c.fact 10 rfl)⟩
    t_product_of := ⟨c.def_ 11 rfl, He.glo_ok X G (c.fact 11 rfl)⟩
    t_undone := ⟨c.def_ 12 rfl, He.glo_ok X G (c.fact 12 rfl)⟩
    t_cyclesU := ⟨c.def_ 13 rfl, He.glo_ok X G (c.fact 13 rfl)⟩
    t_power_of := ⟨c.def_ 14 rfl, He.glo_ok X G (c.fact 14 rfl)⟩
    t_order_of := ⟨c.def_ 15 rfl, He.glo_ok X G (c.fact 15 rfl)⟩
    t_sign_of := ⟨c.def_ 16 rfl, He.glo_ok X G (c.fact 16 rfl)⟩
    t_cycles := ⟨c.def_ 17 rfl, He.glo_ok X G (c.fact 17 rfl)⟩
    t_still_places := ⟨c.def_ 18 rfl, He.glo_ok X G (c.fact 18 rfl)⟩
    t_need_rings := ⟨c.def_ 19 rfl, He.glo_ok X G (c.fact 19 rfl)⟩
    t_move_of_cycles := ⟨c.def_ 20 rfl, He.glo_ok X G (c.fact 20 rfl)⟩
    t_law_bag := ⟨c.def_ 21 rfl, He.glo_ok X G (c.fact 21 rfl)⟩
    t_law_grab := ⟨c.def_ 22 rfl, He.glo_ok X G (c.fact 22 rfl)⟩
    t_law_one_of := ⟨c.def_ 23 rfl, He.glo_ok X G (c.fact 23 rfl)⟩
    t_law_mixed := ⟨c.def_ 24 rfl, He.glo_ok X G (c.fact 24 rfl)⟩
    t_law_lot_times := ⟨c.def_ 25 rfl, He.glo_ok X G (c.fact 25 rfl)⟩
    t_law_lot_undone := ⟨c.def_ 26 rfl, He.glo_ok X G (c.fact 26 rfl)⟩
    t_law_line_share := ⟨c.def_ 27 rfl, He.glo_ok X G (c.fact 27 rfl)⟩
    t_law_own_rings := ⟨c.def_ 28 rfl, He.glo_ok X G (c.fact 28 rfl)⟩
    t_law_own_multiple := ⟨c.def_ 29 rfl, He.glo_ok X G (c.fact 29 rfl)⟩
    t_law_own_power := ⟨c.def_ 30 rfl, He.glo_ok X G (c.fact 30 rfl)⟩
    t_law_own_sign := ⟨c.def_ 31 rfl, He.glo_ok X G (c.fact 31 rfl)⟩
    t_law_some_move := ⟨c.def_ 32 rfl, He.glo_ok X G (c.fact 32 rfl)⟩
    t_law_moves_right := ⟨c.def_ 33 rfl, He.glo_ok X G (c.fact 33 rfl)⟩
    t_law_rings_right := ⟨c.def_ 34 rfl, He.glo_ok X G (c.fact 34 rfl)⟩
    t_law_judged_right := ⟨c.def_ 35 rfl, He.glo_ok X G (c.fact 35 rfl)⟩
    t_law := ⟨c.def_ 36 rfl, He.glo_ok X G (c.fact 36 rfl)⟩
    f_abs := He.free_ok X G (c.fact 37 rfl)
    f_all := He.free_ok X G (c.fact 38 rfl)
    f_bool := He.free_ok X G (c.fact 39 rfl)
    f_enumerate := He.free_ok X G (c.fact 40 rfl)
    f_int := He.free_ok X G (c.fact 41 rfl)
    f_isinstance := He.free_ok X G (c.fact 42 rfl)
    f_len := He.free_ok X G (c.fact 43 rfl)
    f_list := He.free_ok X G (c.fact 44 rfl)
    f_max := He.free_ok X G (c.fact 45 rfl)
    f_min := He.free_ok X G (c.fact 46 rfl)
    f_range := He.free_ok X G (c.fact 47 rfl)
    f_set := He.free_ok X G (c.fact 48 rfl)
    f_str := He.free_ok X G (c.fact 49 rfl)
    f_sum := He.free_ok X G (c.fact 50 rfl)
    f_tuple := He.free_ok X G (c.fact 51 rfl)
    c_MAX_PLACES := by
      obtain ⟨t, e⟩ := He.int_ok X G (c.fact 52 rfl)
      exact ⟨_, e, t, rfl⟩
    c_MAX_POWER := by
      obtain ⟨t, e⟩ := He.int_ok X G (c.fact 53 rfl)
      exact ⟨_, e, t, rfl⟩
    b_lcm := PySem.W.mg_of X G (He.eqO_ok e)
    }
abbrev R : PySem.W.OpenRow := PySem.W.OpenLaw.row PySem.Challenge.rw_movemarks_k04_whole_products_powers_and
theorem law_ends {P : Program} {w : World} {K : PySem.W.Frag} {h : Heap} {mg : Str → Option Value} {f : Addr} (X : K.In h) (G : h.Ns mainGlobals mg) (hfa : mg ("law" : Str) = some (.ref f)) (c : He.SaysD fa fn K) (e : ex K = true) :
    ∃ fd : FuncData, (∀ (s : Shared) (v : Value), BindsTo s fd ⟨[v], []⟩ [("_law_script", v)]) ∧ ∀ base : Heap, K.In base → base.Ns mainGlobals mg → FnG P w K mg base CX0 8 f fd ["_law_script"] (spLaw K) := by
  have T : Tx K mg := tx X G c e
  obtain ⟨fd, F⟩ := T.t_law.fn
  have b := FunD.bindsA (ps := ["_law_script"]) F fun _ _ _ _ _ _ us hl => match us, hl with | [_], _ => rfl
  refine ⟨fd, fun s v => b s [v] rfl, fun base _ _ => ?_⟩
  obtain ⟨oc, od, _, _, _, _, _, _, _, osl, _, lk, _⟩ := F.ex
  obtain ⟨f2, fd2, F2, hm, _, _, oc2, od2, sl2, lk2⟩ := law_def (P := P) (w := w) (base := base) T
  have e1 : f2 = f := by
    rw [hfa] at hm
    injection hm with hm
    injection hm with hm
    exact hm.symm
  have e2 : He.ga K "law" = f := by
    have g := T.t_law.glo
    rw [hfa] at g
    injection g with g
    injection g with g
    exact g.symm
  subst e1
  rw [e2] at lk
  rw [lk] at lk2
  injection lk2 with lk2
  injection lk2 with z1 z2 z3 z4
  injection z3 with z3
  subst z3
  exact F2
abbrev hk : PySem.W.Hook := He.hookX 4 fa fn [] [] ex
def ob (s : PySem.W.SharedT) : He.AlX := He.obsX 4 fa fn [] [] ex (HandSHeadRun.getT s)
theorem ob_eq (s : PySem.W.SharedT) : ob s = hk.obs s.abs := He.obsX_eq (HandSHeadRun.getT_eq s)
def names : List PySem.Str := (["MarkError", "InvalidMove", "InvalidOperation", "InvalidNumber", "is_whole", "is_between", "need_between", "MAX_PLACES", "MAX_POWER", "is_arrangement", "need_places", "is_move", "unit_of", "_need_move", "_need_pair", "followed", "turned_back", "product_of", "undone", "_cycles", "power_of", "order_of", "sign_of", "cycles", "still_places", "_need_rings", "move_of_cycles", "_law_bag", "_law_grab", "_law_one_of", "_law_mixed", "_law_lot_times", "_law_lot_undone", "_law_line_share", "_law_own_rings", "_law_own_multiple", "_law_own_power", "_law_own_sign", "_law_some_move", "_law_moves_right", "_law_rings_right", "_law_judged_right"] : List String).map PySem.Str.ofString
end K04

set_option Elab.async false
set_option linter.all false
set_option maxRecDepth 100000
set_option maxHeartbeats 0
namespace K04
open PySem PySem.Spec PyProof.Rows L2 MM
theorem run (w : World) : HandSHeadRun.RunEqI R (PySem.W.view R.prog [0, 47]) hk ob 3000 names w := by
  unfold HandSHeadRun.RunEqI
  kernel_rfl
end K04
open PySem PySem.W PySem.Calls PyProof.Rows
theorem PySem.Challenge.cw_movemarks_k04_whole_products_powers_and_holds : PySem.Challenge.rw_movemarks_k04_whole_products_powers_and.Holds := by
  w_on; o_law
  refine HandSHeadRun.head_imp (r := OpenLaw.row PySem.Challenge.rw_movemarks_k04_whole_products_powers_and) (q := view (OpenLaw.row PySem.Challenge.rw_movemarks_k04_whole_products_powers_and).prog [0, 47]) (H := K04.hk) (ob := K04.ob) (M := 3000) (loose := K04.names)
    (d := HandSHeadRun.topDef (OpenLaw.row PySem.Challenge.rw_movemarks_k04_whole_products_powers_and).prog 47) (kwd := []) K04.ob_eq K04.run (by kernel_rfl) (by kernel_rfl) (by kernel_rfl) (by rfl) (by first | assumption | decide +kernel) (by decide +kernel) ⟨rfl, rfl, rfl, rfl, rfl, by decide +kernel⟩ ?hw ?hc
  case hw => w_witness2
  case hc =>
    refine MM.walk_g (l := PySem.Challenge.rw_movemarks_k04_whole_products_powers_and) (n := 63) (k := 8) (x := "_law_script") (CX := L2.CX0) rfl (by decide) (by kernel_rfl) ⟨⟨rfl, by decide, by decide⟩, rfl⟩ ?F (fun _ _ _ _ z => z)
    intro w mg fa h Y G hmg0
    obtain ⟨K, KX, c⟩ := Y
    have hmg : mg ("law" : PySem.Str) = some (.ref fa) := by
      have e : (HandSHeadRun.topDef (OpenLaw.row PySem.Challenge.rw_movemarks_k04_whole_products_powers_and).prog 47).name = ("law" : PySem.Str) := by kernel_rfl
      rw [← e]
      exact hmg0
    obtain ⟨fd, hb, hF⟩ := K04.law_ends (P := (PySem.Challenge.rw_movemarks_k04_whole_products_powers_and).prog) (w := w) KX G hmg c.t.d c.more
    exact ⟨K, fd, K04.spLaw K, KX, hb, fun H a ns hl hS => ⟨a, ns, rfl, hS, by omega, fun _ => rfl⟩, hF⟩
