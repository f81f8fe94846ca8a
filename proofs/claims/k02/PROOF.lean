import PyProof.Rows.All
import Wide.All
import OpenK.AllK
import Wide.FinOn
import HandS.ForMost
import HandS.Exc
import HandS.Defaults
import HandS.More
import HandS.Flow
import HandS.Wide
import HandS.IsInst
import HandS.Codes
import HandS.Conv
import HandS.SortInts
import HandS.TupAny
import HandS.TupMul
import HandS.DictComp
import HandS.Style
import HandS.Small
import PyProof.ReprRoads
import HandS.HeadHook1
import HandS.HeadHook2
import HandS.HeadHook3
import HandS.HeadHook4
import HandS.Gcd
import PyProof.Rows.RuleB_pow
import HandS.Set
import HandS.SetFor
import KE.GoesEnum
import HandS.Iter
import KE.SortKeyHeap
import HandS.SortKw
import HandS.Zip
import KE.KExcInit
import HandS.ExcInit
import HandS.TryMany
import HandS.ExcField
import HandS.Lambda
import KE.GoesMore
import HandS.Walk
import PyProof.Rows.SetFrom
import HandS.Text
import HandS.Strs
import HandS.Head0
import HandS.Head1
import HandS.Head2
import HandS.Head3
import HandS.Head4
import HandS.HeadEnd
import KE.KStateDown
import PySem.Challenge.RW_movemarks_k02_whole_tables
set_option Elab.async false
set_option maxRecDepth 100000
set_option maxHeartbeats 2000000
set_option linter.all false
namespace MM
open PySem PySem.Spec PyProof.Rows L2

/-! room, with nothing under way that is being shown -/
structure Rm (k : Nat) (A : Around) : Prop where
  room : Room k A
  still : A.guards = some []
theorem Rm.le {j k : Nat} {A : Around} (h : Rm k A) (le : j ≤ k) : Rm j A := ⟨h.room.mono le, h.still⟩
theorem Rm.down {k : Nat} {A : Around} {v : Env} (h : Rm (k + 1) A) : Rm k (A.deeper v) := ⟨h.room.deeper v, h.still⟩
theorem Rm.hu {k : Nat} {A : Around} (h : Rm k A) : A.units + 64 < cLine := h.room.units
theorem Rm.hu66 {k : Nat} {A : Around} (h : Rm k A) : A.units + 66 < cLine := by have := h.room.un; omega
theorem Rm.hu1 {k : Nat} {A : Around} (h : Rm k A) : A.units + 1 < cLine := by have := h.room.un; omega

/-- a def keeps its promise wherever nothing is being shown -/
structure FnG (P : Program) (w : World) (K : PySem.W.Frag) (mg : Str → Option Value) (base : Heap)
    (CX : CXT) (k : Nat) (f : Addr) (fd : FuncData) (ps : List Str) (sp : Sp) : Prop where
  arity : ∀ {vs H Q E}, sp vs H Q E → vs.length = ps.length
  runs : ∀ {A : Around} {out : List Env} {s : Shared} {H : Hp} {ar : Args} {us : List Value} {vs : List V} {Q : VK} {E : XK},
    Rm k A → Env0 P w K mg base A out s H → BindsTo s fd ar (ps.zip us) → Vals vs us → sp vs H Q E →
      codeAny (model P w) A (.call (.ref f) ar) (CR CX out P w H s Q E) s

section
variable {P : Program} {w : World} {K : PySem.W.Frag} {mg : Str → Option Value} {base : Heap} {CX : CXT}
  {j k : Nat} {f : Addr} {fd : FuncData} {ps : List Str} {sp : Sp}
theorem FnG.le (F : FnG P w K mg base CX j f fd ps sp) (h : j ≤ k) : FnG P w K mg base CX k f fd ps sp :=
  ⟨F.arity, fun r => F.runs (r.le h)⟩
theorem FnG.of (F : FnOk P w K mg base CX k f fd ps sp) : FnG P w K mg base CX k f fd ps sp :=
  ⟨fun h => F.len _ _ _ _ h, fun r e b v h => F.run _ _ _ _ _ _ _ _ _ r.room e b v h⟩

/-- by its body -/
theorem FnG.body {x qual : Str} {pa : Arguments} {bd : List Stmt} {sc : Scope} {N : List Str}
    (F : FunD K x qual pa bd sc [] [] f fd) (S : FnScope N ps sc)
    (arity : ∀ vs H Q E, sp vs H Q E → vs.length = ps.length)
    (hb : ∀ (cd : Value) (A : Around) (out : List Env) (s : Shared) (H : Hp) (vs : List V) (Q : VK) (E : XK),
      Rm k (A.deeper (envOfC qual sc s.heap.objs.size f cd)) → sp vs H Q E →
      ∃ t, PSs (cxOf CX P w K mg base N qual sc f cd A out s H E) bd t ∧
        t { nx := fun _ H' => Q .non H', rt := Q } (start N vs) H) :
    FnG P w K mg base CX (k + 1) f fd ps sp := by
  obtain ⟨oc, od, dV, kV, doc, pm, an, cd, ct, osl, rfl, lk, hcd, _, _⟩ := F.ex
  refine ⟨fun h => arity _ _ _ _ h, ?_⟩
  intro A out s H ar us vs Q E hr e0 hbd hv h
  have nv := arity _ _ _ _ h
  have inK : K.In s.heap := e0.mod.kin.keeps (fun b o e => (e0.bs b o e).1)
  have nl : s.heap.NoLimit := e0.mod.nolimit.keeps (fun b o e => (e0.bs b o e).1)
  have kd : ∀ y ∈ ps.zip us, sc.names.lookup y.1 = some .local ∨
      (sc.names.lookup y.1 = some .cell ∧ ((cellsFrom (s.heap.objs.size + 1) sc.names []).lookup y.1).isSome = true) := by
    rintro ⟨n, v⟩ hy
    cases S.par n (List.of_mem_zip hy).1 with
    | inl q => exact .inl q
    | inr q => exact .inr ⟨q, PySem.W.cellsFrom_some _ _ _ (.inl q)⟩
  refine codeAny_call_function hr.room.depth (inK _ _ lk) rfl S.co S.gen rfl (PySem.W.codeRec_of inK hcd) (hbd _ _ _ _ ?_)
  refine wpAny_newFunctionEnv_cells S.kind kd (fun env he s1 xc => ?_)
  subst he
  refine ⟨nl.keeps xc.toInCall.keep, codeAny_func ?_⟩
  obtain ⟨t, ht, hq⟩ := hb cd A out s H vs Q E hr.down h
  have I := inv_start (CX := CX) (P := P) (w := w) (qual := qual) (cd := cd) (f := f) (E := E) S hr.room.hd e0 nv hv xc
  refine wpAny_mono (ht.run [] s1 (start N vs) H _ I hq) (fun fl s' hs => ?_) (fun e s' hs => hs)
  cases fl with
  | ret u =>
    obtain ⟨v, σ', H', J, rv, q⟩ := hs
    exact ⟨v, H', J.os, J.bare, J.base, J.hok, rv, q⟩
  | next =>
    obtain ⟨σ', H', J, q⟩ := hs
    exact ⟨.non, H', J.os, J.bare, J.base, J.hok, rfl, q⟩
  | brk =>
    obtain ⟨_, _, _, q⟩ := hs
    exact q.elim
  | cont =>
    obtain ⟨_, _, _, q⟩ := hs
    exact q.elim
end

section
variable {X : Cx} {CX : CXT} {k : Nat} {f : Addr} {fd : FuncData} {ps : List Str} {sp : Sp} {E : XK}
  {x : Str} {p pos : Pos} {e : Expr} {es : List Expr} {t : TA}
theorem call_g {pins : List (Addr × Obj)} {σ : L2.St} {H : Hp} {s : Shared} {Q : VK} {us : List Value} {vs : List V}
    (F : FnG X.prog X.w X.K X.mg X.base CX k f fd ps sp) (hr : Rm k X.A) (hb : Binds X.K fd ps [])
    (hx : Passes CX X E) (I : Inv X pins σ H s) (r : Vals vs us) (h : sp vs H Q E) :
    wpAny (model X.prog X.w) X.A (call (.ref f) us) (EP X pins σ Q) X.xe s := by
  have nl : (us ++ []).length = ps.length := by
    rw [List.append_nil, ← r.length]
    exact F.arity h
  have bd := hb s us I.kIn nl
  rw [List.append_nil] at bd
  refine wpAny_call (codeAny_mono (F.runs hr I.env0 bd r h) ?_)
  intro res s' hq
  cases res with
  | error e => exact hx pins σ H s e s' I hq
  | ok fl =>
    cases fl with
    | ret u => exact I.after hq
    | next => exact hq.elim
    | brk => exact hq.elim
    | cont => exact hq.elim
/-- f(e, ..), f a def of the text -/
theorem pe_g (F : FnG X.prog X.w X.K X.mg X.base CX k f fd ps sp) (hr : Rm k X.A) (hm : X.mg x = some (.ref f))
    (hk : PySem.W.keepIn X.K (.ref f) = true) (hb : Binds X.K fd ps []) (hx : Passes CX X E) (ha : PA X (e :: es) t) (hg : Gl X x := by rfl)
    (hdb : (x == ("__debug__" : Str)) = false := by decide)
    (he : starEach (e :: es) X.env = (false, eval e X.env) :: starEach es X.env := by rfl)
    (hpl : (backTo pos (starEach es X.env)).any (·.1) = false := by rfl) :
    PE X (.Call (.Name x p) (e :: es) [] pos) (fun σ H Q => t σ H fun vs H1 => sp vs H1 Q E) := by
  constructor
  intro pins s σ H Q I h
  refine wpAny_Call_Name_kw (ld_glob I hg hm ?_ hdb)
  refine PySem.W.callWith_K (h₀ := X.base) I.ok.mod.kin hk ?_ he hpl
  exact thn (ha.run pos pins s σ H _ I h) fun us s1 ⟨vs, H1, I1, r, q⟩ => ⟨I1.kIn, call_g F hr hb hx I1 r q⟩
end

/-! the law's own end: its def is called where nothing is under way -/
section
variable {P : Program} {w : World} {K : PySem.W.Frag} {mg mb : Str → Option Value} {CX : CXT} {k : Nat} {fa a : Addr}
  {fd : FuncData} {x : Str} {sp : Sp} {s : Shared} {vs : List Value} {ns : List Int}
/-- the goal behind the call -/
def LawEnd (s : Shared) (r : Result) (t : Shared) : Prop :=
  r = .ok (.ret (.bool true)) ∧ OldK s.heap t.heap ∧ t.os = s.os ∧ AllBare t.gens
theorem law_core {H : Hp}
    (KX : K.In s.heap) (hns : s.heap.Ns mainGlobals mg) (hb : s.heap.Ns builtinsNs mb)
    (hbb : ∀ y : Str, y ≠ "__name__" → mb y = bootBuiltins y) (nl : s.heap.NoLimit) (hg : s.gens = #[])
    (ha : s.heap.get? a = some { cls := .type "list", data := .seq vs.toArray }) (hr : Rm k callerA)
    (F : ∀ base : Heap, K.In base → base.Ns mainGlobals mg → FnG P w K mg base CX k fa fd [x] sp)
    (hbind : ∀ (s : Shared) (u : Value), BindsTo s fd ⟨[u], []⟩ [(x, u)])
    (hsp : sp [.ref a] H (fun v _ => v = .bl true) fun _ _ _ => False)
    (hCX : ∀ e s', CX [] H s (fun _ _ _ => False) e s' → False)
    (only : Only H) (ok : HOk P w H s.heap) (at_a : ∀ b, H b ≠ none → b = a) (out : H a ≠ none → K.lookup a = none) :
    codeAny (model P w) callerA (.call (.ref fa) ⟨[.ref a], []⟩) (LawEnd s) s := by
  have ne_a : ∀ {b : Addr} {o : Obj}, s.heap.get? b = some o → (∀ y n, o.data ≠ .seq y n) → H b = none := by
    intro b o e no
    by_cases hb : H b = none
    · exact hb
    · rw [at_a b hb, ha] at e
      exact absurd (congrArg Obj.data (Option.some.inj e)).symm (no _ _)
  have sees : ∀ {b : Addr} {m : Str → Option Value}, s.heap.Ns b m → (hidT s.heap H).Ns b m := by
    rintro b m ⟨o, es, ep, e, d, r⟩
    refine ⟨o, es, ep, hidT_get e (ne_a e ?_), d, r⟩
    intro y n z
    rw [d] at z
    cases z
  have inB : K.In (hidT s.heap H) := by
    intro b o e
    refine hidT_get (KX b o e) ?_
    by_cases hb : H b = none
    · exact hb
    · have eb := at_a b hb
      subst eb
      rw [out hb] at e
      cases e
  obtain ⟨mc, l1, l2⟩ := nl
  have md : Mod K mg (hidT s.heap H) := ⟨inB, sees hns, ⟨mb, sees hb, hbb⟩, ⟨mc, sees l1, l2⟩⟩
  have e0 : Env0 P w K mg (hidT s.heap H) callerA [] s H := by
    refine ⟨rfl, md, fun b o e => of_hidT e, Nat.le_of_eq (hidT_size _ _), trivial, ?_, ok, .of_eq hg⟩
    intro b z
    cases z
  have vv : Vals [V.ref a] [Value.ref a] := .cons rfl .nil
  refine codeAny_mono ((F _ inB (sees hns)).runs (us := [.ref a]) hr e0 (hbind s (.ref a)) vv hsp) ?_
  intro r t h
  cases r with
  | error e => exact (hCX e t h).elim
  | ok fl =>
    cases fl with
    | next => exact h.elim
    | brk => exact h.elim
    | cont => exact h.elim
    | ret u =>
      obtain ⟨v, H', os, bare, un, ok', rv, q⟩ := h
      have q2 : v = .bl true := q
      subst q2
      have eu : u = Value.bool true := rv
      subst eu
      refine ⟨rfl, OldK.of_keep ?_, os, bare⟩
      intro b o e
      cases hb : H b with
      | none => exact un.keep b o e hb (by intro z; cases z) (by intro z; cases z)
      | some y =>
        cases only b with
        | inl z => exact absurd (hb.symm.trans z) (by intro z; cases z)
        | inr z =>
          obtain ⟨ob, xs, z⟩ := z
          have e1 := (ok b _ z).1
          have e2 := (ok' b _ (un.frzs b ob _ z)).1
          rw [e] at e1
          cases e1
          exact e2
theorem law_g
    (KX : K.In s.heap) (hns : s.heap.Ns mainGlobals mg) (hb : s.heap.Ns builtinsNs mb)
    (hbb : ∀ y : Str, y ≠ "__name__" → mb y = bootBuiltins y) (nl : s.heap.NoLimit) (hg : s.gens = #[])
    (ha : s.heap.get? a = some { cls := .type "list", data := .seq vs.toArray }) (hi : IntsAre vs ns) (hl : ns.length ≤ sizeLine)
    (hr : Rm k callerA)
    (F : ∀ base : Heap, K.In base → base.Ns mainGlobals mg → FnG P w K mg base CX k fa fd [x] sp)
    (hbind : ∀ (s : Shared) (u : Value), BindsTo s fd ⟨[u], []⟩ [(x, u)])
    (hsp : ∀ H : Hp, Only H → SqL K H a (ns.map V.int) → sp [.ref a] H (fun v _ => v = .bl true) fun _ _ _ => False)
    (hCX : ∀ H e s', CX [] H s (fun _ _ _ => False) e s' → False) :
    codeAny (model P w) callerA (.call (.ref fa) ⟨[.ref a], []⟩) (LawEnd s) s := by
  have rv := vals_ints hi
  have nv := hi.length
  cases free : K.lookup a with
  | some o =>
    have e := KX a o free
    rw [ha] at e
    cases e
    have only : Only (fun _ => none) := fun _ => .inl rfl
    refine law_core KX hns hb hbb nl hg ha hr F hbind (hsp _ only (.inr ⟨_, vs.toArray, _, free, rfl, rfl, rfl, ?_, by simpa using rv⟩))
      (hCX _) only (fun b u z => nomatch (show (none : Option HO) = some u from z)) (fun b z => absurd rfl z) (fun z => absurd rfl z)
    rw [List.size_toArray, nv]
    exact hl
  | none =>
    have only : Only (fun b => if b = a then some (.frz { cls := .type "list", data := .seq vs.toArray } (.lst (ns.map V.int))) else none) := by
      intro b
      by_cases e : b = a
      · exact .inr ⟨_, _, if_pos e⟩
      · exact .inl (if_neg e)
    refine law_core KX hns hb hbb nl hg ha hr F hbind (hsp _ only (.inl (.inr ⟨_, if_pos rfl⟩))) (hCX _) only ?_ ?_ (fun _ => free)
    · intro b u z
      by_cases e : b = a
      · have z1 := (if_pos e).symm.trans z
        cases z1
        subst e
        refine ⟨ha, ?_, vs, _, rv, ha⟩
        rw [List.length_map]
        exact hl
      · have z1 := (if_neg e).symm.trans z
        cases z1
    · intro b z
      by_cases e : b = a
      · exact e
      · exact absurd (if_neg e) z
end
/-- the head's end: what is known behind the top gives the law's promise -/
theorem walk_g {l : PySem.W.OpenLaw} {n k : Nat} {q : Program} {loose : List Str} {XP : (Str → Option Value) → Heap → Prop}
    {YP : World → Heap → Prop} {d : DefRec} {CX : CXT} {x : Str}
    (hn : l.most = some n) (hn2 : n ≤ sizeLine) (hdf : d.params.defaults = []) (hr : Rm k callerA)
    (F : ∀ (w : World) (mg : Str → Option Value) (fa : Addr) (h : Heap), YP w h → h.Ns mainGlobals mg → mg d.name = some (.ref fa) →
      ∃ (K : PySem.W.Frag) (fd : FuncData) (sp : Sp), K.In h ∧ (∀ (s : Shared) (u : Value), BindsTo s fd ⟨[u], []⟩ [(x, u)]) ∧
        (∀ (H : Hp) (a : Addr) (ns : List Int), ns.length ≤ n → SqL K H a (ns.map V.int) →
          sp [.ref a] H (fun v _ => v = .bl true) fun _ _ _ => False) ∧
        ∀ base : Heap, K.In base → base.Ns mainGlobals mg → FnG l.prog w K mg base CX k fa fd [x] sp)
    (hCX : ∀ (H : Hp) (s : Shared) (e : Value) (s' : Shared), CX [] H s (fun _ _ _ => False) e s' → False) :
    PySem.W.WalkO q loose XP YP l.row.toRowW d [] (fun f vs => PySem.call f vs) := by
  refine Att.attach_call hn hdf ?_
  intro w s0 s1 mg mb fa o pm cd doc a vs ns G Y ho hd hcd hmg hobj hints hlen hg
  obtain ⟨K, fd, sp, KX, hb, hsp, hF⟩ := F w mg fa _ Y G.T.g hmg
  exact law_g KX G.T.g G.T.b G.T.builtins G.T.nolimit hg hobj hints (Nat.le_trans hlen hn2) hr hF hb
    (fun H _ hS => hsp H a ns hlen hS) (fun H e s' => hCX H s1 e s')
end MM

set_option Elab.async false
set_option maxRecDepth 100000
set_option maxHeartbeats 2000000
set_option linter.all false
namespace MM
open PySem PySem.Spec PyProof.Rows L2

/-! a def of the text under its name -/
def Def (P : Program) (w : World) (K : PySem.W.Frag) (mg : Str → Option Value) (base : Heap) (CX : CXT) (k : Nat) (x : Str) (ps : List Str) (sp : Sp) : Prop :=
  ∃ f fd, FnG P w K mg base CX k f fd ps sp ∧ mg x = some (.ref f) ∧ PySem.W.keepIn K (.ref f) = true ∧ L2.Binds K fd ps [] ∧ ∃ oc od sl, K.lookup f = some ⟨oc, od, .func fd, sl⟩
/-- a def of the text as it stands behind the top -/
structure At (K : PySem.W.Frag) (mg : Str → Option Value) (x : Str) (st : Stmt) : Prop where
  fn : ∃ fd, FunD K x x (defArgs st) (defBody st) (defScope st) [] [] (He.ga K x) fd
  glo : mg x = some (.ref (He.ga K x))
section
variable {P : Program} {w : World} {K : PySem.W.Frag} {mg : Str → Option Value} {base : Heap} {CX : CXT} {j k : Nat} {x : Str} {ps : List Str} {sp : Sp} {st : Stmt}
theorem Def.le (D : Def P w K mg base CX j x ps sp) (h : j ≤ k) : Def P w K mg base CX k x ps sp :=
  let ⟨f, fd, F, r⟩ := D
  ⟨f, fd, F.le h, r⟩
theorem At.defX {N : List Str} (T : At K mg x st) (S : FnScope N ps (defScope st))
    (hb : ∀ (kV doc pm : Value) (an : Option Addr) (cd ct : Value) (us : List Value), us.length = ps.length →
      bindArgs (PySem.W.fnOf x x (defArgs st) (defBody st) (defScope st) .none kV doc pm an cd ct) ⟨us, []⟩ = pure (ps.zip us))
    (arity : ∀ vs H Q E, sp vs H Q E → vs.length = ps.length)
    (body : ∀ (f : Addr) (cd : Value) (A : Around) (out : List Env) (s : Shared) (H : Hp) (vs : List V) (Q : VK) (E : XK),
      Rm k (A.deeper (envOfC x (defScope st) s.heap.objs.size f cd)) → sp vs H Q E →
      ∃ t, PSs (cxOf CX P w K mg base N x (defScope st) f cd A out s H E) (defBody st) t ∧
        t { nx := fun _ H' => Q .non H', rt := Q } (start N vs) H) : Def P w K mg base CX (k + 1) x ps sp := by
  obtain ⟨fd, F⟩ := T.fn
  obtain ⟨oc, od, _, _, _, _, _, _, _, osl, _, lk, _⟩ := F.ex
  exact ⟨_, fd, FnG.body F S arity (body _), T.glo, F.kp, F.bindsN hb, oc, od, osl, lk⟩
/-- the same for a def that nothing leaves -/
theorem At.def_ {N : List Str} (T : At K mg x st) (S : FnScope N ps (defScope st))
    (hb : ∀ (kV doc pm : Value) (an : Option Addr) (cd ct : Value) (us : List Value), us.length = ps.length →
      bindArgs (PySem.W.fnOf x x (defArgs st) (defBody st) (defScope st) .none kV doc pm an cd ct) ⟨us, []⟩ = pure (ps.zip us))
    (arity : ∀ vs H Q E, sp vs H Q E → vs.length = ps.length)
    (body : ∀ (f : Addr) (cd : Value) (A : Around) (out : List Env) (s : Shared) (H : Hp) (vs : List V) (Q : VK) (E : XK),
      Rm k (A.deeper (envOfC x (defScope st) s.heap.objs.size f cd)) → sp vs H Q E →
      ∃ t, PSs (cxOf CX P w K mg base N x (defScope st) f cd A out s H E).nox (defBody st) t ∧
        t { nx := fun _ H' => Q .non H', rt := Q } (start N vs) H) : Def P w K mg base CX (k + 1) x ps sp := by
  refine T.defX S hb arity (fun f cd A out s H vs Q E hr h => ?_)
  obtain ⟨t, d, q⟩ := body f cd A out s H vs Q E hr h
  exact ⟨t, d.nox, q⟩
end
section
variable {X : Cx} {CX : CXT} {k : Nat} {ps : List Str} {sp : Sp} {E : XK} {x : Str} {p pos : Pos} {e : Expr} {es : List Expr} {t : TA}
/-- f(e, ..) -/
def tD (sp : Sp) (E : XK) (t : TA) : TE := fun σ H Q => t σ H fun vs H1 => sp vs H1 Q E
theorem pe_d (D : Def X.prog X.w X.K X.mg X.base CX k x ps sp) (hr : Rm k X.A) (hx : Passes CX X E) (ha : PA X (e :: es) t) (hg : Gl X x := by rfl)
    (hdb : (x == ("__debug__" : Str)) = false := by decide)
    (he : starEach (e :: es) X.env = (false, eval e X.env) :: starEach es X.env := by rfl)
    (hpl : (backTo pos (starEach es X.env)).any (·.1) = false := by rfl) : PE X (.Call (.Name x p) (e :: es) [] pos) (tD sp E t) := by
  obtain ⟨f, fd, F, hm, hk, hb, _⟩ := D
  exact pe_g F hr hm hk hb hx ha hg hdb he hpl
end

/-! tests whose answer is known -/
theorem ifT {c : Bool} {A B : Prop} (h : c = true) (a : A) : if c = true then A else B := by
  rw [if_pos h]
  exact a
theorem ifF {c : Bool} {A B : Prop} (h : c = false) (b : B) : if c = true then A else B := by
  rw [h, if_neg Bool.false_ne_true]
  exact b
theorem dInt (a b : Int) : decide (V.int a = V.int b) = decide (a = b) := by
  by_cases e : a = b
  · rw [e, decide_eq_true rfl, decide_eq_true rfl]
  · rw [decide_eq_false e, decide_eq_false (fun z => e (V.int.inj z))]
/-! more rules by values -/
section
variable {X : Cx}
/-- ** of great numbers -/
def CPw (i j : Int) : Prop := 0 ≤ j ∧ (Builtin.Int.intBits i : Int) * j ≤ 2 ^ 27
instance (i j : Int) : Decidable (CPw i j) := inferInstanceAs (Decidable (_ ∧ _))
instance (i j : Int) : Decidable (CDivW i j) := inferInstanceAs (Decidable (_ ∧ _))
theorem op_pw : OpR X (binaryOp .Pow) (rI CPw fun i j => .int (i ^ j.toNat)) := opI fun _ _ _ _ _ _ _ hc q => pow_int hc.1 hc.2 q
/-- repr of data -/
def rRepr (K : PySem.W.Frag) : List V → Hp → VK → Prop := fun xs H Q =>
  ∃ x d, xs = [x] ∧ Dp K H x d ∧ SeqAt.shaped d = true ∧ d.showable = true ∧ d.shown.length ≤ sizeLine ∧ Q (.str d.shown) H
theorem cr_repr (hg : X.A.guards = some []) (hu : X.A.units + 66 < cLine) : CallR X (.builtin "repr") (rRepr X.K) := by
  intro pins s σ H xs us Q I r h
  obtain ⟨x, d, rfl, hd, hs, hw, hz, q⟩ := h
  obtain ⟨u, rfl, ru⟩ := vals1 r
  have hdep := SeqAt.depth_of_shaped hs
  have hno := PyData.hasDict_of_canLay d (SeqAt.canLay_of_shaped hs)
  obtain ⟨as, rd⟩ := Dp.reads I d x u hd ru
  have fin : ∀ (h' : Heap) (z : Tok) (tk : Nat), (∀ b o, s.heap.get? b = some o → h'.get? b = some o) →
      EP X pins σ Q (.str d.shown z) { s with heap := h', toks := tk } := fun h' z tk hk => ⟨.str _, H, I.kept hk, ⟨_, rfl⟩, q⟩
  cases hd with
  | non =>
    cases ru
    exact PySem.P.repr_of_none (fin s.heap _ _ fun _ _ e => e)
  | bl b =>
    cases ru
    exact PySem.P.repr_of_bool (fin s.heap _ _ fun _ _ e => e)
  | int i =>
    obtain ⟨t, rfl⟩ := ru
    exact PySem.P.repr_of_int (of_decide_eq_true hw) (fin s.heap _ _ fun _ _ e => e)
  | str z =>
    obtain ⟨t, rfl⟩ := ru
    exact PySem.P.repr_of_str (fin s.heap _ _ fun _ _ e => e) hz
  | lst h1 h2 =>
    cases ru
    exact repr_of_reads' rd hw (PyData.noDict_hsm hno) hg (by omega) (fun _ _ e => e) (fun h' z tk hk => fin h' z tk hk) hz
  | tup h1 h2 =>
    cases ru
    exact repr_of_reads' rd hw (PyData.noDict_hsm hno) hg (by omega) (fun _ _ e => e) (fun h' z tk hk => fin h' z tk hk) hz
end
end MM

set_option Elab.async false
set_option maxRecDepth 100000
set_option maxHeartbeats 2000000
set_option linter.all false
namespace MM
open PySem PySem.Spec PyProof.Rows L2
/-! what kind a value is of -/
inductive Kn where
  | non | bl | int | str | lst | tup | dct
def Kn.name : Kn → String
  | .non => "NoneType"
  | .bl => "bool"
  | .int => "int"
  | .str => "str"
  | .lst => "list"
  | .tup => "tuple"
  | .dct => "dict"
def Kn.isa : Kn → Kn → Bool
  | .bl, .int => true
  | .non, .non => true
  | .bl, .bl => true
  | .int, .int => true
  | .str, .str => true
  | .lst, .lst => true
  | .tup, .tup => true
  | .dct, .dct => true
  | _, _ => false
theorem Kn.isa_ok (n m : Kn) : kitB n.name m.name = some (n.isa m) := by cases n <;> cases m <;> decide +kernel
inductive Kd (K : PySem.W.Frag) (H : Hp) : V → Kn → Prop where
  | non : Kd K H .non .non
  | bl (b : Bool) : Kd K H (.bl b) .bl
  | int (i : Int) : Kd K H (.int i) .int
  | str (z : Str) : Kd K H (.str z) .str
  | lst {a : Addr} {xs : List V} (h : SqL K H a xs) : Kd K H (.ref a) .lst
  | tup {a : Addr} {xs : List V} (h : SqT K H a xs) : Kd K H (.ref a) .tup
  | dct {a : Addr} {kvs : List (Key × V)} (h : H a = some (.dK kvs)) : Kd K H (.ref a) .dct
theorem Kd.ty {K : PySem.W.Frag} {H : Hp} {x : V} {n : Kn} (h : Kd K H x n) : TyX K H x (.type n.name) := by
  cases h with
  | non => exact .base .non
  | bl b => exact .base (.bl b)
  | int i => exact .base (.int i)
  | str z => exact .base (.str z)
  | lst h =>
    rcases h with (h | ⟨o, h⟩) | ⟨o, its, k, h, c, _⟩
    · exact .base (.lst h)
    · exact .base (.frz h)
    · exact .kList h c
  | tup h =>
    rcases h with h | h
    · rcases h with h | ⟨o, h⟩
      · exact .base (.tup h)
      · exact .fTuple h
    · obtain ⟨o, its, k, h, c, _⟩ := h
      exact .kTuple h c
  | dct h => exact .base (.dK h)
/-- an int, and no bool -/
def isW : V → Bool
  | .int _ => true
  | _ => false
section
variable {X : Cx}
def rIs (K : PySem.W.Frag) (m : Kn) : List V → Hp → VK → Prop := fun xs H Q => ∃ x n, xs = [x, .ty m.name] ∧ Kd K H x n ∧ Q (.bl (n.isa m)) H
theorem cr_is (m : Kn) : CallR X (.builtin "isinstance") (rIs X.K m) := by
  intro pins s σ H xs us Q I r h
  obtain ⟨x, n, rfl, hk, q⟩ := h
  exact call_isi pins s σ H _ us Q I r ⟨x, .ty m.name, .type n.name, .type m.name, n.isa m, rfl, .ty _, hk.ty, kit_ty (n.isa_ok m), q⟩
/-- a built-in class by its name -/
theorem pe_ty (m : Kn) {x : Str} {pos : Pos} (hm : X.mg x = none) (hv : bootBuiltins x = some (.type m.name)) (hg : Gl X x := by rfl) (hn : x ≠ "__name__" := by decide)
    (hdb : (x == ("__debug__" : Str)) = false := by decide) : PE X (.Name x pos) (tC (.ty m.name)) := pe_bltn hg hm hv rfl hn hdb
end
/-! heaps -/
theorem same_new {H : Hp} {p : Addr} {o : HO} (h : H p = none) : Same H (upd H p o) := fun b x e => by
  rw [upd_ne (ne_of_none e h)]
  exact e
theorem sql_new {K : PySem.W.Frag} {H : Hp} {p l : Addr} {xs : List V} {o : HO} (h : SqL K H l xs) (n : H p = none) : SqL K (upd H p o) l xs := (same_new n).seq h
theorem same_sqt {K : PySem.W.Frag} {H H' : Hp} {a : Addr} {xs : List V} (e : Same H H') (h : SqT K H a xs) : SqT K H' a xs := by
  rcases h with (h | ⟨o, h⟩) | h
  · exact .inl (.inl (e _ _ h))
  · exact .inl (.inr ⟨o, e _ _ h⟩)
  · exact .inr h
theorem sqt_new {K : PySem.W.Frag} {H : Hp} {p l : Addr} {xs : List V} {o : HO} (h : SqT K H l xs) (n : H p = none) : SqT K (upd H p o) l xs := same_sqt (same_new n) h
theorem sql_upd {K : PySem.W.Frag} {H : Hp} {p l : Addr} {xs : List V} {o : HO} (h : SqL K H l xs) (ne : l ≠ p) : SqL K (upd H p o) l xs := by
  rcases h with (h | ⟨u, h⟩) | h
  · exact .inl (.inl (by rw [upd_ne ne]; exact h))
  · exact .inl (.inr ⟨u, by rw [upd_ne ne]; exact h⟩)
  · exact .inr h
theorem sqt_upd {K : PySem.W.Frag} {H : Hp} {p l : Addr} {xs : List V} {o : HO} (h : SqT K H l xs) (ne : l ≠ p) : SqT K (upd H p o) l xs := by
  rcases h with (h | ⟨u, h⟩) | h
  · exact .inl (.inl (by rw [upd_ne ne]; exact h))
  · exact .inl (.inr ⟨u, by rw [upd_ne ne]; exact h⟩)
  · exact .inr h
theorem Kd.same {K : PySem.W.Frag} {H H' : Hp} {x : V} {n : Kn} (e : Same H H') (h : Kd K H x n) : Kd K H' x n := by
  cases h with
  | non => exact .non
  | bl b => exact .bl b
  | int i => exact .int i
  | str z => exact .str z
  | lst h => exact .lst (e.seq h)
  | tup h => exact .tup (same_sqt e h)
  | dct h => exact .dct (e _ _ h)
/-! a list comprehension whose elements are reckoned without a new object -/
section
variable {K : PySem.W.Frag} {v : Nat} {te : TE} {σ : L2.St} {H1 : Hp} {D : Addr} {Qd : Hp → Prop} {n : Nat}
/-- what tLc asks of its walk -/
def LcW (J : It) (g : TG) (tt : TT) (te : TE) (vs : List Nat) (σ : L2.St) (H1 : Hp) (D : Addr) (Qd : Hp → Prop) : Prop :=
  ∃ W : Nat → Nat → Hp → Prop, (∃ m, W 0 m (upd H1 D (.lst []))) ∧ ∀ i m H, W i m H →
    (J.stop i H ∧ Qd H) ∨ (J.go i H ∧ ∃ Nx : Hp → Prop, (∀ H', Nx H' → ∃ m', m' < m ∧ W (i + 1) m' H') ∧
      ∀ x H', J.yld i H x H' → g x (wipe σ vs) H' fun σ2 H2 => wipe σ2 vs = wipe σ vs ∧ tt σ2 H2 fun b H3 =>
        if b = true then te σ2 H3 fun y H4 => ∃ acc, H4 D = some (.lst acc) ∧ acc.length < sizeLine ∧ Nx (upd H4 D (.lst (acc ++ [y]))) else Nx H3)
theorem yes_ {H : Hp} {A B : Hp → Prop} (h : A H) : tYes σ H fun b H3 => if b = true then A H3 else B H3 := by
  show (if true = true then A H else B H)
  rw [if_pos rfl]
  exact h
theorem wipe_one {x : Option V} : wipe ((wipe σ [v]).set v x) [v] = wipe σ [v] := by
  show ((σ.set v none).set v x).set v none = σ.set v none
  rw [List.set_set, List.set_set]
theorem lc_rng {lo : Int} (f : Nat → V) (hn : n ≤ sizeLine)
    (hs : ∀ i acc, i < n → ∀ Q : VK, Q (f i) (upd H1 D (.lst acc)) → te ((wipe σ [v]).set v (some (.int (lo + i)))) (upd H1 D (.lst acc)) Q)
    (hd : Qd (upd H1 D (.lst ((List.range n).map f)))) : LcW (Itr lo n) (gName v) tYes te [v] σ H1 D Qd := by
  refine lc_range (Pv := fun i H => H = upd H1 D (.lst ((List.range i).map f))) rfl ?_ (fun H e => by rw [e]; exact hd)
  intro i H hi e
  subst e
  refine ⟨wipe_one, yes_ ?_⟩
  refine hs i _ hi _ ⟨_, upd_same, ?_, ?_⟩
  · rw [List.length_map, List.length_range]
    exact Nat.lt_of_lt_of_le hi hn
  · rw [upd_upd, List.range_succ, List.map_append]
    rfl
theorem lc_seq {a : Addr} {xs : List V} (f : V → V) (hx : SqL K H1 a xs) (nD : H1 D = none) (hn : xs.length ≤ sizeLine)
    (hs : ∀ x acc, x ∈ xs → ∀ Q : VK, Q (f x) (upd H1 D (.lst acc)) → te ((wipe σ [v]).set v (some x)) (upd H1 D (.lst acc)) Q)
    (hd : Qd (upd H1 D (.lst (xs.map f)))) : LcW (Itl K a) (gName v) tYes te [v] σ H1 D Qd := by
  refine lc_list (xs := xs) (Pv := fun i H => H = upd H1 D (.lst ((xs.take i).map f))) rfl (fun i H _ e => by rw [e]; exact sql_new hx nD) ?_ (fun H e => by rw [e, List.take_length]; exact hd)
  intro i x H hi e
  subst e
  have lt : i < xs.length := (List.getElem?_eq_some_iff.mp hi).1
  refine ⟨wipe_one, yes_ ?_⟩
  refine hs x _ (List.mem_of_getElem? hi) _ ⟨_, upd_same, ?_, ?_⟩
  · rw [List.length_map, List.length_take]
    omega
  · rw [upd_upd, List.take_add_one, hi, List.map_append]
    rfl
theorem lc_tpl {a : Addr} {xs : List V} (f : V → V) (hx : SqT K H1 a xs) (nD : H1 D = none) (hn : xs.length ≤ sizeLine)
    (hs : ∀ x acc, x ∈ xs → ∀ Q : VK, Q (f x) (upd H1 D (.lst acc)) → te ((wipe σ [v]).set v (some x)) (upd H1 D (.lst acc)) Q)
    (hd : Qd (upd H1 D (.lst (xs.map f)))) : LcW (Itt K a) (gName v) tYes te [v] σ H1 D Qd := by
  refine lc_tup (xs := xs) (Pv := fun i H => H = upd H1 D (.lst ((xs.take i).map f))) rfl (fun i H _ e => by rw [e]; exact sqt_new hx nD) ?_ (fun H e => by rw [e, List.take_length]; exact hd)
  intro i x H hi e
  subst e
  have lt : i < xs.length := (List.getElem?_eq_some_iff.mp hi).1
  refine ⟨wipe_one, yes_ ?_⟩
  refine hs x _ (List.mem_of_getElem? hi) _ ⟨_, upd_same, ?_, ?_⟩
  · rw [List.length_map, List.length_take]
    omega
  · rw [upd_upd, List.take_add_one, hi, List.map_append]
    rfl
/-- with a test -/
theorem lc_rngF {tt : TT} {lo : Int} (p : Nat → Bool) (f : Nat → V) (hn : n ≤ sizeLine)
    (ht : ∀ i acc, i < n → ∀ Q : Bool → Hp → Prop, Q (p i) (upd H1 D (.lst acc)) → tt ((wipe σ [v]).set v (some (.int (lo + i)))) (upd H1 D (.lst acc)) Q)
    (hs : ∀ i acc, i < n → p i = true → ∀ Q : VK, Q (f i) (upd H1 D (.lst acc)) → te ((wipe σ [v]).set v (some (.int (lo + i)))) (upd H1 D (.lst acc)) Q)
    (hd : Qd (upd H1 D (.lst (((List.range n).filter p).map f)))) : LcW (Itr lo n) (gName v) tt te [v] σ H1 D Qd := by
  refine lc_range (Pv := fun i H => H = upd H1 D (.lst (((List.range i).filter p).map f))) rfl ?_ (fun H e => by rw [e]; exact hd)
  intro i H hi e
  subst e
  have le : (((List.range i).filter p).map f).length ≤ i := by
    rw [List.length_map]
    exact Nat.le_trans (List.length_filter_le _ _) (Nat.le_of_eq List.length_range)
  refine ⟨wipe_one, ht i _ hi _ ?_⟩
  cases e : p i with
  | true =>
    rw [if_pos rfl]
    refine hs i _ hi e _ ⟨_, upd_same, Nat.lt_of_le_of_lt le (Nat.lt_of_lt_of_le hi hn), ?_⟩
    rw [upd_upd, List.range_succ, List.filter_append, List.map_append]
    simp [e]
  | false =>
    rw [if_neg Bool.false_ne_true, List.range_succ, List.filter_append, List.map_append]
    simp [e]
end
/-! data: ints and bools in lists and tuples -/
section
variable {K : PySem.W.Frag} {H : Hp}
theorem dp_ints : ∀ ns : List Int, DpAll K H (ns.map V.int) (ns.map PyData.int)
  | [] => .nil
  | n :: r => .cons (.int n) (dp_ints r)
theorem dp_bools : ∀ bs : List Bool, DpAll K H (bs.map V.bl) (bs.map PyData.bool)
  | [] => .nil
  | b :: r => .cons (.bl b) (dp_bools r)
end
theorem lay_ints : ∀ ns : List Int, PyData.canLayAll0 (ns.map PyData.int) = true
  | [] => rfl
  | n :: r => by
    show (PyData.canLay0 (.int n) && PyData.canLayAll0 (r.map PyData.int)) = true
    rw [lay_ints r]
    rfl
theorem dep_ints : ∀ ns : List Int, PyData.depthAll (ns.map PyData.int) ≤ 1
  | [] => by decide
  | n :: r => by
    have := dep_ints r
    simp only [List.map_cons, PyData.depthAll, PyData.depth]
    omega
theorem shaped_ints (ns : List Int) : SeqAt.shaped (.list (ns.map PyData.int)) = true := by
  unfold SeqAt.shaped
  have h := dep_ints ns
  rw [show PyData.canLay0 (.list (ns.map PyData.int)) = true from lay_ints ns, Bool.true_and]
  refine decide_eq_true ?_
  simp only [PyData.depth]
  omega
theorem lay_bools : ∀ bs : List Bool, PyData.canLayAll0 (bs.map PyData.bool) = true
  | [] => rfl
  | b :: r => by
    show (PyData.canLay0 (.bool b) && PyData.canLayAll0 (r.map PyData.bool)) = true
    rw [lay_bools r]
    rfl
theorem dep_bools : ∀ bs : List Bool, PyData.depthAll (bs.map PyData.bool) ≤ 1
  | [] => by decide
  | n :: r => by
    have := dep_bools r
    simp only [List.map_cons, PyData.depthAll, PyData.depth]
    omega
theorem shaped_bools (bs : List Bool) : SeqAt.shaped (.list (bs.map PyData.bool)) = true := by
  unfold SeqAt.shaped
  have h := dep_bools bs
  rw [show PyData.canLay0 (.list (bs.map PyData.bool)) = true from lay_bools bs, Bool.true_and]
  refine decide_eq_true ?_
  simp only [PyData.depth]
  omega
theorem shapedT_ints (ns : List Int) : SeqAt.shaped (.tuple (ns.map PyData.int)) = true := by
  unfold SeqAt.shaped
  have h := dep_ints ns
  rw [show PyData.canLay0 (.tuple (ns.map PyData.int)) = true from lay_ints ns, Bool.true_and]
  refine decide_eq_true ?_
  simp only [PyData.depth]
  omega
theorem eqvAll_ints : ∀ ns ms : List Int, PyData.eqvAll (ns.map PyData.int) (ms.map PyData.int) = decide (ns = ms)
  | [], [] => rfl
  | [], _ :: _ => rfl
  | _ :: _, [] => rfl
  | n :: r, m :: q => by
    show (PyData.eqv (.int n) (.int m) && PyData.eqvAll (r.map PyData.int) (q.map PyData.int)) = _
    rw [eqvAll_ints r q]
    show ((n == m) && decide (r = q)) = _
    by_cases e : n = m
    · subst e
      by_cases f : r = q
      · subst f
        simp
      · simp [f]
    · simp [e]
end MM

set_option Elab.async false
set_option linter.all false
set_option maxRecDepth 100000
set_option maxHeartbeats 2000000
namespace K02
open PySem PySem.Spec PyProof.Rows L2 MM
def topS (i : Nat) : Stmt := PySem.Challenge.pw_movemarks_k02_whole_tables.main.body.getD i (.Pass ⟨0, 0, 0, 0⟩)
/-! own words for the readings: a step, its side -/
local macro_rules | `(tactic| walk_at "side") => `(tactic| first
  | omega
  | exact ⟨by omega, by omega⟩
  | exact Or.inl ⟨by omega, by omega⟩
  | exact Or.inr ⟨by omega, by omega⟩
  | (show CPw _ _; decide +kernel)
  | (show (0 : Int) < _; decide +kernel)
  | (show CDivW _ _; first | assumption | exact ⟨by decide, by decide +kernel⟩))
local macro_rules | `(tactic| walk_at "here") => `(tactic| first
  | assumption
  | exact upd_same
  | exact Or.inl (Or.inl upd_same)
  | exact Or.inl upd_same)
local macro_rules | `(tactic| walk_at "one") => `(tactic| first
  | refine ⟨_, rfl, ?_⟩
  | refine Or.inl ⟨_, rfl, ?_⟩
  | refine Or.inr ⟨_, rfl, ?_⟩
  | refine ⟨_, _, rfl, rfl, (by walk_at "side"), ?_⟩
  | refine ⟨_, _, rfl, rfl, ?_⟩
  | refine ⟨_, _, rfl, Or.inl (by walk_at "here"), ?_⟩
  | refine ⟨_, _, rfl, Or.inr (by walk_at "here"), ?_⟩
  | refine ⟨_, _, rfl, (by walk_at "here"), ?_⟩
  | refine ⟨_, _, _, _, rfl, rfl, (by walk_at "here"), rfl, ?_⟩
  | refine ⟨_, _, rfl, ?_⟩
  | refine ifT (by rfl) ?_
  | refine ifF (by rfl) ?_
  | refine ifT (decide_eq_true (by omega)) ?_
  | refine ifF (decide_eq_false (by omega)) ?_)
local macro_rules | `(tactic| walk_at "st") => `(tactic| repeat (walk_at "one"))

abbrev sIsWhole : Stmt := topS 7
abbrev sIsInteger : Stmt := topS 8
abbrev sIsLine : Stmt := topS 11
abbrev sIsTable : Stmt := topS 12
abbrev sNeedTable : Stmt := topS 13
abbrev sColumns : Stmt := topS 14
abbrev sTableProduct : Stmt := topS 15
abbrev sLineProduct : Stmt := topS 16
abbrev sLeadRow : Stmt := topS 17
abbrev sStepped : Stmt := topS 18
abbrev sStairs : Stmt := topS 19
abbrev sBegunWith : Stmt := topS 20
abbrev sDeterminant : Stmt := topS 21
abbrev sRank : Stmt := topS 22
abbrev sKernelRow : Stmt := topS 23
abbrev sWithoutDivisor : Stmt := topS 24
abbrev sKernel : Stmt := topS 25
abbrev sBezout : Stmt := topS 26
abbrev sMixed : Stmt := topS 27
abbrev sColumnCleared : Stmt := topS 28
abbrev sCornerCleared : Stmt := topS 29
abbrev sLeadPlace : Stmt := topS 30
abbrev sDiagonal : Stmt := topS 31
abbrev sAsChain : Stmt := topS 32
abbrev sDivisorsWithin : Stmt := topS 33
abbrev sSquareDivisors : Stmt := topS 34
abbrev sElementaryDivisors : Stmt := topS 35
abbrev sBagL : Stmt := topS 37
abbrev sGrabL : Stmt := topS 38
abbrev sOneOfL : Stmt := topS 39
abbrev sTbDivisorL : Stmt := topS 40
abbrev sTbDeterminantL : Stmt := topS 41
abbrev sTbChoicesL : Stmt := topS 42
abbrev sTbSharesL : Stmt := topS 43
abbrev sTbProductL : Stmt := topS 44
abbrev sTbDrawnL : Stmt := topS 45
abbrev sIsEchelonL : Stmt := topS 46
abbrev sKernelRightL : Stmt := topS 47
abbrev sRightL : Stmt := topS 48
abbrev sJudgedRightL : Stmt := topS 49
abbrev sLaw : Stmt := topS 50
structure Tx (K : PySem.W.Frag) (mg : Str → Option Value) : Prop where
  t_is_whole : At K mg "is_whole" sIsWhole
  t_is_integer : At K mg "is_integer" sIsInteger
  t_is_line : At K mg "_is_line" sIsLine
  t_is_table : At K mg "is_table" sIsTable
  t_need_table : At K mg "_need_table" sNeedTable
  t_columns : At K mg "_columns" sColumns
  t_table_product : At K mg "table_product" sTableProduct
  t_line_product : At K mg "_line_product" sLineProduct
  t_lead_row : At K mg "_lead_row" sLeadRow
  t_stepped : At K mg "_stepped" sStepped
  t_stairs : At K mg "_stairs" sStairs
  t_begun_with : At K mg "_begun_with" sBegunWith
  t_determinant : At K mg "determinant" sDeterminant
  t_rank : At K mg "rank" sRank
  t_kernel_row : At K mg "_kernel_row" sKernelRow
  t_without_divisor : At K mg "_without_divisor" sWithoutDivisor
  t_kernel : At K mg "kernel" sKernel
  t_bezout : At K mg "bezout" sBezout
  t_mixed : At K mg "mixed" sMixed
  t_column_cleared : At K mg "_column_cleared" sColumnCleared
  t_corner_cleared : At K mg "_corner_cleared" sCornerCleared
  t_lead_place : At K mg "_lead_place" sLeadPlace
  t_diagonal : At K mg "_diagonal" sDiagonal
  t_as_chain : At K mg "_as_chain" sAsChain
  t_divisors_within : At K mg "_divisors_within" sDivisorsWithin
  t_square_divisors : At K mg "_square_divisors" sSquareDivisors
  t_elementary_divisors : At K mg "elementary_divisors" sElementaryDivisors
  t_law_bag : At K mg "_law_bag" sBagL
  t_law_grab : At K mg "_law_grab" sGrabL
  t_law_one_of : At K mg "_law_one_of" sOneOfL
  t_law_tb_divisor : At K mg "_law_tb_divisor" sTbDivisorL
  t_law_tb_determinant : At K mg "_law_tb_determinant" sTbDeterminantL
  t_law_tb_choices : At K mg "_law_tb_choices" sTbChoicesL
  t_law_tb_shares : At K mg "_law_tb_shares" sTbSharesL
  t_law_tb_product : At K mg "_law_tb_product" sTbProductL
  t_law_tb_drawn : At K mg "_law_tb_drawn" sTbDrawnL
  t_law_is_echelon : At K mg "_law_is_echelon" sIsEchelonL
  t_law_kernel_right : At K mg "_law_kernel_right" sKernelRightL
  t_law_right : At K mg "_law_right" sRightL
  t_law_judged_right : At K mg "_law_judged_right" sJudgedRightL
  t_law : At K mg "law" sLaw
  f_abs : mg "abs" = none
  f_all : mg "all" = none
  f_any : mg "any" = none
  f_bool : mg "bool" = none
  f_enumerate : mg "enumerate" = none
  f_int : mg "int" = none
  f_isinstance : mg "isinstance" = none
  f_len : mg "len" = none
  f_list : mg "list" = none
  f_max : mg "max" = none
  f_min : mg "min" = none
  f_range : mg "range" = none
  f_set : mg "set" = none
  f_sorted : mg "sorted" = none
  f_sum : mg "sum" = none
  f_tuple : mg "tuple" = none
  f_zip : mg "zip" = none
  c_TOO_LONG : ∃ u, mg "_TOO_LONG" = some u ∧ RelV (.int (10 ^ 60)) u
  c_MAX_SIZE : ∃ u, mg "MAX_SIZE" = some u ∧ RelV (.int (60)) u
  b_gcd : mg "gcd" = some (.builtin "math.gcd")
  b_lcm : mg "lcm" = some (.builtin "math.lcm")

section
variable {P : Program} {w : World} {K : PySem.W.Frag} {mg : Str → Option Value} {base : Heap}
/-- a bag of draws -/
def BagAt (H : Hp) (p : Addr) : Prop := ∃ g m c : Int, H p = some (.lst [.int g, .int m, .int c])
def spBag (K : PySem.W.Frag) : Sp := fun vs H Q _ => ∃ (a : Addr) (n : Nat) (ns : List Int), vs = [.ref a, .int n] ∧ SqL K H a (ns.map V.int) ∧ n ≤ 100 ∧
  ∀ (H' : Hp) (p : Addr), Same H H' → H p = none → BagAt H' p → Q (.ref p) H'
theorem scBagL : FnScope ["_law_script", "_law_spot", "_law_cell", "_law_great", "_law_mixed"] ["_law_script", "_law_spot"] (defScope sBagL) :=
  ⟨rfl, rfl, rfl, by decide +kernel, rfl, by decide +kernel, by decide +kernel⟩
theorem dBagL (T : Tx K mg) : Def P w K mg base CX0 1 "_law_bag" ["_law_script", "_law_spot"] (spBag K) := by
  refine T.t_law_bag.def_ (N := ["_law_script", "_law_spot", "_law_cell", "_law_great", "_law_mixed"]) scBagL (fun _ _ _ _ _ _ us hl => match us, hl with | [_, _], _ => rfl) ?_ ?_
  · intro vs H Q E h
    obtain ⟨a, n, ns, rfl, _⟩ := h
    rfl
  · intro f cd A out s H vs Q E hr h
    obtain ⟨a, n, ns, rfl, hS, hn, q⟩ := h
    refine ⟨_, (pss_cons (ps_set (i := 2) scBagL.nd rfl (Or.inl rfl) (pe_ifExp (pt_cmpR op_lt (pv 1) (pe_callB call_len_seq rfl T.f_len (by decide +kernel) (pa_cons (pv 0) pa_nil)) (nomark _)) (pe_ix ix_list (pv 0) (pv 1) (fun _ _ => rfl)) (pe_op op_add (pe_op op_add (pe_callB (cr_sum rfl) rfl T.f_sum (by decide +kernel) (pa_cons (pe_slice sl_list (pv 0) po_none (po_some pe_int)) pa_nil)) (pe_op op_mul pe_int (pv 1))) pe_int)))
      (pss_cons (ps_set (i := 3) scBagL.nd rfl (Or.inl rfl) (pe_op op_mod (pe_callTy call_int1 rfl T.f_int (by decide +kernel) (pa_cons (pe_callB call_abs rfl T.f_abs (by decide +kernel) (pa_cons (pv 2) pa_nil)) pa_nil)) (pe_op op_pw (pe_op op_pw pe_int pe_int) pe_int)))
      (pss_cons (ps_set (i := 4) scBagL.nd rfl (Or.inl rfl) (pe_op op_add (pe_op op_add (pe_op op_add (pe_op op_mul (pe_op op_mod (pe_callTy call_int1 rfl T.f_int (by decide +kernel) (pa_cons (pv 3) pa_nil)) pe_int) pe_int) (pe_op op_mul pe_int (pv 1))) (pe_op op_mul pe_int (pe_callTy call_int1 rfl T.f_int (by decide +kernel) (pa_cons (pe_cmpR op_lt (pv 2) pe_int (nomark _)) pa_nil)))) pe_int))
      (pss_one (ps_ret (pe_lst (pa_cons (pe_callB (call_max2 rfl) rfl T.f_max (by decide +kernel) (pa_cons pe_int (pa_cons (pe_op op_sub (pv 3) (pe_op op_pw pe_int pe_int)) pa_nil))) (pa_cons (pe_op op_mod (pe_callTy call_int1 rfl T.f_int (by decide +kernel) (pa_cons (pv 4) pa_nil)) pe_int) (pa_cons pe_int pa_nil))))))))), ?_⟩
    -- behind the cell: whatever it is
    have fin : ∀ (H1 : Hp) (u v : Int), Same H H1 → ∀ p, H1 p = none → Q (.ref p) (upd H1 p (.lst [.int u, .int v, .int 0])) := by
      intro H1 u v sm p hp
      refine q _ p ?_ (sm.free hp) ⟨u, v, 0, upd_same⟩
      intro b o e
      rw [upd_ne (ne_of_none (sm b o e) hp)]
      exact sm b o e
    walk_at "st"
    refine ite2 (fun c => ?_) (fun c => ?_)
    · have lt : n < ns.length := by
        have := of_decide_eq_true c
        rw [List.length_map] at this
        omega
      refine ⟨_, rfl, _, rfl, a, _, _, _, rfl, rfl, hS, atI_cell lt, ?_⟩
      walk_at "st"
      exact ⟨by show 3 ≤ sizeLine; decide, fin H _ _ (Same.refl H)⟩
    · walk_at "st"
      intro p hp
      have sm : Same H (upd H p (.lst (cutV (ns.map V.int) none (some 1)))) := by
        intro b o e
        rw [upd_ne (ne_of_none e hp)]
        exact e
      have ec : cutV (ns.map V.int) none (some 1) = (ns.take 1).map V.int := by
        unfold cutV
        rw [HT.sIx_none, show HT.sIx (ns.map V.int).length (ns.map V.int).length (some 1) = min 1 (ns.map V.int).length from HT.sIx_nat _ _ 1, List.map_take, List.drop_zero, Nat.sub_zero]
        cases ns with
        | nil => rfl
        | cons x r => simp
      refine ⟨_, ns.take 1, rfl, ?_, ?_⟩
      · rw [← ec]
        exact .inl (.inl upd_same)
      walk_at "st"
      exact ⟨by show 3 ≤ sizeLine; decide, fin _ _ _ sm⟩
def spGrab : Sp := fun vs H Q _ => ∃ (p : Addr) (t g m c : Int), vs = [.ref p, .int t] ∧ H p = some (.lst [.int g, .int m, .int c]) ∧ CDivW 0 t ∧
  ∀ r g' m' c' : Int, 0 ≤ r → r < t → Q (.int r) (upd H p (.lst [.int g', .int m', .int c']))
theorem grab_out {H : Hp} {p : Addr} {t r : Int} {xs : List V} {Q : VK} (q : ∀ r g' m' c' : Int, 0 ≤ r → r < t → Q (.int r) (upd H p (.lst [.int g', .int m', .int c'])))
    (ht : 0 < t) (z : Int) (e : r = z % t) (ex : ∃ g' m' c', xs = [V.int g', V.int m', V.int c']) : Q (.int r) (upd H p (.lst xs)) := by
  obtain ⟨g', m', c', rfl⟩ := ex
  rw [e]
  exact q _ _ _ _ (Int.emod_nonneg _ (by omega)) (Int.emod_lt_of_pos _ ht)
theorem scGrabL : FnScope ["_law_bag_here", "_law_total", "_law_found", "_law_one", "_law_two"] ["_law_bag_here", "_law_total"] (defScope sGrabL) :=
  ⟨rfl, rfl, rfl, by decide +kernel, rfl, by decide +kernel, by decide +kernel⟩
theorem dGrabL (T : Tx K mg) : Def P w K mg base CX0 1 "_law_grab" ["_law_bag_here", "_law_total"] spGrab := by
  refine T.t_law_grab.def_ (N := ["_law_bag_here", "_law_total", "_law_found", "_law_one", "_law_two"]) scGrabL (fun _ _ _ _ _ _ us hl => match us, hl with | [_, _], _ => rfl) ?_ ?_
  · intro vs H Q E h
    obtain ⟨p, t, g, m, c, rfl, _⟩ := h
    rfl
  · intro f cd A out s H vs Q E hr h
    obtain ⟨p, t, g, m, c, rfl, hp, ht, q⟩ := h
    have ht0 : 0 < t := ht.1
    have hS : SqL K H p _ := .inl (.inl hp)
    have hd : ∀ i, CDivW i t := fun _ => ht
    refine ⟨_, (pss_cons (ps_if (pt_cmpR op_gt (pe_ix ix_list (pv 0) pe_int (fun _ _ => rfl)) pe_int (nomark _)) (pss_cons (ps_set (i := 2) scGrabL.nd rfl (Or.inl rfl) (pe_op op_mod (pe_callTy call_int1 rfl T.f_int (by decide +kernel) (pa_cons (pe_ix ix_list (pv 0) pe_int (fun _ _ => rfl)) pa_nil)) (pv 1)))
        (pss_cons (ps_asg (pe_op op_fdivW (pe_ix ix_list (pv 0) pe_int (fun _ _ => rfl)) (pv 1)) (pg_sub (pv 0) pe_int set_list))
        (pss_one (ps_ret (pv 2))))) pss_nil)
      (pss_cons (ps_asg (pe_op op_add (pe_ix ix_list (pv 0) pe_int (fun _ _ => rfl)) pe_int) (pg_sub (pv 0) pe_int set_list))
      (pss_cons (ps_set (i := 3) scGrabL.nd rfl (Or.inl rfl) (pe_op op_mod (pe_callTy call_int1 rfl T.f_int (by decide +kernel) (pa_cons (pe_op op_add (pe_ix ix_list (pv 0) pe_int (fun _ _ => rfl)) (pe_op op_mul pe_int (pe_ix ix_list (pv 0) pe_int (fun _ _ => rfl)))) pa_nil)) pe_int))
      (pss_cons (ps_set (i := 4) scGrabL.nd rfl (Or.inl rfl) (pe_op op_add (pe_op op_mul (pe_op op_mod (pe_callTy call_int1 rfl T.f_int (by decide +kernel) (pa_cons (pe_op op_mul (pv 3) (pv 3)) pa_nil)) pe_int) (pv 3)) (pe_op op_mul pe_int (pe_ix ix_list (pv 0) pe_int (fun _ _ => rfl)))))
      (pss_one (ps_ret (pe_op op_mod (pe_callTy call_int1 rfl T.f_int (by decide +kernel) (pa_cons (pe_op op_fdivW (pe_op op_mod (pe_callTy call_int1 rfl T.f_int (by decide +kernel) (pa_cons (pv 4) pa_nil)) pe_int) pe_int) pa_nil)) (pv 1)))))))), ?_⟩
    walk_at "st"
    refine ite2 (fun c => ?_) (fun c => ?_)
    · walk_at "st"
      refine grab_out q ht0 g rfl ⟨_, _, _, rfl⟩
    · walk_at "st"
      refine grab_out q ht0 _ rfl ⟨_, _, _, rfl⟩
theorem sql_upd {K : PySem.W.Frag} {H : Hp} {p l : Addr} {xs : List V} {o : HO} (h : SqL K H l xs) (ne : l ≠ p) : SqL K (upd H p o) l xs := by
  rcases h with (h | ⟨u, h⟩) | h
  · exact .inl (.inl (by rw [upd_ne ne]; exact h))
  · exact .inl (.inr ⟨u, by rw [upd_ne ne]; exact h⟩)
  · exact .inr h
theorem at_in {xs : List V} {r : Int} (h0 : 0 ≤ r) (h1 : r < xs.length) : ∃ v, v ∈ xs ∧ atI xs r = some v := by
  have lt : r.toNat < xs.length := by omega
  refine ⟨xs[r.toNat], List.getElem_mem lt, ?_⟩
  have e : ((r.toNat : Nat) : Int) = r := by omega
  have q := atI_nat (xs := xs) (j := r.toNat) (List.getElem?_eq_getElem lt)
  rw [e] at q
  exact q
theorem div_small {n : Nat} (h0 : 0 < n) (h : n ≤ 100000) : CDivW 0 (n : Int) := by
  refine wide_div (b := 20) (by omega) ?_ (by decide) (by decide)
  have e : ((n : Int)).natAbs = n := Int.natAbs_natCast n
  rw [e]
  exact Nat.lt_of_le_of_lt h (by decide)
def spOneOf (K : PySem.W.Frag) : Sp := fun vs H Q _ => ∃ (p l : Addr) (g m c : Int) (xs : List V), vs = [.ref p, .ref l] ∧ H p = some (.lst [.int g, .int m, .int c]) ∧ SqL K H l xs ∧
  l ≠ p ∧ 0 < xs.length ∧ xs.length ≤ 1000 ∧ ∀ v g' m' c', v ∈ xs → Q v (upd H p (.lst [.int g', .int m', .int c']))
theorem scOneOfL : FnScope ["_law_bag_here", "_law_items"] ["_law_bag_here", "_law_items"] (defScope sOneOfL) :=
  ⟨rfl, rfl, rfl, by decide +kernel, rfl, by decide +kernel, by decide +kernel⟩
theorem dOneOfL (T : Tx K mg) (DGrabL : Def P w K mg base CX0 1 "_law_grab" ["_law_bag_here", "_law_total"] spGrab) : Def P w K mg base CX0 2 "_law_one_of" ["_law_bag_here", "_law_items"] (spOneOf K) := by
  refine T.t_law_one_of.def_ (N := ["_law_bag_here", "_law_items"]) scOneOfL (fun _ _ _ _ _ _ us hl => match us, hl with | [_, _], _ => rfl) ?_ ?_
  · intro vs H Q E h
    obtain ⟨p, l, g, m, c, xs, rfl, _⟩ := h
    rfl
  · intro f cd A out s H vs Q E hr h
    have hr1 : Rm 1 _ := hr.le (by decide)
    obtain ⟨p, l, g, m, c, xs, rfl, hp, hS, ne, h0, h1, q⟩ := h
    refine ⟨_, (pss_one (ps_ret (pe_ix ix_list (pv 1) (pe_d DGrabL (hr1.le (by decide)) pass0 (pa_cons (pv 0) (pa_cons (pe_callB call_len_seq rfl T.f_len (by decide +kernel) (pa_cons (pv 1) pa_nil)) pa_nil))) (fun _ _ => rfl)))), ?_⟩
    walk_at "st"
    refine ⟨p, _, g, m, c, rfl, hp, div_small h0 (by omega), fun r g' m' c' r0 r1 => ?_⟩
    obtain ⟨v, hv, e⟩ := at_in r0 r1
    exact ⟨_, _, _, v, rfl, rfl, sql_upd hS ne, e, q v g' m' c' hv⟩
end
end K02


set_option Elab.async false
set_option linter.all false
set_option maxRecDepth 100000
set_option maxHeartbeats 2000000
namespace K02
open PySem PySem.Spec PyProof.Rows L2 MM
/-! own words for the readings: a step, its side -/
local macro_rules | `(tactic| walk_at "side") => `(tactic| first
  | omega
  | exact ⟨by omega, by omega⟩
  | exact Or.inl ⟨by omega, by omega⟩
  | exact Or.inr ⟨by omega, by omega⟩
  | (show CPw _ _; decide +kernel)
  | (show (0 : Int) < _; decide +kernel)
  | (show CDivW _ _; first | assumption | exact ⟨by decide, by decide +kernel⟩))
local macro_rules | `(tactic| walk_at "here") => `(tactic| first
  | assumption
  | exact upd_same
  | exact Or.inl (Or.inl upd_same)
  | exact Or.inl upd_same)
local macro_rules | `(tactic| walk_at "one") => `(tactic| first
  | refine ⟨_, rfl, ?_⟩
  | refine Or.inl ⟨_, rfl, ?_⟩
  | refine Or.inr ⟨_, rfl, ?_⟩
  | refine ⟨_, _, rfl, rfl, (by walk_at "side"), ?_⟩
  | refine ⟨_, _, rfl, rfl, ?_⟩
  | refine ⟨_, _, rfl, Or.inl (by walk_at "here"), ?_⟩
  | refine ⟨_, _, rfl, Or.inr (by walk_at "here"), ?_⟩
  | refine ⟨_, _, rfl, (by walk_at "here"), ?_⟩
  | refine ⟨_, _, _, _, rfl, rfl, (by walk_at "here"), rfl, ?_⟩
  | refine ⟨_, _, rfl, ?_⟩
  | refine ifT (by rfl) ?_
  | refine ifF (by rfl) ?_
  | refine ifT (decide_eq_true (by omega)) ?_
  | refine ifF (decide_eq_false (by omega)) ?_)
local macro_rules | `(tactic| walk_at "st") => `(tactic| repeat (walk_at "one"))

section
variable {P : Program} {w : World} {K : PySem.W.Frag} {mg : Str → Option Value} {base : Heap}
def spIsWhole (K : PySem.W.Frag) : Sp := fun vs H Q _ => ∃ x n, vs = [x] ∧ Kd K H x n ∧ Q (.bl (isW x)) H
theorem scIsWhole : FnScope ["value"] ["value"] (defScope sIsWhole) :=
  ⟨rfl, rfl, rfl, by decide +kernel, rfl, by decide +kernel, by decide +kernel⟩
theorem dIsWhole (T : Tx K mg) : Def P w K mg base CX0 1 "is_whole" ["value"] (spIsWhole K) := by
  refine T.t_is_whole.def_ (N := ["value"]) scIsWhole (fun _ _ _ _ _ _ us hl => match us, hl with | [_], _ => rfl) ?_ ?_
  · intro vs H Q E h
    obtain ⟨x, n, rfl, _⟩ := h
    rfl
  · intro f cd A out s H vs Q E hr h
    obtain ⟨x, n, rfl, hk, q⟩ := h
    refine ⟨_, (pss_one (ps_ret (pe_and (pe_callB (cr_is .int) rfl T.f_isinstance (by decide +kernel) (pa_cons (pv 0) (pa_cons (pe_ty .int T.f_int (by decide +kernel)) pa_nil))) (pe_one (pe_not (pe_callB (cr_is .bl) rfl T.f_isinstance (by decide +kernel) (pa_cons (pv 0) (pa_cons (pe_ty .bl T.f_bool (by decide +kernel)) pa_nil)))))))), ?_⟩
    refine ⟨_, rfl, _, _, rfl, hk, _, rfl, ?_⟩
    cases hk
    all_goals walk_at "st"
    all_goals first
      | exact q
      | (refine ⟨_, _, rfl, .int _, ?_⟩; walk_at "st"; exact q)
      | (refine ⟨_, _, rfl, .bl _, ?_⟩; walk_at "st"; exact q)
def isI : V → Bool
  | .int i => decide (-10 ^ 60 < i) && decide (i < 10 ^ 60)
  | _ => false
def spIsInteger (K : PySem.W.Frag) : Sp := fun vs H Q _ => ∃ x n, vs = [x] ∧ Kd K H x n ∧ Q (.bl (isI x)) H
theorem scIsInteger : FnScope ["value"] ["value"] (defScope sIsInteger) :=
  ⟨rfl, rfl, rfl, by decide +kernel, rfl, by decide +kernel, by decide +kernel⟩
theorem dIsInteger (T : Tx K mg) (DIsWhole : Def P w K mg base CX0 1 "is_whole" ["value"] (spIsWhole K)) : Def P w K mg base CX0 2 "is_integer" ["value"] (spIsInteger K) := by
  refine T.t_is_integer.def_ (N := ["value"]) scIsInteger (fun _ _ _ _ _ _ us hl => match us, hl with | [_], _ => rfl) ?_ ?_
  · intro vs H Q E h
    obtain ⟨x, n, rfl, _⟩ := h
    rfl
  · intro f cd A out s H vs Q E hr h
    have hr1 : Rm 1 _ := hr.le (by decide)
    obtain ⟨x, n, rfl, hk, q⟩ := h
    refine ⟨_, (pss_one (ps_ret (pe_and (pe_d DIsWhole (hr1.le (by decide)) pass0 (pa_cons (pv 0) pa_nil)) (pe_one (pe_chain op_lt op_lt (pe_un un_neg (C8.pe_gc rfl T.c_TOO_LONG)) (pv 0) (C8.pe_gc rfl T.c_TOO_LONG)))))), ?_⟩
    refine ⟨_, rfl, _, n, rfl, hk, _, rfl, ?_⟩
    cases hk
    all_goals walk_at "st"
    all_goals first
      | exact q
      | skip
    rename_i i
    refine ite2 (fun c => ?_) (fun c => ?_)
    · walk_at "st"
      have q' : Q (.bl (decide (-10 ^ 60 < i) && decide (i < 10 ^ 60))) H := q
      rw [show decide (-10 ^ 60 < i) = true from c, Bool.true_and] at q'
      exact q'
    · have q' : Q (.bl (decide (-10 ^ 60 < i) && decide (i < 10 ^ 60))) H := q
      rw [show decide (-10 ^ 60 < i) = false from Bool.eq_false_iff.mpr c, Bool.false_and] at q'
      exact q'
def isB (x : V) (l m : Int) : Bool := match x with
  | .int i => decide (l ≤ i) && decide (i ≤ m)
  | _ => false
def spIsBetween (K : PySem.W.Frag) : Sp := fun vs H Q _ => ∃ x n l m, vs = [x, .int l, .int m] ∧ Kd K H x n ∧ Q (.bl (isB x l m)) H
def spNeedBetween (K : PySem.W.Frag) : Sp := fun vs H Q _ => ∃ i l m : Int, vs = [.int i, .int l, .int m] ∧ l ≤ i ∧ i ≤ m ∧ Q .non H
def noDiv (i : Int) : Bool := ((List.range (i - 2).toNat).map fun (k : Nat) => !decide (i % (2 + (k : Int)) = 0)).all id
def isP : V → Bool
  | .int i => decide (2 ≤ i) && decide (i ≤ 99) && noDiv i
  | _ => false
def spIsPrime (K : PySem.W.Frag) : Sp := fun vs H Q _ => ∃ x n, vs = [x] ∧ Kd K H x n ∧ ∀ H', Same H H' → Q (.bl (isP x)) H'
def spNeedPrime (K : PySem.W.Frag) : Sp := fun vs H Q _ => ∃ i, vs = [.int i] ∧ isP (.int i) = true ∧ ∀ H', Same H H' → Q .non H'
/-- a value, and its members if it is a tuple -/
inductive Rv (K : PySem.W.Frag) (H : Hp) : V → Option (List V) → Prop where
  | no {x : V} {n : Kn} (h : Kd K H x n) (ne : n.isa .tup = false) : Rv K H x none
  | yes {a : Addr} {xs : List V} (h : SqT K H a xs) (m : ∀ y, y ∈ xs → ∃ n, Kd K H y n) : Rv K H (.ref a) (some xs)
def rat2 : V → V → Bool
  | .int i, .int j => isI (.int i) && (isI (.int j) && (decide (0 < j) && decide (Nat.gcd i.natAbs j.natAbs = 1)))
  | _, _ => false
def isRat : Option (List V) → Bool
  | some [x, y] => rat2 x y
  | _ => false
def spIsRatio (K : PySem.W.Frag) : Sp := fun vs H Q _ => ∃ x o, vs = [x] ∧ Rv K H x o ∧ Q (.bl (isRat o)) H
end
end K02


set_option Elab.async false
set_option linter.all false
set_option maxRecDepth 100000
set_option maxHeartbeats 2000000
/-! set(t) of a tuple of ints; its length -/
namespace MM
open PySem PySem.Spec PyProof.Rows L2
theorem count_keys {ks ns : List Int} (nk : ks.Nodup) (mem : ∀ k, k ∈ ns ↔ k ∈ ks) : ks.length = ns.length ↔ ns.Nodup := by
  constructor
  · intro e
    by_cases h : ns.Nodup
    · exact h
    · exfalso
      rw [List.nodup_iff_count] at h
      obtain ⟨a, ha⟩ := Classical.not_forall.mp h
      have am : a ∈ ns := List.count_pos_iff.mp (by omega)
      have sub : ks ⊆ ns.erase a := by
        intro b hb
        by_cases z : b = a
        · subst z
          refine List.count_pos_iff.mp ?_
          rw [List.count_erase_self]
          omega
        · exact (List.mem_erase_of_ne z).mpr ((mem b).mpr hb)
      have le := List.Nodup.length_le_of_subset nk sub
      rw [List.length_erase_of_mem am] at le
      have pos : 0 < ns.length := List.length_pos_of_mem am
      omega
  · intro nn
    exact ((List.perm_ext_iff_of_nodup nk nn).mpr fun a => (mem a).symm).length_eq
section
variable {X : Cx}
def rSetI (K : PySem.W.Frag) : List V → Hp → VK → Prop := fun xs H Q => ∃ (p : Addr) (ns : List Int), xs = [.ref p] ∧ SqT K H p (ns.map V.int) ∧ ns.length ≤ 1000 ∧
  ∀ t n, H t = none → (n = ns.length ↔ ns.Nodup) → n ≤ ns.length → Q (.ref t) (upd H t (.set (fun j => decide (j ∈ ns)) n))
theorem ints_of : ∀ {ns : List Int} {its : List Value}, Vals (ns.map V.int) its → IntsAre its ns
  | [], _, r => by
    cases r
    exact .nil
  | n :: _, _, r => by
    cases r with
    | cons h t =>
      obtain ⟨k, rfl⟩ := h
      exact .cons n k (ints_of t)
theorem cr_setI (hc : X.calm = true) : CallR X (.type "set") (rSetI X.K) := by
  intro pins s σ H xs us Q I r h
  obtain ⟨p, ns, rfl, hp, hl, q⟩ := h
  obtain ⟨u, rfl, ru⟩ := vals1 r
  cases ru
  obtain ⟨its, rv, ht, hz⟩ := I.tuple hp
  have pt : s.heap.IsTuple p its.toArray := ht
  refine call_set_tupI (P := X.prog) ns (I.ok.hd hc) pt (by simpa using ints_of rv) (by show ns.length + 1 < 4096; omega) fun h' tk c R le keep => ?_
  have cnt : c = ns.length ↔ ns.Nodup := by
    obtain ⟨o, es, ep, t, ho, hx, hd, g, nd, hm, hb, hf, hn, _⟩ := R
    rw [← hn]
    have := count_keys (ks := es.toList.map keyOf) (ns := ns) nd fun k => by
      rw [← hm k]
      exact decide_eq_true_iff.symm
    rw [List.length_map, Array.length_toList] at this
    exact this
  refine ⟨.ref _, _, I.laid (t' := tk) (o := .set (fun j => decide (j ∈ ns)) c) keep (Nat.le_refl _) ?_, rfl, q _ c (I.hok.fresh (Nat.le_refl _)) cnt le⟩
  exact R.setOf
theorem cr_lenSet : CallR X (.builtin "len") (fun xs H Q => ∃ a S n, xs = [V.ref a] ∧ H a = some (.set S n) ∧ Q (.int (n : Nat)) H) := by
  intro pins s σ H xs us Q I r h
  obtain ⟨a, S, n, rfl, ha, q⟩ := h
  obtain ⟨u, rfl, ru⟩ := vals1 r
  cases ru
  obtain ⟨o, es, ep, t, ho, hx, hd, _, _, hb, hf, hn⟩ := (show s.heap.SetOf (intKind X.prog X.w) a S n from I.hok a _ ha)
  subst hn
  have small : es.size < 4096 := hb
  exact PySem.call_len_set ho hx hd hf (by omega) ⟨.int _, H, I.tok _, ⟨_, rfl⟩, q⟩
def rLenK (K : PySem.W.Frag) : List V → Hp → VK → Prop := fun xs H Q => ∃ p ys, xs = [.ref p] ∧ (SqL K H p ys ∨ SqT K H p ys) ∧ Q (.int ys.length) H
theorem cr_lenK {K : PySem.W.Frag} (e : X.K = K) : CallR X (.builtin "len") (rLenK K) := by
  subst e
  exact call_len_seq
end
end MM

set_option Elab.async false
set_option linter.all false
set_option maxRecDepth 100000
set_option maxHeartbeats 2000000
/-! enumerate over a tuple -/
namespace MM
open PySem PySem.Spec PyProof.Rows L2
theorem made_enum {v : Value} {o : Obj} {G : Heap → Prop} (B : Begins v o G) :
    Meets (Builtin.«enumerate.__new__» ⟨[.type "enumerate", v], []⟩) (fun _ R t => G t.heap ∧
      R (.ok (.ret (.ref (t.heap.push o).objs.size))) { t with heap := (t.heap.push o).push { cls := .type "enumerate", data := .fields #[.none, .bool false, .ref t.heap.objs.size, rawInt 0, .none, .none] } }) :=
  .of_wp fun prog w A R t both => by
    obtain ⟨h0, g0, d0, k0, o0⟩ := t
    obtain ⟨at_v, out⟩ := both
    have sub := sub_enumerate
    have road : ∀ {A' : Around} {E : Value → Shared → Prop} {Q : Value → Shared → Prop}, Q (.ref h0.objs.size) ⟨h0.push o, g0, d0, k0, o0⟩ → wpAny (model prog w) A' (pyIter v) Q E ⟨h0, g0, d0, k0, o0⟩ :=
      fun q => B.iter prog w _ _ ⟨h0, g0, d0, k0, o0⟩ _ at_v q
    wp_walk using road
    refine wpAny_stack_any fun st => wpAny_pure ?_
    split
    · rename_i c _ _ _ _ _
      cases (c == Value.type "enumerate")
      all_goals
        wp_walk using road
        exact ⟨_, rfl, out⟩
    · wp_walk using road
      exact ⟨_, rfl, out⟩
theorem call_enumT {prog : Program} {w : World} {A : Around} {E : Value → Shared → Prop} {s : Shared} {a : Addr} {its : Array Value} {Q : Value → Shared → Prop} (ht : s.heap.IsTuple a its)
    (q : ∀ h', IsEnum h' (s.heap.objs.size + 1) s.heap.objs.size 0 .none → h'.IsTupleIter s.heap.objs.size a 0 → (∀ b o, s.heap.get? b = some o → h'.get? b = some o) →
      Q (.ref (s.heap.objs.size + 1)) { s with heap := h' }) : wpAny (model prog w) A (call (.type "enumerate") [.ref a]) Q E s := by
  have B := begins_tuple a its
  refine callType_new F.called_enumerate (by decide) (F.typeCall_enumerate_1 _) (F.newCall_enumerate_1 _) (fun obj => F.args_object_init_2 obj _) F.entry_enumerate_new (made_enum B) ⟨ht, ?_⟩
  have z : (s.heap.push { cls := .type "tuple_iterator", data := .fields #[.ref a, .int 0 0] }).objs.size = s.heap.objs.size + 1 := Heap.size_push ..
  show _ ∧ _
  rw [z]
  have at_e : IsEnum ((s.heap.push { cls := .type "tuple_iterator", data := .fields #[.ref a, .int 0 0] }).push { cls := .type "enumerate", data := .fields #[.none, .bool false, .ref s.heap.objs.size, rawInt 0, .none, .none] }) (s.heap.objs.size + 1) s.heap.objs.size 0 .none := by
    rw [← z]
    exact Heap.get?_push_size _ rfl
  exact ⟨⟨_, at_e, rfl⟩, q _ at_e ⟨_, Heap.get?_push_of_some _ (Heap.get?_push_size _ rfl), rfl, rfl⟩ fun b o k => Heap.get?_push_of_some _ (Heap.get?_push_of_some _ k)⟩
/-- the tuple at a, each item in a new pair -/
def Itu (K : PySem.W.Frag) (a : Addr) : It :=
  ⟨fun i H => ∃ xs x, SqT K H a xs ∧ xs[i]? = some x, fun i H v H' => ∃ T x, v = .ref T ∧ H T = none ∧ H' = upd H T (.tup [.int (i : Nat), x]) ∧ ∀ xs, SqT K H a xs → xs[i]? = some x, fun i H => ∃ xs, SqT K H a xs ∧ xs.length ≤ i⟩
theorem turn_enumT {P : Program} {w : World} {K : PySem.W.Frag} {elts : List Expr} {kk : Nat} {tpos : Pos} (a e it : Addr) :
    Turn P w K (.Tuple elts kk tpos) (Itu K a) [e, it] e (fun i h => (∃ old, IsEnum h e it ((i : Nat) : Int) old) ∧ h.IsTupleIter it a i ∧ e ≠ it) where
  mem := by simp
  obj := fun i h st b hb => by
    obtain ⟨⟨old, he⟩, ⟨o, ho, hc, hd⟩, _⟩ := st
    have two : b = e ∨ b = it := by simpa using hb
    rcases two with z | z
    · subst z
      exact ⟨_, he, fun v q => nomatch q⟩
    · subst z
      exact ⟨o, ho, fun v q => by rw [hd] at q; cases q⟩
  keep := fun i h h' st k => let ⟨⟨old, he⟩, hi, hne⟩ := st; ⟨⟨old, k e (by simp) _ he⟩, hi.at fun o q => k it (by simp) o q, hne⟩
  item := by
    intro X hP hw hK hc i pins s σ H E I hf st hg
    subst hP hw hK
    obtain ⟨⟨old, he⟩, hit, hne⟩ := st
    obtain ⟨xs, x, hq, hx⟩ := hg
    obtain ⟨its, rv, p, hz⟩ := I.tuple hq
    obtain ⟨u, hu, ru⟩ := rv.get hx
    have el : e < s.heap.objs.size := Heap.lt_size he
    have il : it < s.heap.objs.size := by obtain ⟨_, q, _⟩ := hit; exact Heap.lt_size q
    have pt : s.heap.IsTuple a its.toArray := p
    have ait : a ≠ it := fun z => by
      obtain ⟨o1, g1, c1, _⟩ := id pt
      obtain ⟨o2, g2, c2, _⟩ := id hit
      rw [z, g2] at g1
      cases g1
      rw [c2] at c1
      exact absurd (Value.type.inj c1) (by decide)
    have ae : a ≠ e := fun z => by
      obtain ⟨o1, g1, c1, _⟩ := id pt
      rw [z, show s.heap.get? e = some _ from he] at g1
      cases g1
      exact absurd (Value.type.inj c1) (by decide)
    have D := Draws.tuple (prog := X.prog) (w := X.w) (A := X.A.in1) (I.ok.hd hc) it a ait its.toArray
    have lt : i < its.toArray.size := by
      have := (List.getElem?_eq_some_iff.mp hu).1
      rw [List.size_toArray]
      exact this
    refine wpAny_pyNext_enum_itemC D he ⟨hit, pt⟩ lt hne (by simp [hne, ae.symm]) fun y h' tk hy ho st' hT hsz hk => ?_
    have ey : y = u := by
      have hy' : its.toArray[i]? = some y := hy
      rw [List.getElem?_toArray, hu] at hy'
      exact (Option.some.inj hy').symm
    subst ey
    refine ⟨_, rfl, wpAny_letOwnedTupleGo_enum (s := { s with heap := h', toks := tk + 1 }) ho fun h'' he' sb => ?_⟩
    have hT2 : h''.get? s.heap.objs.size = some { cls := .type "tuple", data := .seq #[.int i tk, y] } := (sb.2 _ (Nat.ne_of_gt el)).trans hT
    have new : ObjOk X.prog X.w (upd H s.heap.objs.size (.tup [.int (i : Nat), x])) h'' s.heap.objs.size (.tup [.int (i : Nat), x]) :=
      ⟨(by decide : 2 ≤ sizeLine), [.int i tk, y], .cons ⟨_, rfl⟩ (.cons ru .nil), ⟨_, hT2, rfl, _, rfl⟩⟩
    have I1 : Inv X pins σ (upd H s.heap.objs.size (.tup [.int (i : Nat), x])) { s with heap := h'', toks := tk + 1 } :=
      I.turnedNew (ch := [e, it]) (fun b ob hb q => (sb.2 b fun z => hb (by simp [z])).trans (hk b ob (fun z => hb (by simp [z])) (fun z => hb (by simp [z])) q)) hf (Nat.le_refl _) new
    have it2 : h''.IsTupleIter it a (i + 1) := st'.1.at fun o q => (sb.2 it (Ne.symm hne)).trans q
    refine ⟨.ref s.heap.objs.size, _, I1, rfl, ⟨_, x, rfl, I.hok.fresh (Nat.le_refl _), rfl, fun ys hy => by rw [I.tuple_inj hy hq]; exact hx⟩, ⟨⟨y, he'⟩, it2, hne⟩, fun b hb => ?_⟩
    have bl : b < s.heap.objs.size := by
      have two : b = e ∨ b = it := by simpa using hb
      rcases two with z | z <;> subst z <;> assumption
    rw [upd_ne (Nat.ne_of_lt bl)]
    exact (hf b hb).1
  done := by
    intro X hP hw hK hc i pins s σ H E I hf st hg
    subst hP hw hK
    obtain ⟨⟨old, he⟩, hit, hne⟩ := st
    obtain ⟨xs, hq, hx⟩ := hg
    obtain ⟨its, rv, p, hz⟩ := I.tuple hq
    have pt : s.heap.IsTuple a its.toArray := p
    obtain ⟨f0, f1, f2, f3, f4, f5⟩ := hf it (by simp)
    have over : its.toArray[i]? = none := by
      have := rv.length
      rw [List.getElem?_toArray]
      exact List.getElem?_eq_none (by omega)
    have D : Draws X.prog X.w X.A.in1 it [it, a] i (fun _ _ => True) (fun j h => j = i ∧ h.IsTupleIter it a j ∧ h.IsTuple a its.toArray) :=
      { live := fun _ _ st => let ⟨o, ho, _⟩ := st.2.1; ⟨o, ho⟩
        frame := fun _ _ _ st k => ⟨st.1, st.2.1.at fun o e => k it (by simp) o e, st.2.2.at fun o e => k a (by simp) o e⟩
        item := fun j s Q E lt st _ => absurd st.1 (Nat.ne_of_lt lt)
        done := fun s Q E st out => wpAny_nextOf_tuple_end (I.ok.hd hc) st.2.1 st.2.2 (by rw [st.1]; exact over) out }
    exact wpAny_pyNext_enum_endD D he ⟨rfl, hit, pt⟩ fun h' eb => ⟨rfl, I.turned (t' := s.toks) (fun b o hb q => eb b o hb q) f0 f1 f3 f4 f5⟩
  self := fun A i s Q E st h => let ⟨⟨_, he⟩, _⟩ := st; wpAny_pyIter_enum he h
def iEnumT (K : PySem.W.Frag) (ta : TA) : TI := fun σ H R => ta σ H fun vs H1 => ∃ a xs, vs = [.ref a] ∧ SqT K H1 a xs ∧ R (Itu K a) H1
theorem pi_enumT {X : Cx} {e : Expr} {ta : TA} {p pos tpos : Pos} {elts : List Expr} {kk : Nat} (hg : Gl X "enumerate") (hm : X.mg "enumerate" = none) (ha : PA X [e] ta)
    (hs : starEach [e] X.env = [(false, eval e X.env)] := by rfl) : PI X (.Tuple elts kk tpos) (.Call (.Name "enumerate" p) [e] [] pos) (iEnumT X.K ta) := by
  refine ⟨fun pins s σ H R I h => ?_⟩
  refine Call_ (ld_blt I hg hm boot_enumerate (PyProof.Rows.callWith_type1 (thn (ha.run pos pins s σ H _ I h) fun us s1 ⟨vs, H1, I1, r1, a, xs, ex, hq, q⟩ => ?_) hs rfl))
  subst ex
  obtain ⟨u, rfl, ru⟩ := vals1 r1
  cases ru
  obtain ⟨its, rv, p', hz⟩ := I1.tuple hq
  refine call_enumT (its := its.toArray) p' fun h' he hit hk => wpAny_pyIter_enum he ?_
  refine ⟨s1.heap.objs.size + 1, [s1.heap.objs.size + 1, s1.heap.objs.size], _, _, H1, rfl, I1.kept (t' := s1.toks) hk, turn_enumT a (s1.heap.objs.size + 1) s1.heap.objs.size, ⟨⟨.none, he⟩, hit, Nat.succ_ne_self _⟩, fun b hb => ?_, q⟩
  have two : b = s1.heap.objs.size + 1 ∨ b = s1.heap.objs.size := by simpa using hb
  have le : s1.heap.objs.size ≤ b := by
    rcases two with z | z <;> rw [z]
    · exact Nat.le_add_right _ _
    · exact Nat.le_refl _
  exact I1.fpOk le (I1.hok.fresh le)
section
variable {K : PySem.W.Frag} {a : Addr} {xs : List V} {g : TG} {tb : TS} {D : Ends} {σ : L2.St} {H : Hp}
/-- what a for asks of its walk -/
def ForW (J : It) (g : TG) (tb : TS) (D : Ends) (σ : L2.St) (H : Hp) : Prop :=
  ∃ W : Nat → Nat → L2.St → Hp → Prop, (∃ m, W 0 m σ H) ∧ ∀ i m σ H, W i m σ H →
    (J.stop i H ∧ D.nx σ H) ∨ (J.go i H ∧ ∃ N : L2.St → Hp → Prop, (∀ σ' H', N σ' H' → ∃ m', m' < m ∧ W (i + 1) m' σ' H') ∧
      ∀ x H', J.yld i H x H' → g x σ H' fun σ2 H2 => tb { D with nx := N, ct := N, bk := D.nx } σ2 H2)
theorem for_enumT (Pv : Nat → L2.St → Hp → Prop) (h0 : Pv 0 σ H) (at_a : ∀ i σ H, i ≤ xs.length → Pv i σ H → SqT K H a xs)
    (turn : ∀ i x σ H T, xs[i]? = some x → Pv i σ H → H T = none → g (.ref T) σ (upd H T (.tup [.int (i : Nat), x])) fun σ2 H2 => tb { D with nx := Pv (i + 1), ct := Pv (i + 1), bk := D.nx } σ2 H2)
    (fin : ∀ σ H, Pv xs.length σ H → D.nx σ H) : ForW (Itu K a) g tb D σ H := by
  refine ⟨fun i m σ H => m = xs.length - i ∧ i ≤ xs.length ∧ Pv i σ H, ⟨_, rfl, Nat.zero_le _, h0⟩, ?_⟩
  rintro i m σ H ⟨rfl, le, p⟩
  by_cases lt : i < xs.length
  · have ex := List.getElem?_eq_getElem lt
    refine .inr ⟨⟨xs, _, at_a i σ H le p, ex⟩, Pv (i + 1), fun σ' H' p' => ⟨_, by omega, rfl, lt, p'⟩, ?_⟩
    rintro v H' ⟨T, x, rfl, free, rfl, all⟩
    exact turn i x σ H T (all xs (at_a i σ H le p)) p free
  · have e : i = xs.length := by omega
    subst e
    exact .inl ⟨⟨xs, at_a _ σ H le p, Nat.le_refl _⟩, fin σ H p⟩
theorem for_enumL (Pv : Nat → L2.St → Hp → Prop) (h0 : Pv 0 σ H) (at_a : ∀ i σ H, i ≤ xs.length → Pv i σ H → SqL K H a xs)
    (turn : ∀ i x σ H T, xs[i]? = some x → Pv i σ H → H T = none → g (.ref T) σ (upd H T (.tup [.int (i : Nat), x])) fun σ2 H2 => tb { D with nx := Pv (i + 1), ct := Pv (i + 1), bk := D.nx } σ2 H2)
    (fin : ∀ σ H, Pv xs.length σ H → D.nx σ H) : ForW (Ite K a) g tb D σ H := by
  refine ⟨fun i m σ H => m = xs.length - i ∧ i ≤ xs.length ∧ Pv i σ H, ⟨_, rfl, Nat.zero_le _, h0⟩, ?_⟩
  rintro i m σ H ⟨rfl, le, p⟩
  by_cases lt : i < xs.length
  · have ex := List.getElem?_eq_getElem lt
    refine .inr ⟨⟨xs, _, at_a i σ H le p, ex⟩, Pv (i + 1), fun σ' H' p' => ⟨_, by omega, rfl, lt, p'⟩, ?_⟩
    rintro v H' ⟨T, x, rfl, free, rfl, all⟩
    exact turn i x σ H T (all xs (at_a i σ H le p)) p free
  · have e : i = xs.length := by omega
    subst e
    exact .inl ⟨⟨xs, at_a _ σ H le p, Nat.le_refl _⟩, fin σ H p⟩
end
end MM

set_option Elab.async false
set_option linter.all false
set_option maxRecDepth 100000
set_option maxHeartbeats 2000000
/-! more comprehensions: over enumerate, with a test -/
namespace MM
open PySem PySem.Spec PyProof.Rows L2
section
variable {K : PySem.W.Frag} {v : Nat} {g : TG} {tt : TT} {te : TE} {vs : List Nat} {σ : L2.St} {H1 : Hp} {D : Addr} {Qd : Hp → Prop} {n : Nat} {a : Addr} {xs : List V}
/-- what a comprehension asks of a turn with the item x -/
def LcT (g : TG) (tt : TT) (te : TE) (vs : List Nat) (σ : L2.St) (D : Addr) (Nx : Hp → Prop) (x : V) (H : Hp) : Prop :=
  g x (wipe σ vs) H fun σ2 H2 => wipe σ2 vs = wipe σ vs ∧ tt σ2 H2 fun b H3 =>
    if b = true then te σ2 H3 fun y H4 => ∃ acc, H4 D = some (.lst acc) ∧ acc.length < sizeLine ∧ Nx (upd H4 D (.lst (acc ++ [y]))) else Nx H3
theorem lc_enumT (Pv : Nat → Hp → Prop) (h0 : Pv 0 (upd H1 D (.lst []))) (at_a : ∀ i H, i ≤ xs.length → Pv i H → SqT K H a xs)
    (hs : ∀ i x H T, xs[i]? = some x → Pv i H → H T = none → LcT g tt te vs σ D (Pv (i + 1)) (.ref T) (upd H T (.tup [.int (i : Nat), x])))
    (hd : ∀ H, Pv xs.length H → Qd H) : LcW (Itu K a) g tt te vs σ H1 D Qd := by
  refine ⟨fun i m H => m = xs.length - i ∧ i ≤ xs.length ∧ Pv i H, ⟨_, rfl, Nat.zero_le _, h0⟩, ?_⟩
  rintro i m H ⟨rfl, le, p⟩
  by_cases lt : i < xs.length
  · have ex := List.getElem?_eq_getElem lt
    refine .inr ⟨⟨xs, _, at_a i H le p, ex⟩, Pv (i + 1), fun H' p' => ⟨_, by omega, rfl, lt, p'⟩, ?_⟩
    rintro v H' ⟨T, x, rfl, free, rfl, all⟩
    exact hs i x H T (all xs (at_a i H le p)) p free
  · have e : i = xs.length := by omega
    subst e
    exact .inl ⟨⟨xs, at_a _ H le p, Nat.le_refl _⟩, hd H p⟩
theorem lc_enumL (Pv : Nat → Hp → Prop) (h0 : Pv 0 (upd H1 D (.lst []))) (at_a : ∀ i H, i ≤ xs.length → Pv i H → SqL K H a xs)
    (hs : ∀ i x H T, xs[i]? = some x → Pv i H → H T = none → LcT g tt te vs σ D (Pv (i + 1)) (.ref T) (upd H T (.tup [.int (i : Nat), x])))
    (hd : ∀ H, Pv xs.length H → Qd H) : LcW (Ite K a) g tt te vs σ H1 D Qd := by
  refine ⟨fun i m H => m = xs.length - i ∧ i ≤ xs.length ∧ Pv i H, ⟨_, rfl, Nat.zero_le _, h0⟩, ?_⟩
  rintro i m H ⟨rfl, le, p⟩
  by_cases lt : i < xs.length
  · have ex := List.getElem?_eq_getElem lt
    refine .inr ⟨⟨xs, _, at_a i H le p, ex⟩, Pv (i + 1), fun H' p' => ⟨_, by omega, rfl, lt, p'⟩, ?_⟩
    rintro v H' ⟨T, x, rfl, free, rfl, all⟩
    exact hs i x H T (all xs (at_a i H le p)) p free
  · have e : i = xs.length := by omega
    subst e
    exact .inl ⟨⟨xs, at_a _ H le p, Nat.le_refl _⟩, hd H p⟩
theorem filt_step {xs : List V} {i : Nat} {x : V} (hi : xs[i]? = some x) (p : V → Bool) (f : V → V) :
    ((xs.take (i + 1)).filter p).map f = ((xs.take i).filter p).map f ++ (if p x = true then [f x] else []) := by
  rw [List.take_add_one, hi, List.filter_append, List.map_append]
  cases e : p x <;> simp [e]
/-- with a test -/
theorem lc_seqF (p : V → Bool) (f : V → V) (hx : SqL K H1 a xs) (nD : H1 D = none) (hn : xs.length ≤ sizeLine)
    (ht : ∀ x acc, x ∈ xs → ∀ Q : Bool → Hp → Prop, Q (p x) (upd H1 D (.lst acc)) → tt ((wipe σ [v]).set v (some x)) (upd H1 D (.lst acc)) Q)
    (hs : ∀ x acc, x ∈ xs → p x = true → ∀ Q : VK, Q (f x) (upd H1 D (.lst acc)) → te ((wipe σ [v]).set v (some x)) (upd H1 D (.lst acc)) Q)
    (hd : Qd (upd H1 D (.lst ((xs.filter p).map f)))) : LcW (Itl K a) (gName v) tt te [v] σ H1 D Qd := by
  refine lc_list (xs := xs) (Pv := fun i H => H = upd H1 D (.lst (((xs.take i).filter p).map f))) rfl (fun i H _ e => by rw [e]; exact sql_new hx nD) ?_ (fun H e => by rw [e, List.take_length]; exact hd)
  intro i x H hi e
  subst e
  have lt : i < xs.length := (List.getElem?_eq_some_iff.mp hi).1
  have le : (((xs.take i).filter p).map f).length ≤ i := by
    rw [List.length_map]
    exact Nat.le_trans (List.length_filter_le _ _) (by rw [List.length_take]; omega)
  refine ⟨wipe_one, ht x _ (List.mem_of_getElem? hi) _ ?_⟩
  have st := filt_step hi p f
  cases e : p x with
  | true =>
    rw [if_pos rfl]
    refine hs x _ (List.mem_of_getElem? hi) e _ ⟨_, upd_same, Nat.lt_of_le_of_lt le (Nat.lt_of_lt_of_le lt hn), ?_⟩
    rw [upd_upd, st, if_pos e]
  | false =>
    rw [if_neg Bool.false_ne_true, st, if_neg (by rw [e]; exact Bool.false_ne_true), List.append_nil]
theorem lc_tplF (p : V → Bool) (f : V → V) (hx : SqT K H1 a xs) (nD : H1 D = none) (hn : xs.length ≤ sizeLine)
    (ht : ∀ x acc, x ∈ xs → ∀ Q : Bool → Hp → Prop, Q (p x) (upd H1 D (.lst acc)) → tt ((wipe σ [v]).set v (some x)) (upd H1 D (.lst acc)) Q)
    (hs : ∀ x acc, x ∈ xs → p x = true → ∀ Q : VK, Q (f x) (upd H1 D (.lst acc)) → te ((wipe σ [v]).set v (some x)) (upd H1 D (.lst acc)) Q)
    (hd : Qd (upd H1 D (.lst ((xs.filter p).map f)))) : LcW (Itt K a) (gName v) tt te [v] σ H1 D Qd := by
  refine lc_tup (xs := xs) (Pv := fun i H => H = upd H1 D (.lst (((xs.take i).filter p).map f))) rfl (fun i H _ e => by rw [e]; exact sqt_new hx nD) ?_ (fun H e => by rw [e, List.take_length]; exact hd)
  intro i x H hi e
  subst e
  have lt : i < xs.length := (List.getElem?_eq_some_iff.mp hi).1
  have le : (((xs.take i).filter p).map f).length ≤ i := by
    rw [List.length_map]
    exact Nat.le_trans (List.length_filter_le _ _) (by rw [List.length_take]; omega)
  refine ⟨wipe_one, ht x _ (List.mem_of_getElem? hi) _ ?_⟩
  have st := filt_step hi p f
  cases e : p x with
  | true =>
    rw [if_pos rfl]
    refine hs x _ (List.mem_of_getElem? hi) e _ ⟨_, upd_same, Nat.lt_of_le_of_lt le (Nat.lt_of_lt_of_le lt hn), ?_⟩
    rw [upd_upd, st, if_pos e]
  | false =>
    rw [if_neg Bool.false_ne_true, st, if_neg (by rw [e]; exact Bool.false_ne_true), List.append_nil]
end
end MM
namespace MM
open PySem PySem.Spec PyProof.Rows L2
section
variable {K : PySem.W.Frag} {H : Hp} {Q : VK}
theorem slA {a : Addr} {xs : List V} {lo hi : Option Int} (S : SqT K H a xs) (q : ∀ H' t, Same H H' → SqT K H' t (cutV xs lo hi) → Q (.ref t) H') : rSlA K (.ref a) lo hi H Q := by
  refine ⟨a, xs, rfl, S, fun h => ?_, fun _ p np => q _ p (same_new np) (.inl (.inl upd_same))⟩
  refine q H a (Same.refl H) ?_
  have : cutV xs lo hi = xs := by
    unfold cutV
    rw [h.1, h.2, List.drop_zero, Nat.sub_zero, List.take_length]
  rw [this]
  exact S
theorem catA {a b : Addr} {xs ys : List V} (S : SqT K H a xs) (S2 : SqT K H b ys) (z : xs.length + ys.length ≤ sizeLine) (q : ∀ H' t, Same H H' → SqT K H' t (xs ++ ys) → Q (.ref t) H') : rCatA K (.ref a) (.ref b) H Q := by
  refine ⟨a, b, xs, ys, rfl, rfl, S, S2, z, fun h => ?_, fun _ h => ?_, fun _ _ p np => q _ p (same_new np) (.inl (.inl upd_same))⟩
  · exact q H b (Same.refl H) (by rw [h]; exact S2)
  · exact q H a (Same.refl H) (by rw [h, List.append_nil]; exact S)
end
end MM
namespace MM
open PySem PySem.Spec PyProof.Rows L2
def rTupOf (K : PySem.W.Frag) : List V → Hp → VK → Prop := fun xs H Q => ∃ p ys, xs = [V.ref p] ∧ ((SqL K H p ys ∧ ∀ (l : Addr), H l = none → Q (.ref l) (upd H l (.tup ys))) ∨ SqT K H p ys ∧ Q (.ref p) H)
end MM

set_option Elab.async false
set_option linter.all false
set_option maxRecDepth 100000
set_option maxHeartbeats 2000000
/-! sorted of tuples of ints, of lists of lists of ints, of tuples of tuples by their lengths; walks over two at once -/
namespace MM
open PySem PySem.Spec PyProof.Rows L2 PySem.Calls PySem.W
section
variable {prog : Program} {w : World} {A : Around} {E : Value → Shared → Prop} {s : Shared}
theorem collect_tuple {l : Addr} {vs : List Value} {Q : List Value → Shared → Prop} (hl : s.heap.IsTuple l vs.toArray)
    (h : Q vs { s with heap := (s.heap.push (seqObj "list" #[] 0)).update s.heap.objs.size (Obj.mapSeq (· ++ vs.toArray)) }) (hsz : vs.length ≤ sizeLine) :
    wpAny (model prog w) A (collect (.ref l)) Q E s := by
  obtain ⟨o, ho, hc, n, hd⟩ := id hl
  unfold collect
  refine wpAny_bind (wpAny_runValue (codeAny_builtin entry_proto_collect' ?_))
  show wpAny _ _ (do again (.builtin "list.__iadd__" ⟨[← newList [], .ref l], []⟩)) _ _ s
  refine wpAny_bind (wpAny_newList (wpAny_pure ⟨Code.quiet_builtin _ (by decide +kernel), codeAny_builtin entry_list_iadd' ?_⟩))
  show wpAny _ _ (Builtin.List.listExtendWith (.ref s.heap.objs.size) (.ref l) (.ref s.heap.objs.size)) _ _ { s with heap := s.heap.push (seqObj "list" #[] 0) }
  unfold Builtin.List.listExtendWith
  have ho' : (s.heap.push (seqObj "list" #[] 0)).get? l = some o := Heap.get?_push_of_some _ ho
  refine wpAny_bind (wpAny_typeOf (T := "tuple") ⟨o, ho', hc⟩ ?_)
  have ht : (Value.type "tuple" == Value.type "tuple") = true := by rfl
  rw [if_pos (by rw [ht]; simp)]
  refine wpAny_bind (listItems_at ho' hd ?_)
  refine wpAny_bind (listItems_at (xs := #[]) (n := 0) (Heap.get?_push_size _ rfl) rfl ?_)
  rw [if_neg (by simp)]
  refine wpAny_bind (listUpdate_at (xs := #[]) (n := 0) (Heap.get?_push_size _ rfl) rfl ?_ (Nat.zero_le _) (by show (#[] ++ vs.toArray).size ≤ sizeLine + 1; simp only [Array.size_append, List.size_toArray, List.length_nil]; omega))
  refine wpAny_pure ?_
  show wpAny (model prog w) A (do
      let o ← load s.heap.objs.size
      match o.data with
      | .seq xs _ => pure xs.toList
      | _ => unsupported "internal:collect") Q E { s with heap := (s.heap.push (seqObj "list" #[] 0)).update s.heap.objs.size (Obj.mapSeq (· ++ vs.toArray)) }
  refine wpAny_bind (wpAny_load (get?_update_seq (Heap.get?_push_size _ rfl) _) ?_)
  show wpAny _ _ (pure ((#[] : Array Value) ++ vs.toArray).toList) Q E _
  rw [show ((#[] : Array Value) ++ vs.toArray).toList = vs by simp]
  exact wpAny_pure h
theorem sorted_of_tup {l : Addr} {vs : List Value} {kw : List (Str × Value)} {Q : Value → Shared → Prop} (hl : s.heap.IsTuple l vs.toArray) (hL : vs.length ≤ sizeLine) (ha1 : argsOk "sorted" ⟨[.ref l], kw⟩) (ha2 : ∀ x, argsOk "list.sort" ⟨[.ref x], kw⟩)
    (body : ∀ E' : Value → Shared → Prop, wpAny (model prog w) A.in1.in1 (Builtin.«list.sort» ⟨[.ref (s.heap.objs.size + 1)], kw⟩) (fun f s' => f = .done (.ret .none) ∧ Q (.ref (s.heap.objs.size + 1)) s') E' { s with heap := copyHeap s.heap vs }) :
    wpAny (model prog w) A (call (.builtin "sorted") [.ref l] kw) Q E s := by
  refine call_function_entry_kw kind_sorted plain_sorted entry_sorted ha1 ?_
  unfold Builtin.«sorted»
  refine wpAny_bind (m := checkCount "sorted" 1 1 _) (wpAny_pure ?_)
  refine wpAny_bind (collect_tuple hl ?_ hL)
  refine wpAny_bind (wpAny_newList ?_ hL)
  have hsz : ((s.heap.push (seqObj "list" #[] 0)).update s.heap.objs.size (Obj.mapSeq (· ++ vs.toArray))).objs.size = s.heap.objs.size + 1 := by
    rw [Heap.size_update, size_push']
  show wpAny _ _ _ _ _ { s with heap := copyHeap s.heap vs }
  rw [hsz]
  refine wpAny_bind (wpAny_holding (wpAny_call_entry_kw slot_list_sort ⟨_, copyHeap_at s.heap vs, rfl⟩ entry_list_sort ?body (ha2 _)))
  case body =>
    show wpAny (model prog w) A.in1.in1 (Builtin.«list.sort» ⟨[.ref (s.heap.objs.size + 1)], kw⟩) _ _ _
    refine wpAny_mono (body _) (fun f s' hf => ?_) fun _ _ e => e
    obtain ⟨rfl, hq⟩ := hf
    exact ⟨_, rfl, wpAny_pure ⟨_, rfl, hq⟩⟩
variable {β : Type} {vs : List Value} {bs : List β} {enc : β → PyData} {R : Value → β → Prop}
theorem sorted_tup_data {l : Addr} {Q : Value → Shared → Prop} (hl : s.heap.IsTuple l vs.toArray) (e : EachIs R vs bs) (er : EachIs (fun v b => ∃ as, Reads s.heap v (enc b) as) vs bs) (hal : AllAlike (bs.map enc)) (hk : Sortable (bs.map enc)) (hL : bs.length ≤ sizeLine)
    (hu : ∀ b, b ∈ bs → A.units + 2 + (enc b).depth < cLine) (h : ∀ out, out.length = bs.length → EachIs R out (bs.mergeSort (dataLe false enc)) → Q (.ref (s.heap.objs.size + 1)) { s with heap := sortedAll s.heap vs (List.toArray out) }) :
    wpAny (model prog w) A (call (.builtin "sorted") [.ref l]) Q E s := by
  have er' : EachIs (fun v b => ∃ as, Reads (sortingHeap (copyHeap s.heap vs) (s.heap.objs.size + 1) vs) v (enc b) as) vs bs := er.mono fun _ _ ⟨as, r⟩ => ⟨as, PyProof.Rows.Reads.keeps (fun _ _ => sorting_copy_old) r⟩
  have hL' : vs.length ≤ sizeLine := by rw [e.length]; exact hL
  exact sorted_of_tup hl hL' (args_sorted1 _) (fun _ => args_list_sort _) fun _ => list_sort_vals (s := { s with heap := copyHeap s.heap vs }) (copyHeap_at s.heap vs)
    (SortsAt.data (s := { s with heap := sortingHeap (copyHeap s.heap vs) (s.heap.objs.size + 1) vs }) (each_map (R := fun v d => ∃ as, Reads (sortingHeap (copyHeap s.heap vs) (s.heap.objs.size + 1) vs) v d as) enc er') hal hk (bound_map hu)) hL' ⟨rfl, h _ (by rw [sortVals_length false rfl]; exact e.length) (sortVals_data false e er' hal)⟩
theorem sorted_tup_key {l : Addr} {f : Value} {kw : List (Str × Value)} {b : Bool} {Q : Value → Shared → Prop} (k : β → PyData) (hl : s.heap.IsTuple l vs.toArray) (e : EachIs R vs bs) (hal : AllAlike (bs.map k)) (hk : Sortable (bs.map k)) (hL : bs.length ≤ sizeLine)
    (hu : ∀ x, x ∈ bs → A.units + 2 + (k x).depth < cLine) (ha1 : argsOk "sorted" ⟨[.ref l], kw⟩) (ha2 : ∀ x, argsOk "list.sort" ⟨[.ref x], kw⟩) (ht : ∀ x, Builtin.«list.sort» ⟨[.ref x], kw⟩ = ksk_tree x f b)
    (turn : ∀ (v : Value) (x : β), R v x → x ∈ bs → ∀ (h : Heap) (tk : Nat), (∀ b o, s.heap.get? b = some o → h.get? b = some o) →
      wpAny (model prog w) A.in1.in1 (call f [v]) (KeyPure (k x) { s with heap := h, toks := tk }) (fun _ _ => False) { s with heap := h, toks := tk })
    (h : ∀ out c h' tk, (∀ b o, s.heap.get? b = some o → h'.get? b = some o) → s.heap.get? (s.heap.objs.size + 1) = none → h'.get? (s.heap.objs.size + 1) = some (seqObj "list" (List.toArray out) c) → out.length = bs.length → EachIs R out (bs.mergeSort (dataLe b k)) →
      Q (.ref (s.heap.objs.size + 1)) { s with heap := h', toks := tk }) :
    wpAny (model prog w) A (call (.builtin "sorted") [.ref l] kw) Q E s := by
  have fresh : s.heap.get? (s.heap.objs.size + 1) = none := Heap.get?_none_of_le (Nat.le_succ _)
  have up : ∀ {g : Heap}, KeepsBut (s.heap.objs.size + 1) (copyHeap s.heap vs) g → ∀ b o, s.heap.get? b = some o → g.get? b = some o := fun {g} kp b o q =>
    kp b o (Nat.ne_of_lt (Nat.lt_succ_of_lt (Heap.lt_size q))) (copyHeap_old q)
  refine sorted_of_tup hl (by rw [e.length]; exact hL) ha1 ha2 fun E' => ?_
  rw [ht]
  refine keyH_tree (kz := bs.map k) (s := { s with heap := copyHeap s.heap vs }) (copyHeap_at s.heap vs) (by rw [List.length_map]; exact e.length.symm) (by rw [e.length]; exact hL) hal hk (bound_map (A := A.in1.in1) hu)
    (keyH_turns (s := { s with heap := copyHeap s.heap vs }) e fun v x hR hx h tk kp => turn v x hR hx h tk (up kp)) fun h' tk out c kp hD ko => ⟨rfl, ?_⟩
  exact h out c h' tk (up kp) fresh hD ((ko.length (by rw [List.length_map]; exact e.length.symm)).trans e.length) (keyedOut_each k ko e)
end
/-! by values -/
section
variable {X : Cx}
theorem each_of {R : V → Value → Prop} : ∀ {xs : List V} {us : List Value}, Paired R xs us → ∀ {β : Type} {bs : List (V × β)}, xs = bs.map Prod.fst → EachIs (fun v b => R b.1 v) us bs
  | _, _, .nil, _, [], _ => .nil
  | _, _, .nil, _, _ :: _, e => by cases e
  | _, _, .cons _ _, _, [], e => by cases e
  | _, _, .cons r t, _, b :: bs, e => by
    rw [List.map_cons] at e
    obtain ⟨e1, e2⟩ := List.cons.inj e
    subst e1
    exact .cons r (each_of t e2)
theorem vals_of_each {β : Type} : ∀ {us : List Value} {bs : List (V × β)}, EachIs (fun v b => RelV b.1 v) us bs → Vals (bs.map Prod.fst) us
  | _, _, .nil => .nil
  | _, _, .cons h t => .cons h (vals_of_each t)
theorem each_and {α β : Type} {R S : α → β → Prop} : ∀ {us : List α} {bs : List β}, EachIs R us bs → (∀ u b, R u b → b ∈ bs → S u b) → EachIs S us bs
  | _, _, .nil, _ => .nil
  | _, _, .cons h t, f => .cons (f _ _ h (by simp)) (each_and t fun u b r m => f u b r (by simp [m]))
/-- sorted(xs), xs a list of lists of ints -/
def rSortedLI (K : PySem.W.Frag) : List V → Hp → VK → Prop := fun vs H Q => ∃ (a : Addr) (bs : List (V × List Int)), vs = [.ref a] ∧ SqL K H a (bs.map Prod.fst) ∧ bs.length ≤ 1000 ∧ (∀ b ∈ bs, ∃ t, b.1 = .ref t ∧ SqL K H t (b.2.map V.int)) ∧
  ∀ (zs : List (V × List Int)) (p : Addr), zs.Perm bs → zs.Pairwise (fun x y => x.2 ≤ y.2) → H p = none → Q (.ref p) (upd H p (.lst (zs.map Prod.fst)))
theorem cr_sortedLI (hu : X.A.units + 64 < cLine) : CallR X (.builtin "sorted") (rSortedLI X.K) := by
  intro pins s σ H vs us Q I r h
  obtain ⟨a, bs, rfl, hs, hl, hb, q⟩ := h
  obtain ⟨its, rv, pl, hz⟩ := I.list hs
  rw [Vals.ref1 r]
  have e := each_of rv rfl
  have sml : ∀ n, n ≤ 1000 → n ≤ sizeLine := fun n h => Nat.le_of_lt (Nat.lt_of_le_of_lt h (by decide))
  refine sorted_data (enc := fun b : V × List Int => .list (b.2.map .int)) pl.isList e (each_and e fun u b ru hm => ?_) (AllAlike.of fun b b' => by rw [alike]; exact alike_ints _ _) (Sortable.others fun b => ⟨by simp, by simp⟩) (sml _ hl) (fun b _ => ?_) fun out lo eo => ?_
  · obtain ⟨t, et, St⟩ := hb b hm
    rw [et] at ru
    obtain ⟨as, rd⟩ := Dp.reads I (.list (b.2.map .int)) (.ref t) u (.lst St (dp_ints _)) ru
    exact ⟨as, rd⟩
  · have := depth_ints b.2
    simp only [PyData.depth]
    omega
  obtain ⟨ep, he'⟩ := PyProof.Rows.sortedAll_at s.heap its out.toArray
  rw [dataLe_rows (fun b : V × List Int => b.2)] at eo
  have pm := List.mergeSort_perm bs (fun p q : V × List Int => decide (p.2 ≤ q.2))
  have pw := List.pairwise_mergeSort (le := fun p q : V × List Int => decide (p.2 ≤ q.2)) (fun a b c h1 h2 => decide_eq_true (List.le_trans (of_decide_eq_true h1) (of_decide_eq_true h2)))
    (fun a b => by
      rcases List.le_total a.2 b.2 with h | h
      · simp [h]
      · simp [h]) bs
  have hlen : ((bs.mergeSort fun p q => decide (p.2 ≤ q.2)).map Prod.fst).length ≤ sizeLine := by
    rw [List.length_map, pm.length_eq]
    exact sml _ hl
  exact ⟨.ref _, upd H (s.heap.objs.size + 1) (.lst ((bs.mergeSort fun p q => decide (p.2 ≤ q.2)).map Prod.fst)), I.laid (t' := s.toks) (fun _ _ => PyProof.Rows.sortedAll_old) (Nat.le_succ _) ⟨hlen, out, ep, vals_of_each eo, he'⟩, rfl,
    q _ _ pm (pw.imp fun h => of_decide_eq_true h) (I.hok.fresh (Nat.le_succ _))⟩
/-- sorted(t), t a tuple of ints -/
def rSortedIT (K : PySem.W.Frag) : List V → Hp → VK → Prop := fun vs H Q => ∃ (a : Addr) (ns : List Int), vs = [.ref a] ∧ SqT K H a (ns.map V.int) ∧ ns.length ≤ 1000 ∧
  ∀ (zs : List Int) (p : Addr), zs.Perm ns → zs.Pairwise (· ≤ ·) → H p = none → Q (.ref p) (upd H p (.lst (zs.map V.int)))
theorem each_ints : ∀ {us : List Value} {ns : List Int}, Vals (ns.map V.int) us → EachIs (fun v n => RelV (.int n) v) us ns
  | _, [], r => by
    cases r
    exact .nil
  | _, n :: ns, r => by
    cases r with
    | cons h t => exact .cons h (each_ints t)
theorem vals_each_ints : ∀ {us : List Value} {ns : List Int}, EachIs (fun v n => RelV (.int n) v) us ns → Vals (ns.map V.int) us
  | _, _, .nil => .nil
  | _, _, .cons h t => .cons h (vals_each_ints t)
theorem cr_sortedIT (hu : X.A.units + 64 < cLine) : CallR X (.builtin "sorted") (rSortedIT X.K) := by
  intro pins s σ H vs us Q I r h
  obtain ⟨a, ns, rfl, hs, hl, q⟩ := h
  obtain ⟨its, rv, pl, hz⟩ := I.tuple hs
  rw [Vals.ref1 r]
  have e := each_ints rv
  have sml : ∀ n, n ≤ 1000 → n ≤ sizeLine := fun n h => Nat.le_of_lt (Nat.lt_of_le_of_lt h (by decide))
  refine sorted_tup_data (enc := fun n : Int => .int n) pl e (each_and e fun u b ru hm => ?_) (AllAlike.of fun b b' => by simp [alike]) (Sortable.others fun b => ⟨by simp, by simp⟩) (sml _ hl) (fun b _ => ?_) fun out lo eo => ?_
  · obtain ⟨t, rfl⟩ := ru
    exact ⟨_, Reads.int b t⟩
  · simp only [PyData.depth]
    omega
  obtain ⟨ep, he'⟩ := PyProof.Rows.sortedAll_at s.heap its out.toArray
  rw [dataLe_int (fun b : Int => b)] at eo
  have pm := List.mergeSort_perm ns (fun p q : Int => decide (p ≤ q))
  have pw := List.pairwise_mergeSort (le := fun p q : Int => decide (p ≤ q)) (fun a b c h1 h2 => decide_eq_true (Int.le_trans (of_decide_eq_true h1) (of_decide_eq_true h2)))
    (fun a b => by
      rcases Int.le_total a b with h | h
      · simp [h]
      · simp [h]) ns
  have hlen : ((ns.mergeSort fun p q => decide (p ≤ q)).map V.int).length ≤ sizeLine := by
    rw [List.length_map, pm.length_eq]
    exact sml _ hl
  exact ⟨.ref _, upd H (s.heap.objs.size + 1) (.lst ((ns.mergeSort fun p q => decide (p ≤ q)).map V.int)), I.laid (t' := s.toks) (fun _ _ => PyProof.Rows.sortedAll_old) (Nat.le_succ _) ⟨hlen, out, ep, vals_each_ints eo, he'⟩, rfl,
    q _ _ pm (pw.imp fun h => of_decide_eq_true h) (I.hok.fresh (Nat.le_succ _))⟩
/-- sorted(t, key=len), t a tuple of tuples -/
def rSortLen (K : PySem.W.Frag) : List V → Hp → VK → Prop := fun vs H Q => ∃ (β : Type) (n : β → Nat) (a : Addr) (bs : List (V × β)), vs = [.ref a] ∧ SqT K H a (bs.map Prod.fst) ∧ bs.length ≤ 1000 ∧ (∀ b ∈ bs, ∃ t ys, b.1 = .ref t ∧ SqT K H t ys ∧ ys.length = n b.2) ∧
  ∀ (zs : List (V × β)) (p : Addr), zs.Perm bs → zs.Pairwise (fun x y => n x.2 ≤ n y.2) → H p = none → Q (.ref p) (upd H p (.lst (zs.map Prod.fst)))
theorem run_sortLen (hu : X.A.units + 64 < cLine) {pins : List (Addr × Obj)} {s : Shared} {σ : L2.St} {H : Hp} {vs : List V} {us : List Value} {Q : VK} (I : Inv X pins σ H s) (r : Vals vs us) (h : rSortLen X.K vs H Q) :
    wpAny (model X.prog X.w) X.A (call (.builtin "sorted") us [(Str.ofString "key", .builtin "len")]) (EP X pins σ Q) X.xe s := by
  obtain ⟨β, n, a, bs, rfl, hs, hl, hb, q⟩ := h
  obtain ⟨its, rv, pl, hz⟩ := I.tuple hs
  rw [Vals.ref1 r]
  have e := each_of rv rfl
  have sml : ∀ n, n ≤ 1000 → n ≤ sizeLine := fun n h => Nat.le_of_lt (Nat.lt_of_le_of_lt h (by decide))
  refine sorted_tup_key (b := false) (fun b : V × β => .int (n b.2 : Int)) pl e (AllAlike.of fun b b' => by simp [alike]) (Sortable.others fun b => ⟨by simp, by simp⟩) (sml _ hl) (fun b _ => ?_) (ksk_s1 _ _) (fun _ => ksk_l1 _ _) (fun _ => ksk_t4 _ _) (fun v x rx hx h tk kp => ?_) fun out c h' tk kp fr hD lo eo => ?_
  · simp only [PyData.depth]
    omega
  · obtain ⟨t, ys, et, St, el⟩ := hb x hx
    rw [et] at rx
    cases rx
    obtain ⟨its2, rv2, p2, hz2⟩ := I.tuple St
    have hlen := rv2.length
    have p3 : h.IsTuple t its2.toArray := by
      obtain ⟨o, ho, hc, hd⟩ := p2
      exact ⟨o, kp _ _ ho, hc, hd⟩
    have hn := line63
    refine len_tuple (s := { s with heap := h, toks := tk }) p3 (by simp only [List.size_toArray] <;> omega) ⟨h, tk + 1 + 1, rfl, fun b o e => e, ?_⟩
    rw [List.size_toArray, ← hlen, el]
    exact Reads.int _ _
  rw [dataLe_int (fun b : V × β => (n b.2 : Int))] at eo
  have pm := List.mergeSort_perm bs (fun p q : V × β => decide ((n p.2 : Int) ≤ (n q.2 : Int)))
  have pw := List.pairwise_mergeSort (le := fun p q : V × β => decide ((n p.2 : Int) ≤ (n q.2 : Int))) (fun a b c h1 h2 => decide_eq_true (Int.le_trans (of_decide_eq_true h1) (of_decide_eq_true h2)))
    (fun a b => by
      rcases Int.le_total (n a.2 : Int) (n b.2 : Int) with h | h
      · simp [h]
      · simp [h]) bs
  have hlen : ((bs.mergeSort fun p q => decide ((n p.2 : Int) ≤ (n q.2 : Int))).map Prod.fst).length ≤ sizeLine := by
    rw [List.length_map, pm.length_eq]
    exact sml _ hl
  exact ⟨.ref _, upd H (s.heap.objs.size + 1) (.lst ((bs.mergeSort fun p q => decide ((n p.2 : Int) ≤ (n q.2 : Int))).map Prod.fst)), I.laid (t' := tk) kp (Nat.le_succ _) ⟨hlen, out, c, vals_of_each eo, hD⟩, rfl,
    q _ _ pm (pw.imp fun h => by have := of_decide_eq_true h; omega) (I.hok.fresh (Nat.le_succ _))⟩
theorem pe_sortLen {e : Expr} {t : TA} {p p2 kpos pos : Pos} (hu : X.A.units + 64 < cLine) (hg : Gl X "sorted") (hm : X.mg "sorted" = none) (hg2 : Gl X "len") (hm2 : X.mg "len" = none) (ha : PA X [e] t)
    (he : backTo pos (starEach [e] X.env) = (false, eval e X.env) :: backTo pos (starEach [] X.env) := by rfl) (hpl : (backTo pos (starEach [e] X.env)).any (·.1) = false := by rfl)
    (hall : (backToKw pos (keywordEach [⟨some (Str.ofString "key"), .Name "len" p2, kpos⟩] X.env)).all (·.1.isSome) = true := by rfl) (hnone : (backToKw pos (keywordEach [⟨some (Str.ofString "key"), .Name "len" p2, kpos⟩] X.env)).any (·.1.isNone) = false := by rfl)
    (hks : (backToKw pos (keywordEach [⟨some (Str.ofString "key"), .Name "len" p2, kpos⟩] X.env)).filterMap (·.1) = [Str.ofString "key"] := by rfl) :
    PE X (.Call (.Name "sorted" p) [e] [⟨some (Str.ofString "key"), .Name "len" p2, kpos⟩] pos) (tCB (rSortLen X.K) t) := by
  refine ⟨fun pins s σ H Q I h => ?_⟩
  refine wpAny_Call_Name_kw (ld_blt I hg hm (u := .builtin "sorted") (by decide +kernel) ?_ (by decide) (by decide))
  refine PyProof.Rows.callWith_kw (thn (ha.run pos pins s σ H _ I h) fun us s1 ⟨vs, H1, I1, r1, q1⟩ => ?_) he hpl hall hnone
  show wpAny _ _ (evalAll [do let v ← eval (.Name "len" p2) X.env; standAt pos; pure v]) _ _ s1
  refine wpAny_evalAll_cons (wpAny_bind (ld_blt I1 hg2 hm2 (u := .builtin "len") (by decide +kernel) (wpAny_bind (wpAny_standAt (wpAny_pure (wpAny_evalAll_nil ?_)))) (by decide) (by decide)))
  rw [hks]
  exact run_sortLen hu I1 r1 q1
end
end MM
namespace MM
open PySem PySem.Spec PyProof.Rows L2
section
variable {K : PySem.W.Frag} {a b : Addr} {xs ys : List V} {g : TG} {tb : TS} {D : Ends} {σ : L2.St} {H : Hp}
theorem for_zipM (Pv : Nat → L2.St → Hp → Prop) (h0 : Pv 0 σ H) (hq : ∀ i σ H, Pv i σ H → SqL K H a xs ∧ SqL K H b ys)
    (hs : ∀ (i : Nat) (x y : V) (T : Addr) (σ : L2.St) (H : Hp), xs[i]? = some x → ys[i]? = some y → Pv i σ H → H T = none → g (.ref T) σ (upd H T (.tup [x, y])) fun σ2 H2 => tb { D with nx := Pv (i + 1), ct := Pv (i + 1), bk := D.nx } σ2 H2)
    (hd : ∀ σ H, Pv (min xs.length ys.length) σ H → D.nx σ H) : ForW (Itz K a b) g tb D σ H := by
  refine ⟨fun i m σ H => m = min xs.length ys.length - i ∧ i ≤ min xs.length ys.length ∧ Pv i σ H, ⟨_, rfl, Nat.zero_le _, h0⟩, ?_⟩
  rintro i m σ H ⟨rfl, le, p⟩
  obtain ⟨q1, q2⟩ := hq i σ H p
  by_cases lt : i < min xs.length ys.length
  · have e1 : xs[i]? = some (xs[i]'(by omega)) := List.getElem?_eq_getElem (by omega)
    have e2 : ys[i]? = some (ys[i]'(by omega)) := List.getElem?_eq_getElem (by omega)
    refine .inr ⟨⟨xs, ys, _, _, q1, q2, e1, e2⟩, Pv (i + 1), fun σ' H' p' => ⟨_, by omega, rfl, lt, p'⟩, ?_⟩
    rintro v H' ⟨T, x, y, rfl, free, rfl, h1, h2⟩
    exact hs i x y T σ H (h1 xs q1) (h2 ys q2) p free
  · have e : i = min xs.length ys.length := by omega
    subst e
    exact .inl ⟨⟨xs, ys, q1, q2, by omega⟩, hd σ H p⟩
end
end MM

set_option Elab.async false
set_option maxRecDepth 100000
set_option maxHeartbeats 2000000
set_option linter.all false
/-! own exceptions over any built-in base, whose own __init__ asks the base's and keeps one field -/
namespace ME
open PySem PySem.Spec PyProof.Rows L2

/-- the class at C stands over B, by own classes between, or none -/
structure Over (K : PySem.W.Frag) (C : Addr) (B newId initId : String) (top : List Value) : Prop where
  base : ExcBaseFacts B newId initId top
  put : StoreFacts B top "object.__setattr__" "object"
  row : ∃ nm q N bs bm sn sub ab col dd k0 k1 k2 k3 k5,
    K.lookup C = some (excClassObj nm q C N bs bm true sn sub ab col dd k0 k1 k2 k3 k5 newId) ∧ PySem.W.excTail top bm = true
  hook : PySem.W.findIn K (.ref C) "__setattr__" = some (some (.builtin "object.__setattr__"))
  isE : PySem.W.subIn K (.ref C) (.type "BaseException") = some true
  meta_ : PySem.W.typeIn K (.ref C) = some (.type "type")
  keep : PySem.W.keepIn K (.ref C) = true

section
open Builtin Builtin.ObjectAttr
variable {prog : Program} {w : World} {A : Around} {R : Result → Shared → Prop} {hp : Heap} {g : Array GenState} {d : Drawn}
  {t : Nat} {os : OsState} {K : PySem.W.Frag} {C x : Addr} {B newId initId : String} {top : List Value}
/-- the first field of an exception lays its dict -/
theorem first_put {name : Str} {tk : Tok} {v : Value} {fv : Array Value} (T : Over K C B newId initId top) (X : K.In hp)
    (hx : hp.get? x = some { cls := .ref C, data := .fields fv })
    (ha : PySem.W.findIn K (.ref C) name = some none)
    (hq : ∀ h' tk' dx, (∀ b o, b ≠ x → hp.get? b = some o → h'.get? b = some o) → hp.objs.size ≤ dx → dx ≠ x →
      h'.get? x = some { cls := .ref C, dict := some dx, data := .fields fv } →
      h'.Ns1 dx (fun y => if y = name then some v else none) → R (.ok (.ret .none)) ⟨h', g, d, tk', os⟩) :
    codeAny (model prog w) A (.call (.builtin "object.__setattr__") ⟨[.ref x, .str name tk, v], []⟩) R ⟨hp, g, d, t, os⟩ := by
  obtain ⟨nm, q, N, bs, bm, sn, sub, ab, col, dd, k0, k1, k2, k3, k5, hC, hbm⟩ := T.row
  have hcd : PySem.W.clsIn K C = some { name := nm, bases := bs, mro := .ref C :: bm, ns := N, qualname := q, hasDict := true, slotNames := sn, subclasses := sub, abstract := ab, collection := col, hasDel := false } := by
    unfold PySem.W.clsIn
    rw [hC] <;> rfl
  have hall : PySem.W.excTail top (.ref C :: bm) = true := hbm
  have inst : PySem.W.InstAt hp x { cls := .ref C, data := .fields fv } C none := ⟨hx, rfl, rfl, trivial⟩
  have S := PySem.F.store_object
  have far : x ≠ hp.objs.size := Nat.ne_of_lt (Heap.lt_size hx)
  have obj : (Value.ref C :: bm).contains (.type "object") = true :=
    (PySem.W.excTail_contains "object" _ hall).trans T.put.hasOwner
  have mro : PySem.W.mroIn K C (.type "object") = some true := by
    unfold PySem.W.mroIn
    rw [hcd, Option.bind_some]
    simp only [List.isEmpty_cons, obj, Bool.false_eq_true, if_false]
  have isObj : PySem.W.Looks (model prog w) hp (isInstance (.ref x) (.type "object")) true :=
    inst.type.andThen (PySem.W.looks_mroIn X mro)
  have rd : PySem.W.Looks (model prog w) hp (classData C) _ := PySem.W.looks_clsIn X hcd
  have rm : PySem.W.Looks (model prog w) hp (mroOf (.ref C)) (.ref C :: bm) := rd.andThen .now
  have none_ : PySem.W.Looks (model prog w) hp (storeTaker? none) none := .now
  refine codeAny_call_builtin S.slot.plain S.entry (@PySem.W.check_slot (model prog w) _ _ ⟨hp, g, d, t, os⟩
    "object.__setattr__" "object" "__setattr__" (.ref x) [.str name tk, v] [] _ S.kind S.split isObj (S.args (.ref x) (.str name tk) v) ?_)
  rw [PySem.W.osa_eq, refuse_eq]
  refine wpAny_bind (wpAny_bind (inst.type.at (wpAny_bind (rm.at ?_))))
  rw [PySem.W.excTail_pass _ (T.put.passes _) _ hall]
  refine wpAny_pure (wpAny_bind (inst.type.at (wpAny_bind ((PySem.W.looks_findIn X ha).at (wpAny_bind (none_.at ?_))))))
  show wpAny _ _ (storeInOwnDict (.ref x) (.ref C) (.str name tk) name v false) _ _ _
  unfold storeInOwnDict ownDictForStores
  repeat (first
    | with_reducible refine PySem.HandSPX.store_in_new ?_ ?_
    | with_reducible refine wpAny_loadPart_at hx ?_
    | with_reducible refine rd.at ?_
    | wp_step)
  · refine ⟨_, #[], _, (Heap.get?_update_ne _ _ _ _ far.symm).trans (Heap.get?_push_at rfl rfl), rfl, ?_, fun _ => rfl⟩
    intro e he
    simp at he
  · intro h' tk' hn' hs
    have there : (hp.push { cls := .type "dict", data := .dict #[] }).get? x = some { cls := .ref C, data := .fields fv } :=
      Heap.get?_push_of_some _ hx
    refine hq h' tk' hp.objs.size ?_ (Nat.le_refl _) far.symm ((hs.2 x far).trans (Heap.get?_update_self _ there rfl)) hn'
    intro b o hb ho
    have nb : b ≠ hp.objs.size := Nat.ne_of_lt (Heap.lt_size ho)
    rw [hs.2 b nb, Heap.get?_update_ne _ _ _ _ hb]
    exact Heap.get?_push_of_some _ ho
end

section
variable {X : Cx} {pins : List (Addr × Obj)} {σ : L2.St} {H : Hp} {s : Shared} {a C : Addr} {f : Str} {y : V} {u : Value}
  {E : Value → Shared → Prop} {A : Around} {B newId initId : String} {top : List Value}
/-- self.f = y, the first field -/
theorem put_new {Q : Unit → Shared → Prop} (T : Over X.K C B newId initId top) (I : Inv X pins σ H s)
    (ea : H a = some (exo a C none)) (no : PySem.W.findIn X.K (.ref C) f = some none) (ry : RelV y u)
    (h : ∀ dx s', H dx = none → dx ≠ a →
      Inv X pins σ (upd (upd H dx (exd dx [(f, y)])) a (exo a C (some dx))) s' → Q () s') :
    wpAny (model X.prog X.w) A (setAttr (.ref a) f u) Q E s := by
  obtain ⟨t1, ho⟩ := exo_at I.hok ea
  obtain ⟨hp, g, d, t, os⟩ := s
  refine PySem.W.set_plain I.kIn (od := none) ⟨ho, rfl, rfl, trivial⟩ T.hook ?_
  refine first_put T I.kIn ho no (fun h' tk' dx kp ge ne hx hn => ?_)
  have free : H dx = none := I.hok.fresh ge
  have old : ∀ {b : Addr} {o : Obj}, hp.get? b = some o → b ≠ dx := by
    intro b o hb
    exact Nat.ne_of_lt (Nat.lt_of_lt_of_le (Heap.lt_size hb) ge)
  have nota : ∀ {b : Addr}, H b = none → b ≠ a := by
    rintro b hb rfl
    rw [ea] at hb
    cases hb
  have same : ∀ {b : Addr} {v : HO}, H b = some v → b ≠ a →
      upd (upd H dx (exd dx [(f, y)])) a (exo a C (some dx)) b = some v := by
    intro b v hb ba
    rw [upd_ne ba, upd_ne (ne_of_none hb free)]
    exact hb
  have un : Un X.fs [] H (upd (upd H dx (exd dx [(f, y)])) a (exo a C (some dx))) hp h' := by
    constructor
    case keep => exact fun b o hb hn _ _ => kp b o (nota hn) hb
    case slot => exact fun b o hb hn _ _ => ⟨o.slots, kp b o (nota hn) hb⟩
    case free =>
      intro b o hb hn _
      rw [upd_ne (nota hn), upd_ne (old hb)]
      exact hn
    case there =>
      intro b o hb _
      by_cases ba : b = a
      · exact ⟨_, ba ▸ hx⟩
      · exact ⟨o, kp b o ba hb⟩
    case tups => exact fun b xs hb => same hb (at_ne ea hb exo_tup)
    case frzs => exact fun b o v hb => same hb (at_ne ea hb exo_frz)
    case tbls =>
      intro b ps hb
      refine ⟨#[], ?_⟩
      rw [same hb (at_ne ea hb exo_tbl)]
      simp
  refine h dx _ free ne (I.un (t' := tk') un fun b o hb => ?_)
  by_cases ba : b = a
  · subst ba
    rw [upd_same] at hb
    cases hb
    exact exo_ok hx
  rw [upd_ne ba] at hb
  by_cases bd : b = dx
  · subst bd
    rw [upd_same] at hb
    cases hb
    exact exd_ok hn (relO_put (fs := []) ry fun _ => True.intro)
  rw [upd_ne bd] at hb
  refine (I.hok b o hb).stay ?_ (fun c hc => same hc (at_ne ea hc exo_own)) (fun c xs hc => same hc (at_ne ea hc exo_tup))
  rintro c v hc z
  refine kp c v ?_ z
  rcases hc with rfl | hc
  · exact ba
  · exact at_ne ea hc exo_own

/-- B.__init__(self, ..) -/
theorem ask_ok {us : List Value} {Q : Value → Shared → Prop} (T : Over X.K C B newId initId top) (I : Inv X pins σ H s)
    (ea : H a = some (exo a C none)) (hl : us.length ≤ sizeLine) (h : ∀ s', Inv X pins σ H s' → Q .none s') :
    wpAny (model X.prog X.w) A (call (.builtin initId) (.ref a :: us)) Q E s := by
  obtain ⟨nm, q, N, bs, bm, sn, sub, ab, col, dd, k0, k1, k2, k3, k5, hC, hbm⟩ := T.row
  obtain ⟨t1, ho⟩ := exo_at I.hok ea
  obtain ⟨hp, g, d, t, os⟩ := s
  refine wpAny_call (PySem.HandSPX.init_base T.base (fun Y => PySem.W.excTail_contains Y bm hbm) (I.kIn _ _ hC) ho hl ?_)
  intro h' t2 kp hx
  have J := I.write (t' := t) (x := a) (e := a) (o := exo a C none) (by rw [ea]; exact True.intro) (.inl rfl) kp ⟨_, hx⟩ (exo_ok hx)
  have same : upd H a (exo a C none) = H := by
    funext b
    by_cases hb : b = a
    · subst hb
      rw [upd_same, ea]
    · rw [upd_ne hb]
  rw [same] at J
  exact h _ J
end

/-- B.__init__(self, ..): nothing of it is told -/
def tAsk (K : PySem.W.Frag) (B newId initId : String) (top : List Value) (ta : TA) : TE := fun σ H Q =>
  ta σ H fun vs H1 => ∃ (a C : Addr) (ws : List V), vs = .ref a :: ws ∧ ws.length ≤ 1000 ∧ Over K C B newId initId top ∧
    H1 a = some (exo a C none) ∧ Q .non H1
/-- self.f = e, the first field -/
def tPut (K : PySem.W.Frag) (B newId initId : String) (top : List Value) (f : Str) (to te : TE) : TS := fun D σ H =>
  te σ H fun y H1 => to σ H1 fun x H2 => ∃ a C : Addr, x = .ref a ∧ Over K C B newId initId top ∧
    PySem.W.findIn K (.ref C) f = some none ∧ H2 a = some (exo a C none) ∧
    ∀ dx, H2 dx = none → dx ≠ a → D.nx σ (upd (upd H2 dx (exd dx [(f, y)])) a (exo a C (some dx)))
section
variable {X : Cx} {o e : Expr} {es : List Expr} {to te : TE} {ta : TA} {f : Str} {p p' p1 p2 pos : Pos}
  {B newId initId : String} {top : List Value}
theorem ps_put (ho : PE X o to) (he : PE X e te)
    (hs : swapsWith e (some (.Attribute o f p')) pos.line X.env = pure false := by rfl) :
    PS X (.Assign [.Attribute o f p'] e pos) (tPut X.K B newId initId top f to te) := by
  constructor
  intro pins s σ H D I h
  refine plainObj_wpAny_Assign_Attribute (thn (he.run pins s σ H _ I h) ?_) hs
  rintro v s1 ⟨y, H1, I1, r1, q1⟩
  refine thn (ho.run pins s1 σ H1 _ I1 q1) ?_
  rintro u s2 ⟨x, H2, I2, r2, a, C, rfl, T, no, ea, q⟩
  obtain rfl : u = Value.ref a := r2
  exact put_new T I2 ea no r1 fun dx s' n ne J => ⟨σ, _, J, q dx n ne⟩
theorem pe_ask {pl : Sem Bool} (hg : Gl X B) (hm : X.mg B = none) (hv : bootBuiltins B = some (.type B))
    (ty : typeOf (.type B) = pure (.type "type")) (st : Manifest.isStub B = false)
    (vV : PySem.W.findCls X.K (.type B) (.type "type") "__init__" = some (.val (.builtin initId)))
    (hi : PySem.W.handedIn (.builtin initId) = true)
    (ha : PA X (e :: es) ta) (hn : (B : Str) ≠ "__name__" := by decide) (hdb : ((B : Str) == ("__debug__" : Str)) = false := by decide)
    (hc : eval (.Call (.Attribute (.Name B p1) "__init__" p2) (e :: es) [] pos) X.env = (do
      let ov ← eval (.Name B p1) X.env
      standAt p2.atName
      let (f, first) ← holding [ov] (getMethod ov "__init__" pl)
      callWith pos f first (backTo pos (starEach (e :: es) X.env)) (backToKw pos (keywordEach [] X.env))) := by rfl)
    (he : starEach (e :: es) X.env = (false, eval e X.env) :: starEach es X.env := by rfl)
    (hpl : (backTo pos (starEach es X.env)).any (·.1) = false := by rfl) :
    PE X (.Call (.Attribute (.Name B p1) "__init__" p2) (e :: es) [] pos) (tAsk X.K B newId initId top ta) := by
  constructor
  intro pins s σ H Q I h
  refine PySem.W.methodCall_KW (ld_blt I hg hm hv ?_ hn hdb) hc
  obtain ⟨m, fr⟩ := I.fr
  refine PySem.W.method_type fr I.ok.mod.kin ty st vV hi ?_
  show wpAny _ _ (callWith pos (Value.builtin initId) [] (backTo pos (starEach (e :: es) X.env)) []) _ _ _
  refine PyProof.Rows.callWith_method1 (thn (ha.run pos pins _ σ H _ (I.tok _) h) ?_) he hpl
  rintro us s1 ⟨vs, H1, I1, r1, a, C, ws, rfl, hl, T, ea, q⟩
  cases r1 with
  | @cons _ u0 _ ur ra rw' =>
    obtain rfl : u0 = Value.ref a := ra
    refine ask_ok T I1 ea ?_ fun s' J => ⟨.non, H1, J, rfl, q⟩
    rw [← Paired.length rw', sizeLine_eq]
    omega
end

/-- what __init__ of such a class keeps: one field, called f -/
def spKeep (C : Addr) (f : Str) : Sp := fun vs H Q _ => ∃ (a : Addr) (y : V), vs = [.ref a, y] ∧ H a = some (exo a C none) ∧
  ∀ dx, H dx = none → dx ≠ a → Q .non (upd (upd H dx (exd dx [(f, y)])) a (exo a C (some dx)))
/-- C(e) is made: its class, its dict, which keeps e under f -/
def tMade (C : Addr) (f : Str) (ta : TA) : L2.St → Hp → XK → Prop := fun σ H Q => ta σ H fun vs H1 => ∃ y, vs = [y] ∧
  ∀ d, H1 d = none → Q (.ref C) (some d) (upd H1 d (.xd [(f, y)]))
section
variable {X : Cx} {e : Expr} {es : List Expr} {ta : TA} {p pos : Pos} {CX : CXT} {x f : Str} {C fI : Addr} {k : Nat} {fd : FuncData}
  {ps : List Str} {B newId initId : String} {top : List Value}
theorem room_make {A : Around} (r : MM.Rm (k + 1) A) (C : Addr) (us : List Value) (kw : List (Str × Value)) :
    MM.Rm k (A.under (.builtin "type.__call__" ⟨.ref C :: us, kw⟩)) := ⟨r.room.make C us kw, r.still⟩
theorem pmk_made (T : Over X.K C B newId initId top) (iC : PySem.W.findIn X.K (.ref C) "__init__" = some (some (.ref fI)))
    (tI : PySem.W.typeIn X.K (.ref fI) = some (.type "function"))
    (F : MM.FnG X.prog X.w X.K X.mg X.base CX k fI fd ps (spKeep C f)) (hr : MM.Rm (k + 1) X.A) (hb : Binds X.K fd ps [])
    (hx : Passes CX X (fun _ _ _ => False)) (hm : X.mg x = some (.ref C)) (ha : PA X (e :: es) ta) (hg : Gl X x := by rfl)
    (hdb : (x == ("__debug__" : Str)) = false := by decide)
    (he : starEach (e :: es) X.env = (false, eval e X.env) :: starEach es X.env := by rfl)
    (hpl : (backTo pos (starEach es X.env)).any (·.1) = false := by rfl) :
    PMk X (.Call (.Name x p) (e :: es) [] pos) (tMade C f ta) := by
  intro pins s σ H Q I h
  obtain ⟨nm, q, N, bs, bm, sn, sub, ab, col, dd, k0, k1, k2, k3, k5, hC, hbm⟩ := T.row
  refine wpAny_Call_Name_kw (ld_glob I hg hm ?_ hdb)
  refine PySem.W.callWith_K (h₀ := X.base) I.ok.mod.kin T.keep (thn (ha.run pos pins s σ H _ I h) ?_) he hpl
  rintro us s1 ⟨vs, H1, I1, r1, y, rfl, q1⟩
  refine ⟨I1.kIn, ?_⟩
  obtain ⟨u, rfl, ry⟩ := vals1 r1
  show wpAny _ _ (call (.ref C) [u]) _ _ _
  obtain ⟨hp, g, dr, tk, os⟩ := s1
  have size : hp.objs.size ≤ hp.objs.size + 1 := Nat.le_succ _
  have new : H1 (hp.objs.size + 1) = none := I1.hok.fresh size
  have kept : ∀ b o, hp.get? b = some o →
      ((hp.push (PySem.W.kdv_tup [u])).push (PySem.HandSPX.excO C hp.objs.size)).get? b = some o := by
    intro b o z
    exact Heap.get?_push_of_some _ (Heap.get?_push_of_some _ z)
  have lies : ((hp.push (PySem.W.kdv_tup [u])).push (PySem.HandSPX.excO C hp.objs.size)).get? (hp.objs.size + 1) =
      some (PySem.HandSPX.excO C hp.objs.size) := by heap_get
  have I2 := I1.laid (t' := tk) (a := hp.objs.size + 1) (o := exo (hp.objs.size + 1) C none) kept size (exo_ok lies)
  have r2 : Vals [V.ref (hp.objs.size + 1), y] [Value.ref (hp.objs.size + 1), u] := .cons rfl (.cons ry .nil)
  have sp : spKeep C f [V.ref (hp.objs.size + 1), y] (upd H1 (hp.objs.size + 1) (exo (hp.objs.size + 1) C none))
      (fun v H2 => v = .non ∧ ∃ d, H1 d = none ∧ d ≠ hp.objs.size + 1 ∧
        H2 = upd (upd (upd H1 (hp.objs.size + 1) (exo (hp.objs.size + 1) C none)) d (exd d [(f, y)])) (hp.objs.size + 1) (exo (hp.objs.size + 1) C (some d)))
      (fun _ _ _ => False) := by
    refine ⟨_, y, rfl, upd_same, fun dx n ne => ⟨rfl, dx, ?_, ne, rfl⟩⟩
    rw [upd_ne ne] at n
    exact n
  have len := F.arity sp
  have bd := hb ⟨_, g, dr, tk, os⟩ [Value.ref (hp.objs.size + 1), u] I2.kIn (by rw [List.append_nil]; exact len)
  rw [List.append_nil] at bd
  refine wpAny_call (PySem.HandSPX.call_own T.base (fun Y => PySem.W.excTail_contains Y bm hbm) (I1.kIn _ _ hC)
    (PySem.W.looks_findIn I1.kIn iC) (fun self => PySem.W.bind_fn I1.kIn self tI) (by show 1 ≤ sizeLine; rw [sizeLine_eq]; omega)
    (codeAny_mono (F.runs (out := X.stack) (room_make hr C [u] []) (I2.env0.make C [u] []) bd r2 sp) ?_))
  intro r s' hq
  cases r with
  | error er => exact hx pins σ _ _ er s' I2 hq
  | ok fl =>
    cases fl with
    | next => exact hq.elim
    | brk => exact hq.elim
    | cont => exact hq.elim
    | ret u' =>
      obtain ⟨v, H2, os2, bare2, un2, hok2, rv, rfl, d, nd, ne, rfl⟩ := hq
      obtain ⟨h2, g2, d2, t2, os'⟩ := s'
      have ed : (upd (upd (upd H1 (hp.objs.size + 1) (exo (hp.objs.size + 1) C none)) d (exd d [(f, y)])) (hp.objs.size + 1)
          (exo (hp.objs.size + 1) C (some d))) d = some (exd d [(f, y)]) := by
        rw [upd_ne ne, upd_same]
      refine ⟨rv, mk_end (raises_own T.isE T.meta_) I1 size kept un2 hok2 os2 bare2 upd_same ed nd ?_⟩
      have same : upd (del (upd (upd (upd H1 (hp.objs.size + 1) (exo (hp.objs.size + 1) C none)) d (exd d [(f, y)])) (hp.objs.size + 1)
          (exo (hp.objs.size + 1) C (some d))) (hp.objs.size + 1)) d (.xd [(f, y)]) = upd H1 d (.xd [(f, y)]) := by
        funext b
        by_cases b1 : b = d
        · subst b1
          rw [upd_same, upd_same]
        rw [upd_ne b1, upd_ne b1]
        by_cases b2 : b = hp.objs.size + 1
        · subst b2
          rw [del_same, new]
        rw [del_ne b2, upd_ne b2, upd_ne b1, upd_ne b2]
      rw [same]
      exact q1 d nd
end
end ME

set_option Elab.async false
set_option maxRecDepth 100000
set_option maxHeartbeats 2000000
set_option linter.all false
/-! try with several clauses, with and without a name -/
namespace ME
open PySem PySem.Spec PyProof.Rows L2
/-- where slot i is emptied behind the suite -/
def Ends.drop (D : Ends) (i : Nat) : Ends where
  nx := fun σ H => D.nx (σ.set i none) H
  rt := D.rt
  bk := fun σ H => D.bk (σ.set i none) H
  ct := fun σ H => D.ct (σ.set i none) H
/-- clauses, one after the other; W: what is wished of the exception that the body lets out -/
inductive Cl (X : Cx) (Wout : WX) : List ExceptHandler → (Ends → WX) → Prop where
  | nil : Cl X Wout [] (fun _ => Wout)
  | no {x : Str} {c : Value} {ts : Addr → Value → Option Addr → TS} {b₀ : Stmt} {suite : List Stmt} {np pos : Pos}
      {hds : List ExceptHandler} {W : Ends → WX} (hc : Names X x c)
      (su : ∀ (a : Addr) (oe : Obj) (cls : Value) (d : Option Addr) (pn : List (Addr × Obj)), Zc cls d oe →
        (∃ vs, oe.data = .fields vs) → PSs (X.suite a ((a, oe) :: pn)) (b₀ :: suite) (ts a cls d))
      (r : Cl X Wout hds W) :
      Cl X Wout (.ExceptHandler (some (.Name x np)) none (b₀ :: suite) pos :: hds) (fun D cls d σ H =>
        ∃ b, PySem.W.exmOne X.K cls c = some b ∧ (b = true → ∀ a, H a = none → ts a cls d D σ H) ∧ (b = false → W D cls d σ H))
  | as_ {x n : Str} {i : Nat} {c : Value} {ts : Addr → Value → Option Addr → TS} {b₀ : Stmt} {suite : List Stmt} {np pos : Pos}
      {hds : List ExceptHandler} {W : Ends → WX} (hc : Names X x c) (hN : X.N.Nodup) (hi : X.N[i]? = some n)
      (hl : X.env.kindOf n = some .local)
      (su : ∀ (a : Addr) (oe : Obj) (cls : Value) (d : Option Addr) (pn : List (Addr × Obj)), Zc cls d oe →
        (∃ vs, oe.data = .fields vs) → PSs (X.suite a ((a, oe) :: pn)) (b₀ :: suite) (ts a cls d))
      (r : Cl X Wout hds W) :
      Cl X Wout (.ExceptHandler (some (.Name x np)) (some n) (b₀ :: suite) pos :: hds) (fun D cls d σ H =>
        ∃ b, PySem.W.exmOne X.K cls c = some b ∧ (b = true → ∀ a, H a = none → σ.length = X.N.length → ts a cls d (Ends.drop D i) (σ.set i (some (.ref a))) H) ∧
          (b = false → W D cls d σ H))

/-- the exception at a has landed in X: h is the heap now, sI the state without it -/
structure Lands (X : Cx) (pins : List (Addr × Obj)) (σ : L2.St) (H : Hp) (cls : Value) (d : Option Addr) (a : Addr) (B : Heap)
    (sI s : Shared) (h : Heap) : Prop where
  inv : Inv X pins σ H sI
  ground : ∀ b o, sI.heap.get? b = some o → b ∉ frs X.stack → B.get? b = some o
  up : sI.heap.UpToSlots h
  fly : HandSPX.FlyingZ B (X.env :: X.outer) a (Zc cls d) h
  none_ : H a = none
  os : s.os = sI.os
  bare : AllBare s.gens
section
variable {X : Cx} {pins : List (Addr × Obj)} {σ : L2.St} {H : Hp} {cls : Value} {d : Option Addr} {a : Addr} {B : Heap}
  {sI s : Shared} {h : Heap} {D : Ends} {Wout : WX} {hds : List ExceptHandler} {W : Ends → WX}
theorem Lands.here (L : Lands X pins σ H cls d a B sI s h) : Inv X pins σ H { s with heap := h } :=
  L.inv.landed (s' := { s with heap := h }) L.ground L.fly.1 L.up L.os L.bare
theorem Lands.later (L : Lands X pins σ H cls d a B sI s h) {h' : Heap} (f : HandSPX.FlyingZ B (X.env :: X.outer) a (Zc cls d) h')
    (u : h.UpToSlots h') : Lands X pins σ H cls d a B sI s h' :=
  { L with up := L.up.trans u, fly := f }
/-- the exception as it lies, in the suite's context -/
theorem Lands.suite (L : Lands X pins σ H cls d a B sI s h) (hf : X.env.frame = some X.env.locals) :
    ∃ (oe : Obj) (vs : Array Value), h.get? a = some oe ∧ Zc cls d oe ∧ oe.data = .fields vs ∧
      Inv (X.suite a ((a, oe) :: (X.pn ++ pins))) [] σ H { s with heap := h } := by
  obtain ⟨oe, vs, he, hz, hd⟩ := L.fly.there
  have away : a ∉ frs (X.env :: X.outer) := by
    intro hm
    obtain ⟨_, o', e', no⟩ := L.fly.2.2.1.mem hm
    rw [he] at e'
    cases e'
    exact no _ hd
  have nL : a ≠ X.env.locals := fun z => away (List.mem_filterMap.mpr ⟨X.env, List.mem_cons_self, by rw [hf, z]⟩)
  have nF : a ∉ X.fs := by
    intro hm
    obtain ⟨e, he', q⟩ := List.mem_filterMap.mp hm
    exact away (List.mem_filterMap.mpr ⟨e, List.mem_cons_of_mem _ he', q⟩)
  exact ⟨oe, vs, he, hz, hd, L.here.suite he hd L.none_ nL nF⟩
/-- a suite's end -/
theorem Lands.out {oe : Obj} {f : Flow} {s6 : Shared} (ok : X.Ok)
    (q : SP (X.suite a ((a, oe) :: (X.pn ++ pins))) [] D f s6) : SP X pins D f s6 := by
  cases f with
  | ret u =>
    obtain ⟨v, σ6, H6, S, r, z⟩ := q
    exact ⟨v, σ6, H6, S.unsuite ok, r, z⟩
  | next =>
    obtain ⟨σ6, H6, S, z⟩ := q
    exact ⟨σ6, H6, S.unsuite ok, z⟩
  | brk =>
    obtain ⟨σ6, H6, S, z⟩ := q
    exact ⟨σ6, H6, S.unsuite ok, z⟩
  | cont =>
    obtain ⟨σ6, H6, S, z⟩ := q
    exact ⟨σ6, H6, S.unsuite ok, z⟩
theorem handled (hs : X.stack = X.env :: X.outer) (hf : X.env.frame = some X.env.locals) (tk : Takes X Wout)
    (C : Cl X Wout hds W) : ∀ {h : Heap}, Lands X pins σ H cls d a B sI s h → W D cls d σ H →
      wpAny (model X.prog X.w) X.A (handleBy (.ref a) X.env hds) (SP X pins D) X.xe { s with heap := h } := by
  induction C with
  | nil =>
    intro h L w
    have L0 := L
    refine wpAny_handleBy_nil ?_
    obtain ⟨k1, k2, k3, oe, vs, T, oT, ts', he, hz, hd, h1, hr⟩ := L.fly
    unfold PySem.passOn
    refine wpAny_bind (wpAny_field he hd h1 ?_)
    rw [if_neg (show ¬ ((Value.ref T == Value.none) = true) from by simp)]
    have on : wpAny (model X.prog X.w) X.A (setFlight (.ref a) X.env.frame)
        (fun _ s4 => wpAny (model X.prog X.w) X.A (throw (.ref a) : Sem Flow) (SP X pins D) X.xe s4) X.xe { s with heap := h } := by
      rw [hf]
      refine HandSPX.setFlight_upZ L0.fly fun h4 hh4 up4 => wpAny_throw (tk _ _ ?_)
      exact ⟨a, B, sI, pins, σ, H, cls, d, rfl, L0.inv, L0.ground, L0.up.trans up4, .inr (.inr (by rw [hs]; exact hh4)), L0.none_, L0.os,
        L0.bare, w⟩
    first
      | exact wpAny_bind (wpAny_pure (wpAny_bind on))
      | exact wpAny_bind on
  | @no x c ts b₀ suite np pos hds' W' hc su r ih =>
    intro h L w
    obtain ⟨b, e, yes, no⟩ := w
    obtain ⟨oe, vs, he, hz, hd, S⟩ := L.suite hf
    refine wpAny_handleBy_cons (codeAny_handlers_test ?_) (by intro q; cases q)
    have ty : PySem.W.Looks (model X.prog X.w) h (typeOf (.ref a)) cls := fun A Q E s k q =>
      wpAny_typeOf_ref (k _ _ he) (by rw [hz.1]; exact q)
    have ask := PySem.W.exm_one (M := model X.prog X.w) L.here.kIn ty e
    have name : ∀ {Q : Value → Shared → Prop} {E : Value → Shared → Prop}, Q c { s with heap := h } →
        wpAny (model X.prog X.w) (X.A.mark (some (.ref a))) (eval (.Name x np) X.env) Q E { s with heap := h } := by
      intro Q E q
      obtain ⟨hg, hdb, hm | ⟨hm, hv, hn⟩⟩ := hc
      · exact ld_glob (X := X.suite a ((a, oe) :: (X.pn ++ pins))) S hg hm q hdb
      · exact ld_blt (X := X.suite a ((a, oe) :: (X.pn ++ pins))) S hg hm hv q hn hdb
    refine name (ask.here ?_)
    cases b with
    | false => exact ih L (no rfl)
    | true =>
      refine codeAny_handlers_suite (HandSPX.lands_againZ L.fly fun h4 f4 u4 => ?_)
      obtain ⟨oe4, vs4, _, hz4, hd4, S4⟩ := (L.later f4 u4).suite hf
      refine wpAny_mono ((su a oe4 cls d (X.pn ++ pins) hz4 ⟨_, hd4⟩).run [] _ _ H _ S4 (yes rfl a L.none_))
        (fun f s6 q => Lands.out L.inv.ok q) (fun _ _ z => False.elim z)
  | @as_ x n i c ts b₀ suite np pos hds' W' hc hN hi hl su r ih =>
    intro h L w
    obtain ⟨b, e, yes, no⟩ := w
    obtain ⟨oe, vs, he, hz, hd, S⟩ := L.suite hf
    refine wpAny_handleBy_cons (codeAny_handlers_test ?_) (by intro q; cases q)
    have ty : PySem.W.Looks (model X.prog X.w) h (typeOf (.ref a)) cls := fun A Q E s k q =>
      wpAny_typeOf_ref (k _ _ he) (by rw [hz.1]; exact q)
    have ask := PySem.W.exm_one (M := model X.prog X.w) L.here.kIn ty e
    have name : ∀ {Q : Value → Shared → Prop} {E : Value → Shared → Prop}, Q c { s with heap := h } →
        wpAny (model X.prog X.w) (X.A.mark (some (.ref a))) (eval (.Name x np) X.env) Q E { s with heap := h } := by
      intro Q E q
      obtain ⟨hg, hdb, hm | ⟨hm, hv, hn⟩⟩ := hc
      · exact ld_glob (X := X.suite a ((a, oe) :: (X.pn ++ pins))) S hg hm q hdb
      · exact ld_blt (X := X.suite a ((a, oe) :: (X.pn ++ pins))) S hg hm hv q hn hdb
    refine name (ask.here ?_)
    cases b with
    | false => exact ih L (no rfl)
    | true =>
      refine codeAny_handlers_suite_as (HandSPX.lands_againZ L.fly fun h4 f4 u4 => ?_)
      obtain ⟨oe4, vs4, _, hz4, hd4, S4⟩ := (L.later f4 u4).suite hf
      refine store_ok (X := X.suite a ((a, oe4) :: (X.pn ++ pins))) (v := .ref a) S4 hN hi (.inl hl) rfl (fun s5 S5 => ?_) (.inr hl)
      refine wpAny_mono ((su a oe4 cls d (X.pn ++ pins) hz4 ⟨_, hd4⟩).run [] s5 _ H _ S5 (yes rfl a L.none_ L.inv.len))
        (fun f s6 q => ?_) (fun _ _ z => False.elim z)
      have q' := Lands.out L.inv.ok q
      cases f with
      | ret u =>
        obtain ⟨v, σ6, H6, J, r6, z⟩ := q'
        exact gone_ok J hN hi hl fun s7 J7 => ⟨v, _, H6, J7, r6, z⟩
      | next =>
        obtain ⟨σ6, H6, J, z⟩ := q'
        exact gone_ok J hN hi hl fun s7 J7 => ⟨_, H6, J7, z⟩
      | brk =>
        obtain ⟨σ6, H6, J, z⟩ := q'
        exact gone_ok J hN hi hl fun s7 J7 => ⟨_, H6, J7, z⟩
      | cont =>
        obtain ⟨σ6, H6, J, z⟩ := q'
        exact gone_ok J hN hi hl fun s7 J7 => ⟨_, H6, J7, z⟩
/-- try: body / the clauses -/
theorem ps_try_cl {body : List Stmt} {h₀ : ExceptHandler} {pos : Pos} {tb : WX → TS} (hs : X.stack = X.env :: X.outer)
    (hf : X.env.frame = some X.env.locals) (tk : Takes X Wout) (C : Cl X Wout (h₀ :: hds) W)
    (hb : ∀ (W : WX) (pn : List (Addr × Obj)) (xe : Value → Shared → Prop), Takes (X.tr pn xe) W →
      PassesOwn (model X.prog X.w) X.A X.env xe → PSs (X.tr pn xe) body (tb W)) :
    PS X (.Try body (h₀ :: hds) [] [] pos) (fun D σ H => tb (W D) D σ H) := by
  constructor
  intro pins s σ H D I h
  have ok := I.ok
  have fr : X.A.frames = some (X.env :: X.outer) := by rw [ok.frames, hs]
  refine wpAny_Try_except ?_
  refine wpAny_mono ((hb (W D) (X.pn ++ pins) (fun e s₁ => wpAny (model X.prog X.w) X.A (noteFrame e X.env)
    (fun _ s₂ => wpAny (model X.prog X.w) X.A (setFlight e none) (fun _ s₃ =>
      wpAny (model X.prog X.w) X.A (handleBy e X.env (h₀ :: hds)) (SP X pins D) X.xe s₃) X.xe s₂) X.xe s₁) ?_
    PassesOwn.looking).run [] s σ H D (I.toTry _) h) ?_ (fun e s1 he => he)
  · rintro u s' ⟨a, B, sI, pins', σ', H', cls, d, rfl, J', nb, up, sky, na, os, ag, w⟩
    have J : Inv X pins σ' H' sI := J'.ofTry ok
    have sky' : Sky B (X.env :: X.outer) a (Zc cls d) X.env.locals s'.heap := by
      rw [← hs]
      exact sky
    show wpAny (model X.prog X.w) X.A (noteFrame (.ref a) X.env) _ _ _
    refine Sky.land Zc.steady fr hf sky' fun h3 f3 u3 => ?_
    exact handled hs hf tk C ⟨J, nb, up.trans u3, f3, na, os, ag⟩ w
  · intro f s1 q
    cases f with
    | ret u =>
      obtain ⟨v, σ', H', J, r, z⟩ := q
      exact ⟨v, σ', H', J.ofTry ok, r, z⟩
    | next =>
      obtain ⟨σ', H', J, z⟩ := q
      exact wpAny_execs_nil ⟨σ', H', J.ofTry ok, z⟩
    | brk =>
      obtain ⟨σ', H', J, z⟩ := q
      exact ⟨σ', H', J.ofTry ok, z⟩
    | cont =>
      obtain ⟨σ', H', J, z⟩ := q
      exact ⟨σ', H', J.ofTry ok, z⟩
end
end ME

set_option Elab.async false
set_option maxRecDepth 100000
set_option maxHeartbeats 2000000
set_option linter.all false
/-! calls that may raise; a lambda handed to a def, where nothing is being shown; a def in a variable -/
namespace ME
open PySem PySem.Spec PyProof.Rows L2 LamX MM

section
variable {X : Cx} {CX : CXT} {k : Nat} {ps : List Str} {sp : Sp} {E : L2.St → XK} {x a : Str} {p pos : Pos} {e : Expr} {es : List Expr} {t : TA}
/-- f(e, ..), f a def of the text that may raise -/
def tDS (sp : Sp) (E : L2.St → XK) (t : TA) : TE := fun σ H Q => t σ H fun vs H1 => sp vs H1 Q (E σ)
theorem call_gS {f : Addr} {fd : FuncData} {pins : List (Addr × Obj)} {σ : L2.St} {H : Hp} {s : Shared} {Q : VK} {us : List Value} {vs : List V}
    (F : FnG X.prog X.w X.K X.mg X.base CX k f fd ps sp) (hr : Rm k X.A) (hb : Binds X.K fd ps []) (hx : PassesAt CX X σ (E σ))
    (I : Inv X pins σ H s) (r : Vals vs us) (h : sp vs H Q (E σ)) :
    wpAny (model X.prog X.w) X.A (call (.ref f) us) (EP X pins σ Q) X.xe s := by
  have nl : (us ++ []).length = ps.length := by
    rw [List.append_nil, ← r.length]
    exact F.arity h
  have bd := hb s us I.kIn nl
  rw [List.append_nil] at bd
  refine wpAny_call (codeAny_mono (F.runs hr I.env0 bd r h) ?_)
  intro res s' hq
  cases res with
  | error e => exact hx pins H s e s' I hq
  | ok fl =>
    cases fl with
    | ret u => exact I.after hq
    | next => exact hq.elim
    | brk => exact hq.elim
    | cont => exact hq.elim
theorem pe_dS (D : Def X.prog X.w X.K X.mg X.base CX k x ps sp) (hr : Rm k X.A) (hx : ∀ σ, PassesAt CX X σ (E σ)) (ha : PA X (e :: es) t)
    (hg : Gl X x := by rfl) (hdb : (x == ("__debug__" : Str)) = false := by decide)
    (he : starEach (e :: es) X.env = (false, eval e X.env) :: starEach es X.env := by rfl)
    (hpl : (backTo pos (starEach es X.env)).any (·.1) = false := by rfl) : PE X (.Call (.Name x p) (e :: es) [] pos) (tDS sp E t) := by
  obtain ⟨f, fd, F, hm, hk, hb, _⟩ := D
  constructor
  intro pins s σ H Q I h
  refine wpAny_Call_Name_kw (ld_glob I hg hm ?_ hdb)
  refine PySem.W.callWith_K (h₀ := X.base) I.ok.mod.kin hk ?_ he hpl
  exact thn (ha.run pos pins s σ H _ I h) fun us s1 ⟨vs, H1, I1, r, q⟩ => ⟨I1.kIn, call_gS F hr hb (hx σ) I1 r q⟩
/-- a(e, ..), a a variable that holds a def of the text: G tells which, and what it promises -/
def tVia (K : PySem.W.Frag) (i : Nat) (G : Addr → Sp → Prop) (E : L2.St → XK) (t : TA) : TE := fun σ H Q =>
  ∃ f sp, σ[i]? = some (some (.ref f)) ∧ G f sp ∧ t σ H fun vs H1 => sp vs H1 Q (E σ)
theorem pe_via {i : Nat} {G : Addr → Sp → Prop}
    (hG : ∀ f sp, G f sp → PySem.W.keepIn X.K (.ref f) = true ∧ ∃ fd k ps, FnG X.prog X.w X.K X.mg X.base CX k f fd ps sp ∧ Rm k X.A ∧ Binds X.K fd ps [])
    (hx : ∀ σ, PassesAt CX X σ (E σ)) (ha : PA X (e :: es) t) (hN : X.N[i]? = some a) (hv : Vis X.env.scope a)
    (hdb : (a == ("__debug__" : Str)) = false := by decide) (hcd : (a == ("__classdict__" : Str)) = false := by decide)
    (he : starEach (e :: es) X.env = (false, eval e X.env) :: starEach es X.env := by rfl)
    (hpl : (backTo pos (starEach es X.env)).any (·.1) = false := by rfl) :
    PE X (.Call (.Name a p) (e :: es) [] pos) (tVia X.K i G E t) := by
  constructor
  intro pins s σ H Q I h
  obtain ⟨f, sp, hs, g, h⟩ := h
  obtain ⟨hk, fd, k, ps, F, hr, hb⟩ := hG f sp g
  refine wpAny_Call_Name_kw (thn ((pe_var (pos := p) (i := i) hN hv hdb hcd).run pins s σ H (fun v H1 => v = .ref f ∧ H1 = H) I ⟨.ref f, hs, rfl, rfl⟩) ?_)
  rintro u s1 ⟨v, H1, I1, r1, rfl, rfl⟩
  obtain rfl : u = Value.ref f := r1
  refine PySem.W.callWith_K (h₀ := X.base) I1.ok.mod.kin hk ?_ he hpl
  exact thn (ha.run pos pins s1 σ H1 _ I1 h) fun us s2 ⟨vs, H2, I2, r, q⟩ => ⟨I2.kIn, call_gS F hr hb (hx σ) I2 r q⟩
end

section
variable {X : Cx} {pins : List (Addr × Obj)} {σ : L2.St} {H : Hp} {s : Shared}
/-- the def that got the lambda calls it -/
theorem act {Eg : XK} {CXg : CXT} {Ng : List Str} {qg : Str} {sg : Scope} {g f c' : Addr} {cdg pm ctv : Value} {params : Arguments}
    {body : Expr} {scope : Scope} {k i : Nat} {a : Str} {pn : List (Addr × Obj)} {xe : Value → Shared → Prop} {W : WX} {E : XK} {tb : TE}
    {p1 p2 : Pos} (I : Inv X pins σ H s) (L : LamS X.env.scope scope)
    (hf : s.heap.get? f = some (PySem.W.kla_obj "<lambda>" (X.env.qual ++ "<lambda>") params body scope (cloFrom X.env.cells scope.names []) pm c' ctv))
    (hfn : H f = none) (hfr : f ∉ frs X.stack)
    (hbind : bindArgs (PySem.W.kla_fn "<lambda>" (X.env.qual ++ "<lambda>") params body scope (cloFrom X.env.cells scope.names []) pm (.ref c') ctv) ⟨[], []⟩ = pure [])
    (tk : Takes ((cxOf CXg X.prog X.w X.K X.mg X.base Ng qg sg g cdg X.A X.stack s H Eg).tr pn xe) W)
    (hW : ∀ cls d σ' H', E cls d H' → W cls d σ' H') (hr : Rm (k + 1) (X.A.deeper (envOfC qg sg s.heap.objs.size g cdg)))
    (hbody : ∀ (A : Around) (outer : List Env) (s : Shared) (H : Hp), Rm k (A.deeper (lamEnv X scope s.heap.objs.size f c')) →
      PE (lamCx X A outer s H E scope f c') body tb)
    (hN : Ng[i]? = some a) (hv : Vis sg a) (hd : (a == ("__debug__" : Str)) = false := by decide)
    (hcd : (a == ("__classdict__" : Str)) = false := by decide) :
    PE ((cxOf CXg X.prog X.w X.K X.mg X.base Ng qg sg g cdg X.A X.stack s H Eg).tr pn xe) (.Call (.Name a p1) [] [] p2)
      (fun σZ HZ Q => σZ[i]? = some (some (.ref f)) ∧ HZ c' = some (CodeO c' (X.env.qual ++ "<lambda>")) ∧ tb σ HZ Q) := by
  constructor
  intro pinsZ sZ σZ HZ Q IZ h
  obtain ⟨hs, hc, ht⟩ := h
  refine wpAny_Call_Name_kw (thn ((pe_var (pos := p1) (i := i) hN hv hd hcd).run pinsZ sZ σZ HZ (fun v H1 => v = .ref f ∧ H1 = HZ) IZ ⟨.ref f, hs, rfl, rfl⟩) ?_)
  rintro u s1 ⟨v, H1, I1, r1, rfl, eH⟩
  rw [eH] at I1
  obtain rfl : u = Value.ref f := r1
  have there := I1.base.keep f _ hf hfn hfr (fun z => nomatch (show f ∈ ([] : List Addr) from z))
  refine PySem.W.callWith_F0 ⟨_, _, _, _, there⟩ ?_
  obtain ⟨⟨oc, vs, t, hoc, hdc, hvc⟩, _, _⟩ := I1.hok c' _ hc
  have run : codeAny (model X.prog X.w) (X.A.deeper (envOfC qg sg s.heap.objs.size g cdg)) (.call (.ref f) ⟨[], []⟩)
      (CR (L2.CX X.prog X.w) (envOfC qg sg s.heap.objs.size g cdg :: X.stack) X.prog X.w HZ s1 Q E) s1 := by
    refine PySem.W.kla_callFunE hr.room.depth there rfl L.co L.gen rfl ⟨c', oc, vs, t, rfl, hoc, hdc, hvc⟩ ?_
    rw [hbind]
    refine wpAny_pure (wpAny_newFunctionEnv (fun y hy => (L.own y hy).2) (fun y hy => absurd hy (by simp)) (fun h₁ hns hsb => ⟨I1.nolimit.fresh _ hsb, ?_⟩) L.kind)
    show codeAny _ _ (.expr body (lamEnv X scope s1.heap.objs.size f c')) _ _
    have kp : ∀ b o, s1.heap.get? b = some o → h₁.get? b = some o := by
      intro b o z
      exact hsb.extBut b o (Nat.ne_of_lt (Heap.lt_size z)) (Heap.get?_push_of_some _ z)
    have J := lam_start2 (E := E) (f := f) (c' := c') (tk := s1.toks + ([] : List (Str × Value)).length) I L I1.env0 hr.room.hd I1.base hns kp
    refine PySem.W.kla_codeExpr (wpAny_mono ((hbody _ _ s1 HZ hr.down).run [] _ _ HZ Q J ht) ?_ fun e s' hq => hq)
    rintro v s' ⟨w', H', J', rv, q⟩
    exact ⟨w', H', J'.os, J'.bare, J'.base, J'.hok, rv, q⟩
  refine wpAny_call (codeAny_mono run fun r s' hq => ?_)
  cases r with
  | error e => exact passes_call tk hW pinsZ σZ HZ s1 e s' I1 hq
  | ok fl =>
    cases fl with
    | ret u => exact I1.after hq
    | next => exact hq.elim
    | brk => exact hq.elim
    | cont => exact hq.elim
/-- x(lambda: body), x a def of the text -/
theorem pe_lam {T : List (Addr × Str)} {TT : (XK → Hp → VK → Prop) → Hp → VK → Prop} {x a : Str} {c P : Addr} {k : Nat} {st : Stmt}
    {Ng : List Str} {params : Arguments} {body : Expr} {scope : Scope} {t : XK → TE} {p lpos pos : Pos} (D : At X.K X.mg x st)
    (hb : ∀ (kV doc pm : Value) (an : Option Addr) (cd ct : Value) (us : List Value), us.length = [a].length →
      bindArgs (PySem.W.fnOf x x (defArgs st) (defBody st) (defScope st) .none kV doc pm an cd ct) ⟨us, []⟩ = pure ([a].zip us))
    (Sg : FnScope Ng [a] (defScope st)) (hNg : Ng[0]? = some a) (hva : Vis (defScope st) a)
    (hG : ∀ g cd, GivesTo X Ng x (defScope st) g cd (defBody st) a (X.env.qual ++ "<lambda>") TT)
    (TB : TabB X.base X.mg c P) (hcode : X.env.code = .ref c) (hmT : (P, X.env.qual ++ "<lambda>") ∈ T)
    (hu : ∀ p ∈ T, p.1 = P → p.2 = X.env.qual ++ "<lambda>") (hr : Rm (k + 2) X.A) (L : LamS X.env.scope scope)
    (hdef : defaultsOf params X.env = ([], []))
    (hbind : ∀ (q : Str) (cl : List (Str × Addr)) (pm cv ctv : Value), bindArgs (PySem.W.kla_fn "<lambda>" q params body scope cl pm cv ctv) ⟨[], []⟩ = pure [])
    (hbody : ∀ (A : Around) (outer : List Env) (s : Shared) (H : Hp) (E : XK) (f c' : Addr), Rm k (A.deeper (lamEnv X scope s.heap.objs.size f c')) →
      PE (lamCx X A outer s H E scope f c') body (t E))
    (hg : Gl X x := by rfl) (hdb : (x == ("__debug__" : Str)) = false := by decide) (hd : (a == ("__debug__" : Str)) = false := by decide)
    (hcd : (a == ("__classdict__" : Str)) = false := by decide) :
    PE X (.Call (.Name x p) [.Lambda params body scope lpos] [] pos) (tLam T TT t) := by
  obtain ⟨fd, F⟩ := D.fn
  have bnd := F.bindsN hb
  obtain ⟨oc, od, dV, kV, doc, pm, an, cdv, ct, osl, rfl, lk, hcg, _⟩ := F.ex
  constructor
  intro pins s σ H Q I h
  obtain ⟨hT, h⟩ := h
  refine wpAny_Call_Name_kw (ld_glob I hg D.glo ?_ hdb)
  refine PySem.W.callWith_K (h₀ := X.base) I.ok.mod.kin F.kp ?_ (by rfl) (by rfl)
  show wpAny _ _ (spliced ((false, eval (.Lambda params body scope lpos) X.env) :: backTo pos (starEach [] X.env))) _ _ s
  refine Calls.spliced_cons (lam_make2 I TB hcode hmT hu hT hdef (L.has I.ok) ?_)
  intro f c' pm' ctv H1 s' I1 eN T1 hf hfn hfr hco
  refine Calls.spliced_nil ⟨I1.kIn, ?_⟩
  have run : codeAny (model X.prog X.w) X.A (.call (.ref (He.ga X.K x)) ⟨[.ref f], []⟩) (CR C8.CX0 X.stack X.prog X.w H1 s' Q C8.E0) s' := by
    refine run_ofS (N := Ng) (ps := [a]) (us := [.ref f]) (vs := [.ref f]) lk hcg Sg (hr.le (Nat.le_refl _)).room I1.env0 (bnd s' [.ref f] I1.kIn rfl) (.cons rfl .nil) rfl fun _ => ?_
    obtain ⟨t', ht', hq'⟩ := hG _ _ f c' s' H1 Q (fun E H' Q' => t E σ H' Q')
      (fun W pn xe E p1 p2 tk hW => act (i := 0) I1 L hf hfn hfr (hbind _ _ _ _ _) tk hW hr.down (fun A outer s H hr2 => hbody A outer s H E f c' hr2) hNg hva hd hcd)
      hco (h H1 eN T1)
    exact ⟨t', ht'.nox, hq'⟩
  refine wpAny_call (codeAny_mono run fun r s2 hq => ?_)
  cases r with
  | error e => exact (show False from hq).elim
  | ok fl =>
    cases fl with
    | ret u => exact I1.after hq
    | next => exact hq.elim
    | brk => exact hq.elim
    | cont => exact hq.elim
end
end ME

set_option Elab.async false
set_option linter.all false
set_option maxRecDepth 100000
set_option maxHeartbeats 4000000
namespace K02
open PySem PySem.Spec PyProof.Rows L2 MM
/-! own words for the readings: a step, its side -/
local macro_rules | `(tactic| walk_at "side") => `(tactic| first
  | omega
  | exact ⟨by omega, by omega⟩
  | exact Or.inl ⟨by omega, by omega⟩
  | exact Or.inr ⟨by omega, by omega⟩
  | (show CPw _ _; decide +kernel)
  | (show (0 : Int) < _; decide +kernel)
  | (show CDivW _ _; first | assumption | exact ⟨by decide, by decide +kernel⟩))
local macro_rules | `(tactic| walk_at "here") => `(tactic| first
  | assumption
  | exact upd_same
  | exact Or.inl (Or.inl upd_same)
  | exact Or.inl upd_same)
local macro_rules | `(tactic| walk_at "one") => `(tactic| first
  | refine ⟨_, rfl, ?_⟩
  | refine Or.inl ⟨_, rfl, ?_⟩
  | refine Or.inr ⟨_, rfl, ?_⟩
  | refine ⟨_, _, rfl, rfl, (by walk_at "side"), ?_⟩
  | refine ⟨_, _, rfl, rfl, ?_⟩
  | refine ⟨_, _, rfl, Or.inl (by walk_at "here"), ?_⟩
  | refine ⟨_, _, rfl, Or.inr (by walk_at "here"), ?_⟩
  | refine ⟨_, _, rfl, (by walk_at "here"), ?_⟩
  | refine ⟨_, _, _, _, rfl, rfl, (by walk_at "here"), rfl, ?_⟩
  | refine ⟨_, _, rfl, ?_⟩
  | refine ifT (by rfl) ?_
  | refine ifF (by rfl) ?_
  | refine ifT (decide_eq_true (by omega)) ?_
  | refine ifF (decide_eq_false (by omega)) ?_)
local macro_rules | `(tactic| walk_at "st") => `(tactic| repeat (walk_at "one"))

section
variable {P : Program} {w : World} {K : PySem.W.Frag} {mg : Str → Option Value} {base : Heap}
theorem lc_tplS {v : Nat} {te : TE} {σ : L2.St} {H1 : Hp} {D : Addr} {Qd : Hp → Prop} {a : Addr} {xs : List V} (rs : List V) (len : rs.length = xs.length) (hx : SqT K H1 a xs) (nD : H1 D = none) (hn : xs.length ≤ sizeLine)
    (hs : ∀ (i : Nat) (x r : V) (H : Hp), xs[i]? = some x → rs[i]? = some r → Same H1 H → ∀ Q : VK, (∀ H', Same H H' → Q r H') → te ((wipe σ [v]).set v (some x)) H Q)
    (hd : ∀ H, Same H1 H → H D = some (.lst rs) → Qd H) : LcW (Itt K a) (gName v) tYes te [v] σ H1 D Qd := by
  refine lc_tup (xs := xs) (Pv := fun i H => Same H1 H ∧ H D = some (.lst (rs.take i))) ⟨same_new nD, upd_same⟩ (fun i H _ e => same_sqt e.1 hx) ?_ (fun H e => hd H e.1 (by rw [← len, List.take_length] at e; exact e.2))
  rintro i x H hi ⟨S, hD⟩
  have lt : i < xs.length := (List.getElem?_eq_some_iff.mp hi).1
  have hr : rs[i]? = some (rs[i]'(by omega)) := List.getElem?_eq_getElem _
  refine ⟨wipe_one, yes_ ?_⟩
  refine hs i x _ H hi hr S _ fun H' s => ?_
  refine ⟨_, s _ _ hD, ?_, ?_, ?_⟩
  · rw [List.length_take]
    omega
  · intro b o e
    rw [upd_ne (ne_of_none e nD)]
    exact s _ _ (S _ _ e)
  · rw [upd_same, List.take_add_one, hr]
    rfl
def isLine : Option (List V) → Bool
  | some xs => decide (1 ≤ xs.length) && (decide (xs.length ≤ 60) && xs.all isI)
  | none => false
theorem Rv.same {H H' : Hp} {x : V} {o : Option (List V)} (h : Rv K H x o) (s : Same H H') : Rv K H' x o := by
  cases h with
  | no hk ne => exact .no (hk.same s) ne
  | yes S m => exact .yes (same_sqt s S) fun y hy => let ⟨n, hk⟩ := m y hy; ⟨n, hk.same s⟩
def spIsLine (K : PySem.W.Frag) : Sp := fun vs H Q _ => ∃ x o, vs = [x] ∧ Rv K H x o ∧ ∀ H', Same H H' → Q (.bl (isLine o)) H'
theorem scIsLine : FnScope ["value", "number"] ["value"] (defScope sIsLine) :=
  ⟨rfl, rfl, rfl, by decide +kernel, rfl, by decide +kernel, by decide +kernel⟩
theorem dIsLine (T : Tx K mg) (DIsInteger : Def P w K mg base CX0 2 "is_integer" ["value"] (spIsInteger K)) : Def P w K mg base CX0 3 "_is_line" ["value"] (spIsLine K) := by
  refine T.t_is_line.def_ (N := ["value", "number"]) scIsLine (fun _ _ _ _ _ _ us hl => match us, hl with | [_], _ => rfl) ?_ ?_
  · intro vs H Q E h
    obtain ⟨x, o, rfl, _⟩ := h
    rfl
  · intro f cd A out s H vs Q E hr h
    have hr1 : Rm 2 _ := hr.le (by decide)
    obtain ⟨x, o, rfl, hv, q⟩ := h
    refine ⟨_, (pss_cons (ps_if (PW.pt (pw_or (pt_not (pt_val (pe_callB (cr_is .tup) rfl T.f_isinstance (by decide +kernel) (pa_cons (pv 0) (pa_cons (pe_ty .tup T.f_tuple (by decide +kernel)) pa_nil))))) (pw_or1 (pt_not (pt_chain op_le op_le pe_int (pe_callB call_len_seq rfl T.f_len (by decide +kernel) (pa_cons (pv 0) pa_nil)) (C8.pe_gc rfl T.c_MAX_SIZE)))))) (pss_one (ps_ret pe_bl)) pss_nil)
      (pss_one (ps_ret (pe_callB (cr_all rfl) rfl T.f_all (by decide +kernel) (pa_cons (pe_lc (own := [("number", 1)]) (g := gName 1) (tt := tYes) rfl scIsLine.nd (pi_tup (pv 0)) (blkOk_by (N := ["value", "number"]) (sc := defScope sIsLine) (by decide +kernel)) (fun _ _ _ _ _ => pg_name (i := 1) scIsLine.nd rfl (Or.inl rfl)) (fun _ _ _ _ _ => pts_nil) (fun _ _ _ _ _ => (pe_d DIsInteger (hr1.le (by decide)) pass0 (pa_cons (pv 1) pa_nil)))) pa_nil))))), ?_⟩
    cases hv with
    | no hk ne =>
      refine ⟨_, rfl, _, _, rfl, hk, _, rfl, ?_⟩
      refine ifT (by rw [ne]; rfl) ?_
      exact ifT rfl (q H (Same.refl H))
    | yes S m =>
      rename_i a xs
      refine ⟨_, rfl, _, _, rfl, .tup S, _, rfl, ?_⟩
      refine ifF rfl ?_
      refine ⟨_, rfl, _, _, rfl, .inr S, _, _, rfl, rfl, _, rfl, ?_⟩
      by_cases l1 : 1 ≤ xs.length
      · refine ifT (decide_eq_true (by omega)) ?_
        refine ⟨_, _, rfl, rfl, _, rfl, ?_⟩
        by_cases l2 : xs.length ≤ 60
        · refine ifF ?_ ?_
          · show (!decide ((xs.length : Int) ≤ 60)) = false
            rw [decide_eq_true (by omega)]
            rfl
          refine ⟨_, rfl, a, rfl, ⟨_, S⟩, ?_⟩
          intro D nD
          refine lc_tpl (fun x => .bl (isI x)) S nD (Nat.le_of_lt (small1000 (by omega))) ?_ ?_
          · intro x acc hx Q' q'
            obtain ⟨n, hk⟩ := m x hx
            exact ⟨_, rfl, _, n, rfl, hk.same (same_new nD), q'⟩
          · refine ⟨D, xs.map isI, rfl, .inl (.inl (Eq.trans upd_same ?_)), ?_⟩
            · rw [List.map_map]
              rfl
            · have q' := q _ (same_new (o := .lst (xs.map fun x => V.bl (isI x))) nD)
              have e : isLine (some xs) = (xs.map isI).all id := by
                show (decide (1 ≤ xs.length) && (decide (xs.length ≤ 60) && xs.all isI)) = _
                rw [decide_eq_true l1, decide_eq_true l2, Bool.true_and, Bool.true_and, List.all_map]
                rfl
              rw [e] at q'
              exact q'
        · refine ifT ?_ ?_
          · show (!decide ((xs.length : Int) ≤ 60)) = true
            rw [decide_eq_false (by omega)]
            rfl
          have q' := q H (Same.refl H)
          have e : isLine (some xs) = false := by
            show (decide (1 ≤ xs.length) && (decide (xs.length ≤ 60) && xs.all isI)) = _
            rw [decide_eq_false l2, Bool.false_and, Bool.and_false]
          rw [e] at q'
          exact q'
      · refine ifF (decide_eq_false (by omega)) ?_
        refine ⟨_, rfl, ?_⟩
        have q' := q H (Same.refl H)
        have e : isLine (some xs) = false := by
          show (decide (1 ≤ xs.length) && (decide (xs.length ≤ 60) && xs.all isI)) = _
          rw [decide_eq_false l1, Bool.false_and]
        rw [e] at q'
        exact ifT rfl q'
/-- a value, by its rows if it is a tuple -/
inductive Tv (K : PySem.W.Frag) (H : Hp) : V → Option (List (Option (List V))) → Prop where
  | no {x : V} {n : Kn} (h : Kd K H x n) (ne : n.isa .tup = false) : Tv K H x none
  | yes {a : Addr} {us : List V} {os : List (Option (List V))} (h : SqT K H a us) (m : Paired (fun u o => Rv K H u o) us os) : Tv K H (.ref a) (some os)
def wid (o : Option (List V)) : Nat := (o.getD []).length
def isTab : Option (List (Option (List V))) → Bool
  | some (o :: os) => decide (os.length + 1 ≤ 60) && ((o :: os).all isLine && (o :: os).all fun p => decide (wid p = wid o))
  | _ => false
theorem Tv.same {H H' : Hp} {x : V} {t : Option (List (Option (List V)))} (h : Tv K H x t) (s : Same H H') : Tv K H' x t := by
  cases h with
  | no hk ne => exact .no (hk.same s) ne
  | yes S m => exact .yes (same_sqt s S) (Paired.mapP m fun _ _ r => Rv.same r s)
theorem paired_at {α β : Type} {R : α → β → Prop} : ∀ {us : List α} {os : List β}, Paired R us os → ∀ {i : Nat} {u : α}, us[i]? = some u → ∃ o, os[i]? = some o ∧ R u o
  | _, _, .nil, i, _, h => by cases h
  | _, _, .cons r t, 0, _, h => ⟨_, rfl, by cases h; exact r⟩
  | _, _, .cons r t, i + 1, _, h => paired_at t h
theorem paired_len {α β : Type} {R : α → β → Prop} : ∀ {us : List α} {os : List β}, Paired R us os → us.length = os.length
  | _, _, .nil => rfl
  | _, _, .cons _ t => congrArg (· + 1) (paired_len t)
def spIsTable (K : PySem.W.Frag) : Sp := fun vs H Q _ => ∃ x t, vs = [x] ∧ Tv K H x t ∧ ∀ H', Same H H' → Q (.bl (isTab t)) H'
theorem scIsTable : FnScope ["value", "row"] ["value"] (defScope sIsTable) :=
  ⟨rfl, rfl, rfl, by decide +kernel, rfl, by decide +kernel, by decide +kernel⟩
theorem dIsTable (T : Tx K mg) (DIsLine : Def P w K mg base CX0 3 "_is_line" ["value"] (spIsLine K)) : Def P w K mg base CX0 4 "is_table" ["value"] (spIsTable K) := by
  refine T.t_is_table.def_ (N := ["value", "row"]) scIsTable (fun _ _ _ _ _ _ us hl => match us, hl with | [_], _ => rfl) ?_ ?_
  · intro vs H Q E h
    obtain ⟨x, t, rfl, _⟩ := h
    rfl
  · intro f cd A out s H vs Q E hr h
    have hr1 : Rm 3 _ := hr.le (by decide)
    obtain ⟨x, t, rfl, hv, q⟩ := h
    refine ⟨_, (pss_cons (ps_if (PW.pt (pw_or (pt_not (pt_val (pe_callB (cr_is .tup) rfl T.f_isinstance (by decide +kernel) (pa_cons (pv 0) (pa_cons (pe_ty .tup T.f_tuple (by decide +kernel)) pa_nil))))) (pw_or1 (pt_not (pt_chain op_le op_le pe_int (pe_callB call_len_seq rfl T.f_len (by decide +kernel) (pa_cons (pv 0) pa_nil)) (C8.pe_gc rfl T.c_MAX_SIZE)))))) (pss_one (ps_ret pe_bl)) pss_nil)
      (pss_cons (ps_if (pt_not (pt_val (pe_callB (cr_all rfl) rfl T.f_all (by decide +kernel) (pa_cons (pe_lc (own := [("row", 1)]) (g := gName 1) (tt := tYes) rfl scIsTable.nd (pi_tup (pv 0)) (blkOk_by (N := ["value", "row"]) (sc := defScope sIsTable) (by decide +kernel)) (fun _ _ _ _ _ => pg_name (i := 1) scIsTable.nd rfl (Or.inl rfl)) (fun _ _ _ _ _ => pts_nil) (fun _ _ _ _ _ => (pe_d DIsLine (hr1.le (by decide)) pass0 (pa_cons (pv 1) pa_nil)))) pa_nil)))) (pss_one (ps_ret pe_bl)) pss_nil)
      (pss_one (ps_ret (pe_callB (cr_all rfl) rfl T.f_all (by decide +kernel) (pa_cons (pe_lc (own := [("row", 1)]) (g := gName 1) (tt := tYes) rfl scIsTable.nd (pi_tup (pv 0)) (blkOk_by (N := ["value", "row"]) (sc := defScope sIsTable) (by decide +kernel)) (fun _ _ _ _ _ => pg_name (i := 1) scIsTable.nd rfl (Or.inl rfl)) (fun _ _ _ _ _ => pts_nil) (fun _ _ _ _ _ => (pe_cmpR op_eq (pe_callB (cr_lenK (K := K) rfl) rfl T.f_len (by decide +kernel) (pa_cons (pv 1) pa_nil)) (pe_callB (cr_lenK (K := K) rfl) rfl T.f_len (by decide +kernel) (pa_cons (pe_ix (show IxR _ (rIxT K) from ix_tup) (pv 0) pe_int (fun _ _ => rfl)) pa_nil)) (nomark _)))) pa_nil)))))), ?_⟩
    cases hv with
    | no hk ne =>
      refine ⟨_, rfl, _, _, rfl, hk, _, rfl, ?_⟩
      refine ifT (by rw [ne]; rfl) ?_
      exact ifT rfl (q H (Same.refl H))
    | yes S m =>
      rename_i a us os
      have len := paired_len m
      refine ⟨_, rfl, _, _, rfl, .tup S, _, rfl, ?_⟩
      refine ifF rfl ?_
      refine ⟨_, rfl, _, _, rfl, .inr S, _, _, rfl, rfl, _, rfl, ?_⟩
      cases os with
      | nil =>
        refine ifF (decide_eq_false (by rw [len]; decide)) ?_
        refine ⟨_, rfl, ?_⟩
        exact ifT rfl (q H (Same.refl H))
      | cons o os =>
        have len1 : us.length = os.length + 1 := len
        refine ifT (decide_eq_true (by omega)) ?_
        refine ⟨_, _, rfl, rfl, _, rfl, ?_⟩
        by_cases l2 : os.length + 1 ≤ 60
        · refine ifF ?_ ?_
          · show (!decide ((us.length : Int) ≤ 60)) = false
            rw [decide_eq_true (by omega)]
            rfl
          refine ⟨_, rfl, a, rfl, ⟨_, S⟩, ?_⟩
          intro D nD
          refine lc_tplS ((o :: os).map fun p => .bl (isLine p)) (by rw [List.length_map]; exact len.symm) S nD (Nat.le_of_lt (small1000 (by omega))) ?_ ?_
          · intro i x r H1 hx hr s1 Q' q'
            obtain ⟨p, hp, rv⟩ := paired_at m hx
            rw [List.getElem?_map, hp] at hr
            cases hr
            exact ⟨_, rfl, x, p, rfl, Rv.same rv s1, q'⟩
          intro H1 s1 hD
          refine ⟨D, (o :: os).map isLine, rfl, .inl (.inl (Eq.trans hD ?_)), ?_⟩
          · rw [List.map_map]
            rfl
          refine ⟨_, rfl, ?_⟩
          cases e1 : ((o :: os).map isLine).all id with
          | false =>
            refine ifT rfl ?_
            have q' := q H1 s1
            have e : isTab (some (o :: os)) = false := by
              show (decide (os.length + 1 ≤ 60) && ((o :: os).all isLine && _)) = false
              rw [List.all_map] at e1
              rw [show (o :: os).all isLine = false from e1, Bool.false_and, Bool.and_false]
            rw [e] at q'
            exact q'
          | true =>
            refine ifF rfl ?_
            have lines : ∀ p ∈ o :: os, isLine p = true := by
              rw [List.all_map] at e1
              exact List.all_eq_true.mp e1
            have row : ∀ {i : Nat} {x : V} {H2 : Hp}, us[i]? = some x → Same H H2 → ∃ b ys p, x = .ref b ∧ SqT K H2 b ys ∧ (o :: os)[i]? = some p ∧ ys.length = wid p := by
              intro i x H2 hx s
              obtain ⟨p, hp, rv⟩ := paired_at m hx
              have lp := lines p (List.mem_of_getElem? hp)
              cases rv with
              | no hk ne => cases lp
              | yes S m => exact ⟨_, _, _, rfl, same_sqt s S, hp, rfl⟩
            refine ⟨_, rfl, a, rfl, ⟨_, same_sqt s1 S⟩, ?_⟩
            intro D2 nD2
            refine lc_tplS ((o :: os).map fun p => .bl (decide (wid p = wid o))) (by rw [List.length_map]; exact len.symm) (same_sqt s1 S) nD2 (Nat.le_of_lt (small1000 (by omega))) ?_ ?_
            · intro i x r H2 hx hr s2 Q' q'
              obtain ⟨b, ys, p, rfl, Sb, hp, wl⟩ := row hx (s1.trans s2)
              rw [List.getElem?_map, hp] at hr
              cases hr
              obtain ⟨u0, hu0⟩ : ∃ u0, us[0]? = some u0 := ⟨us[0]'(by omega), List.getElem?_eq_getElem _⟩
              obtain ⟨b0, ys0, p0, rfl, Sb0, hp0, wl0⟩ := row hu0 (s1.trans s2)
              cases hp0
              refine ⟨_, rfl, b, ys, rfl, .inr Sb, ?_⟩
              refine ⟨_, rfl, a, _, _, .ref b0, rfl, rfl, same_sqt (s1.trans s2) S, atI_nat (j := 0) hu0, b0, ys0, rfl, .inr Sb0, rfl, ?_⟩
              show Q' (.bl (decide (V.int (ys.length : Int) = V.int (ys0.length : Int)))) H2
              rw [dInt, wl, wl0, show decide (((wid p : Nat) : Int) = (wid o : Nat)) = decide (wid p = wid o) from decide_eq_decide.mpr (by omega)]
              exact q' H2 (Same.refl H2)
            intro H2 s2 hD2
            refine ⟨D2, (o :: os).map fun p => decide (wid p = wid o), rfl, .inl (.inl (Eq.trans hD2 ?_)), ?_⟩
            · rw [List.map_map]
              rfl
            have q' := q H2 (s1.trans s2)
            have e : isTab (some (o :: os)) = ((o :: os).map fun p => decide (wid p = wid o)).all id := by
              show (decide (os.length + 1 ≤ 60) && ((o :: os).all isLine && (o :: os).all fun p => decide (wid p = wid o))) = _
              rw [decide_eq_true l2, Bool.true_and, List.all_map]
              rw [List.all_map] at e1
              rw [show (o :: os).all isLine = true from e1, Bool.true_and]
              rfl
            rw [e] at q'
            exact q'
        · refine ifT ?_ ?_
          · show (!decide ((us.length : Int) ≤ 60)) = true
            rw [decide_eq_false (by omega)]
            rfl
          have q' := q H (Same.refl H)
          have e : isTab (some (o :: os)) = false := by
            show (decide (os.length + 1 ≤ 60) && _) = false
            rw [decide_eq_false l2, Bool.false_and]
          rw [e] at q'
          exact q'
def spNeedTable (K : PySem.W.Frag) : Sp := fun vs H Q _ => ∃ x t, vs = [x] ∧ Tv K H x t ∧ isTab t = true ∧ ∀ H', Same H H' → Q .non H'
theorem scNeedTable : FnScope ["table"] ["table"] (defScope sNeedTable) :=
  ⟨rfl, rfl, rfl, by decide +kernel, rfl, by decide +kernel, by decide +kernel⟩
theorem dNeedTable (T : Tx K mg) (DIsTable : Def P w K mg base CX0 4 "is_table" ["value"] (spIsTable K)) : Def P w K mg base CX0 5 "_need_table" ["table"] (spNeedTable K) := by
  refine T.t_need_table.def_ (N := ["table"]) scNeedTable (fun _ _ _ _ _ _ us hl => match us, hl with | [_], _ => rfl) ?_ ?_
  · intro vs H Q E h
    obtain ⟨x, t, rfl, _⟩ := h
    rfl
  · intro f cd A out s H vs Q E hr h
    have hr1 : Rm 4 _ := hr.le (by decide)
    obtain ⟨x, t, rfl, hv, good, q⟩ := h
    refine ⟨_, (pss_one (ps_if (pt_not (pt_val (pe_d DIsTable (hr1.le (by decide)) pass0 (pa_cons (pv 0) pa_nil)))) (pss_one ps_never) pss_nil)), ?_⟩
    refine ⟨_, rfl, x, t, rfl, hv, fun H1 s1 => ?_⟩
    refine ⟨_, rfl, ?_⟩
    exact ifF (by rw [good]; rfl) (q H1 s1)
end
end K02


set_option Elab.async false
set_option linter.all false
set_option maxRecDepth 100000
set_option maxHeartbeats 2000000
/-! zip of a tuple and a list -/
namespace MM
open PySem PySem.Spec PyProof.Rows L2
/-- a tuple at a beside a list at b -/
def ItzM (K : PySem.W.Frag) (a b : Addr) : It where
  go i H := ∃ (us ws : List V) (p q : V), SqT K H a us ∧ SqL K H b ws ∧ us[i]? = some p ∧ ws[i]? = some q
  yld i H v H' := ∃ T p q, v = .ref T ∧ H T = none ∧ H' = upd H T (.tup [p, q]) ∧ (∀ us, SqT K H a us → us[i]? = some p) ∧ ∀ ws, SqL K H b ws → ws[i]? = some q
  stop i H := ∃ us ws : List V, SqT K H a us ∧ SqL K H b ws ∧ i ≤ us.length ∧ i ≤ ws.length ∧ (i = us.length ∨ i = ws.length)
abbrev tnM (a b z TI TO i1 i2 : Addr) (i : Nat) (h : Heap) : Prop :=
  IsZip h z TI TO .none ∧ IsTupOf2 h TI (.ref i1) (.ref i2) ∧ (∃ p q, IsTupOf2 h TO p q) ∧ h.IsTupleIter i1 a i ∧ h.IsListIter i2 b i
theorem sepM {a b z TI TO i1 i2 : Addr} (D : ZipApart z TI TO i1 i2 a b) : ZipSep2 z TI TO i1 i2 [i1, a] [i2, b] := by
  obtain ⟨h1, h2, h3, h4, h5, h6, h7, h8, h9, h10, h11, h12, h13, h14, h15, h16, h17, h18⟩ := D
  constructor <;> simp only [List.mem_cons, List.not_mem_nil, or_false, true_or, not_or, ne_eq]
  · exact h1
  · exact h2
  · exact h5
  · exact h6
  · exact ⟨Ne.symm h3, Ne.symm h11⟩
  · exact ⟨h8, Ne.symm h12⟩
  · exact h7
  · exact ⟨Ne.symm h4, Ne.symm h15⟩
  · exact ⟨h9, Ne.symm h16⟩
  · exact ⟨h10, Ne.symm h17⟩
  · exact ⟨Ne.symm h10, Ne.symm h14⟩
theorem turn_zipM {P : Program} {w : World} {K : PySem.W.Frag} {tgs : List Expr} {n : Nat} {ps : Pos} {a b z TI TO i1 i2 : Addr} (D : ZipApart z TI TO i1 i2 a b) :
    Turn P w K (.Tuple tgs n ps) (ItzM K a b) [z, TI, TO, i1, i2] z (tnM a b z TI TO i1 i2) where
  mem := List.mem_cons_self
  obj := by
    rintro i h ⟨e1, e2, ⟨p, q, e3⟩, ⟨o1, e4, _, d1⟩, ⟨o2, e5, _, d2⟩⟩ c hc
    simp only [List.mem_cons, List.not_mem_nil, or_false] at hc
    rcases hc with rfl | rfl | rfl | rfl | rfl
    · exact ⟨_, e1, nofun⟩
    · exact ⟨_, e2, nofun⟩
    · exact ⟨_, e3, nofun⟩
    · exact ⟨o1, e4, fun v e => by rw [d1] at e; cases e⟩
    · exact ⟨o2, e5, fun v e => by rw [d2] at e; cases e⟩
  keep := by
    rintro i h h' ⟨e1, e2, ⟨p, q, e3⟩, e4, e5⟩ k
    exact ⟨k _ (by simp) _ e1, k _ (by simp) _ e2, ⟨p, q, k _ (by simp) _ e3⟩, e4.at (k _ (by simp)), e5.at (k _ (by simp))⟩
  item := by
    rintro X rfl rfl rfl calm i pins s σ H E I fp ⟨ez, eTI, ⟨p0, q0, eTO⟩, e1, e2⟩ ⟨us, ws, p, q, S1, S2, hp, hq⟩
    obtain ⟨as_, r1, c1, _⟩ := I.tuple S1
    obtain ⟨bs, r2, c2, _⟩ := I.list S2
    obtain ⟨u1, hu1, ru1⟩ := r1.get hp
    obtain ⟨u2, hu2, ru2⟩ := r2.get hq
    have zlt : z < s.heap.objs.size := Heap.lt_size ez
    have hd := I.ok.hd calm
    have l1 : i < as_.toArray.size := by
      rw [List.size_toArray]
      exact (List.getElem?_eq_some_iff.mp hu1).1
    have l2 : i < bs.toArray.size := by
      rw [List.size_toArray]
      exact (List.getElem?_eq_some_iff.mp hu2).1
    refine wpAny_pyNext_zipD2_item (sepM D) (Draws.tuple (A := X.A.in1) hd i1 a D.l1i1 as_.toArray) (Draws.list (A := X.A.in1) hd i2 b D.l2i2 bs.toArray) ez eTI eTO ⟨e1, c1⟩ ⟨e2, c2.isList⟩ l1 l2
      fun x1 x2 h' tk y1 y2 f1 f2 f3 f4 f5 f6 kp => ?_
    have y1' : some u1 = some x1 := by
      rw [← hu1, ← y1]
      simp
    have y2' : some u2 = some x2 := by
      rw [← hu2, ← y2]
      simp
    cases y1'
    cases y2'
    refine ⟨_, rfl, wpAny_letOwnedTupleGo_zip (s := { s with heap := h', toks := tk }) f1 fun h2 g1 sb => ?_⟩
    have zn : s.heap.objs.size ≠ z := Nat.ne_of_gt zlt
    have T2 : h2.get? s.heap.objs.size = some { cls := .type "tuple", data := .seq #[u1, u2] } := (sb.2 _ zn).trans f5
    have new : ObjOk X.prog X.w (upd H s.heap.objs.size (.tup [p, q])) h2 s.heap.objs.size (.tup [p, q]) :=
      ⟨by show 2 ≤ sizeLine; decide, [u1, u2], .cons ru1 (.cons ru2 .nil), ⟨_, T2, rfl, _, rfl⟩⟩
    have I2 : Inv X pins σ (upd H s.heap.objs.size (.tup [p, q])) { s with heap := h2, toks := tk } := by
      refine I.turnedNew (t' := tk) (ch := [z, TI, TO, i1, i2]) (fun c o nc e => ?_) fp (Nat.le_refl _) new
      simp only [List.mem_cons, List.not_mem_nil, or_false, not_or] at nc
      exact (sb.2 c nc.1).trans (kp c o nc.1 nc.2.2.1 nc.2.2.2.1 nc.2.2.2.2 e)
    refine ⟨.ref s.heap.objs.size, _, I2, rfl, ⟨_, p, q, rfl, I.hok.fresh (Nat.le_refl _), rfl, ?_, ?_⟩, ⟨g1, (sb.2 _ D.TIz).trans (kp _ _ D.TIz D.TITO D.TIi1 D.TIi2 eTI), ⟨u1, u2, (sb.2 _ D.TOz).trans f2⟩, f3.1.at fun o e => (sb.2 _ D.i1z).trans e, f4.1.at fun o e => (sb.2 _ D.i2z).trans e⟩, fun c hc => ?_⟩
    · intro l hl
      rw [I.tuple_inj hl S1]
      exact hp
    · intro l hl
      rw [I.list_inj hl S2]
      exact hq
    · have lt : c < s.heap.objs.size := by
        obtain ⟨_, q1, _⟩ := e1
        obtain ⟨_, q2, _⟩ := e2
        have hc2 := hc
        simp only [List.mem_cons, List.not_mem_nil, or_false] at hc2
        rcases hc2 with rfl | rfl | rfl | rfl | rfl
        · exact zlt
        · exact Heap.lt_size eTI
        · exact Heap.lt_size eTO
        · exact Heap.lt_size q1
        · exact Heap.lt_size q2
      rw [upd_ne (Nat.ne_of_lt lt)]
      exact (fp c hc).1
  done := by
    rintro X rfl rfl rfl calm i pins s σ H E I fp ⟨ez, eTI, ⟨p0, q0, eTO⟩, e1, e2⟩ ⟨us, ws, S1, S2, m1, m2, le⟩
    obtain ⟨as_, r1, c1, _⟩ := I.tuple S1
    obtain ⟨bs, r2, c2, _⟩ := I.list S2
    have hd := I.ok.hd calm
    have n1 := r1.length
    have n2 := r2.length
    refine wpAny_pyNext_zipD2_end (sepM D) (Draws.tuple (A := X.A.in1) hd i1 a D.l1i1 as_.toArray) (Draws.list (A := X.A.in1) hd i2 b D.l2i2 bs.toArray) ez eTI eTO ⟨e1, c1⟩ ⟨e2, c2.isList⟩
      (by rw [List.size_toArray]; omega) (by rw [List.size_toArray]; omega) (by rw [List.size_toArray, List.size_toArray]; omega) fun h' tk kp => ⟨rfl, I.turnedL (t' := tk) (ch := [z, TI, TO, i1, i2]) (fun c o nc e => ?_) fp⟩
    simp only [List.mem_cons, List.not_mem_nil, or_false, not_or] at nc
    exact kp c o nc.1 nc.2.2.1 nc.2.2.2.1 nc.2.2.2.2 e
  self := fun A i s Q E st h => wpAny_pyIter_zip st.1 h
def iZipM (K : PySem.W.Frag) (ta : TA) : TI := fun σ H R => ta σ H fun vs H1 => ∃ a b us ws, vs = [.ref a, .ref b] ∧ SqT K H1 a us ∧ SqL K H1 b ws ∧ R (ItzM K a b) H1
theorem pi_zipM {X : Cx} {e e2 : Expr} {ta : TA} {p pos ps : Pos} {tgs : List Expr} {n : Nat} (hg : Gl X "zip") (hm : X.mg "zip" = none) (ha : PA X [e, e2] ta)
    (hs : starEach [e, e2] X.env = (false, eval e X.env) :: starEach [e2] X.env := by rfl) (hpl : (backTo pos (starEach [e2] X.env)).any (·.1) = false := by rfl) :
    PI X (.Tuple tgs n ps) (.Call (.Name "zip" p) [e, e2] [] pos) (iZipM X.K ta) := by
  refine ⟨fun pins s σ H R I h => Call_ (ld_blt I hg hm PyProof.Rows.boot_zip (PyProof.Rows.callWith_type1 (thn (ha.run pos pins s σ H _ I h) fun vals s1 hx => ?_) hs hpl))⟩
  obtain ⟨vs, H1, I1, rs, a, b, us, ws, rfl, S1, S2, q⟩ := hx
  cases rs with
  | cons h1 rs1 =>
  cases rs1 with
  | cons h2 t =>
    cases t
    cases h1
    cases h2
    obtain ⟨as_, r1, c1, _⟩ := I1.tuple S1
    obtain ⟨bs, r2, c2, _⟩ := I1.list S2
    have nw : ∀ k : Nat, FpOk X pins H1 (s1.heap.objs.size + k) := fun k => I1.fpOk (Nat.le_add_right _ _) (I1.hok.fresh (Nat.le_add_right _ _))
    refine zip_begins2 (begins_tuple a as_.toArray) (begins_list b bs.toArray) c1 c2.isList fun h' g1 g2 g3 g4 g5 _ kp => wpAny_pyIter_zip g1 ?_
    have I2 : Inv X pins σ H1 { s1 with heap := h' } := I1.kept (t' := s1.toks) kp
    have la : a < s1.heap.objs.size := by
      obtain ⟨_, z, _⟩ := id c1
      exact Heap.lt_size z
    refine ⟨s1.heap.objs.size + 4, [s1.heap.objs.size + 4, s1.heap.objs.size + 2, s1.heap.objs.size + 3, s1.heap.objs.size, s1.heap.objs.size + 1], _, _, H1, rfl, I2, turn_zipM (PySem.W.ktu_apart s1.heap.objs.size a b la c2.lt), ⟨g1, g2, ⟨_, _, g3⟩, ⟨_, g4, rfl, rfl⟩, ⟨_, g5, rfl, rfl⟩⟩, fun c hc => ?_, q⟩
    simp only [List.mem_cons, List.not_mem_nil, or_false] at hc
    rcases hc with rfl | rfl | rfl | rfl | rfl
    · exact nw 4
    · exact nw 2
    · exact nw 3
    · exact nw 0
    · exact nw 1
section
variable {K : PySem.W.Frag} {a b : Addr} {us ws : List V}
theorem walk_zipM {n : Nat} (hn : n = min us.length ws.length) : Walk (ItzM K a b) n (fun H => SqT K H a us ∧ SqL K H b ws) (YPair (fun i => us[i]?) (fun i => ws[i]?)) := by
  refine ⟨fun i H lt q => ?_, fun H q => ?_, fun i H x H' lt q y => ?_⟩
  · exact ⟨us, ws, us[i]'(by omega), ws[i]'(by omega), q.1, q.2, List.getElem?_eq_getElem _, List.getElem?_eq_getElem _⟩
  · exact ⟨us, ws, q.1, q.2, by omega, by omega, by omega⟩
  · obtain ⟨T, p, r, rfl, fr, rfl, f1, f2⟩ := y
    exact ⟨T, p, r, rfl, fr, rfl, f1 us q.1, f2 ws q.2⟩
variable {v : Nat} {g : TG} {tt : TT} {te : TE} {vs : List Nat} {σ : L2.St} {H1 : Hp} {D : Addr} {Qd : Hp → Prop} {n : Nat}
theorem lc_zipM (hn : n = min us.length ws.length) (Pv : Nat → Hp → Prop) (h0 : Pv 0 (upd H1 D (.lst []))) (hq : ∀ i H, i ≤ n → Pv i H → SqT K H a us ∧ SqL K H b ws)
    (hs : ∀ i x y H T, us[i]? = some x → ws[i]? = some y → Pv i H → H T = none → LcT g tt te vs σ D (Pv (i + 1)) (.ref T) (upd H T (.tup [x, y])))
    (hd : ∀ H, Pv n H → Qd H) : LcW (ItzM K a b) g tt te vs σ H1 D Qd := by
  refine lc_it (walk_zipM hn) Pv h0 hq (fun i x H H' lt p y => ?_) hd
  obtain ⟨T, p1, q1, rfl, fr, rfl, e1, e2⟩ := y
  exact hs i p1 q1 H T e1 e2 p fr
end
end MM

set_option linter.all false
/-! determinants of integer tables, by their first columns -/
namespace DT
/-- the sum of f below n -/
def S : Nat → (Nat → Int) → Int
  | 0, _ => 0
  | n + 1, f => S n f + f n
theorem S_congr {f g : Nat → Int} : ∀ {n : Nat}, (∀ i, i < n → f i = g i) → S n f = S n g
  | 0, _ => rfl
  | n + 1, h => by
    unfold S
    rw [S_congr (n := n) fun i hi => h i (by omega), h n (by omega)]
theorem S_add (f g : Nat → Int) : ∀ n, S n (fun i => f i + g i) = S n f + S n g
  | 0 => rfl
  | n + 1 => by
    unfold S
    rw [S_add f g n]
    dsimp only
    omega
theorem S_mul (c : Int) (f : Nat → Int) : ∀ n, S n (fun i => c * f i) = c * S n f
  | 0 => by simp [S]
  | n + 1 => by
    unfold S
    rw [S_mul c f n, Int.mul_add]
theorem S_zero {f : Nat → Int} : ∀ {n : Nat}, (∀ i, i < n → f i = 0) → S n f = 0
  | 0, _ => rfl
  | n + 1, h => by
    unfold S
    rw [S_zero (n := n) fun i hi => h i (by omega), h n (by omega)]
    rfl
theorem S_neg (f : Nat → Int) (n : Nat) : S n (fun i => - f i) = - S n f := by
  have := S_mul (-1) f n
  rw [show (fun i => - f i) = fun i => (-1) * f i from funext fun i => by omega, this]
  omega
theorem S_front (f : Nat → Int) : ∀ n, S (n + 1) f = f 0 + S n (fun i => f (i + 1))
  | 0 => by simp [S]
  | n + 1 => by
    have ih := S_front f n
    unfold S
    rw [ih]
    dsimp only
    unfold S
    omega
theorem S_comm (f : Nat → Nat → Int) : ∀ n m, S n (fun i => S m (fun j => f i j)) = S m (fun j => S n (fun i => f i j))
  | 0, m => by
    symm
    exact S_zero fun i _ => rfl
  | n + 1, m => by
    show S n (fun i => S m (fun j => f i j)) + S m (fun j => f n j) = S m (fun j => S n (fun i => f i j) + f n j)
    rw [S_comm f n m, ← S_add]
theorem S_one {f : Nat → Int} {p : Nat} : ∀ {n : Nat}, p < n → (∀ i, i < n → i ≠ p → f i = 0) → S n f = f p
  | 0, h, _ => absurd h (by omega)
  | n + 1, h, z => by
    unfold S
    by_cases e : p = n
    · rw [S_zero fun i hi => z i (by omega) (by omega), e]
      omega
    · rw [S_one (n := n) (p := p) (by omega) fun i hi ne => z i (by omega) ne, z n (by omega) (by omega)]
      omega
theorem S_two {f : Nat → Int} {p : Nat} (e : f p + f (p + 1) = 0) : ∀ {n : Nat}, p + 1 < n → (∀ i, i < n → i ≠ p → i ≠ p + 1 → f i = 0) → S n f = 0
  | 0, h, _ => absurd h (by omega)
  | n + 1, h, z => by
    unfold S
    by_cases c : p + 1 = n
    · obtain ⟨m, rfl⟩ : ∃ m, n = m + 1 := ⟨p, by omega⟩
      obtain rfl : p = m := by omega
      unfold S
      rw [S_zero fun i hi => z i (by omega) (by omega) (by omega)]
      omega
    · rw [S_two e (n := n) (by omega) fun i hi a b => z i (by omega) a b, z n (by omega) (by omega) (by omega)]
      rfl
theorem S_dvd {g : Int} {f : Nat → Int} : ∀ {n : Nat}, (∀ i, i < n → g ∣ f i) → g ∣ S n f
  | 0, _ => Int.dvd_zero _
  | n + 1, h => Int.dvd_add (S_dvd (n := n) fun i hi => h i (by omega)) (h n (by omega))
/-- the sign of a place -/
def sg (i : Nat) : Int := if i % 2 = 0 then 1 else -1
theorem sg_succ (i : Nat) : sg (i + 1) = - sg i := by
  unfold sg
  by_cases c : i % 2 = 0
  · rw [if_pos c, if_neg (by omega)]
  · rw [if_neg c, if_pos (by omega)]
    rfl
theorem sg_sq (i : Nat) : sg i * sg i = 1 := by
  unfold sg
  split <;> rfl
theorem sg_two (i : Nat) : sg i = 1 ∨ sg i = -1 := by
  unfold sg
  split
  · exact .inl rfl
  · exact .inr rfl
/-- all places but i, in their order -/
def sk (i a : Nat) : Nat := if a < i then a else a + 1
theorem sk_zero (a : Nat) : sk 0 a = a + 1 := if_neg (by omega)
theorem sk_succ_zero (i : Nat) : sk (i + 1) 0 = 0 := if_pos (by omega)
theorem sk_succ (i a : Nat) : sk (i + 1) (a + 1) = sk i a + 1 := by
  unfold sk
  split <;> split <;> omega
theorem sk_ne (i a : Nat) : sk i a ≠ i := by
  unfold sk
  split <;> omega
theorem sk_lt {i a k : Nat} (h : a < k) : sk i a < k + 1 := by
  unfold sk
  split <;> omega
theorem sk_inj {i a b : Nat} (h : sk i a = sk i b) : a = b := by
  unfold sk at h
  split at h <;> split at h <;> omega
abbrev M := Nat → Nat → Int
/-- the determinant of the first k rows and columns -/
def det : Nat → M → Int
  | 0, _ => 1
  | k + 1, A => S (k + 1) fun i => sg i * A i 0 * det k fun a b => A (sk i a) (b + 1)
theorem det_congr : ∀ {k : Nat} {A B : M}, (∀ a b, a < k → b < k → A a b = B a b) → det k A = det k B
  | 0, _, _, _ => rfl
  | k + 1, A, B, h => by
    unfold det
    refine S_congr fun i hi => ?_
    rw [h i 0 hi (by omega), det_congr (k := k) (B := fun a b => B (sk i a) (b + 1)) fun a b ha hb => h _ _ (sk_lt ha) (by omega)]
/-- by the first row -/
theorem det_row : ∀ (k : Nat) (A : M), det (k + 1) A = S (k + 1) fun j => sg j * A 0 j * det k fun a b => A (a + 1) (sk j b)
  | 0, A => by simp [det, S]
  | k + 1, A => by
    have l : det (k + 2) A = sg 0 * A 0 0 * det (k + 1) (fun a b => A (a + 1) (b + 1)) + S (k + 1) fun i => S (k + 1) fun j =>
        sg (i + 1) * A (i + 1) 0 * (sg j * A 0 (j + 1)) * det k fun a b => A (sk i a + 1) (sk j b + 1) := by
      show S (k + 1 + 1) _ = _
      rw [S_front]
      congr 1
      · refine S_congr fun i hi => ?_
        rw [det_row k, ← S_mul]
        refine S_congr fun j hj => ?_
        rw [sk_succ_zero]
        rw [det_congr (B := fun a b => A (sk i a + 1) (sk j b + 1)) fun a b _ _ => by rw [sk_succ]]
        generalize det k _ = D
        rw [← Int.mul_assoc]
    have r : S (k + 2) (fun j => sg j * A 0 j * det (k + 1) fun a b => A (a + 1) (sk j b)) = sg 0 * A 0 0 * det (k + 1) (fun a b => A (a + 1) (b + 1)) + S (k + 1) fun j => S (k + 1) fun i =>
        sg (i + 1) * A (i + 1) 0 * (sg j * A 0 (j + 1)) * det k fun a b => A (sk i a + 1) (sk j b + 1) := by
      rw [S_front]
      congr 1
      · refine S_congr fun j hj => ?_
        rw [show det (k + 1) (fun a b => A (a + 1) (sk (j + 1) b)) = S (k + 1) fun i => sg i * A (i + 1) (sk (j + 1) 0) * det k fun a b => A (sk i a + 1) (sk (j + 1) (b + 1)) from rfl, ← S_mul]
        refine S_congr fun i hi => ?_
        rw [sk_succ_zero, det_congr (B := fun a b => A (sk i a + 1) (sk j b + 1)) fun a b _ _ => by rw [sk_succ], sg_succ, sg_succ]
        generalize det k _ = D
        generalize sg i = s
        generalize sg j = t
        grind
    rw [l, r, S_comm]
theorem det_tr : ∀ (k : Nat) (A : M), det k (fun a b => A b a) = det k A
  | 0, _ => rfl
  | k + 1, A => by
    rw [det_row k A]
    show S (k + 1) _ = _
    refine S_congr fun i hi => ?_
    rw [← det_tr k fun a b => A (a + 1) (sk i b)]
/-- row p replaced -/
def put (A : M) (p : Nat) (r : Nat → Int) : M := fun a b => if a = p then r b else A a b
theorem put_eq (A : M) (p : Nat) (r : Nat → Int) (b : Nat) : put A p r p b = r b := if_pos rfl
theorem put_ne {A : M} {p a : Nat} {r : Nat → Int} {b : Nat} (h : a ≠ p) : put A p r a b = A a b := if_neg h
/-- where row p stands without row i -/
def lo (i p : Nat) : Nat := if p < i then p else p - 1
theorem sk_lo {i p a : Nat} (ne : i ≠ p) : sk i a = p ↔ a = lo i p := by
  unfold sk lo
  split <;> split <;> omega
theorem lo_lt {i p k : Nat} (ne : i ≠ p) (hp : p < k + 1) (hi : i < k + 1) : lo i p < k := by
  unfold lo
  split <;> omega
theorem put_sk {A : M} {i p : Nat} {r : Nat → Int} (ne : i ≠ p) (a b : Nat) : put A p r (sk i a) (b + 1) = put (fun a b => A (sk i a) (b + 1)) (lo i p) (fun b => r (b + 1)) a b := by
  unfold put
  by_cases c : sk i a = p
  · rw [if_pos c, if_pos ((sk_lo ne).mp c)]
  · rw [if_neg c, if_neg fun h => c ((sk_lo ne).mpr h)]
theorem put_sk_same {A : M} {p : Nat} {r : Nat → Int} (a b : Nat) : put A p r (sk p a) b = A (sk p a) b := put_ne (sk_ne p a)
/-- linear in each row -/
theorem det_lin (c : Int) : ∀ (k : Nat) (A : M) (p : Nat) (x y : Nat → Int), p < k → det k (put A p fun b => x b + c * y b) = det k (put A p x) + c * det k (put A p y)
  | 0, _, _, _, _, h => absurd h (by omega)
  | k + 1, A, p, x, y, hp => by
    show S (k + 1) _ = S (k + 1) _ + c * S (k + 1) _
    rw [← S_mul, ← S_add]
    refine S_congr fun i hi => ?_
    by_cases e : i = p
    · subst e
      rw [put_eq, put_eq, put_eq]
      rw [det_congr (B := fun a b => A (sk i a) (b + 1)) fun a b _ _ => put_sk_same a (b + 1)]
      rw [det_congr (A := fun a b => put A i x (sk i a) (b + 1)) (B := fun a b => A (sk i a) (b + 1)) fun a b _ _ => put_sk_same a (b + 1)]
      rw [det_congr (A := fun a b => put A i y (sk i a) (b + 1)) (B := fun a b => A (sk i a) (b + 1)) fun a b _ _ => put_sk_same a (b + 1)]
      generalize det k _ = D
      grind
    · rw [put_ne e, put_ne e, put_ne e]
      rw [det_congr fun a b _ _ => put_sk e a b, det_congr (A := fun a b => put A p x (sk i a) (b + 1)) fun a b _ _ => put_sk e a b,
        det_congr (A := fun a b => put A p y (sk i a) (b + 1)) fun a b _ _ => put_sk e a b]
      rw [det_lin c k _ (lo i p) (fun b => x (b + 1)) (fun b => y (b + 1)) (lo_lt e hp hi)]
      generalize det k (put _ _ fun b => x (b + 1)) = D
      generalize det k (put _ _ fun b => y (b + 1)) = E
      grind
theorem put_self (A : M) (p : Nat) : put A p (A p) = A := by
  funext a b
  unfold put
  split
  · rename_i h
    rw [h]
  · rfl
theorem put_put (A : M) (p : Nat) (r s : Nat → Int) : put (put A p r) p s = put A p s := by
  funext a b
  unfold put
  split <;> rfl
theorem put_comm (A : M) {p q : Nat} (h : p ≠ q) (r s : Nat → Int) : put (put A p r) q s = put (put A q s) p r := by
  funext a b
  unfold put
  split <;> split <;> first | rfl | omega
/-- two like rows, one behind the other -/
theorem det_adj : ∀ (k : Nat) (A : M) (p : Nat), p + 1 < k → (∀ b, b < k → A p b = A (p + 1) b) → det k A = 0
  | 0, _, _, h, _ => absurd h (by omega)
  | k + 1, A, p, hp, e => by
    refine S_two (p := p) ?_ hp ?_
    · rw [sg_succ, e 0 (by omega), det_congr (A := fun a b => A (sk p a) (b + 1)) (B := fun a b => A (sk (p + 1) a) (b + 1)) fun a b ha hb => ?_]
      · generalize det k _ = D
        grind
      · unfold sk
        by_cases c : a < p
        · rw [if_pos c, if_pos (by omega)]
        · rw [if_neg c]
          by_cases c2 : a < p + 1
          · rw [if_pos c2, show a = p by omega, e (b + 1) (by omega)]
          · rw [if_neg c2]
    · intro i hi n1 n2
      rw [det_adj k _ (lo i p) ?_ ?_, Int.mul_zero]
      · unfold lo
        split <;> omega
      · intro b hb
        have h1 : sk i (lo i p) = p := (sk_lo n1).mpr rfl
        have h2 : sk i (lo i p + 1) = p + 1 := by
          refine (sk_lo n2).mpr ?_
          unfold lo
          split <;> split <;> omega
        rw [h1, h2]
        exact e (b + 1) (by omega)
theorem det_zero_row {k p : Nat} {A : M} (hp : p < k) (z : ∀ b, b < k → A p b = 0) : det k A = 0 := by
  have h := det_lin (-1) k A p (A p) (A p) hp
  rw [put_self] at h
  have e : det k (put A p fun b => A p b + -1 * A p b) = det k A := det_congr fun a b ha hb => by
    unfold put
    split
    · rename_i q
      show A p b + -1 * A p b = A a b
      rw [q, z b hb]
      rfl
    · rfl
  rw [e] at h
  omega
theorem det_add (k : Nat) (A : M) (p : Nat) (x y : Nat → Int) (hp : p < k) : det k (put A p fun b => x b + y b) = det k (put A p x) + det k (put A p y) := by
  have := det_lin 1 k A p x y hp
  rw [Int.one_mul] at this
  rw [← this]
  congr 2
  funext b
  omega
/-- two rows that stand one behind the other, exchanged -/
theorem det_swap {k p : Nat} {A : M} (hp : p + 1 < k) : det k (put (put A p (A (p + 1))) (p + 1) (A p)) = - det k A := by
  have z : ∀ x : Nat → Int, det k (put (put A p x) (p + 1) x) = 0 := fun x => det_adj k _ p hp fun b _ => by
    rw [put_eq, put_ne (by omega), put_eq]
  have s := z fun b => A p b + A (p + 1) b
  rw [det_add k _ (p + 1) (A p) (A (p + 1)) hp] at s
  have q : ∀ y : Nat → Int, det k (put (put A p fun b => A p b + A (p + 1) b) (p + 1) y) = det k (put (put A p (A p)) (p + 1) y) + det k (put (put A p (A (p + 1))) (p + 1) y) := fun y => by
    rw [put_comm A (by omega), det_add k _ p (A p) (A (p + 1)) (by omega), put_comm A (p := p) (r := A p) (by omega), put_comm A (p := p) (r := A (p + 1)) (by omega)]
  rw [q, q, z (A p), z (A (p + 1))] at s
  have e : put (put A p (A p)) (p + 1) (A (p + 1)) = A := by rw [put_self, put_self]
  rw [e] at s
  omega
/-- rows chosen by f -/
theorem det_swapf {k p : Nat} {A : M} (hp : p + 1 < k) : det k (fun a b => A (if a = p then p + 1 else if a = p + 1 then p else a) b) = - det k A := by
  rw [← det_swap hp]
  refine det_congr fun a b _ _ => ?_
  unfold put
  by_cases c : a = p + 1
  · rw [if_pos c, if_neg (by omega), if_pos c]
  · rw [if_neg c, if_neg c]
    split <;> rfl
theorem det_like : ∀ (d : Nat) {k p : Nat} {A : M}, p + d + 1 < k → (∀ b, b < k → A p b = A (p + d + 1) b) → det k A = 0
  | 0, k, p, A, h, e => det_adj k A p h e
  | d + 1, k, p, A, h, e => by
    have s := det_swapf (A := A) (show p + d + 1 + 1 < k by omega)
    rw [det_like d (p := p) (by omega) ?_] at s
    · omega
    · intro b hb
      rw [if_neg (by omega), if_neg (by omega), if_pos rfl]
      exact e b hb
/-- two like rows -/
theorem det_twice {k p q : Nat} {A : M} (hp : p < k) (hq : q < k) (ne : p ≠ q) (e : ∀ b, b < k → A p b = A q b) : det k A = 0 := by
  rcases Nat.lt_or_gt_of_ne ne with l | l
  · refine det_like (q - p - 1) (p := p) (by omega) ?_
    rw [show p + (q - p - 1) + 1 = q by omega]
    exact e
  · refine det_like (p - q - 1) (p := q) (by omega) ?_
    rw [show q + (p - q - 1) + 1 = p by omega]
    exact fun b hb => (e b hb).symm
/-- row m first, the others in their order -/
def up (m a : Nat) : Nat := if a = 0 then m else if a ≤ m then a - 1 else a
theorem det_up : ∀ (m : Nat) {k : Nat} {A : M}, m < k → det k (fun a b => A (up m a) b) = sg m * det k A
  | 0, k, A, h => by
    rw [show sg 0 = 1 from rfl, Int.one_mul]
    refine det_congr fun a b _ _ => ?_
    unfold up
    split
    · rename_i e
      rw [e]
    · rw [if_neg (by omega)]
  | m + 1, k, A, h => by
    have s := det_swapf (A := A) (p := m) h
    have ih := det_up m (k := k) (A := fun a b => A (if a = m then m + 1 else if a = m + 1 then m else a) b) (by omega)
    rw [s] at ih
    rw [sg_succ, Int.neg_mul, ← Int.mul_neg, ← ih]
    refine det_congr fun a b _ _ => ?_
    congr 1
    unfold up
    by_cases c : a = 0
    · rw [if_pos c, if_pos c, if_pos rfl]
    · rw [if_neg c, if_neg c]
      by_cases c2 : a ≤ m
      · rw [if_pos c2, if_pos (by omega), if_neg (by omega), if_neg (by omega)]
      · rw [if_neg c2]
        by_cases c3 : a = m + 1
        · rw [if_pos (by omega), if_neg (by omega), if_pos c3]
          omega
        · rw [if_neg (by omega), if_neg (by omega), if_neg c3]
/-- by row m -/
theorem det_rowm {k m : Nat} {A : M} (h : m < k + 1) : det (k + 1) A = sg m * S (k + 1) fun j => sg j * A m j * det k fun a b => A (sk m a) (sk j b) := by
  have e := det_up m (A := A) h
  have e2 : det (k + 1) A = sg m * det (k + 1) (fun a b => A (up m a) b) := by
    rw [e, ← Int.mul_assoc, sg_sq, Int.one_mul]
  rw [e2, det_row]
  refine congrArg (sg m * ·) (S_congr fun j hj => ?_)
  rw [show up m 0 = m from rfl]
  refine congrArg (sg j * A m j * ·) (det_congr fun a b _ _ => ?_)
  have : up m (a + 1) = sk m a := by
    unfold up sk
    rw [if_neg (by omega)]
    split <;> split <;> omega
  rw [this]
end DT

set_option linter.all false
namespace DT
theorem dvdL {g x : Int} (c : Int) (h : g ∣ x) : g ∣ c * x := Int.dvd_trans h ⟨c, Int.mul_comm _ _⟩
theorem det_sum (c : Nat → Int) (X : Nat → Nat → Int) (d : Int) (y : Nat → Int) {k p : Nat} {A : M} (hp : p < k) : ∀ r : Nat,
    det k (put A p fun q => S r (fun t => c t * X t q) + d * y q) = S r (fun t => c t * det k (put A p (X t))) + d * det k (put A p y)
  | 0 => by
    have h := det_lin d k A p (fun _ => 0) y hp
    have z : det k (put A p fun _ => 0) = 0 := det_zero_row hp fun b _ => put_eq _ _ _ _
    rw [z] at h
    exact h
  | r + 1 => by
    have ih := det_sum c X d y (A := A) hp r
    have h := det_lin (c r) k A p (fun q => S r (fun t => c t * X t q) + d * y q) (X r) hp
    rw [ih] at h
    rw [show (fun q => S (r + 1) (fun t => c t * X t q) + d * y q) = fun q => (S r (fun t => c t * X t q) + d * y q) + c r * X r q from funext fun q => by
      show S r _ + c r * X r q + d * y q = _
      omega, h]
    show _ = S r _ + c r * _ + _
    omega
/-- g divides all minors of at most k rows, those of fewer rows multiplied by powers of b -/
def P (b : Int) (r c k : Nat) (A : M) (g : Int) : Prop :=
  ∀ j, j ≤ k → ∀ R C : Nat → Nat, (∀ a, a < j → R a < r) → (∀ a, a < j → C a < c) → g ∣ b ^ (k - j) * det j fun p q => A (R p) (C q)
theorem P_combo_aux {b : Int} {r c k : Nat} {A : M} {g : Int} (h : P b r c k A g) (T Z : Nat → Nat → Int) : ∀ (n j : Nat), n ≤ j → j ≤ k → ∀ (V : M) (I R C : Nat → Nat), (∀ q, q < j → C q < c) →
    (∀ a, a < n → ∀ q, q < j → V a q = S r (fun t => T (I a) t * A t (C q)) + b * Z (I a) (C q)) → (∀ a, n ≤ a → a < j → R a < r ∧ ∀ q, q < j → V a q = A (R a) (C q)) → g ∣ b ^ (k - j) * det j V
  | 0, j, _, jk, V, I, R, C, hC, _, hA => by
    rw [det_congr (B := fun p q => A (R p) (C q)) fun p q hp hq => (hA p (Nat.zero_le _) hp).2 q hq]
    exact h j jk R C (fun a ha => (hA a (Nat.zero_le _) ha).1) hC
  | n + 1, j, nj, jk, V, I, R, C, hC, hV, hA => by
    obtain ⟨j', rfl⟩ : ∃ j', j = j' + 1 := ⟨j - 1, by omega⟩
    have e : det (j' + 1) V = det (j' + 1) (put V n fun q => S r (fun t => T (I n) t * A t (C q)) + b * Z (I n) (C q)) := det_congr fun a q ha hq => by
      unfold put
      split
      · rename_i z
        rw [z]
        exact hV n (by omega) q hq
      · rfl
    rw [e, det_sum (fun t => T (I n) t) (fun t q => A t (C q)) b (fun q => Z (I n) (C q)) (by omega) r, Int.mul_add]
    refine Int.dvd_add ?_ ?_
    · rw [← S_mul]
      refine S_dvd fun t ht => ?_
      have ih := P_combo_aux h T Z n (j' + 1) (by omega) jk (put V n fun q => A t (C q)) I (fun a => if a = n then t else R a) C hC
        (fun a ha q hq => by rw [put_ne (by omega)]; exact hV a (by omega) q hq)
        (fun a ha hj => by
          by_cases z : a = n
          · subst z
            rw [if_pos rfl]
            exact ⟨ht, fun q hq => put_eq _ _ _ _⟩
          · rw [if_neg z]
            obtain ⟨h1, h2⟩ := hA a (by omega) hj
            exact ⟨h1, fun q hq => by rw [put_ne z]; exact h2 q hq⟩)
      have := dvdL (T (I n) t) ih
      rw [show b ^ (k - (j' + 1)) * (T (I n) t * det (j' + 1) (put V n fun q => A t (C q))) = T (I n) t * (b ^ (k - (j' + 1)) * det (j' + 1) (put V n fun q => A t (C q))) by
        generalize det _ _ = D
        generalize b ^ _ = B
        grind]
      exact this
    · have pw : b ^ (k - (j' + 1)) * b = b ^ (k - j') := by
        rw [← Int.pow_succ]
        congr 1
        omega
      rw [← Int.mul_assoc, pw, det_rowm (m := n) (by omega), ← Int.mul_assoc, Int.mul_comm _ (sg n), Int.mul_assoc, ← S_mul]
      refine dvdL _ (S_dvd fun q hq => ?_)
      rw [put_eq]
      have ih := P_combo_aux h T Z n j' (by omega) (by omega) (fun a x => V (sk n a) (sk q x)) I (fun a => R (sk n a)) (fun x => C (sk q x)) (fun x hx => hC _ (sk_lt hx))
        (fun a ha x hx => by
          have : sk n a = a := if_pos ha
          rw [this]
          exact hV a (by omega) _ (sk_lt hx))
        (fun a ha hj => by
          have : sk n a = a + 1 := if_neg (by omega)
          rw [this]
          obtain ⟨h1, h2⟩ := hA (a + 1) (by omega) (by omega)
          exact ⟨h1, fun x hx => h2 _ (sk_lt hx)⟩)
      rw [det_congr (B := fun a x => V (sk n a) (sk q x)) fun a x _ _ => put_ne (sk_ne n a)]
      have := dvdL (sg q * Z (I n) (C q)) ih
      generalize det _ _ = D at this ⊢
      generalize b ^ _ = B at this ⊢
      rw [show B * (sg q * Z (I n) (C q) * D) = sg q * Z (I n) (C q) * (B * D) by grind]
      exact this
/-- combinations of rows, up to multiples of b -/
theorem P_combo {b : Int} {r r' c k : Nat} {A A' : M} {g : Int} (T Z : Nat → Nat → Int) (e : ∀ i, i < r' → ∀ q, q < c → A' i q = S r (fun t => T i t * A t q) + b * Z i q) (h : P b r c k A g) : P b r' c k A' g := by
  intro j jk R C hR hC
  exact P_combo_aux h T Z j j (Nat.le_refl _) jk _ R (fun _ => 0) C hC (fun a ha q hq => e _ (hR a ha) _ (hC q hq)) (fun a h1 h2 => by omega)
theorem P_tr {b : Int} {r c k : Nat} {A : M} {g : Int} (h : P b r c k A g) : P b c r k (fun i q => A q i) g := by
  intro j jk R C hR hC
  rw [← det_tr]
  exact h j jk C R hC hR
theorem P_congr {b : Int} {r c k : Nat} {A B : M} {g : Int} (e : ∀ i, i < r → ∀ q, q < c → A i q = B i q) (h : P b r c k A g) : P b r c k B g := by
  intro j jk R C hR hC
  rw [det_congr (B := fun p q => A (R p) (C q)) fun p q hp hq => (e _ (hR p hp) _ (hC q hq)).symm]
  exact h j jk R C hR hC
/-- rows taken by f -/
theorem P_rows {b : Int} {r r' c k : Nat} {A : M} {g : Int} (f : Nat → Nat) (hf : ∀ i, i < r' → f i < r) (h : P b r c k A g) : P b r' c k (fun i q => A (f i) q) g := by
  intro j jk R C hR hC
  exact h j jk (fun a => f (R a)) C (fun a ha => hf _ (hR a ha)) hC
theorem P_cols {b : Int} {r c c' k : Nat} {A : M} {g : Int} (f : Nat → Nat) (hf : ∀ i, i < c' → f i < c) (h : P b r c k A g) : P b r c' k (fun i q => A i (f q)) g := by
  intro j jk R C hR hC
  exact h j jk R (fun a => f (C a)) hR (fun a ha => hf _ (hC a ha))
theorem S_pair {f : Nat → Int} {p q : Nat} (ne : p ≠ q) : ∀ {n : Nat}, p < n → q < n → (∀ i, i < n → i ≠ p → i ≠ q → f i = 0) → S n f = f p + f q
  | 0, h, _, _ => absurd h (by omega)
  | n + 1, hp, hq, z => by
    unfold S
    by_cases e : p = n
    · rw [S_one (p := q) (by omega) fun i hi hn => z i (by omega) (by omega) hn, e]
      omega
    · by_cases e2 : q = n
      · rw [S_one (p := p) (by omega) fun i hi hn => z i (by omega) hn (by omega), e2]
      · rw [S_pair ne (n := n) (by omega) (by omega) fun i hi a b => z i (by omega) a b, z n (by omega) (by omega) (by omega)]
        omega
/-- two rows mixed -/
theorem P_mix {b : Int} {r c k p q : Nat} {A A' : M} {g α β γ δ : Int} (hp : p < r) (hq : q < r) (ne : p ≠ q)
    (e1 : ∀ x, x < c → ∃ z, A' p x = α * A p x + β * A q x + b * z) (e2 : ∀ x, x < c → ∃ z, A' q x = γ * A p x + δ * A q x + b * z)
    (e3 : ∀ i, i < r → i ≠ p → i ≠ q → ∀ x, x < c → A' i x = A i x) (h : P b r c k A g) : P b r c k A' g := by
  have ex : ∀ i x, ∃ z, x < c → i = p ∨ i = q → A' i x = (if i = p then α else γ) * A p x + (if i = p then β else δ) * A q x + b * z := by
    intro i x
    by_cases hx : x < c
    · by_cases c1 : i = p
      · obtain ⟨z, hz⟩ := e1 x hx
        exact ⟨z, fun _ _ => by rw [if_pos c1, if_pos c1, c1]; exact hz⟩
      · by_cases c2 : i = q
        · obtain ⟨z, hz⟩ := e2 x hx
          exact ⟨z, fun _ _ => by rw [if_neg c1, if_neg c1, c2]; exact hz⟩
        · exact ⟨0, fun _ h => by omega⟩
    · exact ⟨0, fun h => absurd h hx⟩
  obtain ⟨Z0, hZ0⟩ : ∃ Z0 : Nat → Nat → Int, ∀ i x, x < c → i = p ∨ i = q → A' i x = (if i = p then α else γ) * A p x + (if i = p then β else δ) * A q x + b * Z0 i x :=
    ⟨fun i x => Classical.choose (ex i x), fun i x => Classical.choose_spec (ex i x)⟩
  obtain ⟨Z, hZ⟩ : ∃ Z : Nat → Nat → Int, ∀ i x, Z i x = if i = p ∨ i = q then Z0 i x else 0 := ⟨_, fun _ _ => rfl⟩
  refine P_combo (fun i t => if i = p then (if t = p then α else if t = q then β else 0) else if i = q then (if t = p then γ else if t = q then δ else 0) else if t = i then 1 else 0) Z (fun i hi x hx => ?_) h
  by_cases c1 : i = p ∨ i = q
  · have h1 := hZ0 i x hx c1
    rw [hZ, if_pos c1, h1]
    congr 1
    symm
    rw [S_pair ne hp hq]
    · rcases c1 with c1 | c1
      · rw [if_pos c1, if_pos c1, if_pos c1, if_pos c1, if_pos rfl, if_neg (Ne.symm ne), if_pos rfl]
      · have c2 : i ≠ p := by omega
        rw [if_neg c2, if_neg c2, if_neg c2, if_neg c2, if_pos c1, if_pos c1, if_pos rfl, if_neg (Ne.symm ne), if_pos rfl]
    · intro t ht n1 n2
      rcases c1 with c1 | c1
      · rw [if_pos c1, if_neg n1, if_neg n2, Int.zero_mul]
      · rw [if_neg (by omega), if_pos c1, if_neg n1, if_neg n2, Int.zero_mul]
  · rw [hZ, if_neg c1, Int.mul_zero, Int.add_zero]
    have n1 : i ≠ p := fun z => c1 (.inl z)
    have n2 : i ≠ q := fun z => c1 (.inr z)
    rw [e3 i hi n1 n2 x hx, S_one (p := i) hi]
    · rw [if_neg n1, if_neg n2, if_pos rfl, Int.one_mul]
    · intro t ht nt
      rw [if_neg n1, if_neg n2, if_neg nt, Int.zero_mul]
theorem P_mix_iff {b : Int} {r c k p q : Nat} {A A' : M} {g α β γ δ : Int} (hp : p < r) (hq : q < r) (ne : p ≠ q) (dt : α * δ - β * γ = 1)
    (e1 : ∀ x, x < c → ∃ z, A' p x = α * A p x + β * A q x + b * z) (e2 : ∀ x, x < c → ∃ z, A' q x = γ * A p x + δ * A q x + b * z)
    (e3 : ∀ i, i < r → i ≠ p → i ≠ q → ∀ x, x < c → A' i x = A i x) : P b r c k A g ↔ P b r c k A' g := by
  refine ⟨P_mix hp hq ne e1 e2 e3, P_mix (α := δ) (β := -β) (γ := -γ) (δ := α) hp hq ne ?_ ?_ (fun i hi n1 n2 x hx => (e3 i hi n1 n2 x hx).symm)⟩
  · intro x hx
    obtain ⟨z, hz⟩ := e1 x hx
    obtain ⟨y, hy⟩ := e2 x hx
    refine ⟨β * y - δ * z, ?_⟩
    rw [hz, hy]
    generalize A p x = u
    generalize A q x = v
    have : u = (α * δ - β * γ) * u := by rw [dt, Int.one_mul]
    grind
  · intro x hx
    obtain ⟨z, hz⟩ := e1 x hx
    obtain ⟨y, hy⟩ := e2 x hx
    refine ⟨γ * z - α * y, ?_⟩
    rw [hz, hy]
    generalize A p x = u
    generalize A q x = v
    have : v = (α * δ - β * γ) * v := by rw [dt, Int.one_mul]
    grind
end DT

set_option linter.all false
namespace DT
/-- E is the greatest common divisor of these minors -/
def Ch (b : Int) (r c k : Nat) (A : M) (E : Nat) : Prop := ∀ g : Nat, P b r c k A (g : Int) ↔ g ∣ E
theorem dvd_nat {g : Nat} {x : Int} : (g : Int) ∣ x ↔ g ∣ x.natAbs := Int.ofNat_dvd_left
theorem P_scale {b d : Int} {r c k : Nat} {B : M} {E' g : Nat} (ch : Ch b r c k B E')
    (h : ∀ j, j ≤ k → ∀ R C : Nat → Nat, (∀ a, a < j → R a < r) → (∀ a, a < j → C a < c) → (g : Int) ∣ d * (b ^ (k - j) * det j fun p q => B (R p) (C q))) : g ∣ d.natAbs * E' := by
  by_cases d0 : d.natAbs = 0
  · rw [d0, Nat.zero_mul]
    exact Nat.dvd_zero _
  obtain ⟨u, g', d', up, hg, hd, cop⟩ : ∃ u g' d', 0 < u ∧ g = u * g' ∧ d.natAbs = u * d' ∧ Nat.gcd g' d' = 1 := by
    obtain ⟨g', hg⟩ := Nat.gcd_dvd_left g d.natAbs
    obtain ⟨d', hd⟩ := Nat.gcd_dvd_right g d.natAbs
    have up : 0 < Nat.gcd g d.natAbs := Nat.gcd_pos_of_pos_right _ (Nat.pos_of_ne_zero d0)
    refine ⟨_, g', d', up, hg, hd, ?_⟩
    have e : Nat.gcd g d.natAbs * Nat.gcd g' d' = Nat.gcd g d.natAbs * 1 := by
      rw [← Nat.gcd_mul_left, ← hg, ← hd, Nat.mul_one]
    exact Nat.eq_of_mul_eq_mul_left up e
  have : g' ∣ E' := (ch g').mp fun j jk R C hR hC => by
    have h1 := dvd_nat.mp (h j jk R C hR hC)
    rw [Int.natAbs_mul] at h1
    refine dvd_nat.mpr ?_
    generalize (b ^ (k - j) * det j fun p q => B (R p) (C q)).natAbs = x at h1 ⊢
    rw [hd, hg, Nat.mul_assoc] at h1
    exact Nat.Coprime.dvd_of_dvd_mul_left cop (Nat.dvd_of_mul_dvd_mul_left up h1)
  obtain ⟨z, rfl⟩ := this
  rw [hg, hd]
  exact ⟨d' * z, by rw [show u * d' * (g' * z) = u * g' * (d' * z) by simp only [Nat.mul_assoc, Nat.mul_comm, Nat.mul_left_comm]]⟩
theorem det_zero_col {k p : Nat} {A : M} (hp : p < k) (z : ∀ a, a < k → A a p = 0) : det k A = 0 := by
  rw [← det_tr]
  exact det_zero_row hp z
/-- a table with a first row and column of zeros, but for d -/
theorem Ch_block {b : Int} {r c k : Nat} {A : M} {E' E : Nat} (h0 : ∀ q, q < c → A 0 (q + 1) = 0) (h1 : ∀ p, p < r → A (p + 1) 0 = 0)
    (c1 : Ch b r c k (fun p q => A (p + 1) (q + 1)) E') (c2 : Ch b r c (k + 1) (fun p q => A (p + 1) (q + 1)) E) : Ch b (r + 1) (c + 1) (k + 1) A (Nat.gcd ((A 0 0).natAbs * E') E) := by
  intro g
  constructor
  · intro h
    refine Nat.dvd_gcd ?_ ?_
    · refine P_scale c1 fun j jk R C hR hC => ?_
      have m := h (j + 1) (by omega) (fun a => if a = 0 then 0 else R (a - 1) + 1) (fun a => if a = 0 then 0 else C (a - 1) + 1)
        (fun a ha => by split; omega; have := hR (a - 1) (by omega); omega) (fun a ha => by split; omega; have := hC (a - 1) (by omega); omega)
      rw [det_row, S_one (p := 0) (by omega)] at m
      · rw [if_pos rfl, show sg 0 = 1 from rfl, Int.one_mul, show k + 1 - (j + 1) = k - j by omega] at m
        rw [det_congr (B := fun p q => A (R p + 1) (C q + 1)) fun p q _ _ => by rw [if_neg (by omega), sk_zero, if_neg (by omega), Nat.add_sub_cancel, Nat.add_sub_cancel]] at m
        rw [Int.mul_left_comm] at m
        exact m
      · intro i hi ne
        rw [if_pos rfl, if_neg ne, h0 _ (hC _ (by omega)), Int.mul_zero, Int.zero_mul]
    · exact (c2 g).mp fun j jk R C hR hC => h j jk (fun a => R a + 1) (fun a => C a + 1) (fun a ha => by have := hR a ha; omega) (fun a ha => by have := hC a ha; omega)
  · intro h j jk R C hR hC
    have g1 := Nat.dvd_trans h (Nat.gcd_dvd_left _ _)
    have g2 := (c2 g).mpr (Nat.dvd_trans h (Nat.gcd_dvd_right _ _))
    by_cases e : ∃ a0, a0 < j ∧ R a0 = 0
    · obtain ⟨a0, ha0, ra0⟩ := e
      by_cases e2 : ∃ a1, a1 < j ∧ a1 ≠ a0 ∧ R a1 = 0
      · obtain ⟨a1, ha1, ne, ra1⟩ := e2
        rw [det_twice ha1 ha0 ne fun q _ => by rw [ra0, ra1], Int.mul_zero]
        exact Int.dvd_zero _
      · obtain ⟨j', rfl⟩ : ∃ j', j = j' + 1 := ⟨j - 1, by omega⟩
        have rpos : ∀ a, a < j' → 0 < R (sk a0 a) := fun a ha => Nat.pos_of_ne_zero fun z => e2 ⟨sk a0 a, sk_lt ha, sk_ne a0 a, z⟩
        rw [det_rowm (m := a0) ha0, Int.mul_left_comm, ← S_mul]
        refine dvdL _ (S_dvd fun q hq => ?_)
        rw [ra0]
        by_cases cq : C q = 0
        · rw [cq]
          by_cases e3 : ∃ q1, q1 < j' ∧ C (sk q q1) = 0
          · obtain ⟨q1, hq1, z⟩ := e3
            rw [det_zero_col hq1 fun a ha => ?_, Int.mul_zero, Int.mul_zero]
            · exact Int.dvd_zero _
            · have p1 := rpos a ha
              have p2 := hR _ (sk_lt (i := a0) ha)
              rw [z]
              have := h1 (R (sk a0 a) - 1) (by omega)
              rwa [Nat.sub_add_cancel p1] at this
          · have cpos : ∀ a, a < j' → 0 < C (sk q a) := fun a ha => Nat.pos_of_ne_zero fun z => e3 ⟨a, ha, z⟩
            have m := (c1 E').mpr (Nat.dvd_refl _) j' (by omega) (fun a => R (sk a0 a) - 1) (fun a => C (sk q a) - 1)
              (fun a ha => by have := rpos a ha; have := hR _ (sk_lt (i := a0) ha); omega) (fun a ha => by have := cpos a ha; have := hC _ (sk_lt (i := q) ha); omega)
            rw [det_congr (B := fun p x => A (R (sk a0 p)) (C (sk q x))) fun p x hp hx => by
              show A (R (sk a0 p) - 1 + 1) (C (sk q x) - 1 + 1) = _
              rw [Nat.sub_add_cancel (rpos p hp), Nat.sub_add_cancel (cpos x hx)]] at m
            have m2 : (g : Int) ∣ A 0 0 * (b ^ (k - j') * det j' fun p x => A (R (sk a0 p)) (C (sk q x))) := by
              refine Int.dvd_trans (b := A 0 0 * (E' : Int)) ?_ ?_
              · refine dvd_nat.mpr ?_
                rw [Int.natAbs_mul]
                exact g1
              · exact Int.mul_dvd_mul (Int.dvd_refl _) m
            rw [show k + 1 - (j' + 1) = k - j' by omega]
            have := dvdL (sg q) m2
            generalize det _ _ = D at this ⊢
            generalize b ^ _ = W at this ⊢
            rw [show W * (sg q * A 0 0 * D) = sg q * (A 0 0 * (W * D)) by grind]
            exact this
        · obtain ⟨q', hq'⟩ : ∃ q', C q = q' + 1 := ⟨C q - 1, by omega⟩
          have := hC q hq
          rw [hq', h0 q' (by omega), Int.mul_zero, Int.zero_mul, Int.mul_zero]
          exact Int.dvd_zero _
    · have rpos : ∀ a, a < j → 0 < R a := fun a ha => Nat.pos_of_ne_zero fun z => e ⟨a, ha, z⟩
      by_cases e3 : ∃ q1, q1 < j ∧ C q1 = 0
      · obtain ⟨q1, hq1, z⟩ := e3
        rw [det_zero_col hq1 fun a ha => ?_, Int.mul_zero]
        · exact Int.dvd_zero _
        · have p1 := rpos a ha
          have p2 := hR a ha
          rw [z]
          have := h1 (R a - 1) (by omega)
          rwa [Nat.sub_add_cancel p1] at this
      · have cpos : ∀ a, a < j → 0 < C a := fun a ha => Nat.pos_of_ne_zero fun z => e3 ⟨a, ha, z⟩
        have m := g2 j jk (fun a => R a - 1) (fun a => C a - 1) (fun a ha => by have := rpos a ha; have := hR a ha; omega) (fun a ha => by have := cpos a ha; have := hC a ha; omega)
        rw [det_congr (B := fun p x => A (R p) (C x)) fun p x hp hx => by
          show A (R p - 1 + 1) (C x - 1 + 1) = _
          rw [Nat.sub_add_cancel (rpos p hp), Nat.sub_add_cancel (cpos x hx)]] at m
        exact m
/-- the same for a diagonal, told by its members -/
def F (b : Nat) : List Nat → Nat → Nat
  | [], k => b ^ k
  | _ :: _, 0 => 1
  | d :: ds, k + 1 => Nat.gcd (d * F b ds k) (F b ds (k + 1))
theorem F_zero (b : Nat) (ds : List Nat) : F b ds 0 = 1 := by
  cases ds with
  | nil => exact Nat.pow_zero _
  | cons d ds => rfl
theorem F_mul (b : Nat) : ∀ (ds : List Nat) (k : Nat), F b ds (k + 1) ∣ b * F b ds k
  | [], k => by
    show b ^ (k + 1) ∣ b * b ^ k
    rw [Nat.pow_succ, Nat.mul_comm]
    exact Nat.dvd_refl _
  | d :: ds, 0 => by
    have := F_mul b ds 0
    rw [F_zero] at this ⊢
    exact Nat.dvd_trans (Nat.gcd_dvd_right _ _) this
  | d :: ds, k + 1 => by
    show Nat.gcd (d * F b ds (k + 1)) (F b ds (k + 2)) ∣ b * Nat.gcd (d * F b ds k) (F b ds (k + 1))
    rw [← Nat.gcd_mul_left]
    refine Nat.dvd_gcd ?_ ?_
    · refine Nat.dvd_trans (Nat.gcd_dvd_left _ _) ?_
      rw [Nat.mul_left_comm]
      exact Nat.mul_dvd_mul (Nat.dvd_refl _) (F_mul b ds k)
    · exact Nat.dvd_trans (Nat.gcd_dvd_right _ _) (F_mul b ds (k + 1))
theorem gcd_bound {d b E' E : Nat} (h : E ∣ b * E') : Nat.gcd (d * E') E = Nat.gcd (Nat.gcd d b * E') E := by
  rw [← Nat.gcd_mul_right, Nat.gcd_assoc, Nat.gcd_eq_right h]
theorem F_swap (b x y : Nat) (ds : List Nat) : ∀ k, F b (x :: y :: ds) k = F b (y :: x :: ds) k
  | 0 => rfl
  | 1 => by
    show Nat.gcd (x * F b (y :: ds) 0) (Nat.gcd (y * F b ds 0) (F b ds 1)) = Nat.gcd (y * F b (x :: ds) 0) (Nat.gcd (x * F b ds 0) (F b ds 1))
    rw [F_zero, F_zero, F_zero, ← Nat.gcd_assoc, ← Nat.gcd_assoc, Nat.gcd_comm (x * 1)]
  | k + 2 => by
    show Nat.gcd (x * Nat.gcd (y * F b ds k) (F b ds (k + 1))) (Nat.gcd (y * F b ds (k + 1)) (F b ds (k + 2))) = Nat.gcd (y * Nat.gcd (x * F b ds k) (F b ds (k + 1))) (Nat.gcd (x * F b ds (k + 1)) (F b ds (k + 2)))
    rw [← Nat.gcd_mul_left, ← Nat.gcd_mul_left, Nat.mul_left_comm x y, Nat.gcd_assoc, Nat.gcd_assoc]
    congr 1
    rw [← Nat.gcd_assoc, ← Nat.gcd_assoc, Nat.gcd_comm (x * _)]
theorem F_lcm (b x y : Nat) (ds : List Nat) : ∀ k, F b (x :: y :: ds) k = F b (Nat.gcd x y :: Nat.lcm x y :: ds) k
  | 0 => rfl
  | 1 => by
    show Nat.gcd (x * F b (y :: ds) 0) (Nat.gcd (y * F b ds 0) (F b ds 1)) = Nat.gcd (Nat.gcd x y * F b (Nat.lcm x y :: ds) 0) (Nat.gcd (Nat.lcm x y * F b ds 0) (F b ds 1))
    rw [F_zero, F_zero, F_zero, ← Nat.gcd_assoc, ← Nat.gcd_assoc, Nat.mul_one, Nat.mul_one, Nat.mul_one, Nat.mul_one, Nat.gcd_eq_left (m := Nat.gcd x y) (n := Nat.lcm x y) (Nat.dvd_trans (Nat.gcd_dvd_left x y) (Nat.dvd_lcm_left x y))]
  | k + 2 => by
    show Nat.gcd (x * Nat.gcd (y * F b ds k) (F b ds (k + 1))) (Nat.gcd (y * F b ds (k + 1)) (F b ds (k + 2))) = Nat.gcd (Nat.gcd x y * Nat.gcd (Nat.lcm x y * F b ds k) (F b ds (k + 1))) (Nat.gcd (Nat.lcm x y * F b ds (k + 1)) (F b ds (k + 2)))
    rw [← Nat.gcd_mul_left, ← Nat.gcd_mul_left, ← Nat.mul_assoc, ← Nat.mul_assoc, Nat.gcd_mul_lcm, Nat.gcd_assoc, Nat.gcd_assoc]
    congr 1
    rw [← Nat.gcd_assoc, ← Nat.gcd_assoc, Nat.gcd_mul_right, Nat.gcd_mul_right, Nat.gcd_eq_left (m := Nat.gcd x y) (n := Nat.lcm x y) (Nat.dvd_trans (Nat.gcd_dvd_left x y) (Nat.dvd_lcm_left x y))]
theorem F_cons {b d : Nat} {xs ys : List Nat} (h : ∀ k, F b xs k = F b ys k) : ∀ k, F b (d :: xs) k = F b (d :: ys) k
  | 0 => rfl
  | k + 1 => by
    show Nat.gcd (d * F b xs k) (F b xs (k + 1)) = Nat.gcd (d * F b ys k) (F b ys (k + 1))
    rw [h, h]
theorem F_perm {b : Nat} {xs ys : List Nat} (p : xs.Perm ys) : ∀ k, F b xs k = F b ys k := by
  induction p with
  | nil => exact fun _ => rfl
  | cons d _ ih => exact F_cons ih
  | swap x y l => exact fun k => F_swap b _ _ _ k
  | trans _ _ h1 h2 => exact fun k => (h1 k).trans (h2 k)
theorem F_div {b s : Nat} (sb : s ∣ b) : ∀ (ds : List Nat), (∀ t ∈ ds, s ∣ t) → ∀ k, s * F b ds k ∣ F b ds (k + 1)
  | [], _, k => by
    show s * b ^ k ∣ b ^ (k + 1)
    rw [Nat.pow_succ, Nat.mul_comm (b ^ k)]
    exact Nat.mul_dvd_mul sb (Nat.dvd_refl _)
  | d :: ds, h, 0 => by
    show s * 1 ∣ Nat.gcd (d * F b ds 0) (F b ds 1)
    have := F_div sb ds (fun t ht => h t (List.mem_cons_of_mem _ ht)) 0
    rw [F_zero] at this ⊢
    refine Nat.dvd_gcd ?_ this
    rw [Nat.mul_one, Nat.mul_one]
    exact h d List.mem_cons_self
  | d :: ds, h, k + 1 => by
    show s * Nat.gcd (d * F b ds k) (F b ds (k + 1)) ∣ Nat.gcd (d * F b ds (k + 1)) (F b ds (k + 2))
    have ih := F_div sb ds fun t ht => h t (List.mem_cons_of_mem _ ht)
    rw [← Nat.gcd_mul_left]
    refine Nat.dvd_gcd ?_ ?_
    · refine Nat.dvd_trans (Nat.gcd_dvd_left _ _) ?_
      rw [Nat.mul_left_comm]
      exact Nat.mul_dvd_mul (Nat.dvd_refl _) (ih k)
    · exact Nat.dvd_trans (Nat.gcd_dvd_right _ _) (ih (k + 1))
/-- each divides the later ones -/
def Chain (xs : List Nat) : Prop := xs.Pairwise (· ∣ ·)
theorem F_chain {b : Nat} : ∀ (xs : List Nat), Chain xs → (∀ t ∈ xs, t ∣ b) → ∀ k, k ≤ xs.length → F b xs k = ((xs.take k).foldr (· * ·) 1)
  | xs, _, _, 0, _ => F_zero b xs
  | [], _, _, k + 1, h => absurd h (by simp)
  | s :: xs, c, d, k + 1, h => by
    have c' := List.pairwise_cons.mp c
    show Nat.gcd (s * F b xs k) (F b xs (k + 1)) = s * _
    rw [Nat.gcd_eq_left (F_div (d s List.mem_cons_self) xs c'.1 k), F_chain xs c'.2 (fun t ht => d t (List.mem_cons_of_mem _ ht)) k (by rw [List.length_cons] at h; omega)]
end DT

set_option linter.all false
namespace DT
theorem pw_ne {A : M} {p q : Nat} (ne : p ≠ q) (r : Nat → Int) : put A p r q = A q := by
  funext b
  exact put_ne (Ne.symm ne)
/-- any two rows exchanged -/
theorem det_swap2 {k p q : Nat} {A : M} (hp : p < k) (hq : q < k) (ne : p ≠ q) : det k (put (put A p (A q)) q (A p)) = - det k A := by
  have z : ∀ x : Nat → Int, det k (put (put A p x) q x) = 0 := fun x => det_twice hp hq ne fun b _ => by
    rw [put_eq, put_ne ne, put_eq]
  have s := z fun b => A p b + A q b
  rw [det_add k _ q (A p) (A q) hq] at s
  have e : ∀ y : Nat → Int, det k (put (put A p fun b => A p b + A q b) q y) = det k (put (put A p (A p)) q y) + det k (put (put A p (A q)) q y) := fun y => by
    rw [put_comm A ne, det_add k _ p (A p) (A q) hp, put_comm A (p := p) (r := A p) ne, put_comm A (p := p) (r := A q) ne]
  rw [e, e, z (A p), z (A q)] at s
  have e2 : put (put A p (A p)) q (A q) = A := by rw [put_self, put_self]
  rw [e2] at s
  omega
/-- a row that is a multiple of w, and of rows that stand there -/
theorem det_comb {k p d : Nat} {A : M} {D : Int} {κ : Nat → Int} {v w : Nat → Int} (hp : p < k) (hd : d ≤ p) (hv : ∀ b, b < k → v b = D * w b + S d fun t => κ t * A t b) :
    det k (put A p v) = D * det k (put A p w) := by
  have e : det k (put A p v) = det k (put A p fun q => S d (fun t => κ t * A t q) + D * w q) := det_congr fun a b ha hb => by
    unfold put
    split
    · show v b = S d (fun t => κ t * A t b) + D * w b
      rw [hv b hb]
      omega
    · rfl
  rw [e, det_sum κ A D w hp d, S_zero fun t ht => ?_]
  · omega
  · rw [det_twice (p := t) (q := p) (by omega) hp (by omega) fun b _ => by rw [put_ne (by omega), put_eq], Int.mul_zero]
/-- by the last column: the last row is multiplied by the determinant of what stands before it -/
theorem det_last (d : Nat) (A : M) : ∃ κ : Nat → Int, ∀ w : Nat → Int, det (d + 1) (fun a b => if b = d then w a else A a b) = det d A * w d + S d fun t => κ t * w t := by
  refine ⟨fun t => sg d * sg t * det d fun b a => A (sk t a) (sk d b), fun w => ?_⟩
  rw [← det_tr, det_rowm (m := d) (by omega), ← S_mul]
  show S d _ + _ = _
  rw [Int.add_comm]
  congr 1
  · show sg d * (sg d * (if d = d then w d else A d d) * det d fun b a => if sk d b = d then w (sk d a) else A (sk d a) (sk d b)) = _
    rw [if_pos rfl, det_congr (B := fun b a => A a b) fun b a hb ha => ?_, det_tr d A]
    · generalize det d _ = D
      have := sg_sq d
      generalize sg d = s at this ⊢
      grind
    · rw [if_neg (sk_ne d b), show sk d a = a from if_pos ha, show sk d b = b from if_pos hb]
  · refine S_congr fun t ht => ?_
    have e : det d (fun b a => if sk d b = d then w (sk t a) else A (sk t a) (sk d b)) = det d fun b a => A (sk t a) (sk d b) := det_congr fun b a hb ha => if_neg (sk_ne d b)
    rw [if_pos rfl, e]
    show _ = sg d * sg t * (det d fun b a => A (sk t a) (sk d b)) * w t
    generalize (det d fun b a => A (sk t a) (sk d b)) = D
    generalize sg d = s
    generalize sg t = u
    grind
/-- the determinant of the first d rows, row i, the first d columns, column j -/
def bord (d : Nat) (N : M) (i j : Nat) : Int := det (d + 1) fun a b => N (if a = d then i else a) (if b = d then j else b)
theorem bord_zero {d i j : Nat} {N : M} (h : j < d) : bord d N i j = 0 := by
  unfold bord
  rw [← det_tr]
  refine det_twice (p := j) (q := d) (by omega) (by omega) (by omega) fun b _ => ?_
  show N (if b = d then i else b) (if j = d then j else j) = N (if b = d then i else b) (if d = d then j else d)
  rw [ite_self, if_pos rfl]
theorem bord_row {d i j : Nat} {N : M} (h : i < d) : bord d N i j = 0 := by
  unfold bord
  refine det_twice (p := i) (q := d) (by omega) (by omega) (by omega) fun b _ => ?_
  show N (if i = d then i else i) (if b = d then j else b) = N (if d = d then i else d) (if b = d then j else b)
  rw [ite_self, if_pos rfl]
theorem bord_comb (d i : Nat) (N : M) : ∃ κ : Nat → Int, ∀ j, bord d N i j = det d N * N i j + S d fun t => κ t * N t j := by
  obtain ⟨κ, h⟩ := det_last d fun a b => N (if a = d then i else a) b
  refine ⟨κ, fun j => ?_⟩
  have e := h fun a => N (if a = d then i else a) j
  rw [det_congr (k := d) (B := N) fun a b ha _ => by rw [if_neg (by omega)]] at e
  rw [if_pos rfl] at e
  rw [S_congr (f := fun t => κ t * N t j) (g := fun t => κ t * N (if t = d then i else t) j) fun t ht => by rw [if_neg (by omega)], ← e]
  unfold bord
  refine det_congr fun a b _ _ => ?_
  split <;> rename_i c
  · split <;> rfl
  · split <;> rfl
/-- the step of the elimination -/
theorem sylvester {d : Nat} {N : M} (h0 : det d N ≠ 0) (h1 : bord d N d d ≠ 0) :
    bord d N d d * bord d N (d + 1) (d + 1) - bord d N (d + 1) d * bord d N d (d + 1) = det d N * det (d + 2) N := by
  obtain ⟨κ1, e1⟩ := bord_comb d d N
  obtain ⟨κ2, e2⟩ := bord_comb d (d + 1) N
  obtain ⟨x, hx⟩ : ∃ x, x = bord d N d d := ⟨_, rfl⟩
  obtain ⟨y, hy⟩ : ∃ y, y = bord d N (d + 1) d := ⟨_, rfl⟩
  rw [← hx] at h1
  rw [← hx, ← hy]
  obtain ⟨A, hA⟩ : ∃ A : M, A = put N d (bord d N d) := ⟨_, rfl⟩
  obtain ⟨U, hU⟩ : ∃ U : Nat → Int, ∀ b, U b = x * bord d N (d + 1) b - y * bord d N d b := ⟨_, fun _ => rfl⟩
  -- by the last row
  have l1 : det (d + 2) (put A (d + 1) U) = U (d + 1) * (det d N * x) := by
    rw [det_rowm (m := d + 1) (by omega), S_one (p := d + 1) (by omega)]
    · rw [put_eq]
      have m : det (d + 1) (fun a b => put A (d + 1) U (sk (d + 1) a) (sk (d + 1) b)) = det d N * x := by
        have m1 := det_comb (k := d + 1) (p := d) (d := d) (A := N) (D := det d N) (κ := κ1) (v := bord d N d) (w := N d) (by omega) (Nat.le_refl _) fun b _ => e1 b
        rw [put_self] at m1
        rw [det_congr (B := put N d (bord d N d)) fun a b ha hb => by
          rw [show sk (d + 1) a = a from if_pos (by omega), show sk (d + 1) b = b from if_pos (by omega), put_ne (by omega), hA], m1, hx]
        congr 1
        unfold bord
        refine det_congr fun a b ha hb => ?_
        congr 1
        · split <;> omega
        · split <;> omega
      rw [m]
      have := sg_sq (d + 1)
      generalize sg (d + 1) = s at this ⊢
      generalize det d N = D
      grind
    · intro i hi ne
      rw [put_eq, hU]
      have : x * bord d N (d + 1) i - y * bord d N d i = 0 := by
        by_cases c : i < d
        · rw [bord_zero c, bord_zero c]
          simp
        · obtain rfl : i = d := by omega
          rw [← hx, ← hy]
          grind
      rw [this]
      simp
  -- by its parts
  have l2 : det (d + 2) (put A (d + 1) U) = x * (det d N * (det d N * det (d + 2) N)) := by
    have q := det_lin (-y) (d + 2) A (d + 1) (fun b => x * bord d N (d + 1) b) (bord d N d) (by omega)
    rw [show (fun b => x * bord d N (d + 1) b + -y * bord d N d b) = U from funext fun b => by rw [hU]; grind] at q
    rw [q, det_twice (A := put A (d + 1) (bord d N d)) (p := d) (q := d + 1) (by omega) (by omega) (by omega) fun b _ => by rw [put_ne (by omega), put_eq, hA, put_eq], Int.mul_zero, Int.add_zero]
    rw [det_comb (D := x * det d N) (κ := fun t => x * κ2 t) (d := d) (w := N (d + 1)) (by omega) (by omega) fun b hb => ?_]
    · rw [hA, put_comm N (by omega), put_self, det_comb (D := det d N) (κ := κ1) (d := d) (w := N d) (by omega) (by omega) fun b hb => e1 b, put_self, Int.mul_assoc]
    · rw [e2 b, Int.mul_add, Int.mul_assoc]
      congr 1
      rw [← S_mul]
      refine S_congr fun t ht => ?_
      rw [hA, put_ne (by omega), Int.mul_assoc]
  have l3 := l1.symm.trans l2
  rw [hU] at l3
  generalize x * bord d N (d + 1) (d + 1) - y * bord d N d (d + 1) = u at l3 ⊢
  generalize det d N = D at *
  have l4 : (D * x) * u = (D * x) * (D * det (d + 2) N) := by grind
  exact Int.eq_of_mul_eq_mul_left (Int.mul_ne_zero h0 h1) l4
end DT
namespace DT
theorem S_bound {f : Nat → Int} {B : Nat} : ∀ {n : Nat}, (∀ i, i < n → (f i).natAbs ≤ B) → (S n f).natAbs ≤ n * B
  | 0, _ => Nat.zero_le _
  | n + 1, h => by
    have ih := S_bound (n := n) fun i hi => h i (by omega)
    have := h n (by omega)
    show (S n f + f n).natAbs ≤ _
    rw [Nat.add_mul, Nat.one_mul]
    omega
theorem det_bound {e : Nat} : ∀ {k : Nat} {A : M}, k ≤ 8 → (∀ a b, a < k → b < k → (A a b).natAbs < 2 ^ e) → (det k A).natAbs ≤ 2 ^ (k * (e + 3))
  | 0, _, _, _ => by
    rw [Nat.zero_mul]
    show 1 ≤ 1
    exact Nat.le_refl _
  | k + 1, A, h8, h => by
    have key : ∀ i, i < k + 1 → (sg i * A i 0 * det k fun a b => A (sk i a) (b + 1)).natAbs ≤ 2 ^ (e + k * (e + 3)) := by
      intro i hi
      have ih := det_bound (k := k) (A := fun a b => A (sk i a) (b + 1)) (by omega) fun a b ha hb => h _ _ (sk_lt ha) (by omega)
      have h1 := h i 0 hi (by omega)
      rw [Int.natAbs_mul, Int.natAbs_mul, Nat.pow_add]
      have s1 : (sg i).natAbs = 1 := by rcases sg_two i with z | z <;> rw [z] <;> rfl
      rw [s1, Nat.one_mul]
      exact Nat.mul_le_mul (Nat.le_of_lt h1) ih
    have b := S_bound key
    refine Nat.le_trans b ?_
    have h3 : (k + 1) * 2 ^ (e + k * (e + 3)) ≤ 2 ^ 3 * 2 ^ (e + k * (e + 3)) := Nat.mul_le_mul_right _ (by omega)
    refine Nat.le_trans h3 ?_
    rw [← Nat.pow_add]
    refine Nat.pow_le_pow_right (by decide) ?_
    rw [Nat.add_mul]
    omega
end DT

set_option linter.all false
namespace DT
/-- the bordered minor: rows ord 0 .. ord (t - 1), ord i; columns cs 0 .. cs (t - 1), j -/
def B (A : M) (ord : Nat → Nat) (cs : List Nat) (t i j : Nat) : Int := det (t + 1) fun a b => A (ord (if a = t then i else a)) (if b = t then j else cs.getD b 0)
/-- the leading minor -/
def L (A : M) (ord : Nat → Nat) (cs : List Nat) (t : Nat) : Int := det t fun a b => A (ord a) (cs.getD b 0)
/-- stairs, up to column col -/
structure St (A : M) (r c col : Nat) (ord : Nat → Nat) (cs : List Nat) (X : M) (sn : Int) : Prop where
  into : ∀ i, i < r → ord i < r
  onto : ∀ i, i < r → ∃ i', i' < r ∧ ord i' = i
  inj : ∀ i j, i < r → j < r → ord i = ord j → i = j
  up : cs.Pairwise (· < ·)
  below : ∀ x, x ∈ cs → x < col
  few : cs.length ≤ r
  led : ∀ t, t ≤ cs.length → L A ord cs t ≠ 0
  rows : ∀ i, i < r → ∀ j, j < c → X i j = B A ord cs (min i cs.length) i j
  zero : ∀ i, cs.length ≤ i → i < r → ∀ j, j < col → j < c → X i j = 0
  zrow : ∀ t, t < cs.length → ∀ j, j < cs.getD t 0 → X t j = 0
  sign : ∀ C : Nat → Nat, sn * (det r fun a b => A (ord a) (C b)) = det r fun a b => A a (C b)
theorem St.start (A : M) (r c : Nat) : St A r c 0 id [] A 1 where
  into := fun i h => h
  onto := fun i h => ⟨i, h, rfl⟩
  inj := fun i j _ _ h => h
  up := .nil
  below := fun x h => by cases h
  few := Nat.zero_le _
  led := fun t h => by
    obtain rfl : t = 0 := Nat.le_zero.mp h
    exact Int.one_ne_zero
  rows := fun i hi j hj => by
    show A i j = B A id [] (min i 0) i j
    rw [Nat.min_zero]
    simp [B, det, S, sg]
  zero := fun i _ _ j h => absurd h (Nat.not_lt_zero _)
  zrow := fun t h => absurd h (Nat.not_lt_zero _)
  sign := fun C => Int.one_mul _
theorem getD_app {cs : List Nat} {x b : Nat} (h : b < cs.length) : (cs ++ [x]).getD b 0 = cs.getD b 0 := by
  rw [List.getD, List.getElem?_append_left h, ← List.getD]
theorem getD_end {cs : List Nat} {x : Nat} : (cs ++ [x]).getD cs.length 0 = x := by
  rw [List.getD, List.getElem?_append_right (Nat.le_refl _), Nat.sub_self]
  rfl
theorem L_app {A : M} {ord : Nat → Nat} {cs : List Nat} {x t : Nat} (h : t ≤ cs.length) : L A ord (cs ++ [x]) t = L A ord cs t :=
  det_congr fun a b _ hb => by
    try dsimp only
    rw [getD_app (by omega)]
theorem B_app {A : M} {ord : Nat → Nat} {cs : List Nat} {x t i j : Nat} (h : t ≤ cs.length) : B A ord (cs ++ [x]) t i j = B A ord cs t i j :=
  det_congr fun a b _ hb => by
    try dsimp only
    by_cases c : b = t
    · rw [if_pos c, if_pos c]
    · rw [if_neg c, if_neg c, getD_app (by omega)]
/-- a leading minor as a bordered one -/
theorem L_B {A : M} {ord : Nat → Nat} {cs : List Nat} {t : Nat} : L A ord cs (t + 1) = B A ord cs t t (cs.getD t 0) :=
  det_congr fun a b _ _ => by
    try dsimp only
    congr 2
    · split
      · rename_i h
        exact h
      · rfl
    · split
      · rename_i h
        rw [h]
      · rfl
theorem St.pass {A : M} {r c col : Nat} {ord : Nat → Nat} {cs : List Nat} {X : M} {sn : Int} (h : St A r c col ord cs X sn) (z : ∀ i, cs.length ≤ i → i < r → X i col = 0) : St A r c (col + 1) ord cs X sn :=
  { h with
    below := fun x hx => Nat.lt_succ_of_lt (h.below x hx)
    zero := fun i h1 h2 j hj hc => by
      by_cases e : j = col
      · rw [e]
        exact z i h1 h2
      · exact h.zero i h1 h2 j (by omega) hc }
/-- two exchanged -/
def sw (p q i : Nat) : Nat := if i = p then q else if i = q then p else i
theorem sw_sw (p q i : Nat) : sw p q (sw p q i) = i := by
  unfold sw
  split
  · split
    · omega
    · rw [if_pos rfl]
      omega
  · split
    · rw [if_pos rfl]
      omega
    · rfl
theorem sw_lt {p q i r : Nat} (hp : p < r) (hq : q < r) (hi : i < r) : sw p q i < r := by
  unfold sw
  split
  · exact hq
  · split
    · exact hp
    · exact hi
theorem det_sw {k p q : Nat} {A : M} (hp : p < k) (hq : q < k) : det k (fun a b => A (sw p q a) b) = (if p = q then 1 else -1) * det k A := by
  by_cases e : p = q
  · rw [if_pos e, Int.one_mul]
    refine det_congr fun a b _ _ => ?_
    congr 1
    unfold sw
    split
    · omega
    · split <;> omega
  · rw [if_neg e]
    have h := det_swap2 (A := A) hp hq e
    rw [show -1 * det k A = - det k A by omega, ← h]
    refine det_congr fun a b _ _ => ?_
    unfold sw put
    by_cases c : a = p
    · rw [if_pos c, if_neg (by omega), if_pos c]
    · rw [if_neg c]
      split
      · rfl
      · first | rfl | rw [if_neg c]
/-- the stairs exchanged: the lead's row comes next -/
theorem St.exch {A : M} {r c col at_ : Nat} {ord : Nat → Nat} {cs : List Nat} {X : M} {sn : Int} (h : St A r c col ord cs X sn) (ha : cs.length ≤ at_) (hr : at_ < r) :
    St A r c col (fun i => ord (sw cs.length at_ i)) cs (fun i => X (sw cs.length at_ i)) ((if cs.length = at_ then 1 else -1) * sn) := by
  have hd : cs.length < r := by omega
  have low : ∀ i, i < cs.length → sw cs.length at_ i = i := fun i hi => by
    unfold sw
    rw [if_neg (by omega), if_neg (by omega)]
  have high : ∀ i, cs.length ≤ i → cs.length ≤ sw cs.length at_ i := fun i hi => by
    unfold sw
    split
    · exact ha
    · split <;> omega
  exact {
    into := fun i hi => h.into _ (sw_lt hd hr hi)
    onto := fun i hi => by
      obtain ⟨i', h1, h2⟩ := h.onto i hi
      exact ⟨sw cs.length at_ i', sw_lt hd hr h1, by rw [sw_sw]; exact h2⟩
    inj := fun i j hi hj e => by
      have := h.inj _ _ (sw_lt hd hr hi) (sw_lt hd hr hj) e
      rw [← sw_sw cs.length at_ i, this, sw_sw]
    up := h.up
    below := h.below
    few := h.few
    led := fun t ht => by
      have e : L A (fun i => ord (sw cs.length at_ i)) cs t = L A ord cs t := det_congr fun a b ha _ => by
        try dsimp only
        rw [low a (by omega)]
      rw [e]
      exact h.led t ht
    rows := fun i hi j hj => by
      try dsimp only
      rw [h.rows _ (sw_lt hd hr hi) j hj]
      by_cases c1 : i < cs.length
      · rw [low i c1]
        refine det_congr fun a b ha _ => ?_
        try dsimp only
        congr 2
        rw [Nat.min_eq_left (by omega)] at ha ⊢
        split
        · rw [low i c1]
        · rw [low a (by omega)]
      · rw [Nat.min_eq_right (high i (by omega)), Nat.min_eq_right (by omega)]
        refine det_congr fun a b ha _ => ?_
        try dsimp only
        congr 2
        split
        · rfl
        · rw [low a (by omega)]
    zero := fun i h1 h2 j hj hc => h.zero _ (high i h1) (sw_lt hd hr h2) j hj hc
    zrow := fun t ht j hj => by
      try dsimp only
      rw [low t ht]
      exact h.zrow t ht j hj
    sign := fun C => by
      rw [det_sw (A := fun a b => A (ord a) (C b)) hd hr, ← h.sign C]
      generalize (det r fun a b => A (ord a) (C b)) = D
      split <;> grind }
/-- the division of a step leaves nothing -/
theorem St.divides {A : M} {r c col : Nat} {ord : Nat → Nat} {cs : List Nat} {X : M} {sn last : Int} (h : St A r c col ord cs X sn) (hc : col < c) (hd : cs.length < r) (lead : X cs.length col ≠ 0)
    (hl : last = L A ord cs cs.length) : ∀ i, cs.length < i → i < r → ∀ j, j < c → X cs.length col * X i j - X i col * X cs.length j = last * B A ord (cs ++ [col]) (cs.length + 1) i j := by
  obtain ⟨d, hdd⟩ : ∃ d, d = cs.length := ⟨_, rfl⟩
  rw [← hdd] at hd lead hl ⊢
  have hl0 : last ≠ 0 := by rw [hl]; exact h.led d (by omega)
  have rowd : ∀ j, j < c → X d j = B A ord cs d d j := fun j hj => by
    rw [h.rows d (by omega) j hj, ← hdd, Nat.min_self]
  intro i hi hr j hj
  obtain ⟨N, hN⟩ : ∃ N : M, N = fun a b => A (ord (if a = d + 1 then i else a)) (if b = d + 1 then j else (cs ++ [col]).getD b 0) := ⟨_, rfl⟩
  have n0 : det d N = last := by
    rw [hl, hN]
    refine det_congr fun a b ha hb => ?_
    try dsimp only
    rw [if_neg (by omega), if_neg (by omega), getD_app (by omega)]
  have bo : ∀ (i1 i2 j1 j2 : Nat), (if i1 = d + 1 then i else i1) = i2 → (if j1 = d + 1 then j else (cs ++ [col]).getD j1 0) = j2 → bord d N i1 j1 = B A ord cs d i2 j2 := by
    intro i1 i2 j1 j2 h1 h2
    unfold bord B
    rw [hN]
    refine det_congr fun a b ha hb => ?_
    try dsimp only
    refine congr (congrArg A (congrArg ord ?_)) ?_
    · by_cases c1 : a = d
      · rw [if_pos c1, if_pos c1]
        exact h1
      · rw [if_neg c1, if_neg c1, if_neg (by omega)]
    · by_cases c1 : b = d
      · rw [if_pos c1, if_pos c1]
        exact h2
      · rw [if_neg c1, if_neg c1, if_neg (by omega), getD_app (by omega)]
  have colE : (if d = d + 1 then j else (cs ++ [col]).getD d 0) = col := by
    rw [if_neg (by omega), hdd]
    exact getD_end
  have b1 := bo d d d col (if_neg (by omega)) colE
  have b2 := bo (d + 1) i (d + 1) j (if_pos rfl) (if_pos rfl)
  have b3 := bo (d + 1) i d col (if_pos rfl) colE
  have b4 := bo d d (d + 1) j (if_neg (by omega)) (if_pos rfl)
  have rowi : ∀ j, j < c → X i j = B A ord cs d i j := fun j hj => by
    rw [h.rows i hr j hj, ← hdd, Nat.min_eq_right (by omega)]
  have s := sylvester (d := d) (N := N) (by rw [n0]; exact hl0) (by rw [b1, ← rowd col hc]; exact lead)
  rw [b1, b2, b3, b4, n0, ← rowd col hc, ← rowd j hj, ← rowi col hc, ← rowi j hj] at s
  rw [s, hN]
  rfl
/-- one step: the lead stands in the next row -/
theorem St.step {A : M} {r c col : Nat} {ord : Nat → Nat} {cs : List Nat} {X X' : M} {sn last : Int} (h : St A r c col ord cs X sn) (hc : col < c) (hd : cs.length < r) (lead : X cs.length col ≠ 0)
    (hl : last = L A ord cs cs.length) (e1 : ∀ i, i ≤ cs.length → ∀ j, j < c → X' i j = X i j)
    (e2 : ∀ i, cs.length < i → i < r → ∀ j, j < c → ∀ q, X cs.length col * X i j - X i col * X cs.length j = last * q → X' i j = q) :
    St A r c (col + 1) ord (cs ++ [col]) X' sn := by
  have dv := h.divides hc hd lead hl
  obtain ⟨d, hdd⟩ : ∃ d, d = cs.length := ⟨_, rfl⟩
  rw [← hdd] at hd lead hl e1 e2 dv
  have hl0 : last ≠ 0 := by rw [hl]; exact h.led d (by omega)
  have len : (cs ++ [col]).length = d + 1 := by rw [List.length_append, hdd]; rfl
  have rowd : ∀ j, j < c → X d j = B A ord cs d d j := fun j hj => by
    rw [h.rows d (by omega) j hj, ← hdd, Nat.min_self]
  have new : ∀ i, d < i → i < r → ∀ j, j < c → X' i j = B A ord (cs ++ [col]) (d + 1) i j := fun i hi hr j hj => e2 i hi hr j hj _ (dv i hi hr j hj)
  exact {
    into := h.into
    onto := h.onto
    inj := h.inj
    up := by
      refine List.pairwise_append.mpr ⟨h.up, List.pairwise_singleton _ _, fun a ha b hb => ?_⟩
      rw [List.mem_singleton.mp hb]
      exact h.below a ha
    below := fun x hx => by
      rcases List.mem_append.mp hx with hx | hx
      · have := h.below x hx
        omega
      · rw [List.mem_singleton.mp hx]
        omega
    few := by rw [len]; omega
    led := fun t ht => by
      rw [len] at ht
      by_cases c1 : t ≤ d
      · rw [L_app (by omega)]
        exact h.led t (by omega)
      · obtain rfl : t = d + 1 := by omega
        have g : (cs ++ [col]).getD d 0 = col := by rw [hdd]; exact getD_end
        rw [L_B, B_app (by omega), g, ← rowd col hc]
        exact lead
    rows := fun i hi j hj => by
      rw [len]
      by_cases c1 : i ≤ d
      · rw [e1 i c1 j hj, h.rows i hi j hj, ← hdd, Nat.min_eq_left c1, Nat.min_eq_left (by omega), B_app (by omega)]
      · rw [Nat.min_eq_right (by omega)]
        exact new i (by omega) hi j hj
    zero := fun i h1 h2 j hj hjc => by
      rw [len] at h1
      by_cases c1 : j = col
      · rw [c1, new i (by omega) h2 col hc]
        unfold B
        rw [← det_tr]
        refine det_twice (p := d) (q := d + 1) (by omega) (by omega) (by omega) fun b _ => ?_
        have g : (cs ++ [col]).getD d 0 = col := by rw [hdd]; exact getD_end
        show A (ord (if b = d + 1 then i else b)) (if d = d + 1 then col else (cs ++ [col]).getD d 0) = A (ord (if b = d + 1 then i else b)) (if d + 1 = d + 1 then col else (cs ++ [col]).getD (d + 1) 0)
        rw [if_pos (rfl : d + 1 = d + 1), if_neg (by omega : ¬ d = d + 1), g]
      · refine e2 i (by omega) h2 j hjc 0 ?_
        rw [h.zero i (by omega) h2 j (by omega) hjc, h.zero d (by omega) hd j (by omega) hjc, Int.mul_zero, Int.mul_zero, Int.mul_zero]
        rfl
    zrow := fun t ht j hj => by
      rw [len] at ht
      by_cases c1 : t < d
      · rw [getD_app (by omega)] at hj
        have hx : cs.getD t 0 < col := by
          refine h.below _ ?_
          rw [List.getD, List.getElem?_eq_getElem (by omega)]
          exact List.getElem_mem _
        rw [e1 t (by omega) j (by omega)]
        exact h.zrow t (by omega) j hj
      · obtain rfl : t = d := by omega
        have g : (cs ++ [col]).getD t 0 = col := by rw [hdd]; exact getD_end
        rw [g] at hj
        rw [e1 t (Nat.le_refl _) j (by omega)]
        exact h.zero t (by omega) hd j hj (by omega)
    sign := h.sign }
end DT
namespace DT
theorem St.congr {A : M} {r c col : Nat} {ord : Nat → Nat} {cs : List Nat} {X X' : M} {sn : Int} (h : St A r c col ord cs X sn) (hc : col ≤ c) (e : ∀ i, i < r → ∀ j, j < c → X' i j = X i j) : St A r c col ord cs X' sn :=
  { h with
    rows := fun i hi j hj => by rw [e i hi j hj]; exact h.rows i hi j hj
    zero := fun i h1 h2 j hj hjc => by rw [e i h2 j hjc]; exact h.zero i h1 h2 j hj hjc
    zrow := fun t ht j hj => by
      have : cs.getD t 0 < col := by
        refine h.below _ ?_
        rw [List.getD, List.getElem?_eq_getElem ht]
        exact List.getElem_mem _
      have f := h.few
      rw [e t (by omega) j (by omega)]
      exact h.zrow t ht j hj }
theorem L_exch {A : M} {ord : Nat → Nat} {cs : List Nat} {p q t : Nat} (hp : t ≤ p) (hq : t ≤ q) : L A (fun i => ord (sw p q i)) cs t = L A ord cs t := det_congr fun a b ha _ => by
  have : sw p q a = a := by
    unfold sw
    rw [if_neg (by omega), if_neg (by omega)]
  show A (ord (sw p q a)) _ = _
  rw [this]
theorem St.piv {A : M} {r c col t : Nat} {ord : Nat → Nat} {cs : List Nat} {X : M} {sn : Int} (h : St A r c col ord cs X sn) (hc : col ≤ c) (ht : t < cs.length) : X t (cs.getD t 0) = L A ord cs (t + 1) := by
  have : cs.getD t 0 < col := by
    refine h.below _ ?_
    rw [List.getD, List.getElem?_eq_getElem ht]
    exact List.getElem_mem _
  have f := h.few
  rw [h.rows t (by omega) _ (by omega), Nat.min_eq_left (by omega), L_B]
end DT

set_option linter.all false
namespace DT
theorem det_scale (p : Int) : ∀ (k : Nat) (A : M), det k (fun a b => p * A a b) = p ^ k * det k A
  | 0, _ => by
    show (1 : Int) = p ^ 0 * 1
    rw [Int.pow_zero]
    rfl
  | k + 1, A => by
    show S (k + 1) _ = _ * S (k + 1) _
    rw [← S_mul]
    refine S_congr fun i hi => ?_
    rw [det_scale p k]
    generalize det k _ = D
    rw [Int.pow_succ]
    generalize p ^ k = P
    generalize sg i = s
    grind
/-- more places than values -/
theorem twice_of {k d : Nat} {R : Nat → Nat} (hd : d < k) (hR : ∀ a, a < k → R a < d) : ∃ a b, a < k ∧ b < k ∧ a ≠ b ∧ R a = R b := by
  by_cases h : ∃ a b, a < k ∧ b < k ∧ a ≠ b ∧ R a = R b
  · exact h
  exfalso
  have nd : ((List.range k).map R).Nodup := by
    rw [List.Nodup, List.pairwise_map]
    refine List.Pairwise.imp_of_mem ?_ (List.pairwise_lt_range (n := k))
    intro a b ha hb lt e
    exact h ⟨a, b, List.mem_range.mp ha, List.mem_range.mp hb, by omega, e⟩
  have := nd.length_le_of_subset (l₂ := List.range d) fun x hx => by
    obtain ⟨a, ha, rfl⟩ := List.mem_map.mp hx
    exact List.mem_range.mpr (hR a (List.mem_range.mp ha))
  rw [List.length_map, List.length_range, List.length_range] at this
  omega
theorem P_few {r c k : Nat} {A : M} (h : r < k) : P 0 r c k A 0 := by
  intro j jk R C hR hC
  by_cases e : j = k
  · subst e
    obtain ⟨a, b, ha, hb, ne, eq⟩ := twice_of h hR
    rw [det_twice ha hb ne fun x _ => by rw [eq], Int.mul_zero]
    exact Int.dvd_zero _
  · rw [Int.zero_pow (by omega), Int.zero_mul]
    exact Int.dvd_zero _
theorem B_comb (A : M) (ord : Nat → Nat) (cs : List Nat) (t i : Nat) : ∃ κ : Nat → Int, ∀ j, B A ord cs t i j = L A ord cs t * A (ord i) j + S t fun s => κ s * A (ord s) j := by
  obtain ⟨κ, h⟩ := det_last t fun a b => A (ord (if a = t then i else a)) (cs.getD b 0)
  refine ⟨κ, fun j => ?_⟩
  have e := h fun a => A (ord (if a = t then i else a)) j
  rw [if_pos rfl] at e
  rw [det_congr (k := t) (B := fun a b => A (ord a) (cs.getD b 0)) fun a b ha _ => by rw [if_neg (by omega)]] at e
  rw [S_congr (f := fun s => κ s * A (ord s) j) (g := fun s => κ s * A (ord (if s = t then i else s)) j) fun s hs => by rw [if_neg (by omega)]]
  show _ = (det t fun a b => A (ord a) (cs.getD b 0)) * A (ord i) j + _
  rw [← e]
  unfold B
  refine det_congr fun a b _ _ => ?_
  by_cases c1 : b = t
  · rw [if_pos c1, if_pos c1]
  · rw [if_neg c1, if_neg c1]
theorem St.col {A : M} {r c : Nat} {ord : Nat → Nat} {cs : List Nat} {X : M} {sn : Int} (h : St A r c c ord cs X sn) {t : Nat} (ht : t < cs.length) : cs.getD t 0 < c := by
  refine h.below _ ?_
  rw [List.getD, List.getElem?_eq_getElem ht]
  exact List.getElem_mem _
/-- more rows than stairs: nothing -/
theorem St.none_ {A : M} {r c k : Nat} {ord : Nat → Nat} {cs : List Nat} {X : M} {sn : Int} (h : St A r c c ord cs X sn) (hk : cs.length < k) {R C : Nat → Nat} (hR : ∀ a, a < k → R a < r) (hC : ∀ a, a < k → C a < c) :
    det k (fun a b => A (R a) (C b)) = 0 := by
  obtain ⟨p, hp⟩ : ∃ p, p = L A ord cs cs.length := ⟨_, rfl⟩
  have p0 : p ≠ 0 := by rw [hp]; exact h.led _ (Nat.le_refl _)
  have comb : ∀ i, ∃ κ : Nat → Int, i < r → ∀ j, j < c → p * A i j = S cs.length fun t => κ t * A (ord t) j := by
    intro i
    by_cases hi : i < r
    case neg => exact ⟨fun _ => 0, fun h => absurd h hi⟩
    obtain ⟨i', hi', rfl⟩ := h.onto i hi
    by_cases c1 : i' < cs.length
    · refine ⟨fun t => if t = i' then p else 0, fun _ j hj => ?_⟩
      rw [S_one (p := i') c1 fun t ht ne => by
        show (if t = i' then p else 0) * A (ord t) j = 0
        rw [if_neg ne, Int.zero_mul]]
      show _ = (if i' = i' then p else 0) * A (ord i') j
      rw [if_pos rfl]
    · obtain ⟨κ, hκ⟩ := B_comb A ord cs cs.length i'
      refine ⟨fun t => - κ t, fun _ j hj => ?_⟩
      have e := hκ j
      have z := h.zero i' (by omega) hi' j hj hj
      rw [h.rows i' hi' j hj, Nat.min_eq_right (by omega)] at z
      rw [z, ← hp] at e
      rw [S_congr (g := fun t => - (κ t * A (ord t) j)) fun t _ => by rw [Int.neg_mul], S_neg]
      omega
  obtain ⟨T, hT⟩ : ∃ T : Nat → Nat → Int, ∀ i, i < r → ∀ j, j < c → p * A i j = S cs.length fun t => T i t * A (ord t) j :=
    ⟨fun i => Classical.choose (comb i), fun i => Classical.choose_spec (comb i)⟩
  have q := P_combo (b := 0) (r := cs.length) (r' := r) (c := c) (k := k) (A := fun t j => A (ord t) j) (A' := fun i j => p * A i j) (g := 0) T (fun _ _ => 0)
    (fun i hi j hj => by rw [hT i hi j hj, Int.zero_mul, Int.add_zero]) (P_few hk) k (Nat.le_refl _) R C hR hC
  rw [Nat.sub_self, Int.pow_zero, Int.one_mul, det_scale p k fun a b => A (R a) (C b)] at q
  rcases Int.mul_eq_zero.mp (Int.zero_dvd.mp q) with z | z
  · exact absurd z (Int.pow_ne_zero p0)
  · exact z
/-- one number less in the last column's rows: nothing -/
theorem det_wide {A : M} {r m : Nat} (h : ∀ R : Nat → Nat, (∀ a, a < m → R a < r) → det m (fun a b => A (R a) b) = 0) : ∀ (e : Nat) (R : Nat → Nat), (∀ a, a < m + e → R a < r) → det (m + e) (fun a b => A (R a) b) = 0
  | 0, R, hR => h R hR
  | e + 1, R, hR => by
    show det (m + e + 1) _ = 0
    rw [← det_tr, det_rowm (m := m + e) (by omega), S_zero, Int.mul_zero]
    intro i hi
    rw [det_congr (B := fun a b => A (R (sk i b)) a) fun a b ha hb => by
      try dsimp only
      rw [show sk (m + e) a = a from if_pos ha]]
    rw [det_tr (m + e) fun b a => A (R (sk i b)) a, det_wide h e (fun b => R (sk i b)) fun a ha => hR _ (sk_lt ha), Int.mul_zero]
/-- a square table of full stairs -/
theorem asc_id : ∀ (cs : List Nat) (lo : Nat), cs.Pairwise (· < ·) → (∀ x ∈ cs, lo ≤ x ∧ x < lo + cs.length) → ∀ t, t < cs.length → cs.getD t 0 = lo + t
  | [], _, _, _, t, h => absurd h (by simp)
  | x :: r, lo, p, h, t, ht => by
    have p' := List.pairwise_cons.mp p
    have hx := h x List.mem_cons_self
    have xl : x = lo := by
      by_cases e : x = lo
      · exact e
      exfalso
      have nd : r.Nodup := p'.2.imp fun h => by omega
      have := nd.length_le_of_subset (l₂ := (List.range (r.length - 1)).map (x + 1 + ·)) fun y hy => by
        have h1 := p'.1 y hy
        have h2 := h y (List.mem_cons_of_mem _ hy)
        rw [List.length_cons] at h2
        exact List.mem_map.mpr ⟨y - (x + 1), List.mem_range.mpr (by omega), by omega⟩
      rw [List.length_map, List.length_range] at this
      cases r with
      | nil =>
        rw [List.length_cons, List.length_nil] at hx
        omega
      | cons y r =>
        rw [List.length_cons] at this
        omega
    subst xl
    cases t with
    | zero => rfl
    | succ t =>
      show r.getD t 0 = _
      rw [asc_id r (x + 1) p'.2 (fun y hy => ⟨p'.1 y hy, by have := (h y (List.mem_cons_of_mem _ hy)).2; rw [List.length_cons] at this; omega⟩) t (by rw [List.length_cons] at ht; omega)]
      omega
theorem St.full {A : M} {r : Nat} {ord : Nat → Nat} {cs : List Nat} {X : M} {sn : Int} (h : St A r r r ord cs X sn) (hr : 0 < r) : (if cs.length = r then sn * X (r - 1) (r - 1) else 0) = det r A := by
  split
  · rename_i e
    have id := asc_id cs 0 h.up fun x hx => ⟨Nat.zero_le _, by have := h.below x hx; omega⟩
    rw [h.rows (r - 1) (by omega) (r - 1) (by omega), Nat.min_eq_left (by omega)]
    have s := h.sign fun b => b
    rw [← s]
    congr 1
    obtain ⟨q, rfl⟩ : ∃ q, r = q + 1 := ⟨r - 1, by omega⟩
    refine det_congr fun a b ha hb => ?_
    try dsimp only
    rw [Nat.add_sub_cancel]
    congr 2
    · split <;> omega
    · split
      · omega
      · rw [id b (by omega)]
        omega
  · rename_i e
    have f := h.few
    exact (h.none_ (k := r) (by omega) (R := fun a => a) (C := fun a => a) (fun a h => h) fun a h => h).symm
/-- what the stairs lead to zero -/
theorem St.cramer {A : M} {r c f : Nat} {ord : Nat → Nat} {cs : List Nat} {X : M} {sn : Int} (h : St A r c c ord cs X sn) (hf : f < c) (nf : f ∉ cs) :
    ∃ x : Nat → Int, x f = L A ord cs cs.length ∧ (∀ j, j ≠ f → j ∉ cs → x j = 0) ∧ (∀ i, i < r → S c (fun j => A i j * x j) = 0) ∧ (∀ t, t < cs.length → S c (fun j => X t j * x j) = 0) ∧
      ∀ e, cs.length ≤ 8 → (∀ i j, i < r → j < c → (A i j).natAbs < 2 ^ e) → ∀ j, (x j).natAbs ≤ (cs.length + 1) * 2 ^ (cs.length * (e + 3)) := by
  obtain ⟨d, hd⟩ : ∃ d, d = cs.length := ⟨_, rfl⟩
  obtain ⟨C, hC⟩ : ∃ C : Nat → Nat, C = fun t => (cs ++ [f]).getD t 0 := ⟨_, rfl⟩
  have Cd : C d = f := by rw [hC, hd]; exact getD_end
  have Ct : ∀ t, t < d → C t = cs.getD t 0 := fun t ht => by rw [hC]; exact getD_app (by omega)
  have Cin : ∀ t, t < d → C t ∈ cs := fun t ht => by
    rw [Ct t ht, List.getD, List.getElem?_eq_getElem (by omega)]
    exact List.getElem_mem _
  have Clt : ∀ t, t < d + 1 → C t < c := fun t ht => by
    by_cases e : t = d
    · rw [e, Cd]
      exact hf
    · exact h.below _ (Cin t (by omega))
  obtain ⟨m, hm⟩ : ∃ m : Nat → Int, ∀ t, m t = sg d * sg t * det d fun a b => A (ord a) (C (sk t b)) := ⟨_, fun _ => rfl⟩
  obtain ⟨x, hx⟩ : ∃ x : Nat → Int, ∀ j, x j = S (d + 1) fun t => if j = C t then m t else 0 := ⟨_, fun _ => rfl⟩
  have sum : ∀ w : Nat → Int, S c (fun j => w j * x j) = sg d * det (d + 1) fun a b => if a = 0 then w (C b) else A (ord (a - 1)) (C b) := by
    intro w
    rw [S_congr (g := fun j => S (d + 1) fun t => w j * (if j = C t then m t else 0)) fun j _ => by rw [hx, S_mul], S_comm, det_row, ← S_mul]
    refine S_congr fun t ht => ?_
    rw [S_one (p := C t) (Clt t ht) fun j hj ne => by rw [if_neg ne, Int.mul_zero], if_pos rfl, if_pos rfl, hm]
    rw [det_congr (B := fun a b => A (ord a) (C (sk t b))) fun a b _ _ => rfl]
    show w (C t) * (sg d * sg t * det d fun a b => A (ord a) (C (sk t b))) = sg d * (sg t * w (C t) * det d fun a b => A (ord a) (C (sk t b)))
    generalize (det d fun a b => A (ord a) (C (sk t b))) = D
    generalize sg d = s
    generalize sg t = u
    grind
  have rowz : ∀ i, i < r → S c (fun j => A i j * x j) = 0 := by
    intro i hi
    rw [sum, det_congr (B := fun a b => A (if a = 0 then i else ord (a - 1)) (C b)) fun a b _ _ => by
      try dsimp only
      split <;> rfl]
    rw [h.none_ (k := d + 1) (R := fun a => if a = 0 then i else ord (a - 1)) (C := C) (by omega) (fun a ha => by
      try dsimp only
      split
      · exact hi
      · exact h.into _ (by have := h.few; omega)) Clt, Int.mul_zero]
  refine ⟨x, ?_, ?_, rowz, fun t ht => ?_, fun e h8 hb j => ?_⟩
  · rw [hx, S_one (p := d) (by omega) fun t ht ne => if_neg fun z => nf (by rw [z]; exact Cin t (by omega)), if_pos Cd.symm, hm, sg_sq, Int.one_mul, ← hd]
    refine det_congr fun a b _ hb => ?_
    try dsimp only
    rw [show sk d b = b from if_pos hb, Ct b hb]
  · intro j jf jn
    rw [hx]
    refine S_zero fun t ht => if_neg fun z => ?_
    by_cases e : t = d
    · rw [e, Cd] at z
      exact jf z
    · exact jn (by rw [z]; exact Cin t (by omega))
  · have few := h.few
    obtain ⟨κ, hκ⟩ := B_comb A ord cs t t
    rw [S_congr (g := fun j => L A ord cs t * (A (ord t) j * x j) + S t fun s => κ s * (A (ord s) j * x j)) fun j hj => ?_, S_add, S_mul, rowz _ (h.into t (by omega)), Int.mul_zero, Int.zero_add, S_comm]
    · refine S_zero fun s hs => ?_
      rw [S_mul, rowz _ (h.into s (by omega)), Int.mul_zero]
    · rw [h.rows t (by omega) j hj, Nat.min_eq_left (by omega), hκ j, Int.add_mul, Int.mul_assoc]
      congr 1
      rw [Int.mul_comm, ← S_mul]
      refine S_congr fun s _ => ?_
      rw [Int.mul_comm (x j), Int.mul_assoc]
  · rw [hx, ← hd]
    refine S_bound fun t ht => ?_
    try dsimp only
    split
    · have few := h.few
      have b := det_bound (k := d) (e := e) (A := fun a b => A (ord a) (C (sk t b))) (by omega) fun a b ha hb2 => hb _ _ (h.into a (by omega)) (Clt _ (sk_lt hb2))
      rw [hm, Int.natAbs_mul, Int.natAbs_mul]
      have s1 : ∀ i, (sg i).natAbs = 1 := fun i => by rcases sg_two i with z | z <;> rw [z] <;> rfl
      rw [s1, s1, Nat.one_mul]
      try rw [Nat.one_mul]
      exact b
    · exact Nat.zero_le _
end DT
namespace DT
theorem St.narrow {A : M} {r c c' col : Nat} {ord : Nat → Nat} {cs : List Nat} {X : M} {sn : Int} (h : St A r c col ord cs X sn) (l : c' ≤ c) : St A r c' col ord cs X sn :=
  { h with
    rows := fun i hi j hj => h.rows i hi j (by omega)
    zero := fun i h1 h2 j hj hc => h.zero i h1 h2 j hj (by omega) }
/-- a column without a lead -/
theorem St.col_zero {A : M} {r col : Nat} {ord : Nat → Nat} {cs : List Nat} {X : M} {sn : Int} (h : St A r r col ord cs X sn) (e : cs.length = col) (hc : col < r) (z : ∀ i, col ≤ i → i < r → X i col = 0) : det r A = 0 := by
  have p := (h.pass fun i h1 h2 => z i (by omega) h2).narrow (c' := col + 1) (by omega)
  have w := det_wide (A := A) (r := r) (m := col + 1) (fun R hR => p.none_ (k := col + 1) (by omega) hR (C := fun b => b) fun a ha => ha) (r - (col + 1)) (fun a => a) fun a ha => by omega
  rw [show col + 1 + (r - (col + 1)) = r by omega] at w
  exact w
end DT
namespace DT
/-- nothing behind the free column -/
theorem St.after {A : M} {r c f : Nat} {ord : Nat → Nat} {cs : List Nat} {X : M} {sn : Int} (h : St A r c c ord cs X sn) {x : Nat → Int} (z : ∀ j, j ≠ f → j ∉ cs → x j = 0)
    (e : ∀ t, t < cs.length → S c (fun j => X t j * x j) = 0) : ∀ (n j : Nat), j + n = c → f < j → x j = 0 ∨ j = c
  | 0, j, hj, _ => .inr (by omega)
  | n + 1, j, hj, hf => by
    left
    by_cases m : j ∈ cs
    · obtain ⟨t, ht, et⟩ := List.mem_iff_getElem.mp m
      have gt : cs.getD t 0 = j := by
        rw [List.getD, List.getElem?_eq_getElem ht]
        exact et
      have s := e t ht
      have later : ∀ n' j', j' + n' = c → j < j' → n' ≤ n → x j' = 0 ∨ j' = c := fun n' j' h1 h2 h3 => h.after z e n' j' h1 (by omega)
      rw [S_one (p := j) (by omega) fun i hi ne => ?_] at s
      · rcases Int.mul_eq_zero.mp s with s | s
        · have pv := h.piv (Nat.le_refl _) ht
          rw [gt, s] at pv
          exact absurd pv.symm (h.led _ (by omega))
        · exact s
      · rcases Nat.lt_or_gt_of_ne ne with l | l
        · rw [h.zrow t ht i (by omega), Int.zero_mul]
        · rcases later (c - i) i (by omega) l (by omega) with q | q
          · rw [q, Int.mul_zero]
          · omega
    · exact z j (by omega) m
termination_by n => n
end DT

set_option linter.all false
namespace DT
theorem getD_map_range {k a : Nat} {R : Nat → Nat} (h : a < k) : ((List.range k).map R).getD a 0 = R a := by
  rw [List.getD, List.getElem?_map, List.getElem?_range h]
  rfl
/-- rows in another order -/
theorem det_perm (A : M) {l m : List Nat} (p : l.Perm m) : ∃ s : Int, (s = 1 ∨ s = -1) ∧ ∀ C : Nat → Nat, det l.length (fun a b => A (l.getD a 0) (C b)) = s * det l.length fun a b => A (m.getD a 0) (C b) := by
  induction p with
  | nil => exact ⟨1, .inl rfl, fun C => by rw [Int.one_mul]⟩
  | @cons x l m p ih =>
    obtain ⟨s, hs, h⟩ := ih
    refine ⟨s, hs, fun C => ?_⟩
    show det (l.length + 1) _ = s * det (l.length + 1) _
    rw [det_row, det_row, ← S_mul]
    refine S_congr fun j hj => ?_
    have e := h fun b => C (sk j b)
    show sg j * A x (C j) * (det l.length fun a b => A (l.getD a 0) (C (sk j b))) = s * (sg j * A x (C j) * det l.length fun a b => A (m.getD a 0) (C (sk j b)))
    rw [e]
    generalize (det l.length fun a b => A (m.getD a 0) (C (sk j b))) = D
    grind
  | swap x y l =>
    refine ⟨-1, .inr rfl, fun C => ?_⟩
    have e := det_swapf (k := l.length + 2) (p := 0) (A := fun a b => A ((x :: y :: l).getD a 0) (C b)) (by omega)
    show det (l.length + 2) _ = -1 * det (l.length + 2) _
    rw [show -1 * (det (l.length + 2) fun a b => A ((x :: y :: l).getD a 0) (C b)) = - det (l.length + 2) fun a b => A ((x :: y :: l).getD a 0) (C b) by omega, ← e]
    refine det_congr fun a b _ _ => ?_
    congr 1
    match a with
    | 0 => rfl
    | 1 => rfl
    | a + 2 => rfl
  | trans p q h1 h2 =>
    obtain ⟨s, hs, h⟩ := h1
    obtain ⟨u, hu, g⟩ := h2
    refine ⟨s * u, by rcases hs with rfl | rfl <;> rcases hu with rfl | rfl <;> simp, fun C => ?_⟩
    rw [h C, p.length_eq, g C, Int.mul_assoc]
/-- ascending lists of k numbers below n -/
def Asc (n k : Nat) (l : List Nat) : Prop := l.length = k ∧ l.Pairwise (· < ·) ∧ ∀ x ∈ l, x < n
theorem sort_rows {A : M} {r k : Nat} {R : Nat → Nat} (hR : ∀ a, a < k → R a < r) : (∀ C : Nat → Nat, det k (fun a b => A (R a) (C b)) = 0) ∨
    ∃ l, Asc r k l ∧ ∃ s : Int, (s = 1 ∨ s = -1) ∧ ∀ C : Nat → Nat, det k (fun a b => A (R a) (C b)) = s * det k fun a b => A (l.getD a 0) (C b) := by
  by_cases tw : ∃ a b, a < k ∧ b < k ∧ a ≠ b ∧ R a = R b
  · obtain ⟨a, b, ha, hb, ne, e⟩ := tw
    exact .inl fun C => det_twice ha hb ne fun x _ => by rw [e]
  obtain ⟨m, hm⟩ : ∃ m, m = (List.range k).map R := ⟨_, rfl⟩
  have p := List.mergeSort_perm m (fun a b => decide (a ≤ b))
  have so := List.pairwise_mergeSort (le := fun a b : Nat => decide (a ≤ b)) (fun a b c h1 h2 => decide_eq_true (Nat.le_trans (of_decide_eq_true h1) (of_decide_eq_true h2)))
    (fun a b => by
      rw [Bool.or_eq_true, decide_eq_true_eq, decide_eq_true_eq]
      exact Nat.le_total a b) m
  generalize m.mergeSort (fun a b => decide (a ≤ b)) = l at p so
  have lm : m.length = k := by rw [hm, List.length_map, List.length_range]
  have ll : l.length = k := p.length_eq.trans lm
  have nd : l.Nodup := p.symm.nodup (by
    rw [hm, List.Nodup, List.pairwise_map]
    refine List.Pairwise.imp_of_mem ?_ (List.pairwise_lt_range (n := k))
    intro a b ha hb lt e
    exact tw ⟨a, b, List.mem_range.mp ha, List.mem_range.mp hb, by omega, e⟩)
  refine .inr ⟨l, ⟨ll, ?_, fun x hx => ?_⟩, ?_⟩
  · refine (List.Pairwise.and so nd).imp fun {a b} h => ?_
    have := of_decide_eq_true h.1
    have h2 : a ≠ b := h.2
    omega
  · have := p.mem_iff.mp hx
    rw [hm] at this
    obtain ⟨a, ha, rfl⟩ := List.mem_map.mp this
    exact hR a (List.mem_range.mp ha)
  · obtain ⟨s, hs, h⟩ := det_perm A p.symm
    rw [lm] at h
    refine ⟨s, hs, fun C => ?_⟩
    rw [← h C]
    refine det_congr fun a b ha _ => ?_
    try dsimp only
    rw [hm, getD_map_range ha]
theorem dvd_sign {g s x : Int} (hs : s = 1 ∨ s = -1) (h : g ∣ x) : g ∣ s * x := by
  rcases hs with rfl | rfl
  · rwa [Int.one_mul]
  · rw [show -1 * x = -x by omega]
    exact Int.dvd_neg.mpr h
/-- ascending choices suffice -/
theorem P_asc {A : M} {r c k : Nat} {g : Int} (h : ∀ l m, Asc r k l → Asc c k m → g ∣ det k fun a b => A (l.getD a 0) (m.getD b 0)) : P 0 r c k A g := by
  intro j jk R C hR hC
  by_cases e : j = k
  · subst e
    rw [Nat.sub_self, Int.pow_zero, Int.one_mul]
    rcases sort_rows (A := A) hR with z | ⟨l, al, s, hs, e1⟩
    · rw [z C]
      exact Int.dvd_zero _
    · rw [e1 C]
      refine dvd_sign hs ?_
      rw [← det_tr]
      rcases sort_rows (A := fun b a => A a b) hC with z | ⟨m, am, u, hu, e2⟩
      · rw [z fun a => l.getD a 0]
        exact Int.dvd_zero _
      · rw [e2 fun a => l.getD a 0]
        refine dvd_sign hu ?_
        rw [det_tr j fun a b => A (l.getD a 0) (m.getD b 0)]
        exact h l m al am
  · rw [Int.zero_pow (by omega), Int.zero_mul]
    exact Int.dvd_zero _
theorem asc_lt {n k a : Nat} {l : List Nat} (h : Asc n k l) (ha : a < k) : l.getD a 0 < n := by
  refine h.2.2 _ ?_
  rw [List.getD, List.getElem?_eq_getElem (by rw [h.1]; exact ha)]
  exact List.getElem_mem _
theorem Ch_asc {A : M} {r c k G : Nat} (h : ∀ g : Nat, g ∣ G ↔ ∀ l m, Asc r k l → Asc c k m → (g : Int) ∣ det k fun a b => A (l.getD a 0) (m.getD b 0)) : Ch 0 r c k A G := by
  intro g
  rw [h g]
  refine ⟨fun p l m al am => ?_, P_asc⟩
  have := p k (Nat.le_refl _) (fun a => l.getD a 0) (fun a => m.getD a 0) (fun a ha => asc_lt al ha) (fun a ha => asc_lt am ha)
  rw [Nat.sub_self, Int.pow_zero, Int.one_mul] at this
  exact this
theorem Ch_unique {b : Int} {r c k E E' : Nat} {A : M} (h : Ch b r c k A E) (h' : Ch b r c k A E') : E = E' :=
  Nat.dvd_antisymm ((h' E).mp ((h E).mpr (Nat.dvd_refl _))) ((h E').mp ((h' E').mpr (Nat.dvd_refl _)))
theorem Ch_minor {A : M} {r c k G : Nat} (h : Ch 0 r c k A G) {R C : Nat → Nat} (hR : ∀ a, a < k → R a < r) (hC : ∀ a, a < k → C a < c) : (G : Int) ∣ det k fun a b => A (R a) (C b) := by
  have := (h G).mpr (Nat.dvd_refl _) k (Nat.le_refl _) R C hR hC
  rw [Nat.sub_self, Int.pow_zero, Int.one_mul] at this
  exact this
theorem Ch_next {A : M} {r c k G H : Nat} (h : Ch 0 r c k A G) (h' : Ch 0 r c (k + 1) A H) : G ∣ H := by
  refine (h' G).mp (P_asc fun l m al am => ?_)
  rw [det_row]
  refine S_dvd fun j hj => dvdL _ ?_
  exact Ch_minor h (fun a ha => asc_lt al (by omega)) fun a ha => asc_lt am (sk_lt ha)
/-- with a bound that all of them divide -/
theorem Ch_bound {A : M} {r c b K : Nat} {D : Nat → Nat} (h : ∀ k, k ≤ K → Ch 0 r c k A (D k)) (d : D K ∣ b) : ∀ k, k ≤ K → Ch b r c k A (D k) := by
  have up : ∀ e k, k + e ≤ K → D k ∣ D (k + e) := by
    intro e
    induction e with
    | zero => exact fun k _ => Nat.dvd_refl _
    | succ e ih => exact fun k hk => Nat.dvd_trans (ih k (by omega)) (Ch_next (h (k + e) (by omega)) (h (k + e + 1) hk))
  have toK : ∀ k, k ≤ K → D k ∣ b := fun k hk => by
    have := up (K - k) k (by omega)
    rw [show k + (K - k) = K by omega] at this
    exact Nat.dvd_trans this d
  have pw : ∀ e j, j + e ≤ K → D (j + e) ∣ b ^ e * D j := by
    intro e
    induction e with
    | zero => exact fun j _ => by rw [Nat.pow_zero, Nat.one_mul]; exact Nat.dvd_refl _
    | succ e ih =>
      intro j hj
      have h1 := ih j (by omega)
      have h2 : D (j + e + 1) ∣ b * D (j + e) := Nat.dvd_trans (toK _ (by omega)) ⟨D (j + e), rfl⟩
      refine Nat.dvd_trans h2 ?_
      rw [Nat.pow_succ, Nat.mul_comm (b ^ e) b, Nat.mul_assoc]
      exact Nat.mul_dvd_mul (Nat.dvd_refl _) h1
  intro k hk g
  constructor
  · intro p
    refine (h k hk g).mp fun j jk R C hR hC => ?_
    by_cases e : j = k
    · subst e
      have := p j (Nat.le_refl _) R C hR hC
      rw [Nat.sub_self, Int.pow_zero] at this ⊢
      exact this
    · rw [Int.zero_pow (by omega), Int.zero_mul]
      exact Int.dvd_zero _
  · intro hg j jk R C hR hC
    have m := Ch_minor (h j (by omega)) hR hC
    have q := pw (k - j) j (by omega)
    rw [show j + (k - j) = k by omega] at q
    have z : (g : Int) ∣ (b : Int) ^ (k - j) * (D j : Int) := by
      have := Nat.dvd_trans hg q
      have e : ((b ^ (k - j) * D j : Nat) : Int) = (b : Int) ^ (k - j) * (D j : Int) := by
        rw [Int.natCast_mul, Int.natCast_pow]
      rw [← e]
      exact Int.ofNat_dvd.mpr this
    exact Int.dvd_trans z (Int.mul_dvd_mul (Int.dvd_refl _) m)
/-- the exchange of two members for their greatest common divisor and least common multiple -/
theorem F_set2 {b : Nat} : ∀ (l : List Nat) (i j : Nat), i < j → j < l.length → ∀ k, F b ((l.set i (Nat.gcd (l.getD i 0) (l.getD j 0))).set j (Nat.lcm (l.getD i 0) (l.getD j 0))) k = F b l k
  | [], _, _, _, h, _ => absurd h (by simp)
  | [x], i, j, h1, h2, _ => absurd h2 (by simp; omega)
  | x :: y :: l, 0, 1, _, _, k => (F_lcm b x y l k).symm
  | x :: y :: l, 0, j + 2, _, h, k => by
    have ih := F_set2 (b := b) (x :: l) 0 (j + 1) (by omega) (by simp at h ⊢; omega)
    show F b (Nat.gcd x (l.getD j 0) :: y :: l.set j (Nat.lcm x (l.getD j 0))) k = _
    rw [F_swap, F_swap b x y]
    exact F_cons ih k
  | x :: l, i + 1, j + 1, h1, h2, k => F_cons (F_set2 l i j (by omega) (by simp at h2; omega)) k
  | x :: l, i + 1, 0, h1, _, _ => absurd h1 (by omega)
  | x :: l, 0, 0, h1, _, _ => absurd h1 (by omega)
/-- the quotients of the greatest common divisors of minors -/
theorem quot {A : M} {r c b K : Nat} {D : Nat → Nat} {ss : List Nat} (h : ∀ k, k ≤ K → Ch 0 r c k A (D k)) (d : D K ∣ b) (f : ∀ k, Ch b r c k A (F b ss k)) (ch : Chain ss) (sb : ∀ t ∈ ss, t ∣ b) (hK : K ≤ ss.length)
    (pos : ∀ k, k ≤ K → 0 < D k) : ∀ k, k < K → ss.getD k 0 = D (k + 1) / D k := by
  intro k hk
  have q := Ch_bound h d
  have e1 := Ch_unique (f k) (q k (by omega))
  have e2 := Ch_unique (f (k + 1)) (q (k + 1) (by omega))
  rw [F_chain ss ch sb k (by omega)] at e1
  rw [F_chain ss ch sb (k + 1) (by omega)] at e2
  have hx : ss[k]? = some (ss.getD k 0) := by
    rw [List.getD, List.getElem?_eq_getElem (by omega)]
    rfl
  have pr : ∀ (l : List Nat) (x : Nat), (l ++ [x]).foldr (· * ·) 1 = l.foldr (· * ·) 1 * x := by
    intro l x
    induction l with
    | nil => simp
    | cons y l ih =>
      rw [List.cons_append, List.foldr_cons, ih, List.foldr_cons, Nat.mul_assoc]
  rw [List.take_add_one, hx] at e2
  have e3 := pr (ss.take k) (ss.getD k 0)
  rw [show (some (ss.getD k 0)).toList = [ss.getD k 0] from rfl, e3, e1] at e2
  rw [← e2, Nat.mul_div_cancel_left _ (pos k (by omega))]
end DT

set_option Elab.async false
set_option linter.all false
set_option maxRecDepth 100000
set_option maxHeartbeats 2000000
namespace K02
open PySem PySem.Spec PyProof.Rows L2 MM
theorem same_sql {K : PySem.W.Frag} {H H' : Hp} {a : Addr} {xs : List V} (s : Same H H') (h : SqL K H a xs) : SqL K H' a xs := by
  rcases h with (h | ⟨o, h⟩) | h
  · exact .inl (.inl (s _ _ h))
  · exact .inl (.inr ⟨o, s _ _ h⟩)
  · exact .inr h
theorem lst_sql {K : PySem.W.Frag} {H : Hp} {a : Addr} {xs : List V} (h : H a = some (.lst xs)) : SqL K H a xs := .inl (.inl h)
theorem tup_sqt {K : PySem.W.Frag} {H : Hp} {a : Addr} {xs : List V} (h : H a = some (.tup xs)) : SqT K H a xs := .inl (.inl h)
theorem map_int {ns : List Int} {i : Nat} {x : V} (h : (ns.map V.int)[i]? = some x) : ∃ n, ns[i]? = some n ∧ x = .int n := by
  rw [List.getElem?_map] at h
  cases e : ns[i]? with
  | none => rw [e] at h; cases h
  | some n => rw [e] at h; exact ⟨n, rfl, (Option.some.inj h).symm⟩
theorem paired_get {α β : Type} {R : α → β → Prop} : ∀ {us : List α} {os : List β}, Paired R us os → ∀ {i : Nat} {o : β}, os[i]? = some o → ∃ u, us[i]? = some u ∧ R u o
  | _, _, .nil, i, _, h => by cases h
  | _, _, .cons r t, 0, _, h => ⟨_, rfl, by cases h; exact r⟩
  | _, _, .cons r t, i + 1, _, h => paired_get t h
theorem paired_set {α β : Type} {R : α → β → Prop} {u : α} {o : β} (r0 : R u o) : ∀ {us : List α} {os : List β}, Paired R us os → ∀ i, Paired R (us.set i u) (os.set i o)
  | _, _, .nil, _ => .nil
  | _, _, .cons r t, 0 => .cons r0 t
  | _, _, .cons r t, i + 1 => .cons r (paired_set r0 t i)
theorem paired_snoc {α β : Type} {R : α → β → Prop} {u : α} {o : β} (ro : R u o) : ∀ {us : List α} {os : List β}, Paired R us os → Paired R (us ++ [u]) (os ++ [o])
  | _, _, .nil => .cons ro .nil
  | _, _, .cons r t => .cons r (paired_snoc ro t)
theorem paired_app {α β : Type} {R : α → β → Prop} : ∀ {us : List α} {os : List β} {us2 : List α} {os2 : List β}, Paired R us os → Paired R us2 os2 → Paired R (us ++ us2) (os ++ os2)
  | _, _, _, _, .nil, h => h
  | _, _, _, _, .cons r t, h => .cons r (paired_app t h)
theorem paired_take {α β : Type} {R : α → β → Prop} : ∀ {us : List α} {os : List β}, Paired R us os → ∀ n, Paired R (us.take n) (os.take n)
  | _, _, .nil, n => by rw [List.take_nil, List.take_nil]; exact .nil
  | _, _, .cons r t, 0 => .nil
  | _, _, .cons r t, n + 1 => .cons r (paired_take t n)
theorem paired_drop {α β : Type} {R : α → β → Prop} : ∀ {us : List α} {os : List β}, Paired R us os → ∀ n, Paired R (us.drop n) (os.drop n)
  | _, _, .nil, n => by rw [List.drop_nil, List.drop_nil]; exact .nil
  | _, _, .cons r t, 0 => .cons r t
  | _, _, .cons r t, n + 1 => paired_drop t n
/-- rows that are lists, none of them at D -/
abbrev LLa (D : Addr) (H : Hp) (us : List V) (R : List (List Int)) : Prop := Paired (fun v (row : List Int) => ∃ b, v = .ref b ∧ b ≠ D ∧ H b = some (.lst (row.map V.int))) us R
/-- rows that are lists -/
abbrev LL (H : Hp) (us : List V) (R : List (List Int)) : Prop := Paired (fun v (row : List Int) => ∃ b, v = .ref b ∧ H b = some (.lst (row.map V.int))) us R
/-- rows that are tuples -/
abbrev TR (K : PySem.W.Frag) (H : Hp) (us : List V) (R : List (List Int)) : Prop := Paired (fun v (row : List Int) => ∃ b, v = .ref b ∧ SqT K H b (row.map V.int)) us R
section
variable {K : PySem.W.Frag} {D : Addr} {H H' : Hp} {us : List V} {R : List (List Int)} {o : HO}
theorem LLa.same (h : LLa D H us R) (s : Same H H') : LLa D H' us R := Paired.mapP h fun _ _ ⟨b, e, n, hb⟩ => ⟨b, e, n, s _ _ hb⟩
theorem LL.same (h : LL H us R) (s : Same H H') : LL H' us R := Paired.mapP h fun _ _ ⟨b, e, hb⟩ => ⟨b, e, s _ _ hb⟩
theorem TR.same (h : TR K H us R) (s : Same H H') : TR K H' us R := Paired.mapP h fun _ _ ⟨b, e, hb⟩ => ⟨b, e, same_sqt s hb⟩
theorem LLa.put (h : LLa D H us R) : LLa D (upd H D o) us R := Paired.mapP h fun _ _ ⟨b, e, n, hb⟩ => ⟨b, e, n, (upd_ne n).trans hb⟩
theorem LLa.ll (h : LLa D H us R) : LL H us R := Paired.mapP h fun _ _ ⟨b, e, _, hb⟩ => ⟨b, e, hb⟩
theorem LL.la (h : LL H us R) (f : H D = none) : LLa D H us R := Paired.mapP h fun _ _ ⟨b, e, hb⟩ => ⟨b, e, ne_of_none hb f, hb⟩
theorem LL.len (h : LL H us R) : us.length = R.length := paired_len h
theorem LLa.len (h : LLa D H us R) : us.length = R.length := paired_len h
theorem TR.len (h : TR K H us R) : us.length = R.length := paired_len h
end
/-- the table of rows -/
def mat (R : List (List Int)) : DT.M := fun i j => (R.getD i []).getD j 0
/-- all rows have c members -/
def Rect (R : List (List Int)) (c : Nat) : Prop := ∀ row ∈ R, row.length = c
/-- all members are below B -/
def Big (R : List (List Int)) (B : Nat) : Prop := ∀ row ∈ R, ∀ x ∈ row, x.natAbs < B
theorem row_get {R : List (List Int)} {i : Nat} (h : i < R.length) : R[i]? = some (R.getD i []) := by
  rw [List.getD, List.getElem?_eq_getElem h]
  rfl
theorem row_mem {R : List (List Int)} {i : Nat} (h : i < R.length) : R.getD i [] ∈ R := by
  rw [List.getD, List.getElem?_eq_getElem h]
  exact List.getElem_mem _
theorem mem_get {row : List Int} {j : Nat} (h : j < row.length) : row[j]? = some (row.getD j 0) := by
  rw [List.getD, List.getElem?_eq_getElem h]
  rfl
theorem mem_mem {row : List Int} {j : Nat} (h : j < row.length) : row.getD j 0 ∈ row := by
  rw [List.getD, List.getElem?_eq_getElem h]
  exact List.getElem_mem _
theorem row_ext {a b : List Int} (l : a.length = b.length) (h : ∀ j, j < a.length → a.getD j 0 = b.getD j 0) : a = b := by
  refine List.ext_getElem l fun j h1 h2 => ?_
  have := h j h1
  rw [List.getD, List.getElem?_eq_getElem h1, List.getD, List.getElem?_eq_getElem h2] at this
  exact this
theorem intsAt {row : List Int} {j : Nat} (h : j < row.length) : (row.map V.int)[j]? = some (.int (row.getD j 0)) := by
  rw [List.getElem?_map, mem_get h]
  rfl
section
variable {K : PySem.W.Frag} {a b : Addr} {us ws : List V} {v : Nat} {g : TG} {tt : TT} {te : TE} {vs : List Nat} {σ : L2.St} {H1 : Hp} {D : Addr} {Qd : Hp → Prop} {n : Nat}
theorem walk_zipL2 (hn : n = min us.length ws.length) : Walk (Itz K a b) n (fun H => SqL K H a us ∧ SqL K H b ws) (YPair (fun i => us[i]?) (fun i => ws[i]?)) := by
  refine ⟨fun i H lt q => ?_, fun H q => ?_, fun i H x H' lt q y => ?_⟩
  · exact ⟨us, ws, us[i]'(by omega), ws[i]'(by omega), q.1, q.2, List.getElem?_eq_getElem _, List.getElem?_eq_getElem _⟩
  · exact ⟨us, ws, q.1, q.2, by omega⟩
  · obtain ⟨T, p, r, rfl, fr, rfl, f1, f2⟩ := y
    exact ⟨T, p, r, rfl, fr, rfl, f1 us q.1, f2 ws q.2⟩
theorem lc_zipL2 (hn : n = min us.length ws.length) (Pv : Nat → Hp → Prop) (h0 : Pv 0 (upd H1 D (.lst []))) (hq : ∀ i H, i ≤ n → Pv i H → SqL K H a us ∧ SqL K H b ws)
    (hs : ∀ i x y H T, us[i]? = some x → ws[i]? = some y → Pv i H → H T = none → LcT g tt te vs σ D (Pv (i + 1)) (.ref T) (upd H T (.tup [x, y])))
    (hd : ∀ H, Pv n H → Qd H) : LcW (Itz K a b) g tt te vs σ H1 D Qd := by
  refine lc_it (walk_zipL2 hn) Pv h0 hq (fun i x H H' lt p y => ?_) hd
  obtain ⟨T, p1, q1, rfl, fr, rfl, e1, e2⟩ := y
  exact hs i p1 q1 H T e1 e2 p fr
theorem walk_zipT2 (hn : n = min us.length ws.length) : Walk (RZ.ItzT K a b) n (fun H => SqT K H a us ∧ SqT K H b ws) (YPair (fun i => us[i]?) (fun i => ws[i]?)) := by
  refine ⟨fun i H lt q => ?_, fun H q => ?_, fun i H x H' lt q y => ?_⟩
  · exact ⟨us, ws, us[i]'(by omega), ws[i]'(by omega), q.1, q.2, List.getElem?_eq_getElem _, List.getElem?_eq_getElem _⟩
  · exact ⟨us, ws, q.1, q.2, by omega⟩
  · obtain ⟨T, p, r, rfl, fr, rfl, f1, f2⟩ := y
    exact ⟨T, p, r, rfl, fr, rfl, f1 us q.1, f2 ws q.2⟩
theorem lc_zipT2 (hn : n = min us.length ws.length) (Pv : Nat → Hp → Prop) (h0 : Pv 0 (upd H1 D (.lst []))) (hq : ∀ i H, i ≤ n → Pv i H → SqT K H a us ∧ SqT K H b ws)
    (hs : ∀ i x y H T, us[i]? = some x → ws[i]? = some y → Pv i H → H T = none → LcT g tt te vs σ D (Pv (i + 1)) (.ref T) (upd H T (.tup [x, y])))
    (hd : ∀ H, Pv n H → Qd H) : LcW (RZ.ItzT K a b) g tt te vs σ H1 D Qd := by
  refine lc_it (walk_zipT2 hn) Pv h0 hq (fun i x H H' lt p y => ?_) hd
  obtain ⟨T, p1, q1, rfl, fr, rfl, e1, e2⟩ := y
  exact hs i p1 q1 H T e1 e2 p fr
end
end K02
namespace K02
open PySem PySem.Spec PyProof.Rows L2 MM
section
variable {K : PySem.W.Frag}
theorem sqt_lst {H : Hp} {a F : Addr} {xs ys zs : List V} (h : SqT K H a xs) (e : H F = some (.lst zs)) : SqT K (upd H F (.lst ys)) a xs := by
  rcases h with (h | ⟨o, h⟩) | h
  · exact .inl (.inl (by rw [upd_ne (fun z => by rw [z, e] at h; cases h)]; exact h))
  · exact .inl (.inr ⟨o, by rw [upd_ne (fun z => by rw [z, e] at h; cases h)]; exact h⟩)
  · exact .inr h
theorem TR.put {D : Addr} {H : Hp} {us : List V} {R : List (List Int)} {ys zs : List V} (h : TR K H us R) (e : H D = some (.lst zs)) : TR K (upd H D (.lst ys)) us R := Paired.mapP h fun _ _ ⟨b, e1, hb⟩ => ⟨b, e1, sqt_lst hb e⟩
theorem tab_pair {H : Hp} {us : List V} {R : List (List Int)} (t : TR K H us R) : Paired (fun u o => Rv K H u o) us (R.map fun row => some (row.map V.int)) := by
  induction t with
  | nil => exact .nil
  | cons r _ ih =>
    obtain ⟨b, rfl, Sb⟩ := r
    refine .cons (.yes Sb fun y hy => ?_) ih
    obtain ⟨n, _, rfl⟩ := List.mem_map.mp hy
    exact ⟨_, .int n⟩
def tabV (R : List (List Int)) : Option (List (Option (List V))) := some (R.map fun row => some (row.map V.int))
theorem tab_tv {H : Hp} {a : Addr} {us : List V} {R : List (List Int)} (S : SqT K H a us) (t : TR K H us R) : Tv K H (.ref a) (tabV R) := .yes S (tab_pair t)
/-- a good table -/
structure Good (R : List (List Int)) (m : Nat) : Prop where
  rect : Rect R m
  r1 : 1 ≤ R.length
  r2 : R.length ≤ 60
  m1 : 1 ≤ m
  m2 : m ≤ 60
  big : Big R (10 ^ 60)
theorem good_tab {R : List (List Int)} {m : Nat} (g : Good R m) : isTab (tabV R) = true := by
  obtain ⟨rc, r1, r2, m1, m2, bg⟩ := g
  have line : ∀ row ∈ R, isLine (some (row.map V.int)) = true := by
    intro row hr
    have lr := rc row hr
    show (decide (1 ≤ (row.map V.int).length) && (decide ((row.map V.int).length ≤ 60) && (row.map V.int).all isI)) = true
    rw [List.length_map, lr, decide_eq_true m1, decide_eq_true m2, Bool.true_and, Bool.true_and, List.all_map, List.all_eq_true]
    intro x hx
    have := bg row hr x hx
    show (decide (-10 ^ 60 < x) && decide (x < 10 ^ 60)) = true
    rw [decide_eq_true (by omega), decide_eq_true (by omega)]
    rfl
  cases R with
  | nil => exact absurd r1 (by decide)
  | cons r0 R =>
    show (decide ((R.map fun row => some (row.map V.int)).length + 1 ≤ 60) && (((r0 :: R).map fun row => some (row.map V.int)).all isLine && ((r0 :: R).map fun row => some (row.map V.int)).all fun p => decide (wid p = wid (some (r0.map V.int))))) = true
    rw [decide_eq_true (by rw [List.length_map]; exact r2), Bool.true_and, Bool.and_eq_true]
    constructor
    · rw [List.all_map, List.all_eq_true]
      exact line
    · rw [List.all_map, List.all_eq_true]
      intro row hr
      refine decide_eq_true ?_
      show (row.map V.int).length = (r0.map V.int).length
      rw [List.length_map, List.length_map, rc row hr, rc r0 List.mem_cons_self]
end
end K02
namespace K02
open PySem PySem.Spec PyProof.Rows L2 MM
theorem seq_rest {a b : TS} {D : Ends} {σ : L2.St} {H : Hp} (J : L2.St → Hp → Prop) (hJ : ∀ σ' H', J σ' H' → b D σ' H')
    (h : ∀ N : L2.St → Hp → Prop, (∀ σ' H', J σ' H' → N σ' H') → a { D with nx := N } σ H) : tSeq a b D σ H := h _ hJ
/-- rows that are lists at places that A allows -/
abbrev LLp (A : Addr → Prop) (H : Hp) (us : List V) (R : List (List Int)) : Prop := Paired (fun v (row : List Int) => ∃ b, v = .ref b ∧ A b ∧ H b = some (.lst (row.map V.int))) us R
section
variable {A : Addr → Prop} {D : Addr} {H H' : Hp} {us : List V} {R : List (List Int)} {o : HO}
theorem LLp.same (h : LLp A H us R) (s : Same H H') : LLp A H' us R := Paired.mapP h fun _ _ ⟨b, e, n, hb⟩ => ⟨b, e, n, s _ _ hb⟩
theorem LLp.put (h : LLp A H us R) (n : ∀ b, A b → b ≠ D) : LLp A (upd H D o) us R := Paired.mapP h fun _ _ ⟨b, e, a, hb⟩ => ⟨b, e, a, (upd_ne (n b a)).trans hb⟩
theorem LLp.ll (h : LLp A H us R) : LL H us R := Paired.mapP h fun _ _ ⟨b, e, _, hb⟩ => ⟨b, e, hb⟩
theorem LLp.len (h : LLp A H us R) : us.length = R.length := paired_len h
end
/-- numbers as values -/
def nv (ns : List Nat) : List V := ns.map fun (n : Nat) => V.int (n : Int)
theorem nv_len (ns : List Nat) : (nv ns).length = ns.length := List.length_map _
theorem getD_set_eq {R : List (List Int)} {i : Nat} {x : List Int} (h : i < R.length) : (R.set i x).getD i [] = x := by
  rw [List.getD, List.getElem?_set_self h]
  rfl
theorem getD_set_ne {R : List (List Int)} {i j : Nat} {x : List Int} (h : i ≠ j) : (R.set i x).getD j [] = R.getD j [] := by
  rw [List.getD, List.getElem?_set_ne h, ← List.getD]
theorem rect_get {R : List (List Int)} {c i : Nat} (h : Rect R c) (hi : i < R.length) : (R.getD i []).length = c := h _ (row_mem hi)
theorem rect_of {R : List (List Int)} {c : Nat} (h : ∀ i, i < R.length → (R.getD i []).length = c) : Rect R c := by
  intro row hr
  obtain ⟨i, hi, rfl⟩ := List.mem_iff_getElem.mp hr
  have := h i hi
  rwa [List.getD, List.getElem?_eq_getElem hi] at this
theorem big_of {R : List (List Int)} {B c : Nat} (rc : Rect R c) (h : ∀ i, i < R.length → ∀ j, j < c → (mat R i j).natAbs < B) : Big R B := by
  intro row hr x hx
  obtain ⟨i, hi, rfl⟩ := List.mem_iff_getElem.mp hr
  obtain ⟨j, hj, rfl⟩ := List.mem_iff_getElem.mp hx
  have := h i hi j (by rw [← rc _ hr]; exact hj)
  unfold mat at this
  rwa [List.getD, List.getD, List.getElem?_eq_getElem hi, Option.getD_some, List.getElem?_eq_getElem hj] at this
theorem big_get {R : List (List Int)} {B c i j : Nat} (h : Big R B) (rc : Rect R c) (hi : i < R.length) (hj : j < c) : (mat R i j).natAbs < B :=
  h _ (row_mem hi) _ (mem_mem (by rw [rect_get rc hi]; exact hj))
theorem Big.mono {R : List (List Int)} {B B' : Nat} (h : Big R B) (l : B ≤ B') : Big R B' := fun row hr x hx => Nat.lt_of_lt_of_le (h row hr x hx) l
end K02
namespace K02
open PySem PySem.Spec PyProof.Rows L2 MM
theorem ixN_in {n j : Nat} (h : j < n) : ixN n (j : Int) = some j := by
  show (if 0 ≤ (j : Int) then _ else _) = _
  rw [if_pos (Int.natCast_nonneg j), if_pos (by omega), Int.toNat_natCast]
end K02
namespace K02
open PySem PySem.Spec PyProof.Rows L2 MM
theorem mat_swap {Y : List (List Int)} {p q : Nat} (hp : p < Y.length) (hq : q < Y.length) (i j : Nat) : mat ((Y.set q (Y.getD p [])).set p (Y.getD q [])) i j = mat Y (DT.sw p q i) j := by
  unfold mat DT.sw
  by_cases c1 : i = p
  · rw [if_pos c1, c1, getD_set_eq (by rw [List.length_set]; exact hp)]
  · rw [if_neg c1, getD_set_ne (fun z => c1 z.symm)]
    by_cases c2 : i = q
    · rw [if_pos c2, c2, getD_set_eq hq]
    · rw [if_neg c2, getD_set_ne (fun z => c2 z.symm)]
theorem Big.set {R : List (List Int)} {B i : Nat} {row : List Int} (h : Big R B) (hr : ∀ x ∈ row, x.natAbs < B) : Big (R.set i row) B := fun r hm x hx => by
  rcases List.mem_or_eq_of_mem_set hm with z | rfl
  · exact h r z x hx
  · exact hr x hx
theorem Rect.set {R : List (List Int)} {c i : Nat} {row : List Int} (h : Rect R c) (hr : row.length = c) : Rect (R.set i row) c := fun r hm => by
  rcases List.mem_or_eq_of_mem_set hm with z | rfl
  · exact h r z
  · exact hr
theorem two_mul_lt {a b c d : Int} {e : Nat} (ha : a.natAbs < 2 ^ e) (hb : b.natAbs < 2 ^ e) (hc : c.natAbs < 2 ^ e) (hd : d.natAbs < 2 ^ e) : (a * b - c * d).natAbs < 2 ^ (2 * e + 1) := by
  have h1 : a.natAbs * b.natAbs < 2 ^ e * 2 ^ e := Nat.mul_lt_mul'' ha hb
  have h2 : c.natAbs * d.natAbs < 2 ^ e * 2 ^ e := Nat.mul_lt_mul'' hc hd
  rw [← Int.natAbs_mul] at h1 h2
  have e1 : 2 ^ (2 * e + 1) = 2 ^ e * 2 ^ e + 2 ^ e * 2 ^ e := by
    rw [Nat.pow_succ, show 2 * e = e + e by omega, Nat.pow_add]
    omega
  rw [e1]
  generalize 2 ^ e * 2 ^ e = X at h1 h2 ⊢
  omega
theorem abs_le_mul {a q x : Int} {B : Nat} (ha : a ≠ 0) (e : x = a * q) (h : x.natAbs < B) : q.natAbs < B := by
  rw [e, Int.natAbs_mul] at h
  have : 1 ≤ a.natAbs := by omega
  exact Nat.lt_of_le_of_lt (Nat.le_mul_of_pos_left _ this) h
end K02
namespace K02
open PySem PySem.Spec PyProof.Rows L2 MM
theorem six_lo (n k : Nat) : HT.sIx n 0 (some (k : Int)) = min k n := HT.sIx_nat _ _ _
theorem cut_from (xs : List V) (k : Nat) : cutV xs (some (k : Int)) none = xs.drop k := by
  unfold cutV
  rw [six_lo, show HT.sIx xs.length xs.length none = xs.length from rfl]
  by_cases h : k ≤ xs.length
  · rw [Nat.min_eq_left h, List.take_of_length_le (by rw [List.length_drop]; omega)]
  · rw [Nat.min_eq_right (by omega), Nat.sub_self, List.take_zero, List.drop_eq_nil_of_le (by omega)]
theorem cut_upto (xs : List V) (k : Nat) : cutV xs none (some (k : Int)) = xs.take k := by
  unfold cutV
  rw [show HT.sIx xs.length xs.length (some (k : Int)) = HT.sIx xs.length 0 (some (k : Int)) from rfl, six_lo, show HT.sIx xs.length 0 none = 0 from rfl, List.drop_zero, Nat.sub_zero]
  by_cases h : k ≤ xs.length
  · rw [Nat.min_eq_left h]
  · rw [Nat.min_eq_right (by omega), List.take_length, List.take_of_length_le (by omega)]
end K02
namespace K02
theorem getD_take {R : List (List Int)} {n t : Nat} (h : t < n) : (R.take n).getD t [] = R.getD t [] := by
  rw [List.getD, List.getElem?_take, if_pos h, ← List.getD]
end K02
namespace K02
open PySem PySem.Spec PyProof.Rows L2 MM
theorem atI_last {xs : List V} {x : V} {n : Nat} (h : xs[n]? = some x) (l : xs.length = n + 1) : atI xs (-1) = some x := by
  unfold atI ixN
  rw [if_neg (by decide), if_pos (by omega), l]
  show xs[((-1 : Int) + ((n + 1 : Nat) : Int)).toNat]? = _
  rw [show ((-1 : Int) + ((n + 1 : Nat) : Int)).toNat = n by omega]
  exact h
end K02

set_option Elab.async false
set_option linter.all false
set_option maxRecDepth 100000
set_option maxHeartbeats 4000000
namespace K02
open PySem PySem.Spec PyProof.Rows L2 MM
/-! own words for the readings: a step, its side -/
local macro_rules | `(tactic| walk_at "side") => `(tactic| first
  | omega
  | exact ⟨by omega, by omega⟩
  | exact Or.inl ⟨by omega, by omega⟩
  | exact Or.inr ⟨by omega, by omega⟩
  | (show CPw _ _; decide +kernel)
  | (show (0 : Int) < _; decide +kernel)
  | (show CDivW _ _; first | assumption | exact ⟨by decide, by decide +kernel⟩))
local macro_rules | `(tactic| walk_at "here") => `(tactic| first
  | assumption
  | exact upd_same
  | exact Or.inl (Or.inl upd_same)
  | exact Or.inl upd_same)
local macro_rules | `(tactic| walk_at "one") => `(tactic| first
  | refine ⟨_, rfl, ?_⟩
  | refine Or.inl ⟨_, rfl, ?_⟩
  | refine Or.inr ⟨_, rfl, ?_⟩
  | refine ⟨_, _, rfl, rfl, (by walk_at "side"), ?_⟩
  | refine ⟨_, _, rfl, rfl, ?_⟩
  | refine ⟨_, _, rfl, Or.inl (by walk_at "here"), ?_⟩
  | refine ⟨_, _, rfl, Or.inr (by walk_at "here"), ?_⟩
  | refine ⟨_, _, rfl, (by walk_at "here"), ?_⟩
  | refine ⟨_, _, _, _, rfl, rfl, (by walk_at "here"), rfl, ?_⟩
  | refine ⟨_, _, rfl, ?_⟩
  | refine ifT (by rfl) ?_
  | refine ifF (by rfl) ?_
  | refine ifT (decide_eq_true (by omega)) ?_
  | refine ifF (decide_eq_false (by omega)) ?_)
local macro_rules | `(tactic| walk_at "st") => `(tactic| repeat (walk_at "one"))

section
variable {P : Program} {w : World} {K : PySem.W.Frag} {mg : Str → Option Value} {base : Heap}
/-- the columns of rows of m members -/
def cols (R : List (List Int)) (m : Nat) : List (List Int) := (List.range m).map fun j => R.map fun row => row.getD j 0
def spCols (K : PySem.W.Frag) : Sp := fun vs H Q _ => ∃ (a : Addr) (us : List V) (R : List (List Int)) (m : Nat), vs = [.ref a] ∧ SqT K H a us ∧ TR K H us R ∧ Rect R m ∧ 1 ≤ R.length ∧ R.length ≤ 60 ∧ m ≤ 60 ∧
  ∀ H' r ws, Same H H' → H r = none → H' r = some (.lst ws) → LL H' ws (cols R m) → Q (.ref r) H'
theorem cols_succ (R : List (List Int)) (m : Nat) : cols R (m + 1) = cols R m ++ [R.map fun row => row.getD m 0] := by
  unfold cols
  rw [List.range_succ, List.map_append]
  rfl
theorem cols_take (R : List (List Int)) {i m : Nat} (h : i ≤ m) : (cols R m).take i = cols R i := by
  unfold cols
  rw [← List.map_take, List.take_range, Nat.min_eq_left h]
theorem scColumns : FnScope ["rows", "row", "at"] ["rows"] (defScope sColumns) :=
  ⟨rfl, rfl, rfl, by decide +kernel, rfl, by decide +kernel, by decide +kernel⟩
theorem dColumns (T : Tx K mg) : Def P w K mg base CX0 1 "_columns" ["rows"] (spCols K) := by
  refine T.t_columns.def_ (N := ["rows", "row", "at"]) scColumns (fun _ _ _ _ _ _ us hl => match us, hl with | [_], _ => rfl) ?_ ?_
  · intro vs H Q E h
    obtain ⟨a, us, R, m, rfl, _⟩ := h
    rfl
  · intro f cd A out s H vs Q E hr h
    obtain ⟨a, us, R, m, rfl, S, hR, rc, l1, l2, m2, q⟩ := h
    refine ⟨_, (pss_one (ps_ret (pe_lc (own := [("at", 2)]) (g := gName 2) (tt := tYes) rfl scColumns.nd (pi_range1 rfl T.f_range (pa_cons (pe_callB call_len_seq rfl T.f_len (by decide +kernel) (pa_cons (pe_ix ix_tup (pv 0) pe_int (fun _ _ => rfl)) pa_nil)) pa_nil)) (blkOk_by (N := ["rows", "row", "at"]) (sc := defScope sColumns) (by decide +kernel)) (fun _ _ _ _ _ => pg_name (i := 2) scColumns.nd rfl (Or.inr rfl)) (fun _ _ _ _ _ => pts_nil) (fun _ _ _ _ _ => (pe_lc (own := [("row", 1)]) (g := gName 1) (tt := tYes) rfl scColumns.nd (show PI _ _ _ (iTup K _) from pi_tup (pv 0)) (blkOk_by (N := ["rows", "row", "at"]) (sc := _) (by kernel_rfl)) (fun _ _ _ _ _ => pg_name (i := 1) scColumns.nd rfl (Or.inl rfl)) (fun _ _ _ _ _ => pts_nil) (fun _ _ _ _ _ => (pe_ix (show IxR _ (rIxT K) from ix_tup) (pv 1) (pv 2) (fun _ _ => rfl)))))))), ?_⟩
    have lu := hR.len
    obtain ⟨u0, hu0, b0, rfl, S0⟩ := paired_get hR (row_get (i := 0) (by omega))
    have ly0 := rc _ (row_mem (R := R) (i := 0) (by omega))
    refine ⟨_, rfl, a, _, _, .ref b0, rfl, rfl, S, atI_nat (j := 0) hu0, b0, _, rfl, .inr S0, ?_⟩
    rw [List.length_map, ly0]
    refine ⟨(m : Int), rfl, by omega, by omega, fun D nD => ?_⟩
    refine lc_range (Pv := fun i H' => Same H H' ∧ ∃ cs : List V, H' D = some (.lst cs) ∧ LLa D H' cs (cols R i)) ⟨same_new nD, [], upd_same, .nil⟩ ?_ ?_
    · rintro i H1 hi ⟨s1, cs, hD, hc⟩
      have hi' : i < m := by omega
      have lc := hc.len
      refine ⟨wipe_one, yes_ ?_⟩
      refine ⟨_, rfl, a, rfl, ⟨_, same_sqt s1 S⟩, fun D2 nD2 => ?_⟩
      have DD : D2 ≠ D := (ne_of_none hD nD2).symm
      refine lc_tup (K := K) (a := a) (xs := us) (Pv := fun j H' => Same H1 H' ∧ H' D2 = some (.lst (((R.take j).map fun row => row.getD i 0).map V.int))) ⟨same_new nD2, upd_same⟩ (fun j H' _ e => same_sqt (s1.trans e.1) S) ?_ ?_
      · rintro j x H2 hx ⟨s2, hD2⟩
        obtain ⟨row, hrow, b, rfl, Sb⟩ := paired_at hR hx
        have lj : j < us.length := (List.getElem?_eq_some_iff.mp hx).1
        have lr := rc row (List.mem_of_getElem? hrow)
        refine ⟨wipe_one, yes_ ?_⟩
        refine ⟨_, rfl, _, rfl, b, _, _, .int (row.getD i 0), rfl, rfl, same_sqt (s1.trans s2) Sb, ?_, ?_⟩
        · rw [Int.zero_add]
          exact atI_nat (intsAt (by omega))
        refine ⟨_, hD2, ?_, ?_, ?_⟩
        · rw [List.length_map, List.length_map, List.length_take, sizeLine_eq]
          omega
        · intro c o e
          rw [upd_ne (ne_of_none e nD2)]
          exact s2 _ _ e
        · rw [upd_same, List.take_add_one, hrow, List.map_append, List.map_append]
          rfl
      rintro H2 ⟨s2, hD2⟩
      rw [lu, List.take_length] at hD2
      refine ⟨cs, s2 _ _ hD, ?_, ?_, cs ++ [.ref D2], upd_same, ?_⟩
      · rw [lc, sizeLine_eq]
        unfold cols
        rw [List.length_map, List.length_range]
        omega
      · intro c o e
        rw [upd_ne (ne_of_none e nD)]
        exact s2 _ _ (s1 _ _ e)
      · rw [cols_succ]
        exact paired_snoc ⟨D2, rfl, DD, (upd_ne DD).trans hD2⟩ (hc.same s2).put
    · rintro H1 ⟨s1, cs, hD, hc⟩
      rw [show ((m : Int)).toNat = m from Int.toNat_natCast m] at hc
      exact q H1 D cs s1 nD hD hc.ll
/-- the sum of products -/
def dot (xs ys : List Int) : Int := (List.zipWith (· * ·) xs ys).sum
def spLine (K : PySem.W.Frag) : Sp := fun vs H Q _ => ∃ (a b : Addr) (xs ys : List Int), vs = [.ref a, .ref b] ∧ SqT K H a (xs.map V.int) ∧ SqL K H b (ys.map V.int) ∧ xs.length ≤ 1000 ∧ (∀ x ∈ xs, x.natAbs < 2 ^ 8000) ∧ (∀ x ∈ ys, x.natAbs < 2 ^ 8000) ∧
  ∀ H', Same H H' → Q (.int (dot xs ys)) H'
theorem mulB {i j : Int} {e : Nat} (he : e ≤ 9000) (hi : i.natAbs < 2 ^ e) (hj : j.natAbs < 2 ^ e) : CMulW i j := by
  have l : ∀ n : Nat, n < 2 ^ e → n.log2 < 9000 := by
    intro n hn
    by_cases z : n = 0
    · rw [z]
      decide
    · exact Nat.lt_of_lt_of_le ((Nat.log2_lt z).mpr hn) he
  have h1 := l _ hi
  have h2 := l _ hj
  show _ + _ < 1000000
  omega
theorem scLineProduct : FnScope ["one", "other", "left", "right"] ["one", "other"] (defScope sLineProduct) :=
  ⟨rfl, rfl, rfl, by decide +kernel, rfl, by decide +kernel, by decide +kernel⟩
theorem dLineProduct (T : Tx K mg) : Def P w K mg base CX0 1 "_line_product" ["one", "other"] (spLine K) := by
  refine T.t_line_product.def_ (N := ["one", "other", "left", "right"]) scLineProduct (fun _ _ _ _ _ _ us hl => match us, hl with | [_, _], _ => rfl) ?_ ?_
  · intro vs H Q E h
    obtain ⟨a, b, xs, ys, rfl, _⟩ := h
    rfl
  · intro f cd A out s H vs Q E hr h
    obtain ⟨a, b, xs, ys, rfl, S1, S2, l1, bx, by_, q⟩ := h
    refine ⟨_, (pss_one (ps_ret (pe_callB (cr_sum rfl) rfl T.f_sum (by decide +kernel) (pa_cons (pe_lc (own := [("left", 2), ("right", 3)]) (g := gTup K 2 (gCons (gName 2) (gCons (gName 3) gNil))) (tt := tYes) rfl scLineProduct.nd (pi_zipM rfl T.f_zip (pa_cons (pv 0) (pa_cons (pv 1) pa_nil))) (blkOk_by (N := ["one", "other", "left", "right"]) (sc := defScope sLineProduct) (by decide +kernel)) (fun _ _ _ _ _ => (show PG _ _ (gTup K 2 (gCons (gName 2) (gCons (gName 3) gNil))) from pg_tup rfl (pgs_cons (pg_name (i := 2) scLineProduct.nd rfl (Or.inl rfl)) (pgs_cons (pg_name (i := 3) scLineProduct.nd rfl (Or.inl rfl)) pgs_nil)))) (fun _ _ _ _ _ => pts_nil) (fun _ _ _ _ _ => (pe_op op_mulW (pv 2) (pv 3)))) pa_nil)))), ?_⟩
    refine ⟨_, rfl, _, rfl, a, b, _, _, rfl, S1, S2, fun D nD => ?_⟩
    refine lc_zipM (n := min (xs.map V.int).length (ys.map V.int).length) rfl (fun i H' => Same H H' ∧ H' D = some (.lst ((List.zipWith (· * ·) (xs.take i) (ys.take i)).map V.int))) ⟨same_new nD, upd_same⟩ (fun i H' _ e => ⟨same_sqt e.1 S1, same_sql e.1 S2⟩) ?_ ?_
    · rintro i x y H1 T hx hy ⟨s1, hD⟩ fT
      obtain ⟨xi, hxi, rfl⟩ := map_int hx
      obtain ⟨yi, hyi, rfl⟩ := map_int hy
      have DT : D ≠ T := ne_of_none hD fT
      have li := (List.getElem?_eq_some_iff.mp hxi).1
      have li2 := (List.getElem?_eq_some_iff.mp hyi).1
      have s2 := s1.trans (same_new fT (o := .tup [.int xi, .int yi]))
      have hD2 := (upd_ne (o := .tup [.int xi, .int yi]) DT).trans hD
      refine ⟨T, _, rfl, .inl (.inl upd_same), rfl, _, _, rfl, ?_⟩
      refine ⟨_, _, rfl, rfl, rfl, ?_⟩
      generalize upd H1 T _ = H2 at s2 hD2 ⊢
      refine yes_ ?_
      refine ⟨_, rfl, _, rfl, xi, yi, rfl, rfl, mulB (by decide) (bx _ (List.mem_of_getElem? hxi)) (by_ _ (List.mem_of_getElem? hyi)), ?_⟩
      refine ⟨_, hD2, ?_, ?_, ?_⟩
      · rw [List.length_map, List.length_zipWith, List.length_take, sizeLine_eq]
        omega
      · intro c o e
        rw [upd_ne (ne_of_none e nD)]
        exact s2 _ _ e
      · rw [upd_same, List.take_add_one, hxi, List.take_add_one, hyi, List.zipWith_append (by rw [List.length_take, List.length_take]; omega), List.map_append]
        rfl
    · rintro H1 ⟨s1, hD⟩
      refine ⟨D, _, rfl, .inl (.inl hD), ?_⟩
      have e : List.zipWith (· * ·) (xs.take (min (xs.map V.int).length (ys.map V.int).length)) (ys.take (min (xs.map V.int).length (ys.map V.int).length)) = List.zipWith (· * ·) xs ys := by
        rw [List.length_map, List.length_map, ← List.take_zipWith, List.take_of_length_le (by rw [List.length_zipWith]; exact Nat.le_refl _)]
      rw [e]
      exact q H1 s1
/-- the product of tables -/
def prod (R : List (List Int)) (W : List (List Int)) (n : Nat) : List (List Int) := R.map fun row => (cols W n).map fun col => dot row col
/-- a tuple of tuples -/
def spProd (K : PySem.W.Frag) : Sp := fun vs H Q _ => ∃ (a b : Addr) (us ws : List V) (R W : List (List Int)) (m n : Nat), vs = [.ref a, .ref b] ∧ SqT K H a us ∧ TR K H us R ∧ Good R m ∧ SqT K H b ws ∧ TR K H ws W ∧ Good W n ∧ W.length = m ∧
  ∀ H' r vs, Same H H' → SqT K H' r vs → TR K H' vs (prod R W n) → Q (.ref r) H'
theorem scTableProduct : FnScope ["one", "other", "columns", "column", "row"] ["one", "other"] (defScope sTableProduct) :=
  ⟨rfl, rfl, rfl, by decide +kernel, rfl, by decide +kernel, by decide +kernel⟩
theorem dTableProduct (T : Tx K mg) (DNeedTable : Def P w K mg base CX0 5 "_need_table" ["table"] (spNeedTable K)) (DColumns : Def P w K mg base CX0 1 "_columns" ["rows"] (spCols K)) (DLineProduct : Def P w K mg base CX0 1 "_line_product" ["one", "other"] (spLine K)) : Def P w K mg base CX0 6 "table_product" ["one", "other"] (spProd K) := by
  refine T.t_table_product.def_ (N := ["one", "other", "columns", "column", "row"]) scTableProduct (fun _ _ _ _ _ _ us hl => match us, hl with | [_, _], _ => rfl) ?_ ?_
  · intro vs H Q E h
    obtain ⟨a, b, us, ws, R, W, m, n, rfl, _⟩ := h
    rfl
  · intro f cd A out s H vs Q E hr h
    have hr1 : Rm 5 _ := hr.le (by decide)
    obtain ⟨a, b, us, ws, R, W, m, n, rfl, Sa, tR, gR, Sb, tW, gW, lW, q⟩ := h
    refine ⟨_, (pss_cons (ps_expr (pe_d DNeedTable (hr1.le (by decide)) pass0 (pa_cons (pv 0) pa_nil)))
      (pss_cons (ps_expr (pe_d DNeedTable (hr1.le (by decide)) pass0 (pa_cons (pv 1) pa_nil)))
      (pss_cons (ps_if (pt_cmpR op_ne (pe_callB call_len_seq rfl T.f_len (by decide +kernel) (pa_cons (pe_ix ix_tup (pv 0) pe_int (fun _ _ => rfl)) pa_nil)) (pe_callB call_len_seq rfl T.f_len (by decide +kernel) (pa_cons (pv 1) pa_nil)) (nomark _)) (pss_one ps_never) pss_nil)
      (pss_cons (ps_set (i := 2) scTableProduct.nd rfl (Or.inr rfl) (pe_d DColumns (hr1.le (by decide)) pass0 (pa_cons (pv 1) pa_nil)))
      (pss_one (ps_ret (pe_callTy call_tuple_of rfl T.f_tuple (by decide +kernel) (pa_cons (pe_lc (own := [("row", 4)]) (g := gName 4) (tt := tYes) rfl scTableProduct.nd (pi_tup (pv 0)) (blkOk_by (N := ["one", "other", "columns", "column", "row"]) (sc := defScope sTableProduct) (by decide +kernel)) (fun _ _ _ _ _ => pg_name (i := 4) scTableProduct.nd rfl (Or.inr rfl)) (fun _ _ _ _ _ => pts_nil) (fun _ _ _ _ _ => (pe_callTy (show CallR _ _ (rTupOf K) from call_tuple_of) rfl T.f_tuple (by decide +kernel) (pa_cons (pe_lc (own := [("column", 3)]) (g := gName 3) (tt := tYes) rfl scTableProduct.nd (show PI _ _ _ (iList K _) from pi_list (pv 2)) (blkOk_by (N := ["one", "other", "columns", "column", "row"]) (sc := _) (by kernel_rfl)) (fun _ _ _ _ _ => pg_name (i := 3) scTableProduct.nd rfl (Or.inl rfl)) (fun _ _ _ _ _ => pts_nil) (fun _ _ _ _ _ => (pe_d DLineProduct (hr1.le (by decide)) pass0 (pa_cons (pv 4) (pa_cons (pv 3) pa_nil))))) pa_nil)))) pa_nil)))))))), ?_⟩
    have b60 : ∀ {x : Int}, x.natAbs < 10 ^ 60 → x.natAbs < 2 ^ 8000 := fun h => Nat.lt_trans h (by decide +kernel)
    refine ⟨_, rfl, _, _, rfl, tab_tv Sa tR, good_tab gR, fun H1 s1 => ?_⟩
    refine ⟨_, rfl, _, _, rfl, tab_tv (same_sqt s1 Sb) (tW.same s1), good_tab gW, fun H2 s2 => ?_⟩
    have s := s1.trans s2
    replace Sa := same_sqt s Sa
    replace Sb := same_sqt s Sb
    replace tR := tR.same s
    replace tW := tW.same s
    obtain ⟨r1, r2, r3, r4, r5, r6⟩ := gR
    obtain ⟨w1, w2, w3, w4, w5, w6⟩ := gW
    obtain ⟨u0, hu0, b0, rfl, S0⟩ := paired_get tR (row_get (i := 0) (by omega))
    have l0 := r1 _ (row_mem (R := R) (i := 0) (by omega))
    have lus := tR.len
    have lws := tW.len
    refine ⟨_, rfl, a, _, _, .ref b0, rfl, rfl, Sa, atI_nat (j := 0) hu0, b0, _, rfl, .inr S0, _, rfl, b, _, rfl, .inr Sb, ?_⟩
    rw [List.length_map, l0, lws, lW]
    refine ⟨rfl, _, rfl, ?_⟩
    refine ifF (by rw [decide_eq_true rfl]; rfl) ?_
    refine ⟨_, rfl, b, ws, W, n, rfl, Sb, tW, w1, w2, w3, w5, fun H3 C cs s3 fC eC lC => ?_⟩
    replace s := s.trans s3
    replace Sa := same_sqt s3 Sa
    replace tR := tR.same s3
    clear hu0 S0 Sb tW
    have lcs := lC.len
    have lcl : (cols W n).length = n := by unfold cols; rw [List.length_map, List.length_range]
    have bcol : ∀ col ∈ cols W n, ∀ x ∈ col, x.natAbs < 2 ^ 8000 := by
      intro col hc x hx
      obtain ⟨j, hj, rfl⟩ := List.mem_map.mp hc
      obtain ⟨row, hr, rfl⟩ := List.mem_map.mp hx
      have lr := w1 row hr
      exact b60 (w6 row hr _ (mem_mem (by rw [lr]; exact List.mem_range.mp hj)))
    refine ⟨_, rfl, a, rfl, ⟨_, Sa⟩, fun D nD => ?_⟩
    refine lc_tup (K := K) (a := a) (xs := us) (Pv := fun i H' => Same H3 H' ∧ ∃ vs, H' D = some (.lst vs) ∧ TR K H' vs ((prod R W n).take i)) ⟨same_new nD, [], upd_same, .nil⟩ (fun i H' _ e => same_sqt e.1 Sa) ?_ ?_
    · rintro i x H4 hx ⟨s4, vs, hD, tv⟩
      obtain ⟨row, hrow, rb, rfl, Sr⟩ := paired_at tR hx
      have li := (List.getElem?_eq_some_iff.mp hx).1
      have lr := r1 row (List.mem_of_getElem? hrow)
      have brow : ∀ x ∈ row, x.natAbs < 2 ^ 8000 := fun x hx => b60 (r6 row (List.mem_of_getElem? hrow) x hx)
      have lv := tv.len
      refine ⟨wipe_one, yes_ ?_⟩
      refine ⟨_, rfl, C, rfl, ⟨_, .inl (.inl (s4 _ _ eC))⟩, fun D2 nD2 => ?_⟩
      refine lc_list (K := K) (a := C) (xs := cs) (Pv := fun j H' => Same H4 H' ∧ H' D2 = some (.lst ((((cols W n).take j).map fun col => dot row col).map V.int))) ⟨same_new nD2, upd_same⟩ (fun j H' _ e => .inl (.inl (e.1 _ _ (s4 _ _ eC)))) ?_ ?_
      · rintro j y H5 hy ⟨s5, hD2⟩
        obtain ⟨col, hcol, cb, rfl, ecb⟩ := paired_at lC hy
        have lj := (List.getElem?_eq_some_iff.mp hy).1
        refine ⟨wipe_one, yes_ ?_⟩
        refine ⟨_, rfl, _, rfl, rb, cb, row, col, rfl, same_sqt (s4.trans s5) Sr, .inl (.inl (s5 _ _ (s4 _ _ ecb))), by omega, brow, bcol col (List.mem_of_getElem? hcol), fun H6 s6 => ?_⟩
        refine ⟨_, s6 _ _ hD2, ?_, ?_, ?_⟩
        · rw [List.length_map, List.length_map, List.length_take, sizeLine_eq]
          omega
        · intro c o e
          rw [upd_ne (ne_of_none e nD2)]
          exact s6 _ _ (s5 _ _ e)
        · rw [upd_same, List.take_add_one, hcol, List.map_append, List.map_append]
          rfl
      rintro H5 ⟨s5, hD2⟩
      rw [lcs, List.take_length] at hD2
      refine ⟨D2, _, rfl, .inl ⟨.inl (.inl hD2), fun t ft => ?_⟩⟩
      have St : SqT K (upd H5 t (.tup (((cols W n).map fun col => dot row col).map V.int))) t (((cols W n).map fun col => dot row col).map V.int) := .inl (.inl upd_same)
      have st := same_new (o := .tup (((cols W n).map fun col => dot row col).map V.int)) ft
      have hD5 := st _ _ (s5 _ _ hD)
      replace tv := (tv.same s5).same st
      have s6 := s4.trans (s5.trans st)
      generalize upd H5 t _ = H6 at St hD5 tv s6 ⊢
      refine ⟨vs, hD5, ?_, ?_, vs ++ [.ref t], upd_same, ?_⟩
      · rw [lv, List.length_take, sizeLine_eq]
        omega
      · intro c o e
        rw [upd_ne (ne_of_none e nD)]
        exact s6 _ _ e
      · have e : (prod R W n).take (i + 1) = (prod R W n).take i ++ [(cols W n).map fun col => dot row col] := by
          unfold prod
          rw [List.take_add_one, List.getElem?_map, hrow]
          rfl
        rw [e]
        exact paired_snoc ⟨t, rfl, sqt_lst St hD5⟩ (tv.put hD5)
    · rintro H4 ⟨s4, vs, hD, tv⟩
      have e : (prod R W n).take us.length = prod R W n := by
        unfold prod
        rw [List.take_of_length_le (by rw [List.length_map]; omega)]
      rw [e] at tv
      refine ⟨D, _, rfl, .inl ⟨.inl (.inl hD), fun t ft => ?_⟩⟩
      have st := same_new (o := .tup vs) ft
      exact q _ t vs (s.trans (s4.trans st)) (.inl (.inl upd_same)) (tv.same st)
end
end K02


set_option Elab.async false
set_option linter.all false
set_option maxRecDepth 100000
set_option maxHeartbeats 2000000
namespace MM
open PySem PySem.Spec PyProof.Rows L2
/-! math.lcm -/
section
variable {X : Cx}
def rLcm : List V → Hp → VK → Prop := fun vs H Q => ∃ a b : Int, vs = [.int a, .int b] ∧ a.natAbs < 2 ^ 13000 ∧ b.natAbs < 2 ^ 13000 ∧ Q (.int ((Nat.lcm a.natAbs b.natAbs : Nat) : Int)) H
theorem log_ok {n : Nat} (h : n < 2 ^ 13000) : ¬ n.log2 / 30 + 1 > 450 := by
  have := PySem.W.mg_log (n := n) (k := 12999) h
  omega
theorem lcm_ok {a b : Nat} (ha : a < 2 ^ 13000) (hb : b < 2 ^ 13000) : (Nat.lcm a b).log2 < bitsLine := by
  have h1 : Nat.lcm a b ≤ a * b := Nat.div_le_self _ _
  have h2 : a * b < 2 ^ 26000 := by
    rw [show (26000 : Nat) = 13000 + 13000 from rfl, Nat.pow_add]
    exact Nat.mul_lt_mul'' ha hb
  have h3 := PySem.W.mg_log (n := Nat.lcm a b) (k := 25999) (Nat.lt_of_le_of_lt h1 h2)
  exact Nat.lt_of_le_of_lt h3 (by decide +kernel)
theorem cr_lcm : CallR X (.builtin "math.lcm") rLcm := by
  intro pins s σ H vs us Q I r h
  obtain ⟨a, b, rfl, ha, hb, q⟩ := h
  obtain ⟨t, u, rfl⟩ := Vals.int2 r
  have e : (Nat.lcm 1 a.natAbs).lcm b.natAbs = Nat.lcm a.natAbs b.natAbs := by rw [Nat.lcm_one_left]
  refine PySem.call_function_meets PySem.W.MGF.kind_lcm PySem.W.MGF.plain_lcm PySem.W.MGF.entry_lcm (PySem.W.MGF.args_lcm _ _) (PySem.W.mg_run_lcm a t b u (log_ok ?_) (log_ok ?_) ?_).meets ?_
  · exact Nat.max_lt.mpr ⟨by exact Nat.one_lt_two_pow (by decide), ha⟩
  · exact Nat.max_lt.mpr ⟨ha, hb⟩
  · rw [e, Int.natAbs_natCast]
    exact lcm_ok ha hb
  · rw [e]
    exact ⟨.int _, H, I.tok _, ⟨_, rfl⟩, q⟩
/-- // by a divisor that is not 0 -/
def CDivG (_ j : Int) : Prop := j ≠ 0 ∧ j.natAbs.log2 < 9000
theorem op_fdivG : OpR X (binaryOp .FloorDiv) (rI CDivG fun i j => .int (i.fdiv j)) := opI fun i j _ _ _ _ _ hc q =>
  floordiv_int hc.1 q (.inl (PyProof.noPylong_of_log2 hc.2))
theorem divG {i j : Int} (h0 : j ≠ 0) (h : j.natAbs < 2 ^ 8999) : CDivG i j := ⟨h0, Nat.lt_of_lt_of_le (PySem.Flt.log2_lt_of (by decide) h) (by decide)⟩
end
end MM

set_option Elab.async false
set_option linter.all false
set_option maxRecDepth 100000
set_option maxHeartbeats 4000000
namespace K02
open PySem PySem.Spec PyProof.Rows L2 MM
/-! own words for the readings: a step, its side -/
local macro_rules | `(tactic| walk_at "side") => `(tactic| first
  | omega
  | exact ⟨by omega, by omega⟩
  | exact Or.inl ⟨by omega, by omega⟩
  | exact Or.inr ⟨by omega, by omega⟩
  | (show CPw _ _; decide +kernel)
  | (show (0 : Int) < _; decide +kernel)
  | (show CDivW _ _; first | assumption | exact ⟨by decide, by decide +kernel⟩))
local macro_rules | `(tactic| walk_at "here") => `(tactic| first
  | assumption
  | exact upd_same
  | exact Or.inl (Or.inl upd_same)
  | exact Or.inl upd_same)
local macro_rules | `(tactic| walk_at "one") => `(tactic| first
  | refine ⟨_, rfl, ?_⟩
  | refine Or.inl ⟨_, rfl, ?_⟩
  | refine Or.inr ⟨_, rfl, ?_⟩
  | refine ⟨_, _, rfl, rfl, (by walk_at "side"), ?_⟩
  | refine ⟨_, _, rfl, rfl, ?_⟩
  | refine ⟨_, _, rfl, Or.inl (by walk_at "here"), ?_⟩
  | refine ⟨_, _, rfl, Or.inr (by walk_at "here"), ?_⟩
  | refine ⟨_, _, rfl, (by walk_at "here"), ?_⟩
  | refine ⟨_, _, _, _, rfl, rfl, (by walk_at "here"), rfl, ?_⟩
  | refine ⟨_, _, rfl, ?_⟩
  | refine ifT (by rfl) ?_
  | refine ifF (by rfl) ?_
  | refine ifT (decide_eq_true (by omega)) ?_
  | refine ifF (decide_eq_false (by omega)) ?_)
local macro_rules | `(tactic| walk_at "st") => `(tactic| repeat (walk_at "one"))

section
variable {P : Program} {w : World} {K : PySem.W.Frag} {mg : Str → Option Value} {base : Heap}
theorem mat_row {R : List (List Int)} {i : Nat} {row : List Int} (h : R[i]? = some row) (j : Nat) : mat R i j = row.getD j 0 := by
  have e : R.getD i [] = row := by
    rw [List.getD, h]
    rfl
  show (R.getD i []).getD j 0 = _
  rw [e]
def spLead : Sp := fun vs H Q _ => ∃ (r : Addr) (us : List V) (R : List (List Int)) (m s c : Nat), vs = [.ref r, .int (s : Int), .int (c : Int)] ∧ H r = some (.lst us) ∧ LL H us R ∧ Rect R m ∧ R.length ≤ 1000 ∧ s ≤ R.length ∧ c < m ∧
  (∀ at_ : Nat, s ≤ at_ → at_ < R.length → mat R at_ c ≠ 0 → (∀ i, s ≤ i → i < at_ → mat R i c = 0) → Q (.int (at_ : Int)) H) ∧ ((∀ i, s ≤ i → i < R.length → mat R i c = 0) → Q .non H)
theorem scLeadRow : FnScope ["rows", "start", "column", "at"] ["rows", "start", "column"] (defScope sLeadRow) :=
  ⟨rfl, rfl, rfl, by decide +kernel, rfl, by decide +kernel, by decide +kernel⟩
theorem dLeadRow (T : Tx K mg) : Def P w K mg base CX0 1 "_lead_row" ["rows", "start", "column"] spLead := by
  refine T.t_lead_row.def_ (N := ["rows", "start", "column", "at"]) scLeadRow (fun _ _ _ _ _ _ us hl => match us, hl with | [_, _, _], _ => rfl) ?_ ?_
  · intro vs H Q E h
    obtain ⟨r, us, R, m, s, c, rfl, _⟩ := h
    rfl
  · intro f cd A out s H vs Q E hr h
    obtain ⟨r, us, R, m, s, c, rfl, hr_, hR, rc, hl, sl, cm, q1, q2⟩ := h
    refine ⟨_, (pss_cons (ps_for PassesOwn.never rfl (pi_range2 rfl T.f_range (pa_cons (pv 1) (pa_cons (pe_callB call_len_seq rfl T.f_len (by decide +kernel) (pa_cons (pv 0) pa_nil)) pa_nil))) (pg_name (i := 3) scLeadRow.nd rfl (Or.inl rfl))
        (pss_one (ps_if (pt_cmpR op_ne (pe_ix ix_list (pe_ix ix_list (pv 0) (pv 3) (fun _ _ => rfl)) (pv 2) (fun _ _ => rfl)) pe_int (nomark _)) (pss_one (ps_ret (pv 3))) pss_nil)))
      (pss_one (ps_ret pe_non))), ?_⟩
    have lu := hR.len
    refine ⟨_, rfl, _, rfl, r, us, rfl, .inl (.inl (.inl hr_)), ?_⟩
    refine ⟨(s : Int), (us.length : Int), rfl, ⟨by omega, by omega, by omega, by omega⟩, ?_⟩
    refine for_range (fun i σ H' => H' = H ∧ s + i ≤ R.length ∧ (∀ k, s ≤ k → k < s + i → mat R k c = 0) ∧ ∃ y, σ = [some (.ref r), some (.int (s : Int)), some (.int (c : Int)), y]) ⟨rfl, by omega, fun k h1 h2 => by omega, none, rfl⟩ ?_ ?_
    · rintro i σ H' hi ⟨rfl, le, z, y, rfl⟩
      have lt : s + i < R.length := by omega
      obtain ⟨u, hu, b, rfl, eb⟩ := paired_get hR (row_get lt)
      have lr := rc _ (row_mem lt)
      refine ⟨_, rfl, _, rfl, r, us, _, .ref b, rfl, rfl, .inl (.inl hr_), ?_, _, rfl, b, _, _, .int ((R.getD (s + i) []).getD c 0), rfl, rfl, .inl (.inl eb), atI_nat (intsAt (by omega)), rfl, _, rfl, ?_⟩
      · show atI us ((s : Int) + (i : Int)) = _
        rw [← Int.natCast_add]
        exact atI_nat hu
      rw [dInt]
      have em : mat R (s + i) c = (R.getD (s + i) []).getD c 0 := rfl
      by_cases e : (R.getD (s + i) []).getD c 0 = 0
      · refine ifF (by rw [decide_eq_true e]; rfl) ?_
        refine ⟨rfl, by omega, fun k h1 h2 => ?_, _, rfl⟩
        by_cases c1 : k = s + i
        · rw [c1, em]
          exact e
        · exact z k h1 (by omega)
      · refine ifT (by rw [decide_eq_false e]; rfl) ?_
        refine ⟨_, rfl, ?_⟩
        have := q1 (s + i) (by omega) lt (by rw [em]; exact e) z
        rw [Int.natCast_add] at this
        exact this
    · rintro σ H' ⟨rfl, le, z, y, rfl⟩
      exact q2 fun i h1 h2 => z i h1 (by omega)
/-- a row, one step on -/
def stepR (row top : List Int) (c : Nat) (last : Int) : List Int := List.zipWith (fun n a => (top.getD c 0 * n - row.getD c 0 * a).fdiv last) row top
def spStep (K : PySem.W.Frag) : Sp := fun vs H Q _ => ∃ (a b : Addr) (row top : List Int) (c : Nat) (last : Int), vs = [.ref a, .ref b, .int (c : Int), .int last] ∧ H a = some (.lst (row.map V.int)) ∧ H b = some (.lst (top.map V.int)) ∧ row.length = top.length ∧ c < row.length ∧ row.length ≤ 1000 ∧
  (∀ x ∈ row, x.natAbs < 2 ^ 8000) ∧ (∀ x ∈ top, x.natAbs < 2 ^ 8000) ∧ last ≠ 0 ∧ last.natAbs < 2 ^ 8000 ∧ ∀ H' r, Same H H' → H r = none → H' r = some (.lst ((stepR row top c last).map V.int)) → Q (.ref r) H'
theorem scStepped : FnScope ["row", "top", "column", "last", "pivot", "head", "number", "above"] ["row", "top", "column", "last"] (defScope sStepped) :=
  ⟨rfl, rfl, rfl, by decide +kernel, rfl, by decide +kernel, by decide +kernel⟩
theorem dStepped (T : Tx K mg) : Def P w K mg base CX0 1 "_stepped" ["row", "top", "column", "last"] (spStep K) := by
  refine T.t_stepped.def_ (N := ["row", "top", "column", "last", "pivot", "head", "number", "above"]) scStepped (fun _ _ _ _ _ _ us hl => match us, hl with | [_, _, _, _], _ => rfl) ?_ ?_
  · intro vs H Q E h
    obtain ⟨a, b, row, top, c, last, rfl, _⟩ := h
    rfl
  · intro f cd A out s H vs Q E hr h
    obtain ⟨a, b, row, top, c, last, rfl, ha, hb, len, cl, l1, br, bt, l0, bl, q⟩ := h
    refine ⟨_, (pss_cons (ps_set (i := 4) scStepped.nd rfl (Or.inr rfl) (pe_ix ix_list (pv 1) (pv 2) (fun _ _ => rfl)))
      (pss_cons (ps_set (i := 5) scStepped.nd rfl (Or.inr rfl) (pe_ix ix_list (pv 0) (pv 2) (fun _ _ => rfl)))
      (pss_one (ps_ret (pe_lc (own := [("number", 6), ("above", 7)]) (g := gTup K 2 (gCons (gName 6) (gCons (gName 7) gNil))) (tt := tYes) rfl scStepped.nd (RZ.pi_zipA rfl T.f_zip (pa_cons (pv 0) (pa_cons (pv 1) pa_nil))) (blkOk_by (N := ["row", "top", "column", "last", "pivot", "head", "number", "above"]) (sc := defScope sStepped) (by decide +kernel)) (fun _ _ _ _ _ => (show PG _ _ (gTup K 2 (gCons (gName 6) (gCons (gName 7) gNil))) from pg_tup rfl (pgs_cons (pg_name (i := 6) scStepped.nd rfl (Or.inl rfl)) (pgs_cons (pg_name (i := 7) scStepped.nd rfl (Or.inl rfl)) pgs_nil)))) (fun _ _ _ _ _ => pts_nil) (fun _ _ _ _ _ => (pe_op op_fdivG (pe_op op_sub (pe_op op_mulW (pv 4) (pv 6)) (pe_op op_mulW (pv 5) (pv 7))) (pv 3)))))))), ?_⟩
    refine ⟨_, rfl, _, rfl, b, _, _, .int (top.getD c 0), rfl, rfl, .inl (.inl hb), atI_nat (intsAt (by omega)), ?_⟩
    refine ⟨_, rfl, _, rfl, a, _, _, .int (row.getD c 0), rfl, rfl, .inl (.inl ha), atI_nat (intsAt (by omega)), ?_⟩
    refine ⟨_, rfl, _, rfl, a, b, _, _, rfl, .inl ⟨.inl (.inl ha), .inl (.inl hb), fun D nD => ?_⟩⟩
    refine lc_zipL2 (n := row.length) (us := row.map V.int) (ws := top.map V.int) (by rw [List.length_map, List.length_map, len, Nat.min_self])
      (fun i H' => Same H H' ∧ H' D = some (.lst ((List.zipWith (fun n a => (top.getD c 0 * n - row.getD c 0 * a).fdiv last) (row.take i) (top.take i)).map V.int))) ⟨same_new nD, upd_same⟩
      (fun i H' _ e => ⟨.inl (.inl (e.1 _ _ ha)), .inl (.inl (e.1 _ _ hb))⟩) ?_ ?_
    · rintro i x y H1 T hx hy ⟨s1, hD⟩ fT
      obtain ⟨xi, hxi, rfl⟩ := map_int hx
      obtain ⟨yi, hyi, rfl⟩ := map_int hy
      have DT : D ≠ T := ne_of_none hD fT
      have li := (List.getElem?_eq_some_iff.mp hxi).1
      have li2 := (List.getElem?_eq_some_iff.mp hyi).1
      have s2 := s1.trans (same_new fT (o := .tup [.int xi, .int yi]))
      have hD2 := (upd_ne (o := .tup [.int xi, .int yi]) DT).trans hD
      refine ⟨T, _, rfl, .inl (.inl upd_same), rfl, _, _, rfl, ?_⟩
      refine ⟨_, _, rfl, rfl, rfl, ?_⟩
      generalize upd H1 T _ = H2 at s2 hD2 ⊢
      refine yes_ ?_
      refine ⟨_, rfl, _, rfl, _, _, rfl, rfl, mulB (by decide) (bt _ (mem_mem (by omega))) (br _ (List.mem_of_getElem? hxi)), ?_⟩
      refine ⟨_, rfl, _, rfl, _, _, rfl, rfl, mulB (by decide) (br _ (mem_mem (by omega))) (bt _ (List.mem_of_getElem? hyi)), ?_⟩
      refine ⟨_, _, rfl, rfl, _, rfl, _, _, rfl, rfl, divG l0 (Nat.lt_trans bl (Nat.pow_lt_pow_right (by decide) (by decide))), ?_⟩
      refine ⟨_, hD2, ?_, ?_, ?_⟩
      · rw [List.length_map, List.length_zipWith, List.length_take, sizeLine_eq]
        omega
      · intro c o e
        rw [upd_ne (ne_of_none e nD)]
        exact s2 _ _ e
      · rw [upd_same, List.take_add_one, hxi, List.take_add_one, hyi, List.zipWith_append (by rw [List.length_take, List.length_take]; omega), List.map_append]
        rfl
    · rintro H1 ⟨s1, hD⟩
      rw [List.take_length, len, List.take_length] at hD
      exact q H1 D s1 nD hD
end
end K02


set_option Elab.async false
set_option linter.all false
set_option maxRecDepth 100000
set_option maxHeartbeats 8000000
namespace K02
open PySem PySem.Spec PyProof.Rows L2 MM
/-! own words for the readings: a step, its side -/
local macro_rules | `(tactic| walk_at "side") => `(tactic| first
  | omega
  | exact ⟨by omega, by omega⟩
  | exact Or.inl ⟨by omega, by omega⟩
  | exact Or.inr ⟨by omega, by omega⟩
  | (show CPw _ _; decide +kernel)
  | (show (0 : Int) < _; decide +kernel)
  | (show CDivW _ _; first | assumption | exact ⟨by decide, by decide +kernel⟩))
local macro_rules | `(tactic| walk_at "here") => `(tactic| first
  | assumption
  | exact upd_same
  | exact Or.inl (Or.inl upd_same)
  | exact Or.inl upd_same)
local macro_rules | `(tactic| walk_at "one") => `(tactic| first
  | refine ⟨_, rfl, ?_⟩
  | refine Or.inl ⟨_, rfl, ?_⟩
  | refine Or.inr ⟨_, rfl, ?_⟩
  | refine ⟨_, _, rfl, rfl, (by walk_at "side"), ?_⟩
  | refine ⟨_, _, rfl, rfl, ?_⟩
  | refine ⟨_, _, rfl, Or.inl (by walk_at "here"), ?_⟩
  | refine ⟨_, _, rfl, Or.inr (by walk_at "here"), ?_⟩
  | refine ⟨_, _, rfl, (by walk_at "here"), ?_⟩
  | refine ⟨_, _, _, _, rfl, rfl, (by walk_at "here"), rfl, ?_⟩
  | refine ⟨_, _, rfl, ?_⟩
  | refine ifT (by rfl) ?_
  | refine ifF (by rfl) ?_
  | refine ifT (decide_eq_true (by omega)) ?_
  | refine ifF (decide_eq_false (by omega)) ?_)
local macro_rules | `(tactic| walk_at "st") => `(tactic| repeat (walk_at "one"))

section
variable {P : Program} {w : World} {K : PySem.W.Frag} {mg : Str → Option Value} {base : Heap}
def rLstOf (K : PySem.W.Frag) : List V → Hp → VK → Prop := fun xs H Q =>
  ∃ p ys, xs = [V.ref p] ∧ (SqL K H p ys ∨ SqT K H p ys) ∧ ∀ l : Addr, H l = none → Q (V.ref l) (upd H l (.lst ys))
/-- the bound of what stands after d steps -/
def bdE (d : Nat) : Nat := 48 * 2 ^ d - 1
theorem bdE_succ (d : Nat) : bdE (d + 1) = 2 * bdE d + 1 := by
  unfold bdE
  have : 0 < 2 ^ d := Nat.pow_pos (by decide)
  rw [Nat.pow_succ]
  omega
theorem bdE_mono {d e : Nat} (h : d ≤ e) : bdE d ≤ bdE e := by
  unfold bdE
  have := Nat.pow_le_pow_right (n := 2) (by decide) h
  omega
theorem bdE_six {d : Nat} (h : d ≤ 6) : bdE d ≤ 3071 := by
  have := bdE_mono h
  have e : bdE 6 = 3071 := by decide +kernel
  omega
/-- the stairs of a table, told -/
structure Fin (R : List (List Int)) (c : Nat) (Y : List (List Int)) (cs : List Nat) (ord : Nat → Nat) (sn : Int) (X : DT.M) : Prop where
  st : DT.St (mat R) R.length c c ord cs X sn
  len : Y.length = cs.length
  rect : Rect Y c
  eq : ∀ t, t < cs.length → ∀ j, j < c → mat Y t j = X t j
  big : Big Y (2 ^ 3071)
  sign : sn = 1 ∨ sn = -1
def spStairs (K : PySem.W.Frag) : Sp := fun vs H Q _ => ∃ (a : Addr) (us : List V) (R : List (List Int)) (c : Nat), vs = [.ref a] ∧ SqT K H a us ∧ TR K H us R ∧ Rect R c ∧ 1 ≤ R.length ∧ R.length ≤ 6 ∧ c ≤ 60 ∧ Big R (2 ^ 47) ∧
  ∀ H' r x t ws Y cs ord sn X, Same H H' → H' r = some (.tup [.ref x, .ref t, .int sn]) → H' x = some (.lst ws) → LL H' ws Y → SqT K H' t (nv cs) → Fin R c Y cs ord sn X → Q (.ref r) H'
theorem scStairs : FnScope ["table", "rows", "row", "last", "sign", "begun", "column", "done", "at", "below"] ["table"] (defScope sStairs) :=
  ⟨rfl, rfl, rfl, by decide +kernel, rfl, by decide +kernel, by decide +kernel⟩
theorem dStairs (T : Tx K mg) (DLeadRow : Def P w K mg base CX0 1 "_lead_row" ["rows", "start", "column"] spLead) (DStepped : Def P w K mg base CX0 1 "_stepped" ["row", "top", "column", "last"] (spStep K)) : Def P w K mg base CX0 2 "_stairs" ["table"] (spStairs K) := by
  refine T.t_stairs.def_ (N := ["table", "rows", "row", "last", "sign", "begun", "column", "done", "at", "below"]) scStairs (fun _ _ _ _ _ _ us hl => match us, hl with | [_], _ => rfl) ?_ ?_
  · intro vs H Q E h
    obtain ⟨a, us, R, c, rfl, _⟩ := h
    rfl
  · intro f cd A out s H vs Q E hr h
    have hr1 : Rm 1 _ := hr.le (by decide)
    obtain ⟨a, us, R, c, rfl, S, hR, rc, r1, r6, c60, bR, q⟩ := h
    refine ⟨_, (pss_cons (ps_setLc (i := 1) (own := [("row", 2)]) (g := gName 2) (tt := tYes) rfl scStairs.nd rfl rfl (sw_true rfl rfl rfl rfl) (pi_tup (pv 0)) (blkOk_by (N := ["table", "rows", "row", "last", "sign", "begun", "column", "done", "at", "below"]) (sc := defScope sStairs) (by decide +kernel)) (fun _ _ _ _ _ => pg_name (i := 2) scStairs.nd rfl (Or.inl rfl)) (fun _ _ _ _ _ => pts_nil) (fun _ _ _ _ _ => (pe_callTy (show CallR _ _ (rLstOf K) from call_list_of) rfl T.f_list (by decide +kernel) (pa_cons (pv 2) pa_nil))))
      (pss_cons (ps_set (i := 3) scStairs.nd rfl (Or.inl rfl) pe_int)
      (pss_cons (ps_set (i := 4) scStairs.nd rfl (Or.inl rfl) pe_int)
      (pss_cons (ps_set (i := 5) scStairs.nd rfl (Or.inl rfl) (pe_lst pa_nil))
      (pss_cons (ps_for PassesOwn.never rfl (pi_range1 rfl T.f_range (pa_cons (pe_callB call_len_seq rfl T.f_len (by decide +kernel) (pa_cons (pe_ix ix_list (pv 1) pe_int (fun _ _ => rfl)) pa_nil)) pa_nil)) (pg_name (i := 6) scStairs.nd rfl (Or.inl rfl))
        (pss_cons (ps_set (i := 7) scStairs.nd rfl (Or.inl rfl) (pe_callB call_len_seq rfl T.f_len (by decide +kernel) (pa_cons (pv 5) pa_nil)))
        (pss_cons (ps_set (i := 8) scStairs.nd rfl (Or.inl rfl) (pe_d DLeadRow (hr1.le (by decide)) pass0 (pa_cons (pv 1) (pa_cons (pv 7) (pa_cons (pv 6) pa_nil)))))
        (pss_one (ps_if (pt_cmpR op_notN (pv 8) pe_non (nomark _)) (pss_cons (ps_if (pt_cmpR (op_neD hr.hu) (pv 8) (pv 7) (nomark _)) (pss_cons (ps_asg (pe_tup (pa_cons (pe_ix ix_list (pv 1) (pv 7) (fun _ _ => rfl)) (pa_cons (pe_ix ix_list (pv 1) (pv 8) (fun _ _ => rfl)) pa_nil))) (pg_tup rfl (pgs_cons (pg_sub (pv 1) (pv 8) set_list) (pgs_cons (pg_sub (pv 1) (pv 7) set_list) pgs_nil))))
            (pss_one (ps_set (i := 4) scStairs.nd rfl (Or.inl rfl) (pe_un un_neg (pv 4))))) pss_nil)
          (pss_cons (ps_for PassesOwn.never rfl (pi_range2 rfl T.f_range (pa_cons (pe_op op_add (pv 7) pe_int) (pa_cons (pe_callB call_len_seq rfl T.f_len (by decide +kernel) (pa_cons (pv 1) pa_nil)) pa_nil))) (pg_name (i := 9) scStairs.nd rfl (Or.inl rfl))
            (pss_one (ps_asg (pe_d DStepped (hr1.le (by decide)) pass0 (pa_cons (pe_ix ix_list (pv 1) (pv 9) (fun _ _ => rfl)) (pa_cons (pe_ix ix_list (pv 1) (pv 7) (fun _ _ => rfl)) (pa_cons (pv 6) (pa_cons (pv 3) pa_nil))))) (pg_sub (pv 1) (pv 9) set_list))))
          (pss_cons (ps_set (i := 3) scStairs.nd rfl (Or.inl rfl) (pe_ix ix_list (pe_ix ix_list (pv 1) (pv 7) (fun _ _ => rfl)) (pv 6) (fun _ _ => rfl)))
          (pss_one (ps_expr (pe_bm PySem.F.plainAttrs_list PySem.F.slot_list_append PySem.F.type_list_append mt_append (pv 5) (pa_cons (pv 6) pa_nil))))))) pss_nil)))))
      (pss_one (ps_ret (pe_tup (pa_cons (pe_slice sl_list (pv 1) po_none (po_some (pe_callB call_len_seq rfl T.f_len (by decide +kernel) (pa_cons (pv 5) pa_nil)))) (pa_cons (pe_callTy call_tuple_of rfl T.f_tuple (by decide +kernel) (pa_cons (pv 5) pa_nil)) (pa_cons (pv 4) pa_nil))))))))))), ?_⟩
    have lu := hR.len
    refine ⟨_, rfl, a, rfl, ⟨_, S⟩, fun D nD => ?_⟩
    refine lc_tup (K := K) (a := a) (xs := us) (Pv := fun i H' => Same H H' ∧ ∃ rs, H' D = some (.lst rs) ∧ LLa D H' rs (R.take i)) ⟨same_new nD, [], upd_same, .nil⟩ (fun i H' _ e => same_sqt e.1 S) ?_ ?_
    · rintro i x H' hx ⟨s, rs, hD, lr⟩
      obtain ⟨row, hrow, b, rfl, Sb⟩ := paired_at hR hx
      have li : i < us.length := (List.getElem?_eq_some_iff.mp hx).1
      have lrs := lr.len
      refine ⟨wipe_one, yes_ ?_⟩
      refine ⟨_, rfl, b, _, rfl, .inr (same_sqt s Sb), fun l nl => ?_⟩
      have ld : l ≠ D := (ne_of_none hD nl).symm
      refine ⟨rs, same_new nl _ _ hD, ?_, ?_, rs ++ [.ref l], upd_same, ?_⟩
      · rw [lrs, List.length_take, sizeLine_eq]
        omega
      · intro k o e
        rw [upd_ne (ne_of_none e nD)]
        exact same_new nl _ _ (s _ _ e)
      · rw [List.take_add_one, hrow]
        exact paired_snoc ⟨l, rfl, ld, (upd_ne ld).trans upd_same⟩ (lr.same (same_new nl)).put
    rintro H1 ⟨s1, rs, hD, lr⟩
    rw [lu, List.take_length] at lr
    refine ⟨by decide, fun g fg => ?_⟩
    have gD : D ≠ g := ne_of_none hD fg
    obtain ⟨Al, hAl⟩ : ∃ Al : Addr → Prop, Al = fun b => b ≠ D ∧ b ≠ g := ⟨_, rfl⟩
    have lp : LLp Al (upd H1 g (.lst [])) rs R := Paired.mapP lr fun _ _ ⟨b, e, n, hb⟩ => ⟨b, e, by rw [hAl]; exact ⟨n, ne_of_none hb fg⟩, same_new fg _ _ hb⟩
    have AD : ∀ b, Al b → b ≠ D := fun b h => by rw [hAl] at h; exact h.1
    have Ag : ∀ b, Al b → b ≠ g := fun b h => by rw [hAl] at h; exact h.2
    have Anew : ∀ b, b ≠ D → b ≠ g → Al b := fun b h1 h2 => by rw [hAl]; exact ⟨h1, h2⟩
    have hD2 := same_new (o := .lst []) fg _ _ hD
    have s2 := s1.trans (same_new (o := .lst []) fg)
    have hg : (upd H1 g (.lst [])) g = some (.lst []) := upd_same
    have nD2 := nD
    have ng : H g = none := s1.free fg
    generalize upd H1 g (.lst []) = H2 at lp hD2 s2 hg
    clear lr s1 hD fg hAl
    have keep : ∀ {H3 : Hp} {o : HO}, Same H H3 → Same H (upd H3 D o) := fun {H3 o} s b x e => by
      rw [upd_ne (ne_of_none e nD)]
      exact s _ _ e
    have keepg : ∀ {H3 : Hp} {o : HO}, Same H H3 → Same H (upd H3 g o) := fun {H3 o} s b x e => by
      rw [upd_ne (ne_of_none e ng)]
      exact s _ _ e
    obtain ⟨u0, hu0, b0, rfl, a0, eb0⟩ := paired_get lp (row_get (i := 0) (by omega))
    have l0 := rect_get rc (i := 0) (by omega)
    refine ⟨_, rfl, D, rs, _, .ref b0, rfl, rfl, .inl (.inl hD2), atI_nat (j := 0) hu0, b0, _, rfl, .inl (.inl (.inl eb0)), ?_⟩
    rw [List.length_map, l0]
    refine ⟨(c : Int), rfl, by omega, by omega, for_range (fun i σ H' => Same H H' ∧ ∃ (vs : List V) (Y : List (List Int)) (cs : List Nat) (sn last : Int) (ord : Nat → Nat), H' D = some (.lst vs) ∧ H' g = some (.lst (nv cs)) ∧ LLp Al H' vs Y ∧ Y.length = R.length ∧ Rect Y c ∧
        DT.St (mat R) R.length c i ord cs (mat Y) sn ∧ last = DT.L (mat R) ord cs cs.length ∧ Big Y (2 ^ bdE cs.length) ∧ last.natAbs < 2 ^ bdE cs.length ∧ (sn = 1 ∨ sn = -1) ∧
        ∃ x6 x7 x8 x9, σ = [some (.ref a), some (.ref D), none, some (.int last), some (.int sn), some (.ref g), x6, x7, x8, x9])
      ⟨s2, rs, R, [], 1, 1, id, hD2, hg, lp, rfl, rc, DT.St.start _ _ _, rfl, bR, by decide, .inl rfl, _, _, _, _, rfl⟩ ?_ ?_⟩
    · rintro i σ H3 hi ⟨s3, vs, Y, cs, sn, last, ord, hD, hg, lp, lY, rY, st, hl, bY, bl, hs, x6, x7, x8, x9, rfl⟩
      have ic : i < c := by simpa using hi
      have lv := lp.len
      have few := st.few
      obtain ⟨d, hd⟩ : ∃ d, d = cs.length := ⟨_, rfl⟩
      refine ⟨_, rfl, g, _, rfl, .inl (.inl (.inl hg)), ?_⟩
      rw [nv_len, ← hd]
      refine ⟨_, rfl, _, rfl, _, rfl, D, vs, Y, c, d, i, ?_, hD, lp.ll, rY, by omega, by omega, ic, ?_, ?_⟩
      · show [V.ref D, V.int (d : Int), V.int (0 + (i : Int))] = _
        rw [Int.zero_add]
      · -- a lead
        intro at_ dat atr ne before
        rw [lY] at atr
        refine ⟨_, rfl, rfl, _, rfl, ?_⟩
        refine ifT rfl ?_
        try dsimp only [gName]
        have ei : (0 : Int) + (i : Int) = (i : Int) := Int.zero_add _
        refine seq_rest (fun σ H4 => Same H H4 ∧ ∃ (vs : List V) (Y : List (List Int)) (sn : Int) (ord : Nat → Nat), H4 D = some (.lst vs) ∧ H4 g = some (.lst (nv cs)) ∧ LLp Al H4 vs Y ∧ Y.length = R.length ∧ Rect Y c ∧
          DT.St (mat R) R.length c i ord cs (mat Y) sn ∧ last = DT.L (mat R) ord cs cs.length ∧ Big Y (2 ^ bdE cs.length) ∧ (sn = 1 ∨ sn = -1) ∧ mat Y d i ≠ 0 ∧
          ∃ x8 x9, σ = [some (.ref a), some (.ref D), none, some (.int last), some (.int sn), some (.ref g), some (.int (0 + (i : Int))), some (.int (d : Int)), x8, x9]) ?_ ?_
        rotate_left
        · intro N hN
          refine ⟨_, rfl, _, rfl, .int _, .int _, .int _, .int _, rfl, rfl, ?_⟩
          rw [show PyData.eqv (.int (at_ : Int)) (.int (d : Int)) = decide ((at_ : Int) = (d : Int)) from rfl]
          refine ⟨_, rfl, ?_⟩
          by_cases e : at_ = d
          · refine ifF (by rw [decide_eq_true (by omega)]; rfl) ?_
            subst e
            exact hN _ _ ⟨s3, vs, Y, sn, ord, hD, hg, lp, lY, rY, st, hl, bY, hs, ne, _, _, rfl⟩
          · refine ifT (by rw [decide_eq_false (by omega)]; rfl) ?_
            obtain ⟨ua, hua, ba, rfl, aa, eba⟩ := paired_get lp (row_get (i := at_) (by omega))
            obtain ⟨ud, hud, bd, rfl, ad, ebd⟩ := paired_get lp (row_get (i := d) (by omega))
            refine ⟨_, rfl, _, rfl, D, vs, _, .ref bd, rfl, rfl, .inl (.inl hD), atI_nat hud, _, rfl, _, rfl, D, vs, _, .ref ba, rfl, rfl, .inl (.inl hD), atI_nat hua, by show 2 ≤ sizeLine; decide, fun T nT => ?_⟩
            have TD : D ≠ T := ne_of_none hD nT
            have Tg : g ≠ T := ne_of_none hg nT
            refine ⟨T, _, rfl, .inl (.inl upd_same), rfl, _, _, rfl, ?_⟩
            refine ⟨_, rfl, _, rfl, D, _, (at_ : Int), at_, rfl, rfl, (upd_ne TD).trans hD, ixN_in (by omega), ?_⟩
            refine ⟨_, _, rfl, _, rfl, _, rfl, D, _, (d : Int), d, rfl, rfl, upd_same, ixN_in (by rw [List.length_set]; omega), ?_⟩
            refine ⟨rfl, _, rfl, sn, rfl, ?_⟩
            have la := rect_get rY (i := at_) (by omega)
            have ld := rect_get rY (i := d) (by omega)
            have up : ∀ {b : Addr} {o : HO}, Al b → H3 b = some o → (upd (upd (upd H3 T (.tup [.ref bd, .ref ba])) D (.lst (vs.set at_ (.ref bd)))) D (.lst ((vs.set at_ (.ref bd)).set d (.ref ba)))) b = some o := fun {b o} h e =>
              (upd_ne (AD _ h)).trans ((upd_ne (AD _ h)).trans (same_new nT _ _ e))
            have lp4 : LLp Al (upd (upd (upd H3 T (.tup [.ref bd, .ref ba])) D (.lst (vs.set at_ (.ref bd)))) D (.lst ((vs.set at_ (.ref bd)).set d (.ref ba)))) vs Y := ((lp.same (same_new nT)).put AD).put AD
            have st2 := st.exch (at_ := at_) (by omega) (by omega)
            rw [← hd, if_neg (fun z => e z.symm), show -1 * sn = -sn by omega] at st2
            refine hN _ _ ⟨keep (keep (s3.trans (same_new nT))), _, (Y.set at_ (Y.getD d [])).set d (Y.getD at_ []), -sn, _, upd_same, (upd_ne gD.symm).trans ((upd_ne gD.symm).trans ((upd_ne Tg).trans hg)),
              paired_set ⟨ba, rfl, aa, up aa eba⟩ (paired_set ⟨bd, rfl, ad, up ad ebd⟩ lp4 at_) d, by rw [List.length_set, List.length_set]; exact lY, (rY.set ld).set la,
              st2.congr (by omega) fun i' hi' j hj => mat_swap (by omega) (by omega) i' j, ?_, (bY.set (bY _ (row_mem (by omega)))).set (bY _ (row_mem (by omega))), ?_, ?_, _, _, rfl⟩
            · rw [hl, DT.L_exch (by omega) (by omega)]
            · rcases hs with rfl | rfl
              · exact .inr rfl
              · exact .inl rfl
            · rw [mat_swap (by omega) (by omega)]
              unfold DT.sw
              rw [if_pos rfl]
              exact ne
        have dr : d < R.length := by omega
        clear lp lv rY st bY hs ne before hD hg lY vs Y s3 ord hl atr dat sn
        rintro σ H4 ⟨s4, vs, Y, sn, ord, hD, hg, lp, lY, rY, st, hl, bY, hs, ne, x8, x9, rfl⟩
        have lv := lp.len
        have l0 : last ≠ 0 := by rw [hl]; exact st.led _ (Nat.le_refl _)
        have dv := st.divides ic (by omega) (by rw [← hd]; exact ne) hl
        rw [← hd] at dv bY bl
        have e6 : bdE d ≤ 3071 := bdE_six (by omega)
        have big8 : ∀ row ∈ Y, ∀ x ∈ row, x.natAbs < 2 ^ 8000 := fun row hr x hx => Nat.lt_of_lt_of_le (bY row hr x hx) (Nat.pow_le_pow_right (by decide) (by omega))
        obtain ⟨ud, hud, bd, rfl, ad, ebd⟩ := paired_get lp (row_get (i := d) (by omega))
        refine ⟨_, rfl, _, _, rfl, rfl, _, rfl, D, vs, rfl, .inl (.inl (.inl hD)), ?_⟩
        refine ⟨(d : Int) + 1, (vs.length : Int), rfl, ⟨by omega, by omega, by omega, by omega⟩, ?_⟩
        refine for_range (fun k σ H5 => Same H H5 ∧ ∃ (ws : List V) (Z : List (List Int)), H5 D = some (.lst ws) ∧ H5 g = some (.lst (nv cs)) ∧ LLp Al H5 ws Z ∧ Z.length = R.length ∧
            (∀ i', i' ≤ d ∨ d + 1 + k ≤ i' → Z.getD i' [] = Y.getD i' []) ∧ (∀ i', d < i' → i' < d + 1 + k → Z.getD i' [] = stepR (Y.getD i' []) (Y.getD d []) i last) ∧ ws[d]? = some (.ref bd) ∧ H5 bd = some (.lst ((Y.getD d []).map V.int)) ∧
            ∃ x8 x9, σ = [some (.ref a), some (.ref D), none, some (.int last), some (.int sn), some (.ref g), some (.int (0 + (i : Int))), some (.int (d : Int)), x8, x9])
          ⟨s4, vs, Y, hD, hg, lp, lY, fun _ _ => rfl, fun i' h1 h2 => by omega, hud, ebd, _, _, rfl⟩ ?_ ?_
        · rintro k σ H5 hk ⟨s5, ws, Z, hD5, hg5, lp5, lZ, z1, z2, hwd, ebd5, x8, x9, rfl⟩
          have lw := lp5.len
          have kr : d + 1 + k < R.length := by omega
          have ek : (d : Int) + 1 + (k : Int) = ((d + 1 + k : Nat) : Int) := by omega
          obtain ⟨ub, hub, bb, rfl, ab, ebb⟩ := paired_get lp5 (row_get (i := d + 1 + k) (by omega))
          rw [z1 _ (.inr (Nat.le_refl _))] at ebb
          have lb := rect_get rY (i := d + 1 + k) (by omega)
          have ld := rect_get rY (i := d) (by omega)
          refine ⟨_, rfl, _, rfl, D, ws, _, .ref bb, rfl, rfl, .inl (.inl hD5), by rw [ek]; exact atI_nat hub, _, rfl, _, rfl, D, ws, _, .ref bd, rfl, rfl, .inl (.inl hD5), atI_nat hwd, _, rfl, _, rfl,
            bb, bd, _, _, i, last, by rw [Int.zero_add], ebb, ebd5, by omega, by omega, by omega, big8 _ (row_mem (by omega)), big8 _ (row_mem (by omega)), l0, Nat.lt_of_lt_of_le bl (Nat.pow_le_pow_right (by decide) (by omega)), fun H6 r s6 nr er => ?_⟩
          have rD : r ≠ D := (ne_of_none hD5 nr).symm
          have rg : r ≠ g := (ne_of_none hg5 nr).symm
          refine ⟨_, rfl, _, rfl, D, _, _, d + 1 + k, rfl, rfl, s6 _ _ hD5, by rw [ek]; exact ixN_in (by omega), ?_⟩
          refine ⟨keep (s5.trans s6), _, Z.set (d + 1 + k) (stepR (Y.getD (d + 1 + k) []) (Y.getD d []) i last), upd_same, (upd_ne gD.symm).trans (s6 _ _ hg5), paired_set ⟨r, rfl, Anew _ rD rg, (upd_ne rD).trans er⟩ ((lp5.same s6).put AD) _, by rw [List.length_set]; exact lZ, ?_, ?_, ?_, (upd_ne (AD _ ad)).trans (s6 _ _ ebd5), _, _, rfl⟩
          · intro i' h
            rw [getD_set_ne (by omega)]
            exact z1 i' (by omega)
          · intro i' h1 h2
            by_cases c1 : i' = d + 1 + k
            · rw [c1, getD_set_eq (by omega)]
            · rw [getD_set_ne (fun z => c1 z.symm)]
              exact z2 i' h1 (by omega)
          · rw [List.getElem?_set_ne (by omega)]
            exact hwd
        · rintro σ H5 ⟨s5, ws, Z, hD5, hg5, lp5, lZ, z1, z2, hwd, ebd5, x8, x9, rfl⟩
          have lw := lp5.len
          have en : d + 1 + ((vs.length : Int) - ((d : Int) + 1)).toNat = R.length := by omega
          rw [en] at z1 z2
          have Zd : Z.getD d [] = Y.getD d [] := z1 d (.inl (Nat.le_refl _))
          have rowlen : ∀ i', i' < R.length → (Z.getD i' []).length = c := fun i' hi' => by
            by_cases c1 : i' ≤ d
            · rw [z1 i' (.inl c1)]
              exact rect_get rY (by omega)
            · rw [z2 i' (by omega) hi']
              unfold stepR
              rw [List.length_zipWith, rect_get rY (by omega), rect_get rY (by omega), Nat.min_self]
          have rZ : Rect Z c := rect_of fun i' hi' => rowlen i' (by omega)
          have val : ∀ i', d < i' → i' < R.length → ∀ j, j < c → mat Z i' j = (mat Y d i * mat Y i' j - mat Y i' i * mat Y d j).fdiv last := by
            intro i' h1 h2 j hj
            unfold mat
            rw [z2 i' h1 h2]
            unfold stepR
            rw [List.getD, List.getElem?_zipWith, mem_get (by rw [rect_get rY (by omega)]; exact hj), mem_get (by rw [rect_get rY (by omega)]; exact hj)]
            rfl
          have st2 := st.step (X' := mat Z) ic (by omega) (by rw [← hd]; exact ne) hl (fun i' h1 j hj => by
              unfold mat
              rw [z1 i' (.inl (by omega))]) fun i' h1 h2 j hj q' e => by
            rw [val i' (by omega) h2 j hj]
            rw [← hd] at e
            rw [e]
            exact Int.mul_fdiv_cancel_left _ l0
          have bZ : Big Z (2 ^ bdE (d + 1)) := big_of rZ fun i' hi' j hj => by
            rw [lZ] at hi'
            by_cases c1 : i' ≤ d
            · have : mat Z i' j = mat Y i' j := by
                unfold mat
                rw [z1 i' (.inl c1)]
              rw [this]
              exact Nat.lt_of_lt_of_le (big_get bY rY (by omega) hj) (Nat.pow_le_pow_right (by decide) (bdE_mono (by omega)))
            · have e := dv i' (by omega) hi' j hj
              rw [val i' (by omega) hi' j hj, e, Int.mul_fdiv_cancel_left _ l0]
              refine abs_le_mul l0 e ?_
              rw [bdE_succ]
              exact two_mul_lt (big_get bY rY (by omega) ic) (big_get bY rY (by omega) hj) (big_get bY rY (by omega) ic) (big_get bY rY (by omega) hj)
          have lcs : (cs ++ [i]).length = d + 1 := by rw [List.length_append, hd]; rfl
          have gcs : (cs ++ [i]).getD d 0 = i := by rw [hd]; exact DT.getD_end
          have pv := st2.piv (t := d) (by omega) (by omega)
          rw [gcs] at pv
          refine ⟨_, rfl, _, rfl, D, ws, _, .ref bd, rfl, rfl, .inl (.inl hD5), atI_nat hwd, _, rfl, bd, _, _, .int (mat Y d i), rfl, rfl, .inl (.inl ebd5), ?_, ?_⟩
          · rw [Int.zero_add]
            exact atI_nat (intsAt (by rw [rect_get rY (by omega)]; exact ic))
          refine ⟨_, rfl, .inl ⟨rfl, _, .inl (.inl hg5)⟩, ?_⟩
          refine ⟨_, rfl, g, _, _, rfl, rfl, hg5, by rw [nv_len, sizeLine_eq]; omega, ?_⟩
          have eZ : mat Z d i = mat Y d i := by
            unfold mat
            rw [Zd]
          rw [eZ] at pv
          refine ⟨keepg s5, ws, Z, cs ++ [i], sn, mat Y d i, ord, (upd_ne gD).trans hD5, ?_, lp5.put Ag, lZ, rZ, st2, by rw [lcs]; exact pv, by rw [lcs]; exact bZ, ?_, hs, _, _, _, _, rfl⟩
          · rw [upd_same, Int.zero_add]
            unfold nv
            rw [List.map_append]
            rfl
          · rw [lcs]
            exact Nat.lt_of_lt_of_le (big_get bY rY (by omega) ic) (Nat.pow_le_pow_right (by decide) (bdE_mono (by omega)))
      · -- none
        intro z
        refine ⟨_, rfl, rfl, _, rfl, ?_⟩
        refine ifF rfl ?_
        exact ⟨s3, vs, Y, cs, sn, last, ord, hD, hg, lp, lY, rY, st.pass fun i' h1 h2 => z i' (by omega) (by omega), hl, bY, bl, hs, _, _, _, _, rfl⟩
    · rintro σ H3 ⟨s3, vs, Y, cs, sn, last, ord, hD, hg, lp, lY, rY, st, hl, bY, bl, hs, x6, x7, x8, x9, rfl⟩
      rw [show ((c : Int)).toNat = c from Int.toNat_natCast c] at st
      have few := st.few
      refine ⟨_, rfl, ?_⟩
      simp only [tNoPart]
      refine ⟨_, rfl, g, _, rfl, .inl (.inl (.inl hg)), _, rfl, D, vs, rfl, .inl (.inl hD), fun p fp => ?_⟩
      have ecut : cutV vs none (some ((nv cs).length : Int)) = vs.take cs.length := by
        rw [nv_len]
        exact cut_upto vs _
      rw [ecut]
      have s4 := s3.trans (same_new (o := .lst (vs.take cs.length)) fp)
      have hg4 := same_new (o := .lst (vs.take cs.length)) fp _ _ hg
      have lp4 : LL (upd H3 p (.lst (vs.take cs.length))) (vs.take cs.length) (Y.take cs.length) := paired_take (lp.ll.same (same_new fp)) _
      have ep : (upd H3 p (.lst (vs.take cs.length))) p = some (.lst (vs.take cs.length)) := upd_same
      generalize upd H3 p _ = H4 at s4 hg4 lp4 ep ⊢
      refine ⟨_, rfl, g, _, rfl, .inl ⟨.inl (.inl hg4), fun t ft => ?_⟩⟩
      refine ⟨_, rfl, ?_⟩
      have st5 := same_new (o := .tup (nv cs)) ft
      refine ⟨by show 3 ≤ sizeLine; decide, fun r fr => ?_⟩
      have sr := same_new (o := .tup [.ref p, .ref t, .int sn]) fr
      refine q _ r p t _ (Y.take cs.length) cs ord sn (mat Y) ((s4.trans st5).trans sr) upd_same (sr _ _ (st5 _ _ ep)) ((lp4.same st5).same sr) (.inl (.inl (sr _ _ upd_same))) ⟨st, ?_, ?_, ?_, ?_, hs⟩
      · rw [List.length_take]
        omega
      · exact fun row hr => rY row (List.mem_of_mem_take hr)
      · intro t ht j hj
        unfold mat
        rw [getD_take ht]
      · exact fun row hr x hx => Nat.lt_of_lt_of_le (bY row (List.mem_of_mem_take hr) x hx) (Nat.pow_le_pow_right (by decide) (bdE_six (by omega)))
end
end K02


set_option Elab.async false
set_option linter.all false
set_option maxRecDepth 100000
set_option maxHeartbeats 8000000
namespace K02.LS
open K02
open PySem PySem.Spec PyProof.Rows L2 MM
/-! own words for the readings: a step, its side -/
local macro_rules | `(tactic| walk_at "side") => `(tactic| first
  | omega
  | exact ⟨by omega, by omega⟩
  | exact Or.inl ⟨by omega, by omega⟩
  | exact Or.inr ⟨by omega, by omega⟩
  | (show CPw _ _; decide +kernel)
  | (show (0 : Int) < _; decide +kernel)
  | (show CDivW _ _; first | assumption | exact ⟨by decide, by decide +kernel⟩))
local macro_rules | `(tactic| walk_at "here") => `(tactic| first
  | assumption
  | exact upd_same
  | exact Or.inl (Or.inl upd_same)
  | exact Or.inl upd_same)
local macro_rules | `(tactic| walk_at "one") => `(tactic| first
  | refine ⟨_, rfl, ?_⟩
  | refine Or.inl ⟨_, rfl, ?_⟩
  | refine Or.inr ⟨_, rfl, ?_⟩
  | refine ⟨_, _, rfl, rfl, (by walk_at "side"), ?_⟩
  | refine ⟨_, _, rfl, rfl, ?_⟩
  | refine ⟨_, _, rfl, Or.inl (by walk_at "here"), ?_⟩
  | refine ⟨_, _, rfl, Or.inr (by walk_at "here"), ?_⟩
  | refine ⟨_, _, rfl, (by walk_at "here"), ?_⟩
  | refine ⟨_, _, _, _, rfl, rfl, (by walk_at "here"), rfl, ?_⟩
  | refine ⟨_, _, rfl, ?_⟩
  | refine ifT (by rfl) ?_
  | refine ifF (by rfl) ?_
  | refine ifT (decide_eq_true (by omega)) ?_
  | refine ifF (decide_eq_false (by omega)) ?_)
local macro_rules | `(tactic| walk_at "st") => `(tactic| repeat (walk_at "one"))

section
variable {P : Program} {w : World} {K : PySem.W.Frag} {mg : Str → Option Value} {base : Heap}
def spStairsL (K : PySem.W.Frag) : Sp := fun vs H Q _ => ∃ (a : Addr) (us : List V) (R : List (List Int)) (c : Nat), vs = [.ref a] ∧ SqL K H a us ∧ TR K H us R ∧ Rect R c ∧ 1 ≤ R.length ∧ R.length ≤ 6 ∧ c ≤ 60 ∧ Big R (2 ^ 47) ∧
  ∀ H' r x t ws Y cs ord sn X, Same H H' → H' r = some (.tup [.ref x, .ref t, .int sn]) → H' x = some (.lst ws) → LL H' ws Y → SqT K H' t (nv cs) → Fin R c Y cs ord sn X → Q (.ref r) H'
theorem scStairs : FnScope ["table", "rows", "row", "last", "sign", "begun", "column", "done", "at", "below"] ["table"] (defScope sStairs) :=
  ⟨rfl, rfl, rfl, by decide +kernel, rfl, by decide +kernel, by decide +kernel⟩
theorem dStairs (T : Tx K mg) (DLeadRow : Def P w K mg base CX0 1 "_lead_row" ["rows", "start", "column"] spLead) (DStepped : Def P w K mg base CX0 1 "_stepped" ["row", "top", "column", "last"] (spStep K)) : Def P w K mg base CX0 2 "_stairs" ["table"] (spStairsL K) := by
  refine T.t_stairs.def_ (N := ["table", "rows", "row", "last", "sign", "begun", "column", "done", "at", "below"]) scStairs (fun _ _ _ _ _ _ us hl => match us, hl with | [_], _ => rfl) ?_ ?_
  · intro vs H Q E h
    obtain ⟨a, us, R, c, rfl, _⟩ := h
    rfl
  · intro f cd A out s H vs Q E hr h
    have hr1 : Rm 1 _ := hr.le (by decide)
    obtain ⟨a, us, R, c, rfl, S, hR, rc, r1, r6, c60, bR, q⟩ := h
    refine ⟨_, (pss_cons (ps_setLc (i := 1) (own := [("row", 2)]) (g := gName 2) (tt := tYes) rfl scStairs.nd rfl rfl (sw_true rfl rfl rfl rfl) (pi_list (pv 0)) (blkOk_by (N := ["table", "rows", "row", "last", "sign", "begun", "column", "done", "at", "below"]) (sc := defScope sStairs) (by decide +kernel)) (fun _ _ _ _ _ => pg_name (i := 2) scStairs.nd rfl (Or.inl rfl)) (fun _ _ _ _ _ => pts_nil) (fun _ _ _ _ _ => (pe_callTy (show CallR _ _ (rLstOf K) from call_list_of) rfl T.f_list (by decide +kernel) (pa_cons (pv 2) pa_nil))))
      (pss_cons (ps_set (i := 3) scStairs.nd rfl (Or.inl rfl) pe_int)
      (pss_cons (ps_set (i := 4) scStairs.nd rfl (Or.inl rfl) pe_int)
      (pss_cons (ps_set (i := 5) scStairs.nd rfl (Or.inl rfl) (pe_lst pa_nil))
      (pss_cons (ps_for PassesOwn.never rfl (pi_range1 rfl T.f_range (pa_cons (pe_callB call_len_seq rfl T.f_len (by decide +kernel) (pa_cons (pe_ix ix_list (pv 1) pe_int (fun _ _ => rfl)) pa_nil)) pa_nil)) (pg_name (i := 6) scStairs.nd rfl (Or.inl rfl))
        (pss_cons (ps_set (i := 7) scStairs.nd rfl (Or.inl rfl) (pe_callB call_len_seq rfl T.f_len (by decide +kernel) (pa_cons (pv 5) pa_nil)))
        (pss_cons (ps_set (i := 8) scStairs.nd rfl (Or.inl rfl) (pe_d DLeadRow (hr1.le (by decide)) pass0 (pa_cons (pv 1) (pa_cons (pv 7) (pa_cons (pv 6) pa_nil)))))
        (pss_one (ps_if (pt_cmpR op_notN (pv 8) pe_non (nomark _)) (pss_cons (ps_if (pt_cmpR (op_neD hr.hu) (pv 8) (pv 7) (nomark _)) (pss_cons (ps_asg (pe_tup (pa_cons (pe_ix ix_list (pv 1) (pv 7) (fun _ _ => rfl)) (pa_cons (pe_ix ix_list (pv 1) (pv 8) (fun _ _ => rfl)) pa_nil))) (pg_tup rfl (pgs_cons (pg_sub (pv 1) (pv 8) set_list) (pgs_cons (pg_sub (pv 1) (pv 7) set_list) pgs_nil))))
            (pss_one (ps_set (i := 4) scStairs.nd rfl (Or.inl rfl) (pe_un un_neg (pv 4))))) pss_nil)
          (pss_cons (ps_for PassesOwn.never rfl (pi_range2 rfl T.f_range (pa_cons (pe_op op_add (pv 7) pe_int) (pa_cons (pe_callB call_len_seq rfl T.f_len (by decide +kernel) (pa_cons (pv 1) pa_nil)) pa_nil))) (pg_name (i := 9) scStairs.nd rfl (Or.inl rfl))
            (pss_one (ps_asg (pe_d DStepped (hr1.le (by decide)) pass0 (pa_cons (pe_ix ix_list (pv 1) (pv 9) (fun _ _ => rfl)) (pa_cons (pe_ix ix_list (pv 1) (pv 7) (fun _ _ => rfl)) (pa_cons (pv 6) (pa_cons (pv 3) pa_nil))))) (pg_sub (pv 1) (pv 9) set_list))))
          (pss_cons (ps_set (i := 3) scStairs.nd rfl (Or.inl rfl) (pe_ix ix_list (pe_ix ix_list (pv 1) (pv 7) (fun _ _ => rfl)) (pv 6) (fun _ _ => rfl)))
          (pss_one (ps_expr (pe_bm PySem.F.plainAttrs_list PySem.F.slot_list_append PySem.F.type_list_append mt_append (pv 5) (pa_cons (pv 6) pa_nil))))))) pss_nil)))))
      (pss_one (ps_ret (pe_tup (pa_cons (pe_slice sl_list (pv 1) po_none (po_some (pe_callB call_len_seq rfl T.f_len (by decide +kernel) (pa_cons (pv 5) pa_nil)))) (pa_cons (pe_callTy call_tuple_of rfl T.f_tuple (by decide +kernel) (pa_cons (pv 5) pa_nil)) (pa_cons (pv 4) pa_nil))))))))))), ?_⟩
    have lu := hR.len
    refine ⟨_, rfl, a, rfl, ⟨_, S⟩, fun D nD => ?_⟩
    refine lc_list (K := K) (a := a) (xs := us) (Pv := fun i H' => Same H H' ∧ ∃ rs, H' D = some (.lst rs) ∧ LLa D H' rs (R.take i)) ⟨same_new nD, [], upd_same, .nil⟩ (fun i H' _ e => same_sql e.1 S) ?_ ?_
    · rintro i x H' hx ⟨s, rs, hD, lr⟩
      obtain ⟨row, hrow, b, rfl, Sb⟩ := paired_at hR hx
      have li : i < us.length := (List.getElem?_eq_some_iff.mp hx).1
      have lrs := lr.len
      refine ⟨wipe_one, yes_ ?_⟩
      refine ⟨_, rfl, b, _, rfl, .inr (same_sqt s Sb), fun l nl => ?_⟩
      have ld : l ≠ D := (ne_of_none hD nl).symm
      refine ⟨rs, same_new nl _ _ hD, ?_, ?_, rs ++ [.ref l], upd_same, ?_⟩
      · rw [lrs, List.length_take, sizeLine_eq]
        omega
      · intro k o e
        rw [upd_ne (ne_of_none e nD)]
        exact same_new nl _ _ (s _ _ e)
      · rw [List.take_add_one, hrow]
        exact paired_snoc ⟨l, rfl, ld, (upd_ne ld).trans upd_same⟩ (lr.same (same_new nl)).put
    rintro H1 ⟨s1, rs, hD, lr⟩
    rw [lu, List.take_length] at lr
    refine ⟨by decide, fun g fg => ?_⟩
    have gD : D ≠ g := ne_of_none hD fg
    obtain ⟨Al, hAl⟩ : ∃ Al : Addr → Prop, Al = fun b => b ≠ D ∧ b ≠ g := ⟨_, rfl⟩
    have lp : LLp Al (upd H1 g (.lst [])) rs R := Paired.mapP lr fun _ _ ⟨b, e, n, hb⟩ => ⟨b, e, by rw [hAl]; exact ⟨n, ne_of_none hb fg⟩, same_new fg _ _ hb⟩
    have AD : ∀ b, Al b → b ≠ D := fun b h => by rw [hAl] at h; exact h.1
    have Ag : ∀ b, Al b → b ≠ g := fun b h => by rw [hAl] at h; exact h.2
    have Anew : ∀ b, b ≠ D → b ≠ g → Al b := fun b h1 h2 => by rw [hAl]; exact ⟨h1, h2⟩
    have hD2 := same_new (o := .lst []) fg _ _ hD
    have s2 := s1.trans (same_new (o := .lst []) fg)
    have hg : (upd H1 g (.lst [])) g = some (.lst []) := upd_same
    have nD2 := nD
    have ng : H g = none := s1.free fg
    generalize upd H1 g (.lst []) = H2 at lp hD2 s2 hg
    clear lr s1 hD fg hAl
    have keep : ∀ {H3 : Hp} {o : HO}, Same H H3 → Same H (upd H3 D o) := fun {H3 o} s b x e => by
      rw [upd_ne (ne_of_none e nD)]
      exact s _ _ e
    have keepg : ∀ {H3 : Hp} {o : HO}, Same H H3 → Same H (upd H3 g o) := fun {H3 o} s b x e => by
      rw [upd_ne (ne_of_none e ng)]
      exact s _ _ e
    obtain ⟨u0, hu0, b0, rfl, a0, eb0⟩ := paired_get lp (row_get (i := 0) (by omega))
    have l0 := rect_get rc (i := 0) (by omega)
    refine ⟨_, rfl, D, rs, _, .ref b0, rfl, rfl, .inl (.inl hD2), atI_nat (j := 0) hu0, b0, _, rfl, .inl (.inl (.inl eb0)), ?_⟩
    rw [List.length_map, l0]
    refine ⟨(c : Int), rfl, by omega, by omega, for_range (fun i σ H' => Same H H' ∧ ∃ (vs : List V) (Y : List (List Int)) (cs : List Nat) (sn last : Int) (ord : Nat → Nat), H' D = some (.lst vs) ∧ H' g = some (.lst (nv cs)) ∧ LLp Al H' vs Y ∧ Y.length = R.length ∧ Rect Y c ∧
        DT.St (mat R) R.length c i ord cs (mat Y) sn ∧ last = DT.L (mat R) ord cs cs.length ∧ Big Y (2 ^ bdE cs.length) ∧ last.natAbs < 2 ^ bdE cs.length ∧ (sn = 1 ∨ sn = -1) ∧
        ∃ x6 x7 x8 x9, σ = [some (.ref a), some (.ref D), none, some (.int last), some (.int sn), some (.ref g), x6, x7, x8, x9])
      ⟨s2, rs, R, [], 1, 1, id, hD2, hg, lp, rfl, rc, DT.St.start _ _ _, rfl, bR, by decide, .inl rfl, _, _, _, _, rfl⟩ ?_ ?_⟩
    · rintro i σ H3 hi ⟨s3, vs, Y, cs, sn, last, ord, hD, hg, lp, lY, rY, st, hl, bY, bl, hs, x6, x7, x8, x9, rfl⟩
      have ic : i < c := by simpa using hi
      have lv := lp.len
      have few := st.few
      obtain ⟨d, hd⟩ : ∃ d, d = cs.length := ⟨_, rfl⟩
      refine ⟨_, rfl, g, _, rfl, .inl (.inl (.inl hg)), ?_⟩
      rw [nv_len, ← hd]
      refine ⟨_, rfl, _, rfl, _, rfl, D, vs, Y, c, d, i, ?_, hD, lp.ll, rY, by omega, by omega, ic, ?_, ?_⟩
      · show [V.ref D, V.int (d : Int), V.int (0 + (i : Int))] = _
        rw [Int.zero_add]
      · -- a lead
        intro at_ dat atr ne before
        rw [lY] at atr
        refine ⟨_, rfl, rfl, _, rfl, ?_⟩
        refine ifT rfl ?_
        try dsimp only [gName]
        have ei : (0 : Int) + (i : Int) = (i : Int) := Int.zero_add _
        refine seq_rest (fun σ H4 => Same H H4 ∧ ∃ (vs : List V) (Y : List (List Int)) (sn : Int) (ord : Nat → Nat), H4 D = some (.lst vs) ∧ H4 g = some (.lst (nv cs)) ∧ LLp Al H4 vs Y ∧ Y.length = R.length ∧ Rect Y c ∧
          DT.St (mat R) R.length c i ord cs (mat Y) sn ∧ last = DT.L (mat R) ord cs cs.length ∧ Big Y (2 ^ bdE cs.length) ∧ (sn = 1 ∨ sn = -1) ∧ mat Y d i ≠ 0 ∧
          ∃ x8 x9, σ = [some (.ref a), some (.ref D), none, some (.int last), some (.int sn), some (.ref g), some (.int (0 + (i : Int))), some (.int (d : Int)), x8, x9]) ?_ ?_
        rotate_left
        · intro N hN
          refine ⟨_, rfl, _, rfl, .int _, .int _, .int _, .int _, rfl, rfl, ?_⟩
          rw [show PyData.eqv (.int (at_ : Int)) (.int (d : Int)) = decide ((at_ : Int) = (d : Int)) from rfl]
          refine ⟨_, rfl, ?_⟩
          by_cases e : at_ = d
          · refine ifF (by rw [decide_eq_true (by omega)]; rfl) ?_
            subst e
            exact hN _ _ ⟨s3, vs, Y, sn, ord, hD, hg, lp, lY, rY, st, hl, bY, hs, ne, _, _, rfl⟩
          · refine ifT (by rw [decide_eq_false (by omega)]; rfl) ?_
            obtain ⟨ua, hua, ba, rfl, aa, eba⟩ := paired_get lp (row_get (i := at_) (by omega))
            obtain ⟨ud, hud, bd, rfl, ad, ebd⟩ := paired_get lp (row_get (i := d) (by omega))
            refine ⟨_, rfl, _, rfl, D, vs, _, .ref bd, rfl, rfl, .inl (.inl hD), atI_nat hud, _, rfl, _, rfl, D, vs, _, .ref ba, rfl, rfl, .inl (.inl hD), atI_nat hua, by show 2 ≤ sizeLine; decide, fun T nT => ?_⟩
            have TD : D ≠ T := ne_of_none hD nT
            have Tg : g ≠ T := ne_of_none hg nT
            refine ⟨T, _, rfl, .inl (.inl upd_same), rfl, _, _, rfl, ?_⟩
            refine ⟨_, rfl, _, rfl, D, _, (at_ : Int), at_, rfl, rfl, (upd_ne TD).trans hD, ixN_in (by omega), ?_⟩
            refine ⟨_, _, rfl, _, rfl, _, rfl, D, _, (d : Int), d, rfl, rfl, upd_same, ixN_in (by rw [List.length_set]; omega), ?_⟩
            refine ⟨rfl, _, rfl, sn, rfl, ?_⟩
            have la := rect_get rY (i := at_) (by omega)
            have ld := rect_get rY (i := d) (by omega)
            have up : ∀ {b : Addr} {o : HO}, Al b → H3 b = some o → (upd (upd (upd H3 T (.tup [.ref bd, .ref ba])) D (.lst (vs.set at_ (.ref bd)))) D (.lst ((vs.set at_ (.ref bd)).set d (.ref ba)))) b = some o := fun {b o} h e =>
              (upd_ne (AD _ h)).trans ((upd_ne (AD _ h)).trans (same_new nT _ _ e))
            have lp4 : LLp Al (upd (upd (upd H3 T (.tup [.ref bd, .ref ba])) D (.lst (vs.set at_ (.ref bd)))) D (.lst ((vs.set at_ (.ref bd)).set d (.ref ba)))) vs Y := ((lp.same (same_new nT)).put AD).put AD
            have st2 := st.exch (at_ := at_) (by omega) (by omega)
            rw [← hd, if_neg (fun z => e z.symm), show -1 * sn = -sn by omega] at st2
            refine hN _ _ ⟨keep (keep (s3.trans (same_new nT))), _, (Y.set at_ (Y.getD d [])).set d (Y.getD at_ []), -sn, _, upd_same, (upd_ne gD.symm).trans ((upd_ne gD.symm).trans ((upd_ne Tg).trans hg)),
              paired_set ⟨ba, rfl, aa, up aa eba⟩ (paired_set ⟨bd, rfl, ad, up ad ebd⟩ lp4 at_) d, by rw [List.length_set, List.length_set]; exact lY, (rY.set ld).set la,
              st2.congr (by omega) fun i' hi' j hj => mat_swap (by omega) (by omega) i' j, ?_, (bY.set (bY _ (row_mem (by omega)))).set (bY _ (row_mem (by omega))), ?_, ?_, _, _, rfl⟩
            · rw [hl, DT.L_exch (by omega) (by omega)]
            · rcases hs with rfl | rfl
              · exact .inr rfl
              · exact .inl rfl
            · rw [mat_swap (by omega) (by omega)]
              unfold DT.sw
              rw [if_pos rfl]
              exact ne
        have dr : d < R.length := by omega
        clear lp lv rY st bY hs ne before hD hg lY vs Y s3 ord hl atr dat sn
        rintro σ H4 ⟨s4, vs, Y, sn, ord, hD, hg, lp, lY, rY, st, hl, bY, hs, ne, x8, x9, rfl⟩
        have lv := lp.len
        have l0 : last ≠ 0 := by rw [hl]; exact st.led _ (Nat.le_refl _)
        have dv := st.divides ic (by omega) (by rw [← hd]; exact ne) hl
        rw [← hd] at dv bY bl
        have e6 : bdE d ≤ 3071 := bdE_six (by omega)
        have big8 : ∀ row ∈ Y, ∀ x ∈ row, x.natAbs < 2 ^ 8000 := fun row hr x hx => Nat.lt_of_lt_of_le (bY row hr x hx) (Nat.pow_le_pow_right (by decide) (by omega))
        obtain ⟨ud, hud, bd, rfl, ad, ebd⟩ := paired_get lp (row_get (i := d) (by omega))
        refine ⟨_, rfl, _, _, rfl, rfl, _, rfl, D, vs, rfl, .inl (.inl (.inl hD)), ?_⟩
        refine ⟨(d : Int) + 1, (vs.length : Int), rfl, ⟨by omega, by omega, by omega, by omega⟩, ?_⟩
        refine for_range (fun k σ H5 => Same H H5 ∧ ∃ (ws : List V) (Z : List (List Int)), H5 D = some (.lst ws) ∧ H5 g = some (.lst (nv cs)) ∧ LLp Al H5 ws Z ∧ Z.length = R.length ∧
            (∀ i', i' ≤ d ∨ d + 1 + k ≤ i' → Z.getD i' [] = Y.getD i' []) ∧ (∀ i', d < i' → i' < d + 1 + k → Z.getD i' [] = stepR (Y.getD i' []) (Y.getD d []) i last) ∧ ws[d]? = some (.ref bd) ∧ H5 bd = some (.lst ((Y.getD d []).map V.int)) ∧
            ∃ x8 x9, σ = [some (.ref a), some (.ref D), none, some (.int last), some (.int sn), some (.ref g), some (.int (0 + (i : Int))), some (.int (d : Int)), x8, x9])
          ⟨s4, vs, Y, hD, hg, lp, lY, fun _ _ => rfl, fun i' h1 h2 => by omega, hud, ebd, _, _, rfl⟩ ?_ ?_
        · rintro k σ H5 hk ⟨s5, ws, Z, hD5, hg5, lp5, lZ, z1, z2, hwd, ebd5, x8, x9, rfl⟩
          have lw := lp5.len
          have kr : d + 1 + k < R.length := by omega
          have ek : (d : Int) + 1 + (k : Int) = ((d + 1 + k : Nat) : Int) := by omega
          obtain ⟨ub, hub, bb, rfl, ab, ebb⟩ := paired_get lp5 (row_get (i := d + 1 + k) (by omega))
          rw [z1 _ (.inr (Nat.le_refl _))] at ebb
          have lb := rect_get rY (i := d + 1 + k) (by omega)
          have ld := rect_get rY (i := d) (by omega)
          refine ⟨_, rfl, _, rfl, D, ws, _, .ref bb, rfl, rfl, .inl (.inl hD5), by rw [ek]; exact atI_nat hub, _, rfl, _, rfl, D, ws, _, .ref bd, rfl, rfl, .inl (.inl hD5), atI_nat hwd, _, rfl, _, rfl,
            bb, bd, _, _, i, last, by rw [Int.zero_add], ebb, ebd5, by omega, by omega, by omega, big8 _ (row_mem (by omega)), big8 _ (row_mem (by omega)), l0, Nat.lt_of_lt_of_le bl (Nat.pow_le_pow_right (by decide) (by omega)), fun H6 r s6 nr er => ?_⟩
          have rD : r ≠ D := (ne_of_none hD5 nr).symm
          have rg : r ≠ g := (ne_of_none hg5 nr).symm
          refine ⟨_, rfl, _, rfl, D, _, _, d + 1 + k, rfl, rfl, s6 _ _ hD5, by rw [ek]; exact ixN_in (by omega), ?_⟩
          refine ⟨keep (s5.trans s6), _, Z.set (d + 1 + k) (stepR (Y.getD (d + 1 + k) []) (Y.getD d []) i last), upd_same, (upd_ne gD.symm).trans (s6 _ _ hg5), paired_set ⟨r, rfl, Anew _ rD rg, (upd_ne rD).trans er⟩ ((lp5.same s6).put AD) _, by rw [List.length_set]; exact lZ, ?_, ?_, ?_, (upd_ne (AD _ ad)).trans (s6 _ _ ebd5), _, _, rfl⟩
          · intro i' h
            rw [getD_set_ne (by omega)]
            exact z1 i' (by omega)
          · intro i' h1 h2
            by_cases c1 : i' = d + 1 + k
            · rw [c1, getD_set_eq (by omega)]
            · rw [getD_set_ne (fun z => c1 z.symm)]
              exact z2 i' h1 (by omega)
          · rw [List.getElem?_set_ne (by omega)]
            exact hwd
        · rintro σ H5 ⟨s5, ws, Z, hD5, hg5, lp5, lZ, z1, z2, hwd, ebd5, x8, x9, rfl⟩
          have lw := lp5.len
          have en : d + 1 + ((vs.length : Int) - ((d : Int) + 1)).toNat = R.length := by omega
          rw [en] at z1 z2
          have Zd : Z.getD d [] = Y.getD d [] := z1 d (.inl (Nat.le_refl _))
          have rowlen : ∀ i', i' < R.length → (Z.getD i' []).length = c := fun i' hi' => by
            by_cases c1 : i' ≤ d
            · rw [z1 i' (.inl c1)]
              exact rect_get rY (by omega)
            · rw [z2 i' (by omega) hi']
              unfold stepR
              rw [List.length_zipWith, rect_get rY (by omega), rect_get rY (by omega), Nat.min_self]
          have rZ : Rect Z c := rect_of fun i' hi' => rowlen i' (by omega)
          have val : ∀ i', d < i' → i' < R.length → ∀ j, j < c → mat Z i' j = (mat Y d i * mat Y i' j - mat Y i' i * mat Y d j).fdiv last := by
            intro i' h1 h2 j hj
            unfold mat
            rw [z2 i' h1 h2]
            unfold stepR
            rw [List.getD, List.getElem?_zipWith, mem_get (by rw [rect_get rY (by omega)]; exact hj), mem_get (by rw [rect_get rY (by omega)]; exact hj)]
            rfl
          have st2 := st.step (X' := mat Z) ic (by omega) (by rw [← hd]; exact ne) hl (fun i' h1 j hj => by
              unfold mat
              rw [z1 i' (.inl (by omega))]) fun i' h1 h2 j hj q' e => by
            rw [val i' (by omega) h2 j hj]
            rw [← hd] at e
            rw [e]
            exact Int.mul_fdiv_cancel_left _ l0
          have bZ : Big Z (2 ^ bdE (d + 1)) := big_of rZ fun i' hi' j hj => by
            rw [lZ] at hi'
            by_cases c1 : i' ≤ d
            · have : mat Z i' j = mat Y i' j := by
                unfold mat
                rw [z1 i' (.inl c1)]
              rw [this]
              exact Nat.lt_of_lt_of_le (big_get bY rY (by omega) hj) (Nat.pow_le_pow_right (by decide) (bdE_mono (by omega)))
            · have e := dv i' (by omega) hi' j hj
              rw [val i' (by omega) hi' j hj, e, Int.mul_fdiv_cancel_left _ l0]
              refine abs_le_mul l0 e ?_
              rw [bdE_succ]
              exact two_mul_lt (big_get bY rY (by omega) ic) (big_get bY rY (by omega) hj) (big_get bY rY (by omega) ic) (big_get bY rY (by omega) hj)
          have lcs : (cs ++ [i]).length = d + 1 := by rw [List.length_append, hd]; rfl
          have gcs : (cs ++ [i]).getD d 0 = i := by rw [hd]; exact DT.getD_end
          have pv := st2.piv (t := d) (by omega) (by omega)
          rw [gcs] at pv
          refine ⟨_, rfl, _, rfl, D, ws, _, .ref bd, rfl, rfl, .inl (.inl hD5), atI_nat hwd, _, rfl, bd, _, _, .int (mat Y d i), rfl, rfl, .inl (.inl ebd5), ?_, ?_⟩
          · rw [Int.zero_add]
            exact atI_nat (intsAt (by rw [rect_get rY (by omega)]; exact ic))
          refine ⟨_, rfl, .inl ⟨rfl, _, .inl (.inl hg5)⟩, ?_⟩
          refine ⟨_, rfl, g, _, _, rfl, rfl, hg5, by rw [nv_len, sizeLine_eq]; omega, ?_⟩
          have eZ : mat Z d i = mat Y d i := by
            unfold mat
            rw [Zd]
          rw [eZ] at pv
          refine ⟨keepg s5, ws, Z, cs ++ [i], sn, mat Y d i, ord, (upd_ne gD).trans hD5, ?_, lp5.put Ag, lZ, rZ, st2, by rw [lcs]; exact pv, by rw [lcs]; exact bZ, ?_, hs, _, _, _, _, rfl⟩
          · rw [upd_same, Int.zero_add]
            unfold nv
            rw [List.map_append]
            rfl
          · rw [lcs]
            exact Nat.lt_of_lt_of_le (big_get bY rY (by omega) ic) (Nat.pow_le_pow_right (by decide) (bdE_mono (by omega)))
      · -- none
        intro z
        refine ⟨_, rfl, rfl, _, rfl, ?_⟩
        refine ifF rfl ?_
        exact ⟨s3, vs, Y, cs, sn, last, ord, hD, hg, lp, lY, rY, st.pass fun i' h1 h2 => z i' (by omega) (by omega), hl, bY, bl, hs, _, _, _, _, rfl⟩
    · rintro σ H3 ⟨s3, vs, Y, cs, sn, last, ord, hD, hg, lp, lY, rY, st, hl, bY, bl, hs, x6, x7, x8, x9, rfl⟩
      rw [show ((c : Int)).toNat = c from Int.toNat_natCast c] at st
      have few := st.few
      refine ⟨_, rfl, ?_⟩
      simp only [tNoPart]
      refine ⟨_, rfl, g, _, rfl, .inl (.inl (.inl hg)), _, rfl, D, vs, rfl, .inl (.inl hD), fun p fp => ?_⟩
      have ecut : cutV vs none (some ((nv cs).length : Int)) = vs.take cs.length := by
        rw [nv_len]
        exact cut_upto vs _
      rw [ecut]
      have s4 := s3.trans (same_new (o := .lst (vs.take cs.length)) fp)
      have hg4 := same_new (o := .lst (vs.take cs.length)) fp _ _ hg
      have lp4 : LL (upd H3 p (.lst (vs.take cs.length))) (vs.take cs.length) (Y.take cs.length) := paired_take (lp.ll.same (same_new fp)) _
      have ep : (upd H3 p (.lst (vs.take cs.length))) p = some (.lst (vs.take cs.length)) := upd_same
      generalize upd H3 p _ = H4 at s4 hg4 lp4 ep ⊢
      refine ⟨_, rfl, g, _, rfl, .inl ⟨.inl (.inl hg4), fun t ft => ?_⟩⟩
      refine ⟨_, rfl, ?_⟩
      have st5 := same_new (o := .tup (nv cs)) ft
      refine ⟨by show 3 ≤ sizeLine; decide, fun r fr => ?_⟩
      have sr := same_new (o := .tup [.ref p, .ref t, .int sn]) fr
      refine q _ r p t _ (Y.take cs.length) cs ord sn (mat Y) ((s4.trans st5).trans sr) upd_same (sr _ _ (st5 _ _ ep)) ((lp4.same st5).same sr) (.inl (.inl (sr _ _ upd_same))) ⟨st, ?_, ?_, ?_, ?_, hs⟩
      · rw [List.length_take]
        omega
      · exact fun row hr => rY row (List.mem_of_mem_take hr)
      · intro t ht j hj
        unfold mat
        rw [getD_take ht]
      · exact fun row hr x hx => Nat.lt_of_lt_of_le (bY row (List.mem_of_mem_take hr) x hx) (Nat.pow_le_pow_right (by decide) (bdE_six (by omega)))
end
end K02.LS


set_option Elab.async false
set_option linter.all false
set_option maxRecDepth 100000
set_option maxHeartbeats 4000000
namespace K02
open PySem PySem.Spec PyProof.Rows L2 MM
/-! own words for the readings: a step, its side -/
local macro_rules | `(tactic| walk_at "side") => `(tactic| first
  | omega
  | exact ⟨by omega, by omega⟩
  | exact Or.inl ⟨by omega, by omega⟩
  | exact Or.inr ⟨by omega, by omega⟩
  | (show CPw _ _; decide +kernel)
  | (show (0 : Int) < _; decide +kernel)
  | (show CDivW _ _; first | assumption | exact ⟨by decide, by decide +kernel⟩))
local macro_rules | `(tactic| walk_at "here") => `(tactic| first
  | assumption
  | exact upd_same
  | exact Or.inl (Or.inl upd_same)
  | exact Or.inl upd_same)
local macro_rules | `(tactic| walk_at "one") => `(tactic| first
  | refine ⟨_, rfl, ?_⟩
  | refine Or.inl ⟨_, rfl, ?_⟩
  | refine Or.inr ⟨_, rfl, ?_⟩
  | refine ⟨_, _, rfl, rfl, (by walk_at "side"), ?_⟩
  | refine ⟨_, _, rfl, rfl, ?_⟩
  | refine ⟨_, _, rfl, Or.inl (by walk_at "here"), ?_⟩
  | refine ⟨_, _, rfl, Or.inr (by walk_at "here"), ?_⟩
  | refine ⟨_, _, rfl, (by walk_at "here"), ?_⟩
  | refine ⟨_, _, _, _, rfl, rfl, (by walk_at "here"), rfl, ?_⟩
  | refine ⟨_, _, rfl, ?_⟩
  | refine ifT (by rfl) ?_
  | refine ifF (by rfl) ?_
  | refine ifT (decide_eq_true (by omega)) ?_
  | refine ifF (decide_eq_false (by omega)) ?_)
local macro_rules | `(tactic| walk_at "st") => `(tactic| repeat (walk_at "one"))

section
variable {P : Program} {w : World} {K : PySem.W.Frag} {mg : Str → Option Value} {base : Heap}
/-- a table with few rows and small members -/
structure Sml (R : List (List Int)) (c : Nat) : Prop where
  good : Good R c
  six : R.length ≤ 6
  big : Big R (2 ^ 47)
def spRank (K : PySem.W.Frag) : Sp := fun vs H Q _ => ∃ (a : Addr) (us : List V) (R : List (List Int)) (c : Nat), vs = [.ref a] ∧ SqT K H a us ∧ TR K H us R ∧ Sml R c ∧
  ∀ H' cs ord sn X, Same H H' → DT.St (mat R) R.length c c ord cs X sn → Q (.int (cs.length : Nat)) H'
theorem scRank : FnScope ["table"] ["table"] (defScope sRank) :=
  ⟨rfl, rfl, rfl, by decide +kernel, rfl, by decide +kernel, by decide +kernel⟩
theorem dRank (T : Tx K mg) (DNeedTable : Def P w K mg base CX0 5 "_need_table" ["table"] (spNeedTable K)) (DStairs : Def P w K mg base CX0 2 "_stairs" ["table"] (spStairs K)) : Def P w K mg base CX0 6 "rank" ["table"] (spRank K) := by
  refine T.t_rank.def_ (N := ["table"]) scRank (fun _ _ _ _ _ _ us hl => match us, hl with | [_], _ => rfl) ?_ ?_
  · intro vs H Q E h
    obtain ⟨a, us, R, c, rfl, _⟩ := h
    rfl
  · intro f cd A out s H vs Q E hr h
    have hr1 : Rm 5 _ := hr.le (by decide)
    obtain ⟨a, us, R, c, rfl, S, tR, ⟨gd, six, big⟩, q⟩ := h
    refine ⟨_, (pss_cons (ps_expr (pe_d DNeedTable (hr1.le (by decide)) pass0 (pa_cons (pv 0) pa_nil)))
      (pss_one (ps_ret (pe_callB call_len_seq rfl T.f_len (by decide +kernel) (pa_cons (pe_ix ix_tup (pe_d DStairs (hr1.le (by decide)) pass0 (pa_cons (pv 0) pa_nil)) pe_int (fun _ _ => rfl)) pa_nil))))), ?_⟩
    refine ⟨_, rfl, _, _, rfl, tab_tv S tR, good_tab gd, fun H1 s1 => ?_⟩
    refine ⟨_, rfl, a, us, R, c, rfl, same_sqt s1 S, tR.same s1, gd.rect, gd.r1, six, gd.m2, big, fun H2 r x t ws Y cs ord sn X s2 er ex ll St fin => ?_⟩
    refine ⟨r, _, _, .ref t, rfl, rfl, .inl (.inl er), rfl, t, _, rfl, .inr St, ?_⟩
    rw [nv_len]
    exact q _ cs ord sn X (s1.trans s2) fin.st
def spDet (K : PySem.W.Frag) : Sp := fun vs H Q _ => ∃ (a : Addr) (us : List V) (R : List (List Int)), vs = [.ref a] ∧ SqT K H a us ∧ TR K H us R ∧ Sml R R.length ∧ ∀ H', Same H H' → Q (.int (DT.det R.length (mat R))) H'
theorem scDeterminant : FnScope ["table", "rows", "begun", "sign"] ["table"] (defScope sDeterminant) :=
  ⟨rfl, rfl, rfl, by decide +kernel, rfl, by decide +kernel, by decide +kernel⟩
theorem dDeterminant (T : Tx K mg) (DNeedTable : Def P w K mg base CX0 5 "_need_table" ["table"] (spNeedTable K)) (DStairs : Def P w K mg base CX0 2 "_stairs" ["table"] (spStairs K)) : Def P w K mg base CX0 6 "determinant" ["table"] (spDet K) := by
  refine T.t_determinant.def_ (N := ["table", "rows", "begun", "sign"]) scDeterminant (fun _ _ _ _ _ _ us hl => match us, hl with | [_], _ => rfl) ?_ ?_
  · intro vs H Q E h
    obtain ⟨a, us, R, rfl, _⟩ := h
    rfl
  · intro f cd A out s H vs Q E hr h
    have hr1 : Rm 5 _ := hr.le (by decide)
    obtain ⟨a, us, R, rfl, S, tR, ⟨gd, six, big⟩, q⟩ := h
    refine ⟨_, (pss_cons (ps_expr (pe_d DNeedTable (hr1.le (by decide)) pass0 (pa_cons (pv 0) pa_nil)))
      (pss_cons (ps_if (pt_cmpR op_ne (pe_callB call_len_seq rfl T.f_len (by decide +kernel) (pa_cons (pv 0) pa_nil)) (pe_callB call_len_seq rfl T.f_len (by decide +kernel) (pa_cons (pe_ix ix_tup (pv 0) pe_int (fun _ _ => rfl)) pa_nil)) (nomark _)) (pss_one ps_never) pss_nil)
      (pss_cons (ps_asg (pe_d DStairs (hr1.le (by decide)) pass0 (pa_cons (pv 0) pa_nil)) (pg_tup rfl (pgs_cons (pg_name (i := 1) scDeterminant.nd rfl (Or.inl rfl)) (pgs_cons (pg_name (i := 2) scDeterminant.nd rfl (Or.inl rfl)) (pgs_cons (pg_name (i := 3) scDeterminant.nd rfl (Or.inl rfl)) pgs_nil)))))
      (pss_one (ps_ret (pe_ifExp (pt_cmpR op_eq (pe_callB call_len_seq rfl T.f_len (by decide +kernel) (pa_cons (pv 2) pa_nil)) (pe_callB call_len_seq rfl T.f_len (by decide +kernel) (pa_cons (pv 0) pa_nil)) (nomark _)) (pe_op op_mulW (pv 3) (pe_ix ix_list (pe_ix ix_list (pv 1) (pe_un un_neg pe_int) (fun _ _ => rfl)) (pe_un un_neg pe_int) (fun _ _ => rfl))) pe_int)))))), ?_⟩
    have lu := tR.len
    have r1 := gd.r1
    refine ⟨_, rfl, _, _, rfl, tab_tv S tR, good_tab gd, fun H1 s1 => ?_⟩
    replace S := same_sqt s1 S
    replace tR := tR.same s1
    obtain ⟨u0, hu0, b0, rfl, S0⟩ := paired_get tR (row_get (i := 0) (by omega))
    have l0 := rect_get gd.rect (i := 0) (by omega)
    refine ⟨_, rfl, a, _, rfl, .inr S, _, rfl, a, _, _, .ref b0, rfl, rfl, S, atI_nat (j := 0) hu0, b0, _, rfl, .inr S0, ?_⟩
    rw [List.length_map, l0, lu]
    refine ⟨rfl, _, rfl, ?_⟩
    refine ifF (by rw [decide_eq_true rfl]; rfl) ?_
    refine ⟨_, rfl, a, us, R, _, rfl, S, tR, gd.rect, gd.r1, six, gd.m2, big, fun H2 r x t ws Y cs ord sn X s2 er ex ll St fin => ?_⟩
    refine ⟨r, _, rfl, .inl (.inl er), rfl, _, _, rfl, ?_⟩
    refine ⟨_, _, rfl, ?_⟩
    refine ⟨_, _, rfl, rfl, ?_⟩
    replace S := same_sqt s2 S
    have full := fin.st.full (by omega)
    refine ⟨_, rfl, t, _, rfl, .inr St, _, rfl, a, _, rfl, .inr S, ?_⟩
    rw [nv_len, lu]
    refine ⟨rfl, _, rfl, ?_⟩
    rw [dInt]
    by_cases e : cs.length = R.length
    · refine ifT (decide_eq_true (by omega)) ?_
      rw [if_pos e] at full
      have lY := fin.len
      obtain ⟨n, hn⟩ : ∃ n, Y.length = n + 1 := ⟨Y.length - 1, by omega⟩
      obtain ⟨ub, hub, bb, rfl, ebb⟩ := paired_get ll (row_get (i := n) (by omega))
      have lb := rect_get fin.rect (i := n) (by omega)
      have lw := ll.len
      have val : (Y.getD n []).getD n 0 = X (R.length - 1) (R.length - 1) := by
        have := fin.eq n (by omega) n (by omega)
        rw [show R.length - 1 = n by omega, ← this]
        rfl
      refine ⟨_, rfl, _, rfl, _, rfl, x, ws, _, .ref bb, rfl, rfl, .inl (.inl ex), atI_last hub (by omega), _, rfl, bb, _, _, .int ((Y.getD n []).getD n 0), rfl, rfl, .inl (.inl ebb), atI_last (intsAt (by omega)) (by rw [List.length_map, lb]; omega), ?_⟩
      refine ⟨_, _, rfl, rfl, mulB (e := 3071) (by decide) (by rcases fin.sign with rfl | rfl <;> exact Nat.one_lt_two_pow (by decide)) ?_, ?_⟩
      · exact fin.big _ (row_mem (by omega)) _ (mem_mem (by omega))
      · rw [val]
        have := q _ (s1.trans s2)
        rw [← full] at this
        exact this
    · refine ifF (decide_eq_false (by omega)) ?_
      rw [if_neg e] at full
      have := q _ (s1.trans s2)
      rw [← full] at this
      exact this
end
end K02


set_option Elab.async false
set_option linter.all false
set_option maxRecDepth 100000
set_option maxHeartbeats 4000000
namespace K02
open PySem PySem.Spec PyProof.Rows L2 MM
/-! own words for the readings: a step, its side -/
local macro_rules | `(tactic| walk_at "side") => `(tactic| first
  | omega
  | exact ⟨by omega, by omega⟩
  | exact Or.inl ⟨by omega, by omega⟩
  | exact Or.inr ⟨by omega, by omega⟩
  | (show CPw _ _; decide +kernel)
  | (show (0 : Int) < _; decide +kernel)
  | (show CDivW _ _; first | assumption | exact ⟨by decide, by decide +kernel⟩))
local macro_rules | `(tactic| walk_at "here") => `(tactic| first
  | assumption
  | exact upd_same
  | exact Or.inl (Or.inl upd_same)
  | exact Or.inl upd_same)
local macro_rules | `(tactic| walk_at "one") => `(tactic| first
  | refine ⟨_, rfl, ?_⟩
  | refine Or.inl ⟨_, rfl, ?_⟩
  | refine Or.inr ⟨_, rfl, ?_⟩
  | refine ⟨_, _, rfl, rfl, (by walk_at "side"), ?_⟩
  | refine ⟨_, _, rfl, rfl, ?_⟩
  | refine ⟨_, _, rfl, Or.inl (by walk_at "here"), ?_⟩
  | refine ⟨_, _, rfl, Or.inr (by walk_at "here"), ?_⟩
  | refine ⟨_, _, rfl, (by walk_at "here"), ?_⟩
  | refine ⟨_, _, _, _, rfl, rfl, (by walk_at "here"), rfl, ?_⟩
  | refine ⟨_, _, rfl, ?_⟩
  | refine ifT (by rfl) ?_
  | refine ifF (by rfl) ?_
  | refine ifT (decide_eq_true (by omega)) ?_
  | refine ifF (decide_eq_false (by omega)) ?_)
local macro_rules | `(tactic| walk_at "st") => `(tactic| repeat (walk_at "one"))

section
variable {P : Program} {w : World} {K : PySem.W.Frag} {mg : Str → Option Value} {base : Heap}
theorem abs_nat (n : Int) : (if n < 0 then -n else n) = ((n.natAbs : Nat) : Int) := by
  split <;> omega
def spGcd : Sp := fun vs H Q _ => ∃ i j : Int, vs = [.int i, .int j] ∧ Q (.int ((Nat.gcd i.natAbs j.natAbs : Nat) : Int)) H
theorem scTbDivisorL : FnScope ["_law_one", "_law_other"] ["_law_one", "_law_other"] (defScope sTbDivisorL) :=
  ⟨rfl, rfl, rfl, by decide +kernel, rfl, by decide +kernel, by decide +kernel⟩
theorem dTbDivisorL (T : Tx K mg) : Def P w K mg base CX0 1 "_law_tb_divisor" ["_law_one", "_law_other"] spGcd := by
  refine T.t_law_tb_divisor.def_ (N := ["_law_one", "_law_other"]) scTbDivisorL (fun _ _ _ _ _ _ us hl => match us, hl with | [_, _], _ => rfl) ?_ ?_
  · intro vs H Q E h
    obtain ⟨i, j, rfl, _⟩ := h
    rfl
  · intro f cd A out s H vs Q E hr h
    obtain ⟨i, j, rfl, q⟩ := h
    refine ⟨_, (pss_cons (ps_par (i := 0) (j := 1) rfl scTbDivisorL.nd rfl rfl (by decide) rfl rfl (pa_cons (pe_callB call_abs rfl T.f_abs (by decide +kernel) (pa_cons (pv 0) pa_nil)) (pa_cons (pe_callB call_abs rfl T.f_abs (by decide +kernel) (pa_cons (pv 1) pa_nil)) pa_nil)) (by rfl))
      (pss_cons (ps_while PassesOwn.never (pt_cmpR op_gt (pv 1) pe_int (nomark _))
        (pss_one (ps_par (i := 0) (j := 1) rfl scTbDivisorL.nd rfl rfl (by decide) rfl rfl (pa_cons (pv 1) (pa_cons (pe_op op_mod (pv 0) (pv 1)) pa_nil)) (by rfl))))
      (pss_one (ps_ret (pv 0))))), ?_⟩
    walk_at "st"
    refine while_by (fun σ H2 => H2 = H ∧ ∃ f o : Nat, σ = [some (.int (f : Int)), some (.int (o : Int))] ∧ Nat.gcd f o = Nat.gcd i.natAbs j.natAbs)
      (fun σ _ => match σ with | [_, some (.int o)] => o.toNat | _ => 0) ⟨rfl, i.natAbs, j.natAbs, ?_, rfl⟩ ?_ ?_
    · show [some (V.int (if i < 0 then -i else i)), some (V.int (if j < 0 then -j else j))] = _
      rw [abs_nat, abs_nat]
    · rintro σ H2 ⟨rfl, f, o, rfl, eg⟩
      walk_at "st"
      refine ite2 (fun c => ?_) (fun c => ?_)
      · have o0 : 0 < o := by
          have := of_decide_eq_true c
          omega
        walk_at "st"
        refine ⟨⟨rfl, o, f % o, rfl, ?_⟩, ?_⟩
        · rw [← eg, Nat.gcd_comm f o, Nat.gcd_rec o f, Nat.gcd_comm]
        · show ((f : Int) % (o : Int)).toNat < ((o : Nat) : Int).toNat
          have := Int.emod_lt_of_pos (f : Int) (by omega : (0 : Int) < o)
          have := Int.emod_nonneg (f : Int) (by omega : (o : Int) ≠ 0)
          omega
      · have o0 : o = 0 := by
          by_cases e : o = 0
          · exact e
          · exact absurd (decide_eq_true (by omega : (0 : Int) < o)) c
        subst o0
        rw [Nat.gcd_zero_right] at eg
        refine ⟨_, rfl, ?_⟩
        rw [eg]
        exact q
    · rintro σ H2 Q1 Q2 m ⟨v, hv, i, j, e1, e2, k, e3, q⟩
      exact ⟨v, hv, i, j, e1, e2, k, e3, m _ _ q⟩
/-- where a choice goes on -/
def nxt (l : List Nat) : Nat := if l = [] then 0 else l.getLastD 0 + 1
/-- the ascending choices of k numbers below n -/
def chs (n : Nat) : Nat → List (List Nat)
  | 0 => [[]]
  | k + 1 => (chs n k).flatMap fun l => (List.range (n - nxt l)).map fun t => l ++ [nxt l + t]
/-- tuples of numbers -/
abbrev NR (K : PySem.W.Frag) (H : Hp) (ws : List V) (ls : List (List Nat)) : Prop := Paired (fun v (l : List Nat) => ∃ b, v = .ref b ∧ SqT K H b (nv l)) ws ls
theorem NR.same {H H' : Hp} {ws : List V} {ls : List (List Nat)} (h : NR K H ws ls) (s : Same H H') : NR K H' ws ls := Paired.mapP h fun _ _ ⟨b, e, hb⟩ => ⟨b, e, same_sqt s hb⟩
theorem NR.put {D : Addr} {H : Hp} {ws : List V} {ls : List (List Nat)} {ys zs : List V} (h : NR K H ws ls) (e : H D = some (.lst zs)) : NR K (upd H D (.lst ys)) ws ls := Paired.mapP h fun _ _ ⟨b, e1, hb⟩ => ⟨b, e1, sqt_lst hb e⟩
theorem NR.len {H : Hp} {ws : List V} {ls : List (List Nat)} (h : NR K H ws ls) : ws.length = ls.length := paired_len h
theorem chs_small : ∀ n, n ≤ 4 → ∀ k, k ≤ 4 → (chs n k).length ≤ 24 ∧ ∀ l ∈ chs n k, l.length = k ∧ (∀ x ∈ l, x < n) ∧ nxt l ≤ n := by decide +kernel
theorem nv_ne {a b : Addr} {l : List Nat} {H : Hp} {Q : VK} (hl : l.length ≤ 60) (S : SqT K H a (nv l)) (S2 : SqT K H b []) (q : Q (.bl (!decide (l = []))) H) : rNeD K (.ref a) (.ref b) H Q := by
  have e1 : nv l = (l.map fun n : Nat => (n : Int)).map V.int := by
    unfold nv
    rw [List.map_map]
    rfl
  rw [e1] at S
  refine ⟨.tuple ((l.map fun n : Nat => (n : Int)).map .int), .tuple [], .tup S (dp_ints _), .tup S2 .nil, shapedT_ints _, shapedT_ints [], ?_⟩
  have e : PyData.eqv (.tuple ((l.map fun n : Nat => (n : Int)).map .int)) (.tuple []) = decide (l = []) := by
    cases l with
    | nil => rfl
    | cons x r => rfl
  rw [e]
  exact q
def spChoices (K : PySem.W.Frag) : Sp := fun vs H Q _ => ∃ n k : Nat, vs = [.int (n : Int), .int (k : Int)] ∧ n ≤ 4 ∧ k ≤ 4 ∧ ∀ H' r ws, Same H H' → H' r = some (.lst ws) → NR K H' ws (chs n k) → Q (.ref r) H'
theorem scTbChoicesL : FnScope ["_law_size", "_law_many", "_law_found", "_law_turn", "_law_longer", "_law_one", "_law_at"] ["_law_size", "_law_many"] (defScope sTbChoicesL) :=
  ⟨rfl, rfl, rfl, by decide +kernel, rfl, by decide +kernel, by decide +kernel⟩
theorem dTbChoicesL (T : Tx K mg) : Def P w K mg base CX0 1 "_law_tb_choices" ["_law_size", "_law_many"] (spChoices K) := by
  refine T.t_law_tb_choices.def_ (N := ["_law_size", "_law_many", "_law_found", "_law_turn", "_law_longer", "_law_one", "_law_at"]) scTbChoicesL (fun _ _ _ _ _ _ us hl => match us, hl with | [_, _], _ => rfl) ?_ ?_
  · intro vs H Q E h
    obtain ⟨n, k, rfl, _⟩ := h
    rfl
  · intro f cd A out s H vs Q E hr h
    obtain ⟨n, k, rfl, n4, k4, q⟩ := h
    refine ⟨_, (pss_cons (ps_set (i := 2) scTbChoicesL.nd rfl (Or.inl rfl) (pe_lst (pa_cons (pe_tup pa_nil) pa_nil)))
      (pss_cons (ps_for PassesOwn.never rfl (pi_range1 rfl T.f_range (pa_cons (pv 1) pa_nil)) (pg_name (i := 3) scTbChoicesL.nd rfl (Or.inl rfl))
        (pss_cons (ps_set (i := 4) scTbChoicesL.nd rfl (Or.inl rfl) (pe_lst pa_nil))
        (pss_cons (ps_for PassesOwn.never rfl (pi_list (pv 2)) (pg_name (i := 5) scTbChoicesL.nd rfl (Or.inr rfl))
          (pss_one (ps_expr (pe_bm PySem.F.plainAttrs_list PySem.F.slot_list_extend PySem.F.type_list_extend mt_extend (pv 4) (pa_cons (pe_lc (own := [("_law_at", 6)]) (g := gName 6) (tt := tYes) rfl scTbChoicesL.nd (pi_range2 rfl T.f_range (pa_cons (pe_ifExp (pt_cmpR (op_neD hr.hu) (pv 5) (pe_tup pa_nil) (nomark _)) (pe_op op_add (pe_ix ix_tup (pv 5) (pe_un un_neg pe_int) (fun _ _ => rfl)) pe_int) pe_int) (pa_cons (pv 0) pa_nil))) (blkOk_by (N := ["_law_size", "_law_many", "_law_found", "_law_turn", "_law_longer", "_law_one", "_law_at"]) (sc := defScope sTbChoicesL) (by decide +kernel)) (fun _ _ _ _ _ => pg_name (i := 6) scTbChoicesL.nd rfl (Or.inl rfl)) (fun _ _ _ _ _ => pts_nil) (fun _ _ _ _ _ => (pe_op (show OpR _ _ (rCatA K) from op_catA) (pv 5) (pe_tup (pa_cons (pv 6) pa_nil))))) pa_nil)))))
        (pss_one (ps_set (i := 2) scTbChoicesL.nd rfl (Or.inl rfl) (pe_callTy call_list_of rfl T.f_list (by decide +kernel) (pa_cons (pv 4) pa_nil)))))))
      (pss_one (ps_ret (pv 2))))), ?_⟩
    have sm := chs_small n n4
    refine ⟨Nat.zero_le _, fun e ne => ?_⟩
    refine ⟨by show 1 ≤ sizeLine; decide, fun F fF => ?_⟩
    have s0 : Same H (upd (upd H e (.tup [])) F (.lst [.ref e])) := (same_new ne).trans (same_new fF)
    have e0 : (upd (upd H e (.tup [])) F (.lst [.ref e])) F = some (.lst [.ref e]) := upd_same
    have n0 : NR K (upd (upd H e (.tup [])) F (.lst [.ref e])) [.ref e] (chs n 0) := .cons ⟨e, rfl, tup_sqt (same_new fF _ _ upd_same)⟩ .nil
    generalize upd (upd H e _) F _ = H0 at s0 e0 n0 ⊢
    refine ⟨_, rfl, (k : Int), rfl, by omega, by omega, for_range (fun i σ H' => Same H H' ∧ ∃ (G : Addr) (ws : List V), H' G = some (.lst ws) ∧ NR K H' ws (chs n i) ∧ ∃ x3 x4 x5 x6, σ = [some (.int (n : Int)), some (.int (k : Int)), some (.ref G), x3, x4, x5, x6])
      ⟨s0, F, _, e0, n0, _, _, _, _, rfl⟩ ?_ ?_⟩
    · rintro i σ H1 hi ⟨s1, G, ws, eG, nr, x3, x4, x5, x6, rfl⟩
      have ik : i < k := by simpa using hi
      obtain ⟨m1, m2⟩ := sm i (by omega)
      obtain ⟨m3, m4⟩ := sm (i + 1) (by omega)
      have lw := nr.len
      refine ⟨Nat.zero_le _, fun L fL => ?_⟩
      have GL : G ≠ L := ne_of_none eG fL
      have s2 := s1.trans (same_new (o := .lst []) fL)
      have eG2 := (upd_ne (o := .lst []) GL).trans eG
      have nr2 := nr.same (same_new (o := .lst []) fL)
      have eL : (upd H1 L (.lst [])) L = some (.lst []) := upd_same
      have fLH : H L = none := s1.free fL
      generalize upd H1 L _ = H2 at s2 eG2 nr2 eL ⊢
      clear fL nr eG s1
      refine ⟨_, rfl, G, rfl, ⟨_, .inl (.inl eG2)⟩, for_list (K := K) (a := G) (xs := ws) (fun j σ H3 => Same H H3 ∧ H3 G = some (.lst ws) ∧ NR K H3 ws (chs n i) ∧ ∃ vs, H3 L = some (.lst vs) ∧
          NR K H3 vs (((chs n i).take j).flatMap fun l => (List.range (n - nxt l)).map fun t => l ++ [nxt l + t]) ∧ ∃ x3 x5 x6, σ = [some (.int (n : Int)), some (.int (k : Int)), some (.ref G), x3, some (.ref L), x5, x6])
        ⟨s2, eG2, nr2, [], eL, .nil, _, _, _, rfl⟩ (fun j σ H3 _ h => .inl (.inl h.2.1)) ?_ ?_⟩
      · rintro j v σ H3 hv ⟨s3, eG3, nr3, vs, eL3, nv3, x3, x5, x6, rfl⟩
        obtain ⟨l, hl, b, rfl, Sb⟩ := paired_at nr3 hv
        obtain ⟨ll, lb, nx⟩ := m2 l (List.mem_of_getElem? hl)
        have lj := (List.getElem?_eq_some_iff.mp hv).1
        refine ⟨_, rfl, .inl ⟨rfl, _, .inl (.inl eL3)⟩, ?_⟩
        refine ⟨_, rfl, Nat.zero_le _, fun E fE => ?_⟩
        have Sb2 := sqt_new (o := .tup []) Sb fE
        have s4 := s3.trans (same_new (o := .tup []) fE)
        have eG4 := same_new (o := .tup []) fE _ _ eG3
        have eL4 := same_new (o := .tup []) fE _ _ eL3
        have nr4 := nr3.same (same_new (o := .tup []) fE)
        have nv4 := nv3.same (same_new (o := .tup []) fE)
        have eE : SqT K (upd H3 E (.tup [])) E [] := tup_sqt upd_same
        generalize upd H3 E _ = H4 at Sb2 s4 eG4 eL4 nr4 nv4 eE ⊢
        refine nv_ne (by omega) Sb2 eE ?_
        refine ⟨_, rfl, ?_⟩
        by_cases c : l = []
        case' pos =>
          refine ifF (by rw [decide_eq_true c]; rfl) ?_
          refine ⟨_, rfl, (nxt l : Int), (n : Int), by rw [c]; rfl, ⟨by omega, by omega, by omega, by omega⟩, fun D nD => ?_⟩
        case' neg =>
          refine ifT (by rw [decide_eq_false c]; rfl) ?_
          have en : nxt l = l.getLastD 0 + 1 := if_neg c
          have la : atI (nv l) (-1) = some (.int ((l.getLastD 0 : Nat) : Int)) := by
            obtain ⟨z, hz⟩ : ∃ z, l.length = z + 1 := ⟨l.length - 1, by cases l with | nil => exact absurd rfl c | cons x r => simp⟩
            refine atI_last (n := z) ?_ (by rw [nv_len]; exact hz)
            unfold nv
            rw [List.getElem?_map, List.getLastD_eq_getLast?, List.getLast?_eq_getElem?, hz, Nat.add_sub_cancel, List.getElem?_eq_getElem (by omega)]
            rfl
          refine ⟨_, rfl, _, rfl, b, _, _, _, rfl, rfl, Sb2, la, _, _, rfl, rfl, _, rfl, (nxt l : Int), (n : Int), by rw [en]; rfl, ⟨by omega, by omega, by omega, by omega⟩, fun D nD => ?_⟩
        all_goals
          have LD : L ≠ D := ne_of_none eL4 nD
          have GD : G ≠ D := ne_of_none eG4 nD
          refine lc_range (Pv := fun t H5 => Same H H5 ∧ SqT K H5 b (nv l) ∧ H5 G = some (.lst ws) ∧ NR K H5 ws (chs n i) ∧ H5 L = some (.lst vs) ∧ NR K H5 vs (((chs n i).take j).flatMap fun l => (List.range (n - nxt l)).map fun t => l ++ [nxt l + t]) ∧
              ∃ zs, H5 D = some (.lst zs) ∧ NR K H5 zs ((List.range t).map fun t => l ++ [nxt l + t])) ⟨s4.trans (same_new nD), sqt_new Sb2 nD, (upd_ne GD).trans eG4, nr4.same (same_new nD), (upd_ne LD).trans eL4, nv4.same (same_new nD), [], upd_same, .nil⟩ ?_ ?_
          · rintro t H5 ht ⟨s5, Sb5, eG5, nr5, eL5, nv5, zs, eD, nz⟩
            have lz := nz.len
            rw [List.length_map, List.length_range] at lz
            refine ⟨wipe_one, yes_ ?_⟩
            refine ⟨_, rfl, _, rfl, by show 1 ≤ sizeLine; decide, fun W nW => ?_⟩
            have sW := same_new (o := .tup [.int ((nxt l : Int) + (t : Int))]) nW
            refine catA (sqt_new Sb5 nW) (tup_sqt upd_same) (by rw [nv_len, sizeLine_eq]; show l.length + 1 ≤ _; omega) fun H6 T s6 ST => ?_
            have s7 := sW.trans s6
            have e1 : nv l ++ [.int ((nxt l : Int) + (t : Int))] = nv (l ++ [nxt l + t]) := by
              unfold nv
              rw [List.map_append]
              rfl
            rw [e1] at ST
            have eD6 := s7 _ _ eD
            refine ⟨zs, eD6, by rw [sizeLine_eq]; omega, ?_⟩
            refine ⟨fun x o ex => ?_, sqt_lst (same_sqt s7 Sb5) eD6, (upd_ne GD).trans (s7 _ _ eG5), (nr5.same s7).put eD6, (upd_ne LD).trans (s7 _ _ eL5), (nv5.same s7).put eD6, zs ++ [.ref T], upd_same, ?_⟩
            · rw [upd_ne (ne_of_none ex (s4.free nD))]
              exact s7 _ _ (s5 _ _ ex)
            · rw [List.range_succ, List.map_append]
              exact paired_snoc ⟨T, rfl, sqt_lst ST eD6⟩ ((nz.same s7).put eD6)
          rintro H5 ⟨s5, Sb5, eG5, nr5, eL5, nv5, zs, eD, nz⟩
          rw [show ((n : Int) - (nxt l : Int)).toNat = n - nxt l by omega] at nz
          have lz := nz.len
          have lv := nv5.len
          rw [List.length_map, List.length_range] at lz
          have app : ((chs n i).take (j + 1)).flatMap (fun l => (List.range (n - nxt l)).map fun t => l ++ [nxt l + t]) = ((chs n i).take j).flatMap (fun l => (List.range (n - nxt l)).map fun t => l ++ [nxt l + t]) ++ (List.range (n - nxt l)).map fun t => l ++ [nxt l + t] := by
            rw [List.take_add_one, hl, List.flatMap_append]
            simp
          have tot : (((chs n i).take j).flatMap fun l => (List.range (n - nxt l)).map fun t => l ++ [nxt l + t]).length + (n - nxt l) ≤ 24 := by
            have h1 := congrArg List.length app
            rw [List.length_append, List.length_map, List.length_range] at h1
            rw [← h1]
            refine Nat.le_trans ?_ m3
            have e2 : chs n (i + 1) = ((chs n i).take (j + 1)).flatMap (fun l => (List.range (n - nxt l)).map fun t => l ++ [nxt l + t]) ++ ((chs n i).drop (j + 1)).flatMap (fun l => (List.range (n - nxt l)).map fun t => l ++ [nxt l + t]) := by
              rw [← List.flatMap_append, List.take_append_drop]
              rfl
            rw [e2, List.length_append]
            omega
          refine ⟨L, D, vs, zs, rfl, rfl, eL5, eD, by rw [sizeLine_eq]; omega, ?_⟩
          refine ⟨fun x o ex => ?_, (upd_ne GL).trans eG5, nr5.put eL5, vs ++ zs, upd_same, ?_, _, _, _, rfl⟩
          · rw [upd_ne (ne_of_none ex fLH)]
            exact s5 _ _ ex
          · rw [app]
            exact paired_app (nv5.put eL5) (nz.put eL5)
      · rintro σ H3 ⟨s3, eG3, nr3, vs, eL3, nv3, x3, x5, x6, rfl⟩
        rw [lw, List.take_length] at nv3
        refine ⟨_, rfl, L, vs, rfl, .inl (.inl (.inl eL3)), fun Z fZ => ?_⟩
        exact ⟨s3.trans (same_new fZ), Z, vs, upd_same, nv3.same (same_new fZ), _, _, _, _, rfl⟩
    · rintro σ H1 ⟨s1, G, ws, eG, nr, x3, x4, x5, x6, rfl⟩
      rw [show ((k : Int)).toNat = k from Int.toNat_natCast k] at nr
      exact ⟨_, rfl, q _ G ws s1 eG nr⟩
end
end K02


set_option Elab.async false
set_option linter.all false
set_option maxRecDepth 100000
set_option maxHeartbeats 8000000
namespace K02
open PySem PySem.Spec PyProof.Rows L2 MM
/-! own words for the readings: a step, its side -/
local macro_rules | `(tactic| walk_at "side") => `(tactic| first
  | omega
  | exact ⟨by omega, by omega⟩
  | exact Or.inl ⟨by omega, by omega⟩
  | exact Or.inr ⟨by omega, by omega⟩
  | (show CPw _ _; decide +kernel)
  | (show (0 : Int) < _; decide +kernel)
  | (show CDivW _ _; first | assumption | exact ⟨by decide, by decide +kernel⟩))
local macro_rules | `(tactic| walk_at "here") => `(tactic| first
  | assumption
  | exact upd_same
  | exact Or.inl (Or.inl upd_same)
  | exact Or.inl upd_same)
local macro_rules | `(tactic| walk_at "one") => `(tactic| first
  | refine ⟨_, rfl, ?_⟩
  | refine Or.inl ⟨_, rfl, ?_⟩
  | refine Or.inr ⟨_, rfl, ?_⟩
  | refine ⟨_, _, rfl, rfl, (by walk_at "side"), ?_⟩
  | refine ⟨_, _, rfl, rfl, ?_⟩
  | refine ⟨_, _, rfl, Or.inl (by walk_at "here"), ?_⟩
  | refine ⟨_, _, rfl, Or.inr (by walk_at "here"), ?_⟩
  | refine ⟨_, _, rfl, (by walk_at "here"), ?_⟩
  | refine ⟨_, _, _, _, rfl, rfl, (by walk_at "here"), rfl, ?_⟩
  | refine ⟨_, _, rfl, ?_⟩
  | refine ifT (by rfl) ?_
  | refine ifF (by rfl) ?_
  | refine ifT (decide_eq_true (by omega)) ?_
  | refine ifF (decide_eq_false (by omega)) ?_)
local macro_rules | `(tactic| walk_at "st") => `(tactic| repeat (walk_at "one"))

section
variable {P : Program} {w : World} {K : PySem.W.Frag} {mg : Str → Option Value} {base : Heap}
theorem sw_comm (p q i : Nat) : DT.sw p q i = DT.sw q p i := by
  unfold DT.sw
  by_cases c1 : i = p
  · rw [if_pos c1]
    split
    · omega
    · first | rfl | rw [if_pos c1]
  · rw [if_neg c1]
    split
    · rfl
    · first | rfl | rw [if_neg c1]
theorem nv_eqL {a b : Addr} {l : List Nat} {H : Hp} {Q : VK} (S : H a = some (.lst (nv l))) (S2 : H b = some (.lst [])) (q : Q (.bl (decide (l = []))) H) : rEqD K (.ref a) (.ref b) H Q := by
  have e1 : nv l = (l.map fun n : Nat => (n : Int)).map V.int := by
    unfold nv
    rw [List.map_map]
    rfl
  rw [e1] at S
  refine ⟨.list ((l.map fun n : Nat => (n : Int)).map .int), .list [], .lst (.inl (.inl S)) (dp_ints _), .lst (.inl (.inl S2)) .nil, shaped_ints _, shaped_ints [], ?_⟩
  have e : PyData.eqv (.list ((l.map fun n : Nat => (n : Int)).map .int)) (.list []) = decide (l = []) := by
    cases l with
    | nil => rfl
    | cons x r => rfl
  rw [e]
  exact q
/-- the rows from i on that have a lead -/
def leads (Y : List (List Int)) (i n : Nat) : List Nat := ((List.range n).map (i + ·)).filter fun p => !decide (mat Y p i = 0)
theorem leads_succ (Y : List (List Int)) (i n : Nat) : leads Y i (n + 1) = leads Y i n ++ (if mat Y (i + n) i = 0 then [] else [i + n]) := by
  unfold leads
  rw [List.range_succ, List.map_append, List.filter_append]
  congr 1
  by_cases c : mat Y (i + n) i = 0
  · rw [if_pos c]
    simp [c]
  · rw [if_neg c]
    simp [c]
theorem leads_nil {Y : List (List Int)} {i n : Nat} (h : leads Y i n = []) : ∀ p, i ≤ p → p < i + n → mat Y p i = 0 := by
  intro p h1 h2
  by_cases c : mat Y p i = 0
  · exact c
  · have : p ∈ leads Y i n := List.mem_filter.mpr ⟨List.mem_map.mpr ⟨p - i, List.mem_range.mpr (by omega), by omega⟩, by simp [c]⟩
    rw [h] at this
    cases this
theorem leads_cons {Y : List (List Int)} {i p : Nat} {r : List Nat} : ∀ {n : Nat}, leads Y i n = p :: r → i ≤ p ∧ p < i + n ∧ mat Y p i ≠ 0 ∧ ∀ k, i ≤ k → k < p → mat Y k i = 0
  | 0, h => by cases h
  | n + 1, h => by
    rw [leads_succ] at h
    cases e : leads Y i n with
    | nil =>
      rw [e, List.nil_append] at h
      by_cases c : mat Y (i + n) i = 0
      · rw [if_pos c] at h
        cases h
      · rw [if_neg c] at h
        injection h with h1 h2
        subst h1
        refine ⟨by omega, by omega, c, fun k h1 h2 => leads_nil e k h1 h2⟩
    | cons x t =>
      rw [e] at h
      injection h with h1 h2
      subst h1
      obtain ⟨a, b, c, d⟩ := leads_cons e
      exact ⟨a, by omega, c, d⟩
def spDetL (K : PySem.W.Frag) : Sp := fun vs H Q _ => ∃ (a : Addr) (us : List V) (R : List (List Int)), vs = [.ref a] ∧ SqL K H a us ∧ LL H us R ∧ Rect R R.length ∧ 1 ≤ R.length ∧ R.length ≤ 6 ∧ Big R (2 ^ 47) ∧ ∀ H', Same H H' → Q (.int (DT.det R.length (mat R))) H'
theorem scTbDeterminantL : FnScope ["_law_rows", "_law_left", "_law_sign", "_law_head", "_law_row", "_law_at", "_law_some", "_law_place", "_law_lead", "_law_tail", "_law_one", "_law_other"] ["_law_rows"] (defScope sTbDeterminantL) :=
  ⟨rfl, rfl, rfl, by decide +kernel, rfl, by decide +kernel, by decide +kernel⟩
theorem dTbDeterminantL (T : Tx K mg) : Def P w K mg base CX0 1 "_law_tb_determinant" ["_law_rows"] (spDetL K) := by
  refine T.t_law_tb_determinant.def_ (N := ["_law_rows", "_law_left", "_law_sign", "_law_head", "_law_row", "_law_at", "_law_some", "_law_place", "_law_lead", "_law_tail", "_law_one", "_law_other"]) scTbDeterminantL (fun _ _ _ _ _ _ us hl => match us, hl with | [_], _ => rfl) ?_ ?_
  · intro vs H Q E h
    obtain ⟨a, us, R, rfl, _⟩ := h
    rfl
  · intro f cd A out s H vs Q E hr h
    obtain ⟨a, us, R, rfl, S, lR, rc, r1, r6, bR, q⟩ := h
    refine ⟨_, (pss_cons (ps_asg (pe_tup (pa_cons (pe_lc (own := [("_law_row", 4)]) (g := gName 4) (tt := tYes) rfl scTbDeterminantL.nd (pi_list (pv 0)) (blkOk_by (N := ["_law_rows", "_law_left", "_law_sign", "_law_head", "_law_row", "_law_at", "_law_some", "_law_place", "_law_lead", "_law_tail", "_law_one", "_law_other"]) (sc := defScope sTbDeterminantL) (by decide +kernel)) (fun _ _ _ _ _ => pg_name (i := 4) scTbDeterminantL.nd rfl (Or.inl rfl)) (fun _ _ _ _ _ => pts_nil) (fun _ _ _ _ _ => (pe_callTy (show CallR _ _ (rLstOf K) from call_list_of) rfl T.f_list (by decide +kernel) (pa_cons (pv 4) pa_nil)))) (pa_cons pe_int (pa_cons pe_int pa_nil)))) (pg_tup rfl (pgs_cons (pg_name (i := 1) scTbDeterminantL.nd rfl (Or.inr rfl)) (pgs_cons (pg_name (i := 2) scTbDeterminantL.nd rfl (Or.inl rfl)) (pgs_cons (pg_name (i := 3) scTbDeterminantL.nd rfl (Or.inr rfl)) pgs_nil)))))
      (pss_cons (ps_for PassesOwn.never rfl (pi_range1 rfl T.f_range (pa_cons (pe_callB call_len_seq rfl T.f_len (by decide +kernel) (pa_cons (pv 1) pa_nil)) pa_nil)) (pg_name (i := 5) scTbDeterminantL.nd rfl (Or.inr rfl))
        (pss_cons (ps_setLc (i := 6) (own := [("_law_place", 7)]) (g := gName 7) rfl scTbDeterminantL.nd rfl rfl (sw_true rfl rfl rfl rfl) (pi_range2 rfl T.f_range (pa_cons (pv 5) (pa_cons (pe_callB call_len_seq rfl T.f_len (by decide +kernel) (pa_cons (pv 1) pa_nil)) pa_nil))) (blkOk_by (N := ["_law_rows", "_law_left", "_law_sign", "_law_head", "_law_row", "_law_at", "_law_some", "_law_place", "_law_lead", "_law_tail", "_law_one", "_law_other"]) (sc := defScope sTbDeterminantL) (by decide +kernel)) (fun _ _ _ _ _ => pg_name (i := 7) scTbDeterminantL.nd rfl (Or.inl rfl)) (fun _ _ _ _ _ => (pts_one (pt_cmpR op_ne (pe_ix (show IxR _ (rIxL K) from ix_list) (pe_ix (show IxR _ (rIxL K) from ix_list) (pv 1) (pv 7) (fun _ _ => rfl)) (pv 5) (fun _ _ => rfl)) pe_int (nomark _)))) (fun _ _ _ _ _ => (pv 7)))
        (pss_cons (ps_if (pt_cmpR (op_eqD hr.hu) (pv 6) (pe_lst pa_nil) (nomark _)) (pss_one (ps_ret pe_int)) pss_nil)
        (pss_cons (ps_if (pt_cmpR op_ne (pe_ix ix_list (pv 6) pe_int (fun _ _ => rfl)) (pv 5) (nomark _)) (pss_cons (ps_asg (pe_tup (pa_cons (pe_ix ix_list (pv 1) (pe_ix ix_list (pv 6) pe_int (fun _ _ => rfl)) (fun _ _ => rfl)) (pa_cons (pe_ix ix_list (pv 1) (pv 5) (fun _ _ => rfl)) pa_nil))) (pg_tup rfl (pgs_cons (pg_sub (pv 1) (pv 5) set_list) (pgs_cons (pg_sub (pv 1) (pe_ix ix_list (pv 6) pe_int (fun _ _ => rfl)) set_list) pgs_nil))))
          (pss_one (ps_set (i := 2) scTbDeterminantL.nd rfl (Or.inl rfl) (pe_op op_sub pe_int (pv 2))))) pss_nil)
        (pss_cons (ps_for PassesOwn.never rfl (pi_range2 rfl T.f_range (pa_cons (pe_op op_add (pv 5) pe_int) (pa_cons (pe_callB call_len_seq rfl T.f_len (by decide +kernel) (pa_cons (pv 1) pa_nil)) pa_nil))) (pg_name (i := 7) scTbDeterminantL.nd rfl (Or.inl rfl))
          (pss_cons (ps_asg (pe_tup (pa_cons (pe_ix ix_list (pe_ix ix_list (pv 1) (pv 5) (fun _ _ => rfl)) (pv 5) (fun _ _ => rfl)) (pa_cons (pe_ix ix_list (pe_ix ix_list (pv 1) (pv 7) (fun _ _ => rfl)) (pv 5) (fun _ _ => rfl)) pa_nil))) (pg_tup rfl (pgs_cons (pg_name (i := 8) scTbDeterminantL.nd rfl (Or.inr rfl)) (pgs_cons (pg_name (i := 9) scTbDeterminantL.nd rfl (Or.inr rfl)) pgs_nil))))
          (pss_one (ps_asg (pe_lc (own := [("_law_one", 10), ("_law_other", 11)]) (g := gTup K 2 (gCons (gName 10) (gCons (gName 11) gNil))) (tt := tYes) rfl scTbDeterminantL.nd (RZ.pi_zipA rfl T.f_zip (pa_cons (pe_ix ix_list (pv 1) (pv 7) (fun _ _ => rfl)) (pa_cons (pe_ix ix_list (pv 1) (pv 5) (fun _ _ => rfl)) pa_nil))) (blkOk_by (N := ["_law_rows", "_law_left", "_law_sign", "_law_head", "_law_row", "_law_at", "_law_some", "_law_place", "_law_lead", "_law_tail", "_law_one", "_law_other"]) (sc := defScope sTbDeterminantL) (by decide +kernel)) (fun _ _ _ _ _ => (show PG _ _ (gTup K 2 (gCons (gName 10) (gCons (gName 11) gNil))) from pg_tup rfl (pgs_cons (pg_name (i := 10) scTbDeterminantL.nd rfl (Or.inl rfl)) (pgs_cons (pg_name (i := 11) scTbDeterminantL.nd rfl (Or.inl rfl)) pgs_nil)))) (fun _ _ _ _ _ => pts_nil) (fun _ _ _ _ _ => (pe_op op_fdivG (pe_op op_sub (pe_op op_mulW (pv 8) (pv 10)) (pe_op op_mulW (pv 9) (pv 11))) (pv 3)))) (pg_sub (pv 1) (pv 7) set_list)))))
        (pss_one (ps_set (i := 3) scTbDeterminantL.nd rfl (Or.inr rfl) (pe_ix ix_list (pe_ix ix_list (pv 1) (pv 5) (fun _ _ => rfl)) (pv 5) (fun _ _ => rfl)))))))))
      (pss_one (ps_ret (pe_op op_mulW (pv 2) (pv 3)))))), ?_⟩
    have lu := lR.len
    refine ⟨_, rfl, a, rfl, ⟨_, S⟩, fun D nD => ?_⟩
    refine lc_list (K := K) (a := a) (xs := us) (Pv := fun i H' => Same H H' ∧ ∃ rs, H' D = some (.lst rs) ∧ LLa D H' rs (R.take i)) ⟨same_new nD, [], upd_same, .nil⟩ (fun i H' _ e => same_sql e.1 S) ?_ ?_
    · rintro i x H' hx ⟨s, rs, hD, lr⟩
      obtain ⟨row, hrow, b, rfl, Sb⟩ := paired_at lR hx
      have li : i < us.length := (List.getElem?_eq_some_iff.mp hx).1
      have lrs := lr.len
      refine ⟨wipe_one, yes_ ?_⟩
      refine ⟨_, rfl, b, _, rfl, .inl (lst_sql (s _ _ Sb)), fun l nl => ?_⟩
      have ld : l ≠ D := (ne_of_none hD nl).symm
      refine ⟨rs, same_new nl _ _ hD, ?_, ?_, rs ++ [.ref l], upd_same, ?_⟩
      · rw [lrs, List.length_take, sizeLine_eq]
        omega
      · intro k o e
        rw [upd_ne (ne_of_none e nD)]
        exact same_new nl _ _ (s _ _ e)
      · rw [List.take_add_one, hrow]
        exact paired_snoc ⟨l, rfl, ld, (upd_ne ld).trans upd_same⟩ (lr.same (same_new nl)).put
    rintro H1 ⟨s1, rs, hD, lr⟩
    rw [lu, List.take_length] at lr
    refine ⟨by show 3 ≤ sizeLine; decide, fun T nT => ?_⟩
    have DT_ : D ≠ T := ne_of_none hD nT
    have s2 := s1.trans (same_new (o := .tup [.ref D, .int 1, .int 1]) nT)
    have hD2 := (upd_ne (o := .tup [.ref D, .int 1, .int 1]) DT_).trans hD
    have lr2 := lr.same (same_new (o := .tup [.ref D, .int 1, .int 1]) nT)
    have eT : (upd H1 T (.tup [.ref D, .int 1, .int 1])) T = some (.tup [.ref D, .int 1, .int 1]) := upd_same
    generalize upd H1 T _ = H2 at s2 hD2 lr2 eT ⊢
    clear lr hD s1
    refine ⟨T, _, rfl, .inl (.inl eT), rfl, _, _, rfl, ?_⟩
    refine ⟨_, _, rfl, ?_⟩
    refine ⟨_, _, rfl, rfl, ?_⟩
    have keep : ∀ {H3 : Hp} {o : HO}, Same H H3 → Same H (upd H3 D o) := fun {H3 o} s b x e => by
      rw [upd_ne (ne_of_none e nD)]
      exact s _ _ e
    have lrs := lr2.len
    refine ⟨_, rfl, D, rs, rfl, .inl (.inl (.inl hD2)), ?_⟩
    refine ⟨(rs.length : Int), rfl, by omega, by omega, for_range (fun i σ H' => Same H H' ∧ ∃ (vs : List V) (Y : List (List Int)) (cs : List Nat) (sn last : Int) (ord : Nat → Nat), H' D = some (.lst vs) ∧ LLa D H' vs Y ∧ Y.length = R.length ∧ Rect Y R.length ∧
        DT.St (mat R) R.length R.length i ord cs (mat Y) sn ∧ cs.length = i ∧ last = DT.L (mat R) ord cs cs.length ∧ Big Y (2 ^ bdE i) ∧ last.natAbs < 2 ^ bdE i ∧ (sn = 1 ∨ sn = -1) ∧
        ∃ x5 x6 x7 x8 x9, σ = [some (.ref a), some (.ref D), some (.int sn), some (.int last), none, x5, x6, x7, x8, x9, none, none])
      ⟨s2, rs, R, [], 1, 1, id, hD2, lr2, rfl, rc, DT.St.start _ _ _, rfl, rfl, bR, by decide, .inl rfl, _, _, _, _, _, rfl⟩ ?_ ?_⟩
    · rintro i σ H3 hi ⟨s3, vs, Y, cs, sn, last, ord, hD, lp, lY, rY, st, ci, hl, bY, bl, hs, x5, x6, x7, x8, x9, rfl⟩
      have ir : i < R.length := by omega
      have lv := lp.len
      refine ⟨_, rfl, _, rfl, D, vs, rfl, .inl (.inl (.inl hD)), ?_⟩
      refine ⟨(0 : Int) + (i : Int), (vs.length : Int), rfl, ⟨by omega, by omega, by omega, by omega⟩, fun D2 nD2 => ?_⟩
      have n2 : ((vs.length : Int) - ((0 : Int) + (i : Int))).toNat = R.length - i := by omega
      have D2D : D ≠ D2 := ne_of_none hD nD2
      refine lc_range (Pv := fun j H4 => Same H3 H4 ∧ H4 D2 = some (.lst (nv (leads Y i j)))) ⟨same_new nD2, upd_same⟩ ?_ ?_
      · rintro j H4 hj ⟨s4, eD⟩
        have jr : i + j < R.length := by omega
        have ej : (0 : Int) + (i : Int) + (j : Int) = ((i + j : Nat) : Int) := by omega
        obtain ⟨u, hu, b, rfl, bD, eb⟩ := paired_get lp (row_get (i := i + j) (by omega))
        have lb := rect_get rY (i := i + j) (by omega)
        refine ⟨wipe_one, ?_⟩
        rw [ej]
        refine ⟨_, rfl, _, rfl, D, vs, _, .ref b, rfl, rfl, .inl (.inl (s4 _ _ hD)), atI_nat hu, _, rfl, b, _, _, .int ((Y.getD (i + j) []).getD i 0), rfl, rfl, .inl (.inl (s4 _ _ eb)), ?_, rfl, _, rfl, ?_⟩
        · rw [Int.zero_add]
          exact atI_nat (intsAt (by omega))
        rw [dInt]
        have em : mat Y (i + j) i = (Y.getD (i + j) []).getD i 0 := rfl
        by_cases c : (Y.getD (i + j) []).getD i 0 = 0
        · refine ifF (by rw [decide_eq_true c]; rfl) ?_
          refine ⟨s4, ?_⟩
          rw [leads_succ, if_pos (em.trans c), List.append_nil]
          exact eD
        · refine ifT (by rw [decide_eq_false c]; rfl) ?_
          have ll : (leads Y i j).length ≤ j := by
            unfold leads
            refine Nat.le_trans (List.length_filter_le _ _) ?_
            rw [List.length_map, List.length_range]
            exact Nat.le_refl _
          refine ⟨_, rfl, _, eD, by rw [nv_len, sizeLine_eq]; omega, ?_⟩
          refine ⟨fun x o e => by rw [upd_ne (ne_of_none e nD2)]; exact s4 _ _ e, ?_⟩
          rw [leads_succ, if_neg (fun z => c (em.symm.trans z)), upd_same]
          unfold nv
          rw [List.map_append]
          rfl
      rintro H4 ⟨s4, eD2⟩
      rw [n2] at eD2
      replace s4' := s3.trans s4
      have hD4 := s4 _ _ hD
      have lp4 := lp.same s4
      refine ⟨_, rfl, Nat.zero_le _, fun E fE => ?_⟩
      have s5 := s4'.trans (same_new (o := .lst []) fE)
      have hD5 := same_new (o := .lst []) fE _ _ hD4
      have eD5 := same_new (o := .lst []) fE _ _ eD2
      have lp5 := lp4.same (same_new (o := .lst []) fE)
      have eE : (upd H4 E (.lst [])) E = some (.lst []) := upd_same
      generalize upd H4 E _ = H5 at s5 hD5 eD5 lp5 eE ⊢
      clear s4 lp hD eD2 hD4 lp4 fE
      refine nv_eqL eD5 eE ?_
      refine ⟨_, rfl, ?_⟩
      cases el : leads Y i (R.length - i) with
      | nil =>
        refine ifT rfl ?_
        have z := leads_nil el
        have d0 := st.col_zero ci ir fun i' h1 h2 => z i' h1 (by omega)
        have := q _ s5
        rw [d0] at this
        exact this
      | cons p rest =>
        refine ifF rfl ?_
        obtain ⟨p1, p2, p3, p4⟩ := leads_cons el
        have pr : p < R.length := by omega
        rw [el] at eD5
        have at0 : atI (nv (p :: rest)) 0 = some (.int (p : Int)) := atI_nat (j := 0) rfl
        have ei : (0 : Int) + (i : Int) = (i : Int) := Int.zero_add _
        dsimp only [tNext, gName]
        rw [ei]
        refine seq_rest (fun σ H6 => Same H H6 ∧ ∃ (vs : List V) (Y : List (List Int)) (sn : Int) (ord : Nat → Nat), H6 D = some (.lst vs) ∧ LLa D H6 vs Y ∧ Y.length = R.length ∧ Rect Y R.length ∧
          DT.St (mat R) R.length R.length i ord cs (mat Y) sn ∧ last = DT.L (mat R) ord cs cs.length ∧ Big Y (2 ^ bdE i) ∧ (sn = 1 ∨ sn = -1) ∧ mat Y i i ≠ 0 ∧
          ∃ x7 x8 x9, σ = [some (.ref a), some (.ref D), some (.int sn), some (.int last), none, some (.int (i : Int)), some (.ref D2), x7, x8, x9, none, none]) ?_ ?_
        rotate_left
        · intro N hN
          refine ⟨_, rfl, D2, _, _, .int (p : Int), rfl, rfl, .inl (.inl eD5), at0, _, rfl, rfl, _, rfl, ?_⟩
          rw [dInt]
          by_cases e : p = i
          · refine ifF (by rw [decide_eq_true (by omega)]; rfl) ?_
            subst e
            exact hN _ _ ⟨s5, vs, Y, sn, ord, hD5, lp5, lY, rY, st, hl, bY, hs, p3, _, _, _, rfl⟩
          · refine ifT (by rw [decide_eq_false (by omega)]; rfl) ?_
            obtain ⟨ua, hua, ba, rfl, aa, eba⟩ := paired_get lp5 (row_get (i := p) (by omega))
            obtain ⟨ud, hud, bd, rfl, ad, ebd⟩ := paired_get lp5 (row_get (i := i) (by omega))
            refine ⟨_, rfl, _, rfl, D2, _, _, .int (p : Int), rfl, rfl, .inl (.inl eD5), at0, D, vs, _, .ref ba, rfl, rfl, .inl (.inl hD5), atI_nat hua, _, rfl, _, rfl, D, vs, _, .ref bd, rfl, rfl, .inl (.inl hD5), atI_nat hud, by show 2 ≤ sizeLine; decide, fun T nT => ?_⟩
            have TD : D ≠ T := ne_of_none hD5 nT
            have T2 : D2 ≠ T := ne_of_none eD5 nT
            refine ⟨T, _, rfl, .inl (.inl upd_same), rfl, _, _, rfl, ?_⟩
            refine ⟨_, rfl, _, rfl, D, _, (i : Int), i, rfl, rfl, (upd_ne TD).trans hD5, ixN_in (by omega), ?_⟩
            refine ⟨_, _, rfl, _, rfl, _, rfl, D2, _, _, .int (p : Int), rfl, rfl, .inl (.inl ((upd_ne D2D.symm).trans ((upd_ne T2).trans eD5))), at0, D, _, (p : Int), p, rfl, rfl, upd_same, ixN_in (by rw [List.length_set]; omega), ?_⟩
            refine ⟨rfl, _, rfl, _, _, rfl, rfl, ?_⟩
            have la := rect_get rY (i := p) (by omega)
            have ld := rect_get rY (i := i) (by omega)
            have up : ∀ {b : Addr} {o : HO}, b ≠ D → H5 b = some o → (upd (upd (upd H5 T (.tup [.ref ba, .ref bd])) D (.lst (vs.set i (.ref ba)))) D (.lst ((vs.set i (.ref ba)).set p (.ref bd)))) b = some o := fun {b o} h e =>
              (upd_ne h).trans ((upd_ne h).trans (same_new nT _ _ e))
            have lp6 : LLa D (upd (upd (upd H5 T (.tup [.ref ba, .ref bd])) D (.lst (vs.set i (.ref ba)))) D (.lst ((vs.set i (.ref ba)).set p (.ref bd)))) vs Y := ((lp5.same (same_new nT)).put).put
            have st2 := st.exch (at_ := p) (by omega) (by omega)
            rw [ci, if_neg (fun z => e z.symm), show -1 * sn = 0 - sn by omega] at st2
            refine hN _ _ ⟨keep (keep (s5.trans (same_new nT))), _, (Y.set i (Y.getD p [])).set p (Y.getD i []), 0 - sn, _, upd_same,
              paired_set ⟨bd, rfl, ad, up ad ebd⟩ (paired_set ⟨ba, rfl, aa, up aa eba⟩ lp6 i) p, by rw [List.length_set, List.length_set]; exact lY, (rY.set la).set ld,
              st2.congr (by omega) fun i' hi' j hj => by rw [mat_swap (by omega) (by omega), sw_comm], ?_, (bY.set (bY _ (row_mem (by omega)))).set (bY _ (row_mem (by omega))), ?_, ?_, _, _, _, rfl⟩
            · rw [hl, DT.L_exch (by omega) (by omega)]
            · rcases hs with rfl | rfl
              · exact .inr rfl
              · exact .inl rfl
            · rw [mat_swap (by omega) (by omega)]
              unfold DT.sw
              rw [if_neg (fun z => e z.symm), if_pos rfl]
              exact p3
        clear n2 lp5 lv rY st bY hs p1 p2 p3 p4 hD5 lY at0 eD5 eE el vs Y s5 ord hl sn
        rintro σ H4 ⟨s4, vs, Y, sn, ord, hD, lp, lY, rY, st, hl, bY, hs, ne, x7, x8, x9, rfl⟩
        have lv := lp.len
        have l0 : last ≠ 0 := by rw [hl]; exact st.led _ (Nat.le_refl _)
        have dv := st.divides ir (by omega) (by rw [ci]; exact ne) hl
        rw [ci] at dv
        have e6 : bdE i ≤ 3071 := bdE_six (by omega)
        have big8 : ∀ row ∈ Y, ∀ x ∈ row, x.natAbs < 2 ^ 8000 := fun row hr x hx => Nat.lt_of_lt_of_le (bY row hr x hx) (Nat.pow_le_pow_right (by decide) (by omega))
        obtain ⟨ud, hud, bd, rfl, ad, ebd⟩ := paired_get lp (row_get (i := i) (by omega))
        refine ⟨_, rfl, _, _, rfl, rfl, _, rfl, D, vs, rfl, .inl (.inl (.inl hD)), ?_⟩
        refine ⟨(i : Int) + 1, (vs.length : Int), rfl, ⟨by omega, by omega, by omega, by omega⟩, ?_⟩
        refine for_range (fun k σ H5 => Same H H5 ∧ ∃ (ws : List V) (Z : List (List Int)), H5 D = some (.lst ws) ∧ LLa D H5 ws Z ∧ Z.length = R.length ∧
            (∀ i', i' ≤ i ∨ i + 1 + k ≤ i' → Z.getD i' [] = Y.getD i' []) ∧ (∀ i', i < i' → i' < i + 1 + k → Z.getD i' [] = stepR (Y.getD i' []) (Y.getD i []) i last) ∧ ws[i]? = some (.ref bd) ∧ H5 bd = some (.lst ((Y.getD i []).map V.int)) ∧
            ∃ x7 x8 x9, σ = [some (.ref a), some (.ref D), some (.int sn), some (.int last), none, some (.int (i : Int)), some (.ref D2), x7, x8, x9, none, none])
          ⟨s4, vs, Y, hD, lp, lY, fun _ _ => rfl, fun i' h1 h2 => by omega, hud, ebd, _, _, _, rfl⟩ ?_ ?_
        · rintro k σ H5 hk ⟨s5, ws, Z, hD5, lp5, lZ, z1, z2, hwd, ebd5, x7, x8, x9, rfl⟩
          have lw := lp5.len
          have kr : i + 1 + k < R.length := by omega
          have ek : (i : Int) + 1 + (k : Int) = ((i + 1 + k : Nat) : Int) := by omega
          obtain ⟨ub, hub, bb, rfl, ab, ebb⟩ := paired_get lp5 (row_get (i := i + 1 + k) (by omega))
          rw [z1 _ (.inr (Nat.le_refl _))] at ebb
          have lb := rect_get rY (i := i + 1 + k) (by omega)
          have ld := rect_get rY (i := i) (by omega)
          have bb8 := big8 _ (row_mem (R := Y) (i := i + 1 + k) (by omega))
          have bd8 := big8 _ (row_mem (R := Y) (i := i) (by omega))
          rw [ek]
          refine ⟨_, rfl, _, rfl, D, ws, _, .ref bd, rfl, rfl, .inl (.inl hD5), atI_nat hwd, _, rfl, bd, _, _, .int ((Y.getD i []).getD i 0), rfl, rfl, .inl (.inl ebd5), atI_nat (intsAt (by omega)),
            _, rfl, _, rfl, D, ws, _, .ref bb, rfl, rfl, .inl (.inl hD5), atI_nat hub, _, rfl, bb, _, _, .int ((Y.getD (i + 1 + k) []).getD i 0), rfl, rfl, .inl (.inl ebb), atI_nat (intsAt (by omega)), by show 2 ≤ sizeLine; decide, fun T nT => ?_⟩
          obtain ⟨O, hO⟩ : ∃ O : HO, O = .tup [.int ((Y.getD i []).getD i 0), .int ((Y.getD (i + 1 + k) []).getD i 0)] := ⟨_, rfl⟩
          rw [← hO]
          have sT := same_new (o := O) nT
          have eT : (upd H5 T O) T = some (.tup [.int ((Y.getD i []).getD i 0), .int ((Y.getD (i + 1 + k) []).getD i 0)]) := by rw [← hO]; exact upd_same
          have nD3' : ∀ D3, (upd H5 T O) D3 = none → H5 D3 = none := fun D3 h => sT.free h
          replace s5 := s5.trans sT
          replace hD5 := sT _ _ hD5
          replace lp5 := lp5.same sT
          replace ebb := sT _ _ ebb
          replace ebd5 := sT _ _ ebd5
          generalize upd H5 T O = H5 at s5 hD5 lp5 ebb ebd5 eT ⊢
          refine ⟨T, _, rfl, .inl (.inl eT), rfl, _, _, rfl, ?_⟩
          refine ⟨_, _, rfl, rfl, ?_⟩
          refine ⟨_, rfl, _, rfl, D, ws, _, .ref bb, rfl, rfl, .inl (.inl hD5), atI_nat hub, _, rfl, _, rfl, D, ws, _, .ref bd, rfl, rfl, .inl (.inl hD5), atI_nat hwd, bb, bd, _, _, rfl, .inl ⟨.inl (.inl ebb), .inl (.inl ebd5), fun D3 nD3 => ?_⟩⟩
          refine lc_zipL2 (n := R.length) (us := (Y.getD (i + 1 + k) []).map V.int) (ws := (Y.getD i []).map V.int) (by rw [List.length_map, List.length_map, lb, ld, Nat.min_self])
            (fun j H' => Same H5 H' ∧ H' D3 = some (.lst ((List.zipWith (fun n a => ((Y.getD i []).getD i 0 * n - (Y.getD (i + 1 + k) []).getD i 0 * a).fdiv last) ((Y.getD (i + 1 + k) []).take j) ((Y.getD i []).take j)).map V.int))) ⟨same_new nD3, upd_same⟩
            (fun j H' _ e => ⟨.inl (.inl (e.1 _ _ ebb)), .inl (.inl (e.1 _ _ ebd5))⟩) ?_ ?_
          · rintro j x y H6 T hx hy ⟨s6, hD3⟩ fT
            obtain ⟨xi, hxi, rfl⟩ := map_int hx
            obtain ⟨yi, hyi, rfl⟩ := map_int hy
            have DT_ : D3 ≠ T := ne_of_none hD3 fT
            have li := (List.getElem?_eq_some_iff.mp hxi).1
            have li2 := (List.getElem?_eq_some_iff.mp hyi).1
            have s7 := s6.trans (same_new fT (o := .tup [.int xi, .int yi]))
            have hD7 := (upd_ne (o := .tup [.int xi, .int yi]) DT_).trans hD3
            refine ⟨T, _, rfl, .inl (.inl upd_same), rfl, _, _, rfl, ?_⟩
            refine ⟨_, _, rfl, rfl, rfl, ?_⟩
            generalize upd H6 T _ = H7 at s7 hD7 ⊢
            refine yes_ ?_
            refine ⟨_, rfl, _, rfl, _, _, rfl, rfl, mulB (e := 8000) (by decide) (bd8 _ (mem_mem (by omega))) (bb8 _ (List.mem_of_getElem? hxi)), ?_⟩
            refine ⟨_, rfl, _, rfl, _, _, rfl, rfl, mulB (e := 8000) (by decide) (bb8 _ (mem_mem (by omega))) (bd8 _ (List.mem_of_getElem? hyi)), ?_⟩
            refine ⟨_, _, rfl, rfl, _, rfl, _, _, rfl, rfl, divG l0 (Nat.lt_of_lt_of_le bl (Nat.pow_le_pow_right (by decide) (by omega))), ?_⟩
            refine ⟨_, hD7, ?_, ?_, ?_⟩
            · rw [List.length_map, List.length_zipWith, List.length_take, sizeLine_eq]
              omega
            · intro c o e
              rw [upd_ne (ne_of_none e nD3)]
              exact s7 _ _ e
            · rw [upd_same, List.take_add_one, hxi, List.take_add_one, hyi, List.zipWith_append (by rw [List.length_take, List.length_take]; omega), List.map_append]
              rfl
          rintro H6 ⟨s6, er⟩
          rw [List.take_of_length_le (by omega), List.take_of_length_le (by omega)] at er
          have rD : D3 ≠ D := (ne_of_none hD5 nD3).symm
          refine ⟨_, rfl, _, rfl, D, _, _, i + 1 + k, rfl, rfl, s6 _ _ hD5, ixN_in (by omega), ?_⟩
          refine ⟨keep (s5.trans s6), _, Z.set (i + 1 + k) (stepR (Y.getD (i + 1 + k) []) (Y.getD i []) i last), upd_same, paired_set ⟨D3, rfl, rD, (upd_ne rD).trans er⟩ ((lp5.same s6).put) _, by rw [List.length_set]; exact lZ, ?_, ?_, ?_, (upd_ne ad).trans (s6 _ _ ebd5), _, _, _, rfl⟩
          · intro i' h
            rw [getD_set_ne (by omega)]
            exact z1 i' (by omega)
          · intro i' h1 h2
            by_cases c1 : i' = i + 1 + k
            · rw [c1, getD_set_eq (by omega)]
            · rw [getD_set_ne (fun z => c1 z.symm)]
              exact z2 i' h1 (by omega)
          · rw [List.getElem?_set_ne (by omega)]
            exact hwd
        · rintro σ H5 ⟨s5, ws, Z, hD5, lp5, lZ, z1, z2, hwd, ebd5, x7, x8, x9, rfl⟩
          have lw := lp5.len
          have en : i + 1 + ((vs.length : Int) - ((i : Int) + 1)).toNat = R.length := by omega
          rw [en] at z1 z2
          have Zd : Z.getD i [] = Y.getD i [] := z1 i (.inl (Nat.le_refl _))
          have rowlen : ∀ i', i' < R.length → (Z.getD i' []).length = R.length := fun i' hi' => by
            by_cases c1 : i' ≤ i
            · rw [z1 i' (.inl c1)]
              exact rect_get rY (by omega)
            · rw [z2 i' (by omega) hi']
              unfold stepR
              rw [List.length_zipWith, rect_get rY (by omega), rect_get rY (by omega), Nat.min_self]
          have rZ : Rect Z R.length := rect_of fun i' hi' => rowlen i' (by omega)
          have val : ∀ i', i < i' → i' < R.length → ∀ j, j < R.length → mat Z i' j = (mat Y i i * mat Y i' j - mat Y i' i * mat Y i j).fdiv last := by
            intro i' h1 h2 j hj
            unfold mat
            rw [z2 i' h1 h2]
            unfold stepR
            rw [List.getD, List.getElem?_zipWith, mem_get (by rw [rect_get rY (by omega)]; exact hj), mem_get (by rw [rect_get rY (by omega)]; exact hj)]
            rfl
          have st2 := st.step (X' := mat Z) ir (by omega) (by rw [ci]; exact ne) hl (fun i' h1 j hj => by
              unfold mat
              rw [z1 i' (.inl (by omega))]) fun i' h1 h2 j hj q' e => by
            rw [val i' (by omega) h2 j hj]
            rw [ci] at e
            rw [e]
            exact Int.mul_fdiv_cancel_left _ l0
          have bZ : Big Z (2 ^ bdE (i + 1)) := big_of rZ fun i' hi' j hj => by
            rw [lZ] at hi'
            by_cases c1 : i' ≤ i
            · have : mat Z i' j = mat Y i' j := by
                unfold mat
                rw [z1 i' (.inl c1)]
              rw [this]
              exact Nat.lt_of_lt_of_le (big_get bY rY (by omega) hj) (Nat.pow_le_pow_right (by decide) (bdE_mono (by omega)))
            · have e := dv i' (by omega) hi' j hj
              rw [val i' (by omega) hi' j hj, e, Int.mul_fdiv_cancel_left _ l0]
              refine abs_le_mul l0 e ?_
              rw [bdE_succ]
              exact two_mul_lt (big_get bY rY (by omega) ir) (big_get bY rY (by omega) hj) (big_get bY rY (by omega) ir) (big_get bY rY (by omega) hj)
          have lcs : (cs ++ [i]).length = i + 1 := by rw [List.length_append, ci]; rfl
          have gcs : (cs ++ [i]).getD i 0 = i := by
            have := DT.getD_end (cs := cs) (x := i)
            rwa [ci] at this
          have pv := st2.piv (t := i) (by omega) (by omega)
          rw [gcs] at pv
          have eZ : mat Z i i = mat Y i i := by
            unfold mat
            rw [Zd]
          rw [eZ] at pv
          refine ⟨_, rfl, _, rfl, D, ws, _, .ref bd, rfl, rfl, .inl (.inl hD5), atI_nat hwd, _, rfl, bd, _, _, .int (mat Y i i), rfl, rfl, .inl (.inl ebd5), atI_nat (intsAt (by rw [rect_get rY (by omega)]; exact ir)), ?_⟩
          refine ⟨s5, ws, Z, cs ++ [i], sn, mat Y i i, ord, hD5, lp5, lZ, rZ, st2, lcs, by rw [lcs]; exact pv, bZ, ?_, hs, _, _, _, _, _, rfl⟩
          exact Nat.lt_of_lt_of_le (big_get bY rY (by omega) ir) (Nat.pow_le_pow_right (by decide) (bdE_mono (by omega)))
    · rintro σ H3 ⟨s3, vs, Y, cs, sn, last, ord, hD, lp, lY, rY, st, ci, hl, bY, bl, hs, x5, x6, x7, x8, x9, rfl⟩
      have en : ((rs.length : Nat) : Int).toNat = R.length := by omega
      rw [en] at st ci bl bY
      have full := st.full (by omega)
      rw [if_pos ci] at full
      have id := DT.asc_id cs 0 st.up fun x hx => ⟨Nat.zero_le _, by have := st.below x hx; omega⟩
      have pv := st.piv (t := R.length - 1) (by omega) (by omega)
      rw [id _ (by omega), Nat.zero_add, show R.length - 1 + 1 = R.length by omega, ← ci, ← hl, ci] at pv
      refine ⟨_, rfl, _, rfl, _, _, rfl, rfl, mulB (e := 3071) (by decide) (by rcases hs with rfl | rfl <;> exact Nat.one_lt_two_pow (by decide)) (Nat.lt_of_lt_of_le bl (Nat.pow_le_pow_right (by decide) (bdE_six (by omega)))), ?_⟩
      have := q _ s3
      rw [← full, pv] at this
      exact this
end
end K02


set_option Elab.async false
set_option linter.all false
set_option maxRecDepth 100000
set_option maxHeartbeats 8000000
namespace K02.LT
open K02
open PySem PySem.Spec PyProof.Rows L2 MM
/-! own words for the readings: a step, its side -/
local macro_rules | `(tactic| walk_at "side") => `(tactic| first
  | omega
  | exact ⟨by omega, by omega⟩
  | exact Or.inl ⟨by omega, by omega⟩
  | exact Or.inr ⟨by omega, by omega⟩
  | (show CPw _ _; decide +kernel)
  | (show (0 : Int) < _; decide +kernel)
  | (show CDivW _ _; first | assumption | exact ⟨by decide, by decide +kernel⟩))
local macro_rules | `(tactic| walk_at "here") => `(tactic| first
  | assumption
  | exact upd_same
  | exact Or.inl (Or.inl upd_same)
  | exact Or.inl upd_same)
local macro_rules | `(tactic| walk_at "one") => `(tactic| first
  | refine ⟨_, rfl, ?_⟩
  | refine Or.inl ⟨_, rfl, ?_⟩
  | refine Or.inr ⟨_, rfl, ?_⟩
  | refine ⟨_, _, rfl, rfl, (by walk_at "side"), ?_⟩
  | refine ⟨_, _, rfl, rfl, ?_⟩
  | refine ⟨_, _, rfl, Or.inl (by walk_at "here"), ?_⟩
  | refine ⟨_, _, rfl, Or.inr (by walk_at "here"), ?_⟩
  | refine ⟨_, _, rfl, (by walk_at "here"), ?_⟩
  | refine ⟨_, _, _, _, rfl, rfl, (by walk_at "here"), rfl, ?_⟩
  | refine ⟨_, _, rfl, ?_⟩
  | refine ifT (by rfl) ?_
  | refine ifF (by rfl) ?_
  | refine ifT (decide_eq_true (by omega)) ?_
  | refine ifF (decide_eq_false (by omega)) ?_)
local macro_rules | `(tactic| walk_at "st") => `(tactic| repeat (walk_at "one"))

section
variable {P : Program} {w : World} {K : PySem.W.Frag} {mg : Str → Option Value} {base : Heap}
def spDetT (K : PySem.W.Frag) : Sp := fun vs H Q _ => ∃ (a : Addr) (us : List V) (R : List (List Int)), vs = [.ref a] ∧ SqT K H a us ∧ TR K H us R ∧ Rect R R.length ∧ 1 ≤ R.length ∧ R.length ≤ 6 ∧ Big R (2 ^ 47) ∧ ∀ H', Same H H' → Q (.int (DT.det R.length (mat R))) H'
theorem scTbDeterminantL : FnScope ["_law_rows", "_law_left", "_law_sign", "_law_head", "_law_row", "_law_at", "_law_some", "_law_place", "_law_lead", "_law_tail", "_law_one", "_law_other"] ["_law_rows"] (defScope sTbDeterminantL) :=
  ⟨rfl, rfl, rfl, by decide +kernel, rfl, by decide +kernel, by decide +kernel⟩
theorem dTbDeterminantL (T : Tx K mg) : Def P w K mg base CX0 1 "_law_tb_determinant" ["_law_rows"] (spDetT K) := by
  refine T.t_law_tb_determinant.def_ (N := ["_law_rows", "_law_left", "_law_sign", "_law_head", "_law_row", "_law_at", "_law_some", "_law_place", "_law_lead", "_law_tail", "_law_one", "_law_other"]) scTbDeterminantL (fun _ _ _ _ _ _ us hl => match us, hl with | [_], _ => rfl) ?_ ?_
  · intro vs H Q E h
    obtain ⟨a, us, R, rfl, _⟩ := h
    rfl
  · intro f cd A out s H vs Q E hr h
    obtain ⟨a, us, R, rfl, S, lR, rc, r1, r6, bR, q⟩ := h
    refine ⟨_, (pss_cons (ps_asg (pe_tup (pa_cons (pe_lc (own := [("_law_row", 4)]) (g := gName 4) (tt := tYes) rfl scTbDeterminantL.nd (pi_tup (pv 0)) (blkOk_by (N := ["_law_rows", "_law_left", "_law_sign", "_law_head", "_law_row", "_law_at", "_law_some", "_law_place", "_law_lead", "_law_tail", "_law_one", "_law_other"]) (sc := defScope sTbDeterminantL) (by decide +kernel)) (fun _ _ _ _ _ => pg_name (i := 4) scTbDeterminantL.nd rfl (Or.inl rfl)) (fun _ _ _ _ _ => pts_nil) (fun _ _ _ _ _ => (pe_callTy (show CallR _ _ (rLstOf K) from call_list_of) rfl T.f_list (by decide +kernel) (pa_cons (pv 4) pa_nil)))) (pa_cons pe_int (pa_cons pe_int pa_nil)))) (pg_tup rfl (pgs_cons (pg_name (i := 1) scTbDeterminantL.nd rfl (Or.inr rfl)) (pgs_cons (pg_name (i := 2) scTbDeterminantL.nd rfl (Or.inl rfl)) (pgs_cons (pg_name (i := 3) scTbDeterminantL.nd rfl (Or.inr rfl)) pgs_nil)))))
      (pss_cons (ps_for PassesOwn.never rfl (pi_range1 rfl T.f_range (pa_cons (pe_callB call_len_seq rfl T.f_len (by decide +kernel) (pa_cons (pv 1) pa_nil)) pa_nil)) (pg_name (i := 5) scTbDeterminantL.nd rfl (Or.inr rfl))
        (pss_cons (ps_setLc (i := 6) (own := [("_law_place", 7)]) (g := gName 7) rfl scTbDeterminantL.nd rfl rfl (sw_true rfl rfl rfl rfl) (pi_range2 rfl T.f_range (pa_cons (pv 5) (pa_cons (pe_callB call_len_seq rfl T.f_len (by decide +kernel) (pa_cons (pv 1) pa_nil)) pa_nil))) (blkOk_by (N := ["_law_rows", "_law_left", "_law_sign", "_law_head", "_law_row", "_law_at", "_law_some", "_law_place", "_law_lead", "_law_tail", "_law_one", "_law_other"]) (sc := defScope sTbDeterminantL) (by decide +kernel)) (fun _ _ _ _ _ => pg_name (i := 7) scTbDeterminantL.nd rfl (Or.inl rfl)) (fun _ _ _ _ _ => (pts_one (pt_cmpR op_ne (pe_ix (show IxR _ (rIxL K) from ix_list) (pe_ix (show IxR _ (rIxL K) from ix_list) (pv 1) (pv 7) (fun _ _ => rfl)) (pv 5) (fun _ _ => rfl)) pe_int (nomark _)))) (fun _ _ _ _ _ => (pv 7)))
        (pss_cons (ps_if (pt_cmpR (op_eqD hr.hu) (pv 6) (pe_lst pa_nil) (nomark _)) (pss_one (ps_ret pe_int)) pss_nil)
        (pss_cons (ps_if (pt_cmpR op_ne (pe_ix ix_list (pv 6) pe_int (fun _ _ => rfl)) (pv 5) (nomark _)) (pss_cons (ps_asg (pe_tup (pa_cons (pe_ix ix_list (pv 1) (pe_ix ix_list (pv 6) pe_int (fun _ _ => rfl)) (fun _ _ => rfl)) (pa_cons (pe_ix ix_list (pv 1) (pv 5) (fun _ _ => rfl)) pa_nil))) (pg_tup rfl (pgs_cons (pg_sub (pv 1) (pv 5) set_list) (pgs_cons (pg_sub (pv 1) (pe_ix ix_list (pv 6) pe_int (fun _ _ => rfl)) set_list) pgs_nil))))
          (pss_one (ps_set (i := 2) scTbDeterminantL.nd rfl (Or.inl rfl) (pe_op op_sub pe_int (pv 2))))) pss_nil)
        (pss_cons (ps_for PassesOwn.never rfl (pi_range2 rfl T.f_range (pa_cons (pe_op op_add (pv 5) pe_int) (pa_cons (pe_callB call_len_seq rfl T.f_len (by decide +kernel) (pa_cons (pv 1) pa_nil)) pa_nil))) (pg_name (i := 7) scTbDeterminantL.nd rfl (Or.inl rfl))
          (pss_cons (ps_asg (pe_tup (pa_cons (pe_ix ix_list (pe_ix ix_list (pv 1) (pv 5) (fun _ _ => rfl)) (pv 5) (fun _ _ => rfl)) (pa_cons (pe_ix ix_list (pe_ix ix_list (pv 1) (pv 7) (fun _ _ => rfl)) (pv 5) (fun _ _ => rfl)) pa_nil))) (pg_tup rfl (pgs_cons (pg_name (i := 8) scTbDeterminantL.nd rfl (Or.inr rfl)) (pgs_cons (pg_name (i := 9) scTbDeterminantL.nd rfl (Or.inr rfl)) pgs_nil))))
          (pss_one (ps_asg (pe_lc (own := [("_law_one", 10), ("_law_other", 11)]) (g := gTup K 2 (gCons (gName 10) (gCons (gName 11) gNil))) (tt := tYes) rfl scTbDeterminantL.nd (RZ.pi_zipA rfl T.f_zip (pa_cons (pe_ix ix_list (pv 1) (pv 7) (fun _ _ => rfl)) (pa_cons (pe_ix ix_list (pv 1) (pv 5) (fun _ _ => rfl)) pa_nil))) (blkOk_by (N := ["_law_rows", "_law_left", "_law_sign", "_law_head", "_law_row", "_law_at", "_law_some", "_law_place", "_law_lead", "_law_tail", "_law_one", "_law_other"]) (sc := defScope sTbDeterminantL) (by decide +kernel)) (fun _ _ _ _ _ => (show PG _ _ (gTup K 2 (gCons (gName 10) (gCons (gName 11) gNil))) from pg_tup rfl (pgs_cons (pg_name (i := 10) scTbDeterminantL.nd rfl (Or.inl rfl)) (pgs_cons (pg_name (i := 11) scTbDeterminantL.nd rfl (Or.inl rfl)) pgs_nil)))) (fun _ _ _ _ _ => pts_nil) (fun _ _ _ _ _ => (pe_op op_fdivG (pe_op op_sub (pe_op op_mulW (pv 8) (pv 10)) (pe_op op_mulW (pv 9) (pv 11))) (pv 3)))) (pg_sub (pv 1) (pv 7) set_list)))))
        (pss_one (ps_set (i := 3) scTbDeterminantL.nd rfl (Or.inr rfl) (pe_ix ix_list (pe_ix ix_list (pv 1) (pv 5) (fun _ _ => rfl)) (pv 5) (fun _ _ => rfl)))))))))
      (pss_one (ps_ret (pe_op op_mulW (pv 2) (pv 3)))))), ?_⟩
    have lu := lR.len
    refine ⟨_, rfl, a, rfl, ⟨_, S⟩, fun D nD => ?_⟩
    refine lc_tup (K := K) (a := a) (xs := us) (Pv := fun i H' => Same H H' ∧ ∃ rs, H' D = some (.lst rs) ∧ LLa D H' rs (R.take i)) ⟨same_new nD, [], upd_same, .nil⟩ (fun i H' _ e => same_sqt e.1 S) ?_ ?_
    · rintro i x H' hx ⟨s, rs, hD, lr⟩
      obtain ⟨row, hrow, b, rfl, Sb⟩ := paired_at lR hx
      have li : i < us.length := (List.getElem?_eq_some_iff.mp hx).1
      have lrs := lr.len
      refine ⟨wipe_one, yes_ ?_⟩
      refine ⟨_, rfl, b, _, rfl, .inr (same_sqt s Sb), fun l nl => ?_⟩
      have ld : l ≠ D := (ne_of_none hD nl).symm
      refine ⟨rs, same_new nl _ _ hD, ?_, ?_, rs ++ [.ref l], upd_same, ?_⟩
      · rw [lrs, List.length_take, sizeLine_eq]
        omega
      · intro k o e
        rw [upd_ne (ne_of_none e nD)]
        exact same_new nl _ _ (s _ _ e)
      · rw [List.take_add_one, hrow]
        exact paired_snoc ⟨l, rfl, ld, (upd_ne ld).trans upd_same⟩ (lr.same (same_new nl)).put
    rintro H1 ⟨s1, rs, hD, lr⟩
    rw [lu, List.take_length] at lr
    refine ⟨by show 3 ≤ sizeLine; decide, fun T nT => ?_⟩
    have DT_ : D ≠ T := ne_of_none hD nT
    have s2 := s1.trans (same_new (o := .tup [.ref D, .int 1, .int 1]) nT)
    have hD2 := (upd_ne (o := .tup [.ref D, .int 1, .int 1]) DT_).trans hD
    have lr2 := lr.same (same_new (o := .tup [.ref D, .int 1, .int 1]) nT)
    have eT : (upd H1 T (.tup [.ref D, .int 1, .int 1])) T = some (.tup [.ref D, .int 1, .int 1]) := upd_same
    generalize upd H1 T _ = H2 at s2 hD2 lr2 eT ⊢
    clear lr hD s1
    refine ⟨T, _, rfl, .inl (.inl eT), rfl, _, _, rfl, ?_⟩
    refine ⟨_, _, rfl, ?_⟩
    refine ⟨_, _, rfl, rfl, ?_⟩
    have keep : ∀ {H3 : Hp} {o : HO}, Same H H3 → Same H (upd H3 D o) := fun {H3 o} s b x e => by
      rw [upd_ne (ne_of_none e nD)]
      exact s _ _ e
    have lrs := lr2.len
    refine ⟨_, rfl, D, rs, rfl, .inl (.inl (.inl hD2)), ?_⟩
    refine ⟨(rs.length : Int), rfl, by omega, by omega, for_range (fun i σ H' => Same H H' ∧ ∃ (vs : List V) (Y : List (List Int)) (cs : List Nat) (sn last : Int) (ord : Nat → Nat), H' D = some (.lst vs) ∧ LLa D H' vs Y ∧ Y.length = R.length ∧ Rect Y R.length ∧
        DT.St (mat R) R.length R.length i ord cs (mat Y) sn ∧ cs.length = i ∧ last = DT.L (mat R) ord cs cs.length ∧ Big Y (2 ^ bdE i) ∧ last.natAbs < 2 ^ bdE i ∧ (sn = 1 ∨ sn = -1) ∧
        ∃ x5 x6 x7 x8 x9, σ = [some (.ref a), some (.ref D), some (.int sn), some (.int last), none, x5, x6, x7, x8, x9, none, none])
      ⟨s2, rs, R, [], 1, 1, id, hD2, lr2, rfl, rc, DT.St.start _ _ _, rfl, rfl, bR, by decide, .inl rfl, _, _, _, _, _, rfl⟩ ?_ ?_⟩
    · rintro i σ H3 hi ⟨s3, vs, Y, cs, sn, last, ord, hD, lp, lY, rY, st, ci, hl, bY, bl, hs, x5, x6, x7, x8, x9, rfl⟩
      have ir : i < R.length := by omega
      have lv := lp.len
      refine ⟨_, rfl, _, rfl, D, vs, rfl, .inl (.inl (.inl hD)), ?_⟩
      refine ⟨(0 : Int) + (i : Int), (vs.length : Int), rfl, ⟨by omega, by omega, by omega, by omega⟩, fun D2 nD2 => ?_⟩
      have n2 : ((vs.length : Int) - ((0 : Int) + (i : Int))).toNat = R.length - i := by omega
      have D2D : D ≠ D2 := ne_of_none hD nD2
      refine lc_range (Pv := fun j H4 => Same H3 H4 ∧ H4 D2 = some (.lst (nv (leads Y i j)))) ⟨same_new nD2, upd_same⟩ ?_ ?_
      · rintro j H4 hj ⟨s4, eD⟩
        have jr : i + j < R.length := by omega
        have ej : (0 : Int) + (i : Int) + (j : Int) = ((i + j : Nat) : Int) := by omega
        obtain ⟨u, hu, b, rfl, bD, eb⟩ := paired_get lp (row_get (i := i + j) (by omega))
        have lb := rect_get rY (i := i + j) (by omega)
        refine ⟨wipe_one, ?_⟩
        rw [ej]
        refine ⟨_, rfl, _, rfl, D, vs, _, .ref b, rfl, rfl, .inl (.inl (s4 _ _ hD)), atI_nat hu, _, rfl, b, _, _, .int ((Y.getD (i + j) []).getD i 0), rfl, rfl, .inl (.inl (s4 _ _ eb)), ?_, rfl, _, rfl, ?_⟩
        · rw [Int.zero_add]
          exact atI_nat (intsAt (by omega))
        rw [dInt]
        have em : mat Y (i + j) i = (Y.getD (i + j) []).getD i 0 := rfl
        by_cases c : (Y.getD (i + j) []).getD i 0 = 0
        · refine ifF (by rw [decide_eq_true c]; rfl) ?_
          refine ⟨s4, ?_⟩
          rw [leads_succ, if_pos (em.trans c), List.append_nil]
          exact eD
        · refine ifT (by rw [decide_eq_false c]; rfl) ?_
          have ll : (leads Y i j).length ≤ j := by
            unfold leads
            refine Nat.le_trans (List.length_filter_le _ _) ?_
            rw [List.length_map, List.length_range]
            exact Nat.le_refl _
          refine ⟨_, rfl, _, eD, by rw [nv_len, sizeLine_eq]; omega, ?_⟩
          refine ⟨fun x o e => by rw [upd_ne (ne_of_none e nD2)]; exact s4 _ _ e, ?_⟩
          rw [leads_succ, if_neg (fun z => c (em.symm.trans z)), upd_same]
          unfold nv
          rw [List.map_append]
          rfl
      rintro H4 ⟨s4, eD2⟩
      rw [n2] at eD2
      replace s4' := s3.trans s4
      have hD4 := s4 _ _ hD
      have lp4 := lp.same s4
      refine ⟨_, rfl, Nat.zero_le _, fun E fE => ?_⟩
      have s5 := s4'.trans (same_new (o := .lst []) fE)
      have hD5 := same_new (o := .lst []) fE _ _ hD4
      have eD5 := same_new (o := .lst []) fE _ _ eD2
      have lp5 := lp4.same (same_new (o := .lst []) fE)
      have eE : (upd H4 E (.lst [])) E = some (.lst []) := upd_same
      generalize upd H4 E _ = H5 at s5 hD5 eD5 lp5 eE ⊢
      clear s4 lp hD eD2 hD4 lp4 fE
      refine nv_eqL eD5 eE ?_
      refine ⟨_, rfl, ?_⟩
      cases el : leads Y i (R.length - i) with
      | nil =>
        refine ifT rfl ?_
        have z := leads_nil el
        have d0 := st.col_zero ci ir fun i' h1 h2 => z i' h1 (by omega)
        have := q _ s5
        rw [d0] at this
        exact this
      | cons p rest =>
        refine ifF rfl ?_
        obtain ⟨p1, p2, p3, p4⟩ := leads_cons el
        have pr : p < R.length := by omega
        rw [el] at eD5
        have at0 : atI (nv (p :: rest)) 0 = some (.int (p : Int)) := atI_nat (j := 0) rfl
        have ei : (0 : Int) + (i : Int) = (i : Int) := Int.zero_add _
        dsimp only [tNext, gName]
        rw [ei]
        refine seq_rest (fun σ H6 => Same H H6 ∧ ∃ (vs : List V) (Y : List (List Int)) (sn : Int) (ord : Nat → Nat), H6 D = some (.lst vs) ∧ LLa D H6 vs Y ∧ Y.length = R.length ∧ Rect Y R.length ∧
          DT.St (mat R) R.length R.length i ord cs (mat Y) sn ∧ last = DT.L (mat R) ord cs cs.length ∧ Big Y (2 ^ bdE i) ∧ (sn = 1 ∨ sn = -1) ∧ mat Y i i ≠ 0 ∧
          ∃ x7 x8 x9, σ = [some (.ref a), some (.ref D), some (.int sn), some (.int last), none, some (.int (i : Int)), some (.ref D2), x7, x8, x9, none, none]) ?_ ?_
        rotate_left
        · intro N hN
          refine ⟨_, rfl, D2, _, _, .int (p : Int), rfl, rfl, .inl (.inl eD5), at0, _, rfl, rfl, _, rfl, ?_⟩
          rw [dInt]
          by_cases e : p = i
          · refine ifF (by rw [decide_eq_true (by omega)]; rfl) ?_
            subst e
            exact hN _ _ ⟨s5, vs, Y, sn, ord, hD5, lp5, lY, rY, st, hl, bY, hs, p3, _, _, _, rfl⟩
          · refine ifT (by rw [decide_eq_false (by omega)]; rfl) ?_
            obtain ⟨ua, hua, ba, rfl, aa, eba⟩ := paired_get lp5 (row_get (i := p) (by omega))
            obtain ⟨ud, hud, bd, rfl, ad, ebd⟩ := paired_get lp5 (row_get (i := i) (by omega))
            refine ⟨_, rfl, _, rfl, D2, _, _, .int (p : Int), rfl, rfl, .inl (.inl eD5), at0, D, vs, _, .ref ba, rfl, rfl, .inl (.inl hD5), atI_nat hua, _, rfl, _, rfl, D, vs, _, .ref bd, rfl, rfl, .inl (.inl hD5), atI_nat hud, by show 2 ≤ sizeLine; decide, fun T nT => ?_⟩
            have TD : D ≠ T := ne_of_none hD5 nT
            have T2 : D2 ≠ T := ne_of_none eD5 nT
            refine ⟨T, _, rfl, .inl (.inl upd_same), rfl, _, _, rfl, ?_⟩
            refine ⟨_, rfl, _, rfl, D, _, (i : Int), i, rfl, rfl, (upd_ne TD).trans hD5, ixN_in (by omega), ?_⟩
            refine ⟨_, _, rfl, _, rfl, _, rfl, D2, _, _, .int (p : Int), rfl, rfl, .inl (.inl ((upd_ne D2D.symm).trans ((upd_ne T2).trans eD5))), at0, D, _, (p : Int), p, rfl, rfl, upd_same, ixN_in (by rw [List.length_set]; omega), ?_⟩
            refine ⟨rfl, _, rfl, _, _, rfl, rfl, ?_⟩
            have la := rect_get rY (i := p) (by omega)
            have ld := rect_get rY (i := i) (by omega)
            have up : ∀ {b : Addr} {o : HO}, b ≠ D → H5 b = some o → (upd (upd (upd H5 T (.tup [.ref ba, .ref bd])) D (.lst (vs.set i (.ref ba)))) D (.lst ((vs.set i (.ref ba)).set p (.ref bd)))) b = some o := fun {b o} h e =>
              (upd_ne h).trans ((upd_ne h).trans (same_new nT _ _ e))
            have lp6 : LLa D (upd (upd (upd H5 T (.tup [.ref ba, .ref bd])) D (.lst (vs.set i (.ref ba)))) D (.lst ((vs.set i (.ref ba)).set p (.ref bd)))) vs Y := ((lp5.same (same_new nT)).put).put
            have st2 := st.exch (at_ := p) (by omega) (by omega)
            rw [ci, if_neg (fun z => e z.symm), show -1 * sn = 0 - sn by omega] at st2
            refine hN _ _ ⟨keep (keep (s5.trans (same_new nT))), _, (Y.set i (Y.getD p [])).set p (Y.getD i []), 0 - sn, _, upd_same,
              paired_set ⟨bd, rfl, ad, up ad ebd⟩ (paired_set ⟨ba, rfl, aa, up aa eba⟩ lp6 i) p, by rw [List.length_set, List.length_set]; exact lY, (rY.set la).set ld,
              st2.congr (by omega) fun i' hi' j hj => by rw [mat_swap (by omega) (by omega), sw_comm], ?_, (bY.set (bY _ (row_mem (by omega)))).set (bY _ (row_mem (by omega))), ?_, ?_, _, _, _, rfl⟩
            · rw [hl, DT.L_exch (by omega) (by omega)]
            · rcases hs with rfl | rfl
              · exact .inr rfl
              · exact .inl rfl
            · rw [mat_swap (by omega) (by omega)]
              unfold DT.sw
              rw [if_neg (fun z => e z.symm), if_pos rfl]
              exact p3
        clear n2 lp5 lv rY st bY hs p1 p2 p3 p4 hD5 lY at0 eD5 eE el vs Y s5 ord hl sn
        rintro σ H4 ⟨s4, vs, Y, sn, ord, hD, lp, lY, rY, st, hl, bY, hs, ne, x7, x8, x9, rfl⟩
        have lv := lp.len
        have l0 : last ≠ 0 := by rw [hl]; exact st.led _ (Nat.le_refl _)
        have dv := st.divides ir (by omega) (by rw [ci]; exact ne) hl
        rw [ci] at dv
        have e6 : bdE i ≤ 3071 := bdE_six (by omega)
        have big8 : ∀ row ∈ Y, ∀ x ∈ row, x.natAbs < 2 ^ 8000 := fun row hr x hx => Nat.lt_of_lt_of_le (bY row hr x hx) (Nat.pow_le_pow_right (by decide) (by omega))
        obtain ⟨ud, hud, bd, rfl, ad, ebd⟩ := paired_get lp (row_get (i := i) (by omega))
        refine ⟨_, rfl, _, _, rfl, rfl, _, rfl, D, vs, rfl, .inl (.inl (.inl hD)), ?_⟩
        refine ⟨(i : Int) + 1, (vs.length : Int), rfl, ⟨by omega, by omega, by omega, by omega⟩, ?_⟩
        refine for_range (fun k σ H5 => Same H H5 ∧ ∃ (ws : List V) (Z : List (List Int)), H5 D = some (.lst ws) ∧ LLa D H5 ws Z ∧ Z.length = R.length ∧
            (∀ i', i' ≤ i ∨ i + 1 + k ≤ i' → Z.getD i' [] = Y.getD i' []) ∧ (∀ i', i < i' → i' < i + 1 + k → Z.getD i' [] = stepR (Y.getD i' []) (Y.getD i []) i last) ∧ ws[i]? = some (.ref bd) ∧ H5 bd = some (.lst ((Y.getD i []).map V.int)) ∧
            ∃ x7 x8 x9, σ = [some (.ref a), some (.ref D), some (.int sn), some (.int last), none, some (.int (i : Int)), some (.ref D2), x7, x8, x9, none, none])
          ⟨s4, vs, Y, hD, lp, lY, fun _ _ => rfl, fun i' h1 h2 => by omega, hud, ebd, _, _, _, rfl⟩ ?_ ?_
        · rintro k σ H5 hk ⟨s5, ws, Z, hD5, lp5, lZ, z1, z2, hwd, ebd5, x7, x8, x9, rfl⟩
          have lw := lp5.len
          have kr : i + 1 + k < R.length := by omega
          have ek : (i : Int) + 1 + (k : Int) = ((i + 1 + k : Nat) : Int) := by omega
          obtain ⟨ub, hub, bb, rfl, ab, ebb⟩ := paired_get lp5 (row_get (i := i + 1 + k) (by omega))
          rw [z1 _ (.inr (Nat.le_refl _))] at ebb
          have lb := rect_get rY (i := i + 1 + k) (by omega)
          have ld := rect_get rY (i := i) (by omega)
          have bb8 := big8 _ (row_mem (R := Y) (i := i + 1 + k) (by omega))
          have bd8 := big8 _ (row_mem (R := Y) (i := i) (by omega))
          rw [ek]
          refine ⟨_, rfl, _, rfl, D, ws, _, .ref bd, rfl, rfl, .inl (.inl hD5), atI_nat hwd, _, rfl, bd, _, _, .int ((Y.getD i []).getD i 0), rfl, rfl, .inl (.inl ebd5), atI_nat (intsAt (by omega)),
            _, rfl, _, rfl, D, ws, _, .ref bb, rfl, rfl, .inl (.inl hD5), atI_nat hub, _, rfl, bb, _, _, .int ((Y.getD (i + 1 + k) []).getD i 0), rfl, rfl, .inl (.inl ebb), atI_nat (intsAt (by omega)), by show 2 ≤ sizeLine; decide, fun T nT => ?_⟩
          obtain ⟨O, hO⟩ : ∃ O : HO, O = .tup [.int ((Y.getD i []).getD i 0), .int ((Y.getD (i + 1 + k) []).getD i 0)] := ⟨_, rfl⟩
          rw [← hO]
          have sT := same_new (o := O) nT
          have eT : (upd H5 T O) T = some (.tup [.int ((Y.getD i []).getD i 0), .int ((Y.getD (i + 1 + k) []).getD i 0)]) := by rw [← hO]; exact upd_same
          have nD3' : ∀ D3, (upd H5 T O) D3 = none → H5 D3 = none := fun D3 h => sT.free h
          replace s5 := s5.trans sT
          replace hD5 := sT _ _ hD5
          replace lp5 := lp5.same sT
          replace ebb := sT _ _ ebb
          replace ebd5 := sT _ _ ebd5
          generalize upd H5 T O = H5 at s5 hD5 lp5 ebb ebd5 eT ⊢
          refine ⟨T, _, rfl, .inl (.inl eT), rfl, _, _, rfl, ?_⟩
          refine ⟨_, _, rfl, rfl, ?_⟩
          refine ⟨_, rfl, _, rfl, D, ws, _, .ref bb, rfl, rfl, .inl (.inl hD5), atI_nat hub, _, rfl, _, rfl, D, ws, _, .ref bd, rfl, rfl, .inl (.inl hD5), atI_nat hwd, bb, bd, _, _, rfl, .inl ⟨.inl (.inl ebb), .inl (.inl ebd5), fun D3 nD3 => ?_⟩⟩
          refine lc_zipL2 (n := R.length) (us := (Y.getD (i + 1 + k) []).map V.int) (ws := (Y.getD i []).map V.int) (by rw [List.length_map, List.length_map, lb, ld, Nat.min_self])
            (fun j H' => Same H5 H' ∧ H' D3 = some (.lst ((List.zipWith (fun n a => ((Y.getD i []).getD i 0 * n - (Y.getD (i + 1 + k) []).getD i 0 * a).fdiv last) ((Y.getD (i + 1 + k) []).take j) ((Y.getD i []).take j)).map V.int))) ⟨same_new nD3, upd_same⟩
            (fun j H' _ e => ⟨.inl (.inl (e.1 _ _ ebb)), .inl (.inl (e.1 _ _ ebd5))⟩) ?_ ?_
          · rintro j x y H6 T hx hy ⟨s6, hD3⟩ fT
            obtain ⟨xi, hxi, rfl⟩ := map_int hx
            obtain ⟨yi, hyi, rfl⟩ := map_int hy
            have DT_ : D3 ≠ T := ne_of_none hD3 fT
            have li := (List.getElem?_eq_some_iff.mp hxi).1
            have li2 := (List.getElem?_eq_some_iff.mp hyi).1
            have s7 := s6.trans (same_new fT (o := .tup [.int xi, .int yi]))
            have hD7 := (upd_ne (o := .tup [.int xi, .int yi]) DT_).trans hD3
            refine ⟨T, _, rfl, .inl (.inl upd_same), rfl, _, _, rfl, ?_⟩
            refine ⟨_, _, rfl, rfl, rfl, ?_⟩
            generalize upd H6 T _ = H7 at s7 hD7 ⊢
            refine yes_ ?_
            refine ⟨_, rfl, _, rfl, _, _, rfl, rfl, mulB (e := 8000) (by decide) (bd8 _ (mem_mem (by omega))) (bb8 _ (List.mem_of_getElem? hxi)), ?_⟩
            refine ⟨_, rfl, _, rfl, _, _, rfl, rfl, mulB (e := 8000) (by decide) (bb8 _ (mem_mem (by omega))) (bd8 _ (List.mem_of_getElem? hyi)), ?_⟩
            refine ⟨_, _, rfl, rfl, _, rfl, _, _, rfl, rfl, divG l0 (Nat.lt_of_lt_of_le bl (Nat.pow_le_pow_right (by decide) (by omega))), ?_⟩
            refine ⟨_, hD7, ?_, ?_, ?_⟩
            · rw [List.length_map, List.length_zipWith, List.length_take, sizeLine_eq]
              omega
            · intro c o e
              rw [upd_ne (ne_of_none e nD3)]
              exact s7 _ _ e
            · rw [upd_same, List.take_add_one, hxi, List.take_add_one, hyi, List.zipWith_append (by rw [List.length_take, List.length_take]; omega), List.map_append]
              rfl
          rintro H6 ⟨s6, er⟩
          rw [List.take_of_length_le (by omega), List.take_of_length_le (by omega)] at er
          have rD : D3 ≠ D := (ne_of_none hD5 nD3).symm
          refine ⟨_, rfl, _, rfl, D, _, _, i + 1 + k, rfl, rfl, s6 _ _ hD5, ixN_in (by omega), ?_⟩
          refine ⟨keep (s5.trans s6), _, Z.set (i + 1 + k) (stepR (Y.getD (i + 1 + k) []) (Y.getD i []) i last), upd_same, paired_set ⟨D3, rfl, rD, (upd_ne rD).trans er⟩ ((lp5.same s6).put) _, by rw [List.length_set]; exact lZ, ?_, ?_, ?_, (upd_ne ad).trans (s6 _ _ ebd5), _, _, _, rfl⟩
          · intro i' h
            rw [getD_set_ne (by omega)]
            exact z1 i' (by omega)
          · intro i' h1 h2
            by_cases c1 : i' = i + 1 + k
            · rw [c1, getD_set_eq (by omega)]
            · rw [getD_set_ne (fun z => c1 z.symm)]
              exact z2 i' h1 (by omega)
          · rw [List.getElem?_set_ne (by omega)]
            exact hwd
        · rintro σ H5 ⟨s5, ws, Z, hD5, lp5, lZ, z1, z2, hwd, ebd5, x7, x8, x9, rfl⟩
          have lw := lp5.len
          have en : i + 1 + ((vs.length : Int) - ((i : Int) + 1)).toNat = R.length := by omega
          rw [en] at z1 z2
          have Zd : Z.getD i [] = Y.getD i [] := z1 i (.inl (Nat.le_refl _))
          have rowlen : ∀ i', i' < R.length → (Z.getD i' []).length = R.length := fun i' hi' => by
            by_cases c1 : i' ≤ i
            · rw [z1 i' (.inl c1)]
              exact rect_get rY (by omega)
            · rw [z2 i' (by omega) hi']
              unfold stepR
              rw [List.length_zipWith, rect_get rY (by omega), rect_get rY (by omega), Nat.min_self]
          have rZ : Rect Z R.length := rect_of fun i' hi' => rowlen i' (by omega)
          have val : ∀ i', i < i' → i' < R.length → ∀ j, j < R.length → mat Z i' j = (mat Y i i * mat Y i' j - mat Y i' i * mat Y i j).fdiv last := by
            intro i' h1 h2 j hj
            unfold mat
            rw [z2 i' h1 h2]
            unfold stepR
            rw [List.getD, List.getElem?_zipWith, mem_get (by rw [rect_get rY (by omega)]; exact hj), mem_get (by rw [rect_get rY (by omega)]; exact hj)]
            rfl
          have st2 := st.step (X' := mat Z) ir (by omega) (by rw [ci]; exact ne) hl (fun i' h1 j hj => by
              unfold mat
              rw [z1 i' (.inl (by omega))]) fun i' h1 h2 j hj q' e => by
            rw [val i' (by omega) h2 j hj]
            rw [ci] at e
            rw [e]
            exact Int.mul_fdiv_cancel_left _ l0
          have bZ : Big Z (2 ^ bdE (i + 1)) := big_of rZ fun i' hi' j hj => by
            rw [lZ] at hi'
            by_cases c1 : i' ≤ i
            · have : mat Z i' j = mat Y i' j := by
                unfold mat
                rw [z1 i' (.inl c1)]
              rw [this]
              exact Nat.lt_of_lt_of_le (big_get bY rY (by omega) hj) (Nat.pow_le_pow_right (by decide) (bdE_mono (by omega)))
            · have e := dv i' (by omega) hi' j hj
              rw [val i' (by omega) hi' j hj, e, Int.mul_fdiv_cancel_left _ l0]
              refine abs_le_mul l0 e ?_
              rw [bdE_succ]
              exact two_mul_lt (big_get bY rY (by omega) ir) (big_get bY rY (by omega) hj) (big_get bY rY (by omega) ir) (big_get bY rY (by omega) hj)
          have lcs : (cs ++ [i]).length = i + 1 := by rw [List.length_append, ci]; rfl
          have gcs : (cs ++ [i]).getD i 0 = i := by
            have := DT.getD_end (cs := cs) (x := i)
            rwa [ci] at this
          have pv := st2.piv (t := i) (by omega) (by omega)
          rw [gcs] at pv
          have eZ : mat Z i i = mat Y i i := by
            unfold mat
            rw [Zd]
          rw [eZ] at pv
          refine ⟨_, rfl, _, rfl, D, ws, _, .ref bd, rfl, rfl, .inl (.inl hD5), atI_nat hwd, _, rfl, bd, _, _, .int (mat Y i i), rfl, rfl, .inl (.inl ebd5), atI_nat (intsAt (by rw [rect_get rY (by omega)]; exact ir)), ?_⟩
          refine ⟨s5, ws, Z, cs ++ [i], sn, mat Y i i, ord, hD5, lp5, lZ, rZ, st2, lcs, by rw [lcs]; exact pv, bZ, ?_, hs, _, _, _, _, _, rfl⟩
          exact Nat.lt_of_lt_of_le (big_get bY rY (by omega) ir) (Nat.pow_le_pow_right (by decide) (bdE_mono (by omega)))
    · rintro σ H3 ⟨s3, vs, Y, cs, sn, last, ord, hD, lp, lY, rY, st, ci, hl, bY, bl, hs, x5, x6, x7, x8, x9, rfl⟩
      have en : ((rs.length : Nat) : Int).toNat = R.length := by omega
      rw [en] at st ci bl bY
      have full := st.full (by omega)
      rw [if_pos ci] at full
      have id := DT.asc_id cs 0 st.up fun x hx => ⟨Nat.zero_le _, by have := st.below x hx; omega⟩
      have pv := st.piv (t := R.length - 1) (by omega) (by omega)
      rw [id _ (by omega), Nat.zero_add, show R.length - 1 + 1 = R.length by omega, ← ci, ← hl, ci] at pv
      refine ⟨_, rfl, _, rfl, _, _, rfl, rfl, mulB (e := 3071) (by decide) (by rcases hs with rfl | rfl <;> exact Nat.one_lt_two_pow (by decide)) (Nat.lt_of_lt_of_le bl (Nat.pow_le_pow_right (by decide) (bdE_six (by omega)))), ?_⟩
      have := q _ s3
      rw [← full, pv] at this
      exact this
end
end K02.LT


set_option Elab.async false
set_option linter.all false
set_option maxRecDepth 100000
set_option maxHeartbeats 8000000
namespace K02
open PySem PySem.Spec PyProof.Rows L2 MM
/-! own words for the readings: a step, its side -/
local macro_rules | `(tactic| walk_at "side") => `(tactic| first
  | omega
  | exact ⟨by omega, by omega⟩
  | exact Or.inl ⟨by omega, by omega⟩
  | exact Or.inr ⟨by omega, by omega⟩
  | (show CPw _ _; decide +kernel)
  | (show (0 : Int) < _; decide +kernel)
  | (show CDivW _ _; first | assumption | exact ⟨by decide, by decide +kernel⟩))
local macro_rules | `(tactic| walk_at "here") => `(tactic| first
  | assumption
  | exact upd_same
  | exact Or.inl (Or.inl upd_same)
  | exact Or.inl upd_same)
local macro_rules | `(tactic| walk_at "one") => `(tactic| first
  | refine ⟨_, rfl, ?_⟩
  | refine Or.inl ⟨_, rfl, ?_⟩
  | refine Or.inr ⟨_, rfl, ?_⟩
  | refine ⟨_, _, rfl, rfl, (by walk_at "side"), ?_⟩
  | refine ⟨_, _, rfl, rfl, ?_⟩
  | refine ⟨_, _, rfl, Or.inl (by walk_at "here"), ?_⟩
  | refine ⟨_, _, rfl, Or.inr (by walk_at "here"), ?_⟩
  | refine ⟨_, _, rfl, (by walk_at "here"), ?_⟩
  | refine ⟨_, _, _, _, rfl, rfl, (by walk_at "here"), rfl, ?_⟩
  | refine ⟨_, _, rfl, ?_⟩
  | refine ifT (by rfl) ?_
  | refine ifF (by rfl) ?_
  | refine ifT (decide_eq_true (by omega)) ?_
  | refine ifF (decide_eq_false (by omega)) ?_)
local macro_rules | `(tactic| walk_at "st") => `(tactic| repeat (walk_at "one"))

section
variable {P : Program} {w : World} {K : PySem.W.Frag} {mg : Str → Option Value} {base : Heap}
/-- the rows l and the columns m -/
def sub (R : List (List Int)) (l m : List Nat) : List (List Int) := l.map fun i => m.map fun j => mat R i j
theorem sub_mat {R : List (List Int)} {l m : List Nat} {i j : Nat} (hi : i < l.length) (hj : j < m.length) : mat (sub R l m) i j = mat R (l.getD i 0) (m.getD j 0) := by
  have e : (sub R l m).getD i [] = m.map fun j => mat R (l.getD i 0) j := by
    unfold sub
    rw [List.getD, List.getElem?_map, List.getElem?_eq_getElem hi, Option.map_some, Option.getD_some, List.getD, List.getElem?_eq_getElem hi]
    rfl
  show ((sub R l m).getD i []).getD j 0 = _
  have g : m.getD j 0 = m[j] := by
    rw [List.getD, List.getElem?_eq_getElem hj]
    rfl
  rw [e, g, List.getD, List.getElem?_map, List.getElem?_eq_getElem hj]
  rfl
theorem sub_det {R : List (List Int)} {l m : List Nat} {k : Nat} (hl : l.length = k) (hm : m.length = k) : DT.det (sub R l m).length (mat (sub R l m)) = DT.det k fun a b => mat R (l.getD a 0) (m.getD b 0) := by
  have e : (sub R l m).length = k := by unfold sub; rw [List.length_map, hl]
  rw [e]
  exact DT.det_congr fun a b ha hb => sub_mat (by omega) (by omega)
theorem chs_asc {n : Nat} : ∀ {k : Nat} {l : List Nat}, l ∈ chs n k ↔ DT.Asc n k l
  | 0, l => by
    constructor
    · intro h
      rw [List.mem_singleton.mp h]
      exact ⟨rfl, .nil, fun x hx => by cases hx⟩
    · rintro ⟨h, _, _⟩
      rw [List.length_eq_zero_iff.mp h]
      exact List.mem_singleton.mpr rfl
  | k + 1, l => by
    have nx : ∀ {l : List Nat}, DT.Asc n k l → ∀ x ∈ l, x < nxt l := by
      rintro l ⟨h1, h2, h3⟩ x hx
      unfold nxt
      rw [if_neg (fun z => by rw [z] at hx; cases hx)]
      rw [List.getLastD_eq_getLast?, List.getLast?_eq_getElem?]
      obtain ⟨i, hi, rfl⟩ := List.mem_iff_getElem.mp hx
      rw [List.getElem?_eq_getElem (by omega), Option.getD_some]
      by_cases c : i = l.length - 1
      · subst c
        omega
      · have := List.pairwise_iff_getElem.mp h2 i (l.length - 1) hi (by omega) (by omega)
        omega
    constructor
    · intro h
      obtain ⟨l', h1, h2⟩ := List.mem_flatMap.mp h
      obtain ⟨t, ht, rfl⟩ := List.mem_map.mp h2
      have a := chs_asc.mp h1
      have tl := List.mem_range.mp ht
      refine ⟨by rw [List.length_append, a.1]; rfl, List.pairwise_append.mpr ⟨a.2.1, List.pairwise_singleton _ _, fun x hx y hy => ?_⟩, fun x hx => ?_⟩
      · rw [List.mem_singleton.mp hy]
        have := nx a x hx
        omega
      · rcases List.mem_append.mp hx with hx | hx
        · exact a.2.2 x hx
        · rw [List.mem_singleton.mp hx]
          omega
    · rintro ⟨h1, h2, h3⟩
      obtain ⟨l', y, rfl⟩ : ∃ l' y, l = l' ++ [y] := ⟨l.dropLast, l.getLast (by intro z; rw [z] at h1; cases h1), (List.dropLast_concat_getLast _).symm⟩
      have p := List.pairwise_append.mp h2
      have a : DT.Asc n k l' := ⟨by rw [List.length_append] at h1; simpa using h1, p.1, fun x hx => h3 x (List.mem_append_left _ hx)⟩
      refine List.mem_flatMap.mpr ⟨l', chs_asc.mpr a, List.mem_map.mpr ⟨y - nxt l', ?_, ?_⟩⟩
      · have := h3 y (by simp)
        have lo : nxt l' ≤ y := by
          unfold nxt
          split
          · exact Nat.zero_le _
          · rename_i ne
            have : l'.getLastD 0 ∈ l' := by
              rw [List.getLastD_eq_getLast?, List.getLast?_eq_getElem?]
              have : 0 < l'.length := List.length_pos_iff.mpr ne
              rw [List.getElem?_eq_getElem (by omega), Option.getD_some]
              exact List.getElem_mem _
            exact p.2.2 _ this y (by simp)
        exact List.mem_range.mpr (by omega)
      · have lo : nxt l' ≤ y := by
          unfold nxt
          split
          · exact Nat.zero_le _
          · rename_i ne
            have : l'.getLastD 0 ∈ l' := by
              rw [List.getLastD_eq_getLast?, List.getLast?_eq_getElem?]
              have : 0 < l'.length := List.length_pos_iff.mpr ne
              rw [List.getElem?_eq_getElem (by omega), Option.getD_some]
              exact List.getElem_mem _
            exact p.2.2 _ this y (by simp)
        rw [show nxt l' + (y - nxt l') = y by omega]
/-- the greatest common divisors of minors, told -/
structure Shr (R : List (List Int)) (c : Nat) (D : Nat → Nat) (n : Nat) : Prop where
  zero : D 0 = 1
  ch : ∀ k, k ≤ n → DT.Ch 0 R.length c k (mat R) (D k)
  pos : ∀ k, k ≤ n → 0 < D k
  most : n ≤ min R.length c
  last : n = min R.length c ∨ DT.Ch 0 R.length c (n + 1) (mat R) 0
def spShares (K : PySem.W.Frag) : Sp := fun vs H Q _ => ∃ (a : Addr) (us : List V) (R : List (List Int)) (c : Nat), vs = [.ref a] ∧ SqT K H a us ∧ TR K H us R ∧ Rect R c ∧ 1 ≤ R.length ∧ R.length ≤ 4 ∧ 1 ≤ c ∧ c ≤ 4 ∧ Big R (2 ^ 47) ∧ 
  ∀ H' r (D : Nat → Nat) (n : Nat), Same H H' → H' r = some (.lst (nv ((List.range n).map fun k => D (k + 1)))) → Shr R c D n → Q (.ref r) H'
theorem scTbSharesL : FnScope ["_law_table", "_law_found", "_law_many", "_law_share", "_law_rows", "_law_places", "_law_less", "_law_place", "_law_at"] ["_law_table"] (defScope sTbSharesL) :=
  ⟨rfl, rfl, rfl, by decide +kernel, rfl, by decide +kernel, by decide +kernel⟩
theorem dTbSharesL (T : Tx K mg) (DTbChoicesL : Def P w K mg base CX0 1 "_law_tb_choices" ["_law_size", "_law_many"] (spChoices K)) (DTbDivisorL : Def P w K mg base CX0 1 "_law_tb_divisor" ["_law_one", "_law_other"] spGcd) (DTbDeterminantL : Def P w K mg base CX0 1 "_law_tb_determinant" ["_law_rows"] (spDetL K)) : Def P w K mg base CX0 2 "_law_tb_shares" ["_law_table"] (spShares K) := by
  refine T.t_law_tb_shares.def_ (N := ["_law_table", "_law_found", "_law_many", "_law_share", "_law_rows", "_law_places", "_law_less", "_law_place", "_law_at"]) scTbSharesL (fun _ _ _ _ _ _ us hl => match us, hl with | [_], _ => rfl) ?_ ?_
  · intro vs H Q E h
    obtain ⟨a, us, R, c, rfl, _⟩ := h
    rfl
  · intro f cd A out s H vs Q E hr h
    have hr1 : Rm 1 _ := hr.le (by decide)
    obtain ⟨a, us, R, c, rfl, S, tR, rc, r1, r4, c1, c4, bR, q⟩ := h
    refine ⟨_, (pss_cons (ps_set (i := 1) scTbSharesL.nd rfl (Or.inl rfl) (pe_lst pa_nil))
      (pss_cons (ps_for PassesOwn.never rfl (pi_range2 rfl T.f_range (pa_cons pe_int (pa_cons (pe_op op_add (pe_callB (call_min2 rfl) rfl T.f_min (by decide +kernel) (pa_cons (pe_callB call_len_seq rfl T.f_len (by decide +kernel) (pa_cons (pv 0) pa_nil)) (pa_cons (pe_callB call_len_seq rfl T.f_len (by decide +kernel) (pa_cons (pe_ix ix_tup (pv 0) pe_int (fun _ _ => rfl)) pa_nil)) pa_nil))) pe_int) pa_nil))) (pg_name (i := 2) scTbSharesL.nd rfl (Or.inl rfl))
        (pss_cons (ps_set (i := 3) scTbSharesL.nd rfl (Or.inl rfl) pe_int)
        (pss_cons (ps_for PassesOwn.never rfl (pi_list (pe_d DTbChoicesL (hr1.le (by decide)) pass0 (pa_cons (pe_callB call_len_seq rfl T.f_len (by decide +kernel) (pa_cons (pv 0) pa_nil)) (pa_cons (pv 2) pa_nil)))) (pg_name (i := 4) scTbSharesL.nd rfl (Or.inl rfl))
          (pss_one (ps_for PassesOwn.never rfl (pi_list (pe_d DTbChoicesL (hr1.le (by decide)) pass0 (pa_cons (pe_callB call_len_seq rfl T.f_len (by decide +kernel) (pa_cons (pe_ix ix_tup (pv 0) pe_int (fun _ _ => rfl)) pa_nil)) (pa_cons (pv 2) pa_nil)))) (pg_name (i := 5) scTbSharesL.nd rfl (Or.inr rfl))
            (pss_cons (ps_setLc (i := 6) (own := [("_law_at", 8)]) (g := gName 8) (tt := tYes) rfl scTbSharesL.nd rfl rfl (sw_true rfl rfl rfl rfl) (pi_tup (pv 4)) (blkOk_by (N := ["_law_table", "_law_found", "_law_many", "_law_share", "_law_rows", "_law_places", "_law_less", "_law_place", "_law_at"]) (sc := defScope sTbSharesL) (by decide +kernel)) (fun _ _ _ _ _ => pg_name (i := 8) scTbSharesL.nd rfl (Or.inr rfl)) (fun _ _ _ _ _ => pts_nil) (fun _ _ _ _ _ => (pe_lc (own := [("_law_place", 7)]) (g := gName 7) (tt := tYes) rfl scTbSharesL.nd (show PI _ _ _ (iTup K _) from pi_tup (pv 5)) (blkOk_by (N := ["_law_table", "_law_found", "_law_many", "_law_share", "_law_rows", "_law_places", "_law_less", "_law_place", "_law_at"]) (sc := _) (by kernel_rfl)) (fun _ _ _ _ _ => pg_name (i := 7) scTbSharesL.nd rfl (Or.inl rfl)) (fun _ _ _ _ _ => pts_nil) (fun _ _ _ _ _ => (pe_ix (show IxR _ (rIxT K) from ix_tup) (pe_ix (show IxR _ (rIxT K) from ix_tup) (pv 0) (pv 8) (fun _ _ => rfl)) (pv 7) (fun _ _ => rfl))))))
            (pss_one (ps_set (i := 3) scTbSharesL.nd rfl (Or.inl rfl) (pe_d DTbDivisorL (hr1.le (by decide)) pass0 (pa_cons (pv 3) (pa_cons (pe_d DTbDeterminantL (hr1.le (by decide)) pass0 (pa_cons (pv 6) pa_nil)) pa_nil)))))))))
        (pss_cons (ps_if (pt_cmpR op_eq (pv 3) pe_int (nomark _)) (pss_one (ps_ret (pv 1))) pss_nil)
        (pss_one (ps_expr (pe_bm PySem.F.plainAttrs_list PySem.F.slot_list_append PySem.F.type_list_append mt_append (pv 1) (pa_cons (pv 3) pa_nil))))))))
      (pss_one (ps_ret (pv 1))))), ?_⟩
    have lu := tR.len
    obtain ⟨u0, hu0, b0, rfl, S0⟩ := paired_get tR (row_get (i := 0) (by omega))
    have l0 := rect_get rc (i := 0) (by omega)
    refine ⟨Nat.zero_le _, fun F fF => ?_⟩
    have s1 : Same H (upd H F (.lst [])) := same_new fF
    have eF : (upd H F (.lst [])) F = some (.lst []) := upd_same
    replace S0 := sqt_new (o := .lst []) S0 fF
    replace tR := tR.same s1
    replace S := same_sqt s1 S
    have fF0 := fF
    generalize upd H F _ = H1 at s1 eF S0 tR S ⊢
    have keep : ∀ {H3 : Hp} {o : HO}, Same H H3 → Same H (upd H3 F o) := fun {H3 o} s b x e => by
      rw [upd_ne (ne_of_none e fF0)]
      exact s _ _ e
    refine ⟨_, rfl, a, _, rfl, .inr S, _, rfl, a, _, _, .ref b0, rfl, rfl, S, atI_nat (j := 0) hu0, b0, _, rfl, .inr S0, ?_⟩
    obtain ⟨N, hN⟩ : ∃ N, N = min R.length c := ⟨_, rfl⟩
    rw [List.length_map, l0, lu]
    have eN : (if (c : Int) < ((R.length : Nat) : Int) then (c : Int) else ((R.length : Nat) : Int)) = (N : Int) := by
      rw [hN]
      split <;> omega
    refine ⟨_, _, rfl, ?_⟩
    rw [eN]
    refine ⟨_, _, rfl, rfl, ?_⟩
    refine ⟨(1 : Int), (N : Int) + 1, rfl, ⟨by omega, by omega, by omega, by omega⟩, ?_⟩
    refine for_range (fun i σ H3 => Same H H3 ∧ SqT K H3 a us ∧ TR K H3 us R ∧ ∃ D : Nat → Nat, D 0 = 1 ∧ (∀ k, k ≤ i → DT.Ch 0 R.length c k (mat R) (D k) ∧ 0 < D k) ∧ H3 F = some (.lst (nv ((List.range i).map fun k => D (k + 1)))) ∧
        ∃ x2 x3 x4 x5 x6, σ = [some (.ref a), some (.ref F), x2, x3, x4, x5, x6, none, none])
      ⟨s1, S, tR, fun _ => 1, rfl, fun k hk => ⟨?_, Nat.one_pos⟩, eF, _, _, _, _, _, rfl⟩ ?_ ?_
    · obtain rfl : k = 0 := Nat.le_zero.mp hk
      intro g
      constructor
      · intro p
        have := p 0 (Nat.le_refl _) id id (fun a h => absurd h (Nat.not_lt_zero _)) (fun a h => absurd h (Nat.not_lt_zero _))
        exact DT.dvd_nat.mp this
      · intro h j jk R' C' h1 h2
        obtain rfl : j = 0 := Nat.le_zero.mp jk
        exact DT.dvd_nat.mpr h
    · rintro i σ H3 hi ⟨s3, S3, t3, D, D0, hDk, eF3, x2, x3, x4, x5, x6, rfl⟩
      have iN : i < N := by omega
      have iR : i + 1 ≤ R.length := by omega
      have ic : i + 1 ≤ c := by omega
      have ek : (1 : Int) + (i : Int) = ((i + 1 : Nat) : Int) := by omega
      rw [ek]
      refine ⟨_, rfl, a, _, rfl, .inr S3, _, rfl, R.length, i + 1, ?_, r4, by omega, fun H4 C1 w1 s4 e1 n1 => ?_⟩
      · rw [lu]
      obtain ⟨k, hk⟩ : ∃ k, k = i + 1 := ⟨_, rfl⟩
      rw [← hk] at n1 iR ic ⊢
      have k1 : 1 ≤ k := by omega
      have k4 : k ≤ 4 := by omega
      obtain ⟨fs, hfs⟩ : ∃ fs : List V, fs = nv ((List.range i).map fun k => D (k + 1)) := ⟨_, rfl⟩
      rw [← hfs] at eF3
      have lw1 := n1.len
      have s04 := s3.trans s4
      refine ⟨C1, rfl, ⟨_, .inl (.inl e1)⟩, for_list (K := K) (a := C1) (xs := w1) (fun j σ H5 => Same H H5 ∧ SqT K H5 a us ∧ TR K H5 us R ∧ H5 F = some (.lst fs) ∧ H5 C1 = some (.lst w1) ∧ NR K H5 w1 (chs R.length k) ∧
          ∃ G : Nat, (∀ g : Nat, g ∣ G ↔ ∀ l ∈ (chs R.length k).take j, ∀ m ∈ chs c k, (g : Int) ∣ DT.det k fun a b => mat R (l.getD a 0) (m.getD b 0)) ∧
          ∃ x4 x5 x6, σ = [some (.ref a), some (.ref F), some (.int (k : Int)), some (.int (G : Int)), x4, x5, x6, none, none])
        ⟨s04, same_sqt s4 S3, t3.same s4, s4 _ _ eF3, e1, n1, 0, fun g => ⟨fun _ l hl => (by simp at hl), fun _ => Nat.dvd_zero _⟩, _, _, _, rfl⟩ (fun j σ H5 _ h => .inl (.inl h.2.2.2.2.1)) ?_ ?_⟩
      · rintro j v σ H5 hv ⟨s5, S5, t5, eF5, e15, n15, G, hG, x4, x5, x6, rfl⟩
        obtain ⟨l, hl, lb, rfl, Sl⟩ := paired_at n15 hv
        have la := chs_asc.mp (List.mem_of_getElem? hl)
        obtain ⟨v0, hv0, b1, rfl, S1⟩ := paired_get t5 (row_get (i := 0) (by omega))
        refine ⟨_, rfl, a, _, _, .ref b1, rfl, rfl, S5, atI_nat (j := 0) hv0, b1, _, rfl, .inr S1, _, rfl, c, k, ?_, c4, k4, fun H6 C2 w2 s6 e2 n2 => ?_⟩
        · rw [List.length_map, l0]
        have lw2 := n2.len
        refine ⟨C2, rfl, ⟨_, .inl (.inl e2)⟩, for_list (K := K) (a := C2) (xs := w2) (fun t σ H7 => Same H H7 ∧ SqT K H7 a us ∧ TR K H7 us R ∧ H7 F = some (.lst fs) ∧ H7 C1 = some (.lst w1) ∧ NR K H7 w1 (chs R.length k) ∧ SqT K H7 lb (nv l) ∧ H7 C2 = some (.lst w2) ∧ NR K H7 w2 (chs c k) ∧
            ∃ G : Nat, (∀ g : Nat, g ∣ G ↔ (∀ l ∈ (chs R.length k).take j, ∀ m ∈ chs c k, (g : Int) ∣ DT.det k fun a b => mat R (l.getD a 0) (m.getD b 0)) ∧ ∀ m ∈ (chs c k).take t, (g : Int) ∣ DT.det k fun a b => mat R (l.getD a 0) (m.getD b 0)) ∧
            ∃ x5 x6, σ = [some (.ref a), some (.ref F), some (.int (k : Int)), some (.int (G : Int)), some (.ref lb), x5, x6, none, none])
          ⟨s5.trans s6, same_sqt s6 S5, t5.same s6, s6 _ _ eF5, s6 _ _ e15, n15.same s6, same_sqt s6 Sl, e2, n2, G, fun g => ⟨fun h => ⟨(hG g).mp h, fun m hm => (by simp at hm)⟩, fun h => (hG g).mpr h.1⟩, _, _, rfl⟩ (fun t σ H7 _ h => .inl (.inl h.2.2.2.2.2.2.2.1)) ?_ ?_⟩
        · rintro t v σ H7 hv ⟨s7, S7, t7, eF7, e17, n17, Sl7, e27, n27, G, hG, x5, x6, rfl⟩
          obtain ⟨m, hm, mb, rfl, Sm⟩ := paired_at n27 hv
          have ma := chs_asc.mp (List.mem_of_getElem? hm)
          refine ⟨_, rfl, lb, rfl, ⟨_, Sl7⟩, fun Z nZ => ?_⟩
          refine lc_tup (K := K) (a := lb) (xs := nv l) (Pv := fun p H8 => Same H7 H8 ∧ ∃ zs, H8 Z = some (.lst zs) ∧ LLa Z H8 zs ((sub R l m).take p)) ⟨same_new nZ, [], upd_same, .nil⟩ (fun p H8 _ e => same_sqt e.1 Sl7) ?_ ?_
          · rintro p x H8 hx ⟨s8, zs, eZ, lz⟩
            have pl : p < l.length := by
              have := (List.getElem?_eq_some_iff.mp hx).1
              rwa [nv_len] at this
            obtain ⟨r, hr, rR⟩ : ∃ r, l[p]? = some r ∧ r < R.length := ⟨l[p], List.getElem?_eq_getElem pl, la.2.2 _ (List.getElem_mem _)⟩
            have ex : x = .int (r : Int) := by
              unfold nv at hx
              rw [List.getElem?_map, hr] at hx
              exact (Option.some.inj hx).symm
            subst ex
            have lzs := lz.len
            refine ⟨wipe_one, yes_ ?_⟩
            refine ⟨_, rfl, mb, rfl, ⟨_, same_sqt s8 Sm⟩, fun Z2 nZ2 => ?_⟩
            have ZZ : Z2 ≠ Z := (ne_of_none eZ nZ2).symm
            refine lc_tup (K := K) (a := mb) (xs := nv m) (Pv := fun y H9 => Same H8 H9 ∧ H9 Z2 = some (.lst (((m.take y).map fun j => mat R r j).map V.int))) ⟨same_new nZ2, upd_same⟩ (fun y H9 _ e => same_sqt (s8.trans e.1) Sm) ?_ ?_
            · rintro y x H9 hx ⟨s9, eZ2⟩
              have yl : y < m.length := by
                have := (List.getElem?_eq_some_iff.mp hx).1
                rwa [nv_len] at this
              obtain ⟨d, hd, dc⟩ : ∃ d, m[y]? = some d ∧ d < c := ⟨m[y], List.getElem?_eq_getElem yl, ma.2.2 _ (List.getElem_mem _)⟩
              have ex : x = .int (d : Int) := by
                unfold nv at hx
                rw [List.getElem?_map, hd] at hx
                exact (Option.some.inj hx).symm
              subst ex
              obtain ⟨ur, hur, rb, rfl, Sr⟩ := paired_get (t7.same (s8.trans s9)) (row_get rR)
              have lr := rect_get rc rR
              have lm := ma.1
              refine ⟨wipe_one, yes_ ?_⟩
              refine ⟨_, rfl, _, rfl, a, us, _, .ref rb, rfl, rfl, same_sqt (s8.trans s9) S7, atI_nat hur, _, rfl, rb, _, _, .int (mat R r d), rfl, rfl, Sr, atI_nat (intsAt (by omega)), ?_⟩
              refine ⟨_, eZ2, ?_, ?_, ?_⟩
              · rw [List.length_map, List.length_map, List.length_take, sizeLine_eq]
                omega
              · intro b o e
                rw [upd_ne (ne_of_none e nZ2)]
                exact s9 _ _ e
              · rw [upd_same, List.take_add_one, hd, List.map_append, List.map_append]
                rfl
            rintro H9 ⟨s9, eZ2⟩
            rw [nv_len, List.take_length] at eZ2
            have ll := la.1
            refine ⟨zs, s9 _ _ eZ, ?_, ?_, zs ++ [.ref Z2], upd_same, ?_⟩
            · rw [lzs, List.length_take, sizeLine_eq]
              omega
            · intro b o e
              rw [upd_ne (ne_of_none e nZ)]
              exact s9 _ _ (s8 _ _ e)
            · have e : (sub R l m).take (p + 1) = (sub R l m).take p ++ [m.map fun j => mat R r j] := by
                unfold sub
                rw [List.take_add_one, List.getElem?_map, hr]
                rfl
              rw [e]
              exact paired_snoc ⟨Z2, rfl, ZZ, (upd_ne ZZ).trans eZ2⟩ (lz.same s9).put
          rintro H8 ⟨s8, zs, eZ, lz⟩
          have ls : (sub R l m).length = k := by unfold sub; rw [List.length_map, la.1]
          rw [nv_len, List.take_of_length_le (by rw [ls, la.1]; exact Nat.le_refl _)] at lz
          have rs : Rect (sub R l m) k := fun row hr => by
            obtain ⟨i, _, rfl⟩ := List.mem_map.mp hr
            rw [List.length_map, ma.1]
          have bs : Big (sub R l m) (2 ^ 47) := fun row hr x hx => by
            obtain ⟨i, hi, rfl⟩ := List.mem_map.mp hr
            obtain ⟨j, hj, rfl⟩ := List.mem_map.mp hx
            exact big_get bR rc (la.2.2 i hi) (ma.2.2 j hj)
          refine ⟨_, rfl, _, rfl, Z, zs, sub R l m, rfl, lst_sql eZ, lz.ll, by rw [ls]; exact rs, by omega, by omega, bs, fun H9 s9 => ?_⟩
          rw [sub_det la.1 ma.1]
          refine ⟨(G : Int), _, rfl, ?_⟩
          have s79 := s8.trans s9
          refine ⟨s7.trans s79, same_sqt s79 S7, t7.same s79, s79 _ _ eF7, s79 _ _ e17, n17.same s79, same_sqt s79 Sl7, s79 _ _ e27, n27.same s79, _, fun g => ?_, _, _, rfl⟩
          rw [Nat.dvd_gcd_iff, Int.natAbs_natCast, hG g, List.take_add_one, hm]
          constructor
          · rintro ⟨⟨h1, h2⟩, h3⟩
            refine ⟨h1, fun m' hm' => ?_⟩
            rcases List.mem_append.mp hm' with z | z
            · exact h2 m' z
            · rw [List.mem_singleton.mp (show m' ∈ [m] from z)]
              exact DT.dvd_nat.mpr h3
          · rintro ⟨h1, h2⟩
            exact ⟨⟨h1, fun m' hm' => h2 m' (List.mem_append_left _ hm')⟩, DT.dvd_nat.mp (h2 m (List.mem_append_right _ (List.mem_singleton.mpr rfl)))⟩
        · rintro σ H7 ⟨s7, S7, t7, eF7, e17, n17, Sl7, e27, n27, G, hG, x5, x6, rfl⟩
          rw [lw2, List.take_length] at hG
          refine ⟨s7, S7, t7, eF7, e17, n17, G, fun g => ?_, _, _, _, rfl⟩
          rw [hG g, List.take_add_one, hl]
          constructor
          · rintro ⟨h1, h2⟩ l' hl'
            rcases List.mem_append.mp hl' with z | z
            · exact h1 l' z
            · rw [List.mem_singleton.mp (show l' ∈ [l] from z)]
              exact h2
          · intro h
            exact ⟨fun l' hl' => h l' (List.mem_append_left _ hl'), h l (List.mem_append_right _ (List.mem_singleton.mpr rfl))⟩
      · rintro σ H5 ⟨s5, S5, t5, eF5, e15, n15, G, hG, x4, x5, x6, rfl⟩
        rw [lw1, List.take_length] at hG
        have chG : DT.Ch 0 R.length c k (mat R) G := DT.Ch_asc fun g => by
          rw [hG g]
          exact ⟨fun h l m al am => h l (chs_asc.mpr al) m (chs_asc.mpr am), fun h l hl m hm => h l m (chs_asc.mp hl) (chs_asc.mp hm)⟩
        refine ⟨_, rfl, rfl, _, rfl, ?_⟩
        rw [dInt]
        by_cases g0 : G = 0
        · refine ifT (decide_eq_true (by omega)) ?_
          refine ⟨_, rfl, ?_⟩
          rw [hfs] at eF5
          subst g0
          rw [hk] at chG
          exact q _ F D i s5 eF5 ⟨D0, fun k hk => (hDk k hk).1, fun k hk => (hDk k hk).2, by omega, .inr chG⟩
        · refine ifF (decide_eq_false (by omega)) ?_
          have lfs : fs.length = i := by rw [hfs, nv_len, List.length_map, List.length_range]
          refine ⟨_, rfl, .inl ⟨rfl, _, .inl (.inl eF5)⟩, ?_⟩
          refine ⟨_, rfl, F, _, _, rfl, rfl, eF5, by rw [sizeLine_eq]; omega, ?_⟩
          refine ⟨keep s5, sqt_lst S5 eF5, t5.put eF5, fun x => if x = k then G else D x, by
            show (if 0 = k then G else D 0) = 1
            rw [if_neg (by omega)]
            exact D0, fun x hx => ?_, ?_, _, _, _, _, _, rfl⟩
          · show DT.Ch 0 R.length c x (mat R) (if x = k then G else D x) ∧ 0 < (if x = k then G else D x)
            by_cases e : x = k
            · rw [if_pos e, e]
              exact ⟨chG, by omega⟩
            · rw [if_neg e]
              exact hDk x (by omega)
          · have e1 : (List.range (i + 1)).map (fun x => if x + 1 = k then G else D (x + 1)) = (List.range i).map (fun x => D (x + 1)) ++ [G] := by
              rw [List.range_succ, List.map_append, List.map_cons, List.map_nil, if_pos hk.symm]
              congr 1
              exact List.map_congr_left fun x hx => by
                have := List.mem_range.mp hx
                rw [if_neg (by omega)]
            rw [upd_same, hfs]
            show some (HO.lst (nv _ ++ [V.int (G : Int)])) = some (HO.lst (nv ((List.range k).map fun x => if x + 1 = k then G else D (x + 1))))
            rw [show (List.range k).map (fun x => if x + 1 = k then G else D (x + 1)) = (List.range (i + 1)).map (fun x => if x + 1 = k then G else D (x + 1)) by rw [← hk], e1]
            unfold nv
            rw [List.map_append]
            rfl
    · rintro σ H3 ⟨s3, S3, t3, D, D0, hDk, eF3, x2, x3, x4, x5, x6, rfl⟩
      have en : ((N : Int) + 1 - 1).toNat = N := by omega
      rw [en] at hDk eF3
      refine ⟨_, rfl, ?_⟩
      exact q _ F D N s3 eF3 ⟨D0, fun k hk => (hDk k hk).1, fun k hk => (hDk k hk).2, by omega, .inl hN⟩
end
end K02


set_option Elab.async false
set_option linter.all false
set_option maxRecDepth 100000
set_option maxHeartbeats 8000000
namespace K02.LS
open K02
open PySem PySem.Spec PyProof.Rows L2 MM
/-! own words for the readings: a step, its side -/
local macro_rules | `(tactic| walk_at "side") => `(tactic| first
  | omega
  | exact ⟨by omega, by omega⟩
  | exact Or.inl ⟨by omega, by omega⟩
  | exact Or.inr ⟨by omega, by omega⟩
  | (show CPw _ _; decide +kernel)
  | (show (0 : Int) < _; decide +kernel)
  | (show CDivW _ _; first | assumption | exact ⟨by decide, by decide +kernel⟩))
local macro_rules | `(tactic| walk_at "here") => `(tactic| first
  | assumption
  | exact upd_same
  | exact Or.inl (Or.inl upd_same)
  | exact Or.inl upd_same)
local macro_rules | `(tactic| walk_at "one") => `(tactic| first
  | refine ⟨_, rfl, ?_⟩
  | refine Or.inl ⟨_, rfl, ?_⟩
  | refine Or.inr ⟨_, rfl, ?_⟩
  | refine ⟨_, _, rfl, rfl, (by walk_at "side"), ?_⟩
  | refine ⟨_, _, rfl, rfl, ?_⟩
  | refine ⟨_, _, rfl, Or.inl (by walk_at "here"), ?_⟩
  | refine ⟨_, _, rfl, Or.inr (by walk_at "here"), ?_⟩
  | refine ⟨_, _, rfl, (by walk_at "here"), ?_⟩
  | refine ⟨_, _, _, _, rfl, rfl, (by walk_at "here"), rfl, ?_⟩
  | refine ⟨_, _, rfl, ?_⟩
  | refine ifT (by rfl) ?_
  | refine ifF (by rfl) ?_
  | refine ifT (decide_eq_true (by omega)) ?_
  | refine ifF (decide_eq_false (by omega)) ?_)
local macro_rules | `(tactic| walk_at "st") => `(tactic| repeat (walk_at "one"))

section
variable {P : Program} {w : World} {K : PySem.W.Frag} {mg : Str → Option Value} {base : Heap}
def spLineL : Sp := fun vs H Q _ => ∃ (a b : Addr) (xs ys : List Int), vs = [.ref a, .ref b] ∧ H a = some (.lst (xs.map V.int)) ∧ H b = some (.lst (ys.map V.int)) ∧ xs.length ≤ 1000 ∧ (∀ x ∈ xs, x.natAbs < 2 ^ 8000) ∧ (∀ x ∈ ys, x.natAbs < 2 ^ 8000) ∧
  ∀ H', Same H H' → Q (.int (dot xs ys)) H'
theorem scLineProduct : FnScope ["one", "other", "left", "right"] ["one", "other"] (defScope sLineProduct) :=
  ⟨rfl, rfl, rfl, by decide +kernel, rfl, by decide +kernel, by decide +kernel⟩
theorem dLineProduct (T : Tx K mg) : Def P w K mg base CX0 1 "_line_product" ["one", "other"] spLineL := by
  refine T.t_line_product.def_ (N := ["one", "other", "left", "right"]) scLineProduct (fun _ _ _ _ _ _ us hl => match us, hl with | [_, _], _ => rfl) ?_ ?_
  · intro vs H Q E h
    obtain ⟨a, b, xs, ys, rfl, _⟩ := h
    rfl
  · intro f cd A out s H vs Q E hr h
    obtain ⟨a, b, xs, ys, rfl, S1, S2, l1, bx, by_, q⟩ := h
    refine ⟨_, (pss_one (ps_ret (pe_callB (cr_sum rfl) rfl T.f_sum (by decide +kernel) (pa_cons (pe_lc (own := [("left", 2), ("right", 3)]) (g := gTup K 2 (gCons (gName 2) (gCons (gName 3) gNil))) (tt := tYes) rfl scLineProduct.nd (RZ.pi_zipA rfl T.f_zip (pa_cons (pv 0) (pa_cons (pv 1) pa_nil))) (blkOk_by (N := ["one", "other", "left", "right"]) (sc := defScope sLineProduct) (by decide +kernel)) (fun _ _ _ _ _ => (show PG _ _ (gTup K 2 (gCons (gName 2) (gCons (gName 3) gNil))) from pg_tup rfl (pgs_cons (pg_name (i := 2) scLineProduct.nd rfl (Or.inl rfl)) (pgs_cons (pg_name (i := 3) scLineProduct.nd rfl (Or.inl rfl)) pgs_nil)))) (fun _ _ _ _ _ => pts_nil) (fun _ _ _ _ _ => (pe_op op_mulW (pv 2) (pv 3)))) pa_nil)))), ?_⟩
    refine ⟨_, rfl, _, rfl, a, b, _, _, rfl, .inl ⟨.inl (.inl S1), .inl (.inl S2), fun D nD => ?_⟩⟩
    refine lc_zipL2 (n := min (xs.map V.int).length (ys.map V.int).length) rfl (fun i H' => Same H H' ∧ H' D = some (.lst ((List.zipWith (· * ·) (xs.take i) (ys.take i)).map V.int))) ⟨same_new nD, upd_same⟩ (fun i H' _ e => ⟨.inl (.inl (e.1 _ _ S1)), .inl (.inl (e.1 _ _ S2))⟩) ?_ ?_
    · rintro i x y H1 T hx hy ⟨s1, hD⟩ fT
      obtain ⟨xi, hxi, rfl⟩ := map_int hx
      obtain ⟨yi, hyi, rfl⟩ := map_int hy
      have DT : D ≠ T := ne_of_none hD fT
      have li := (List.getElem?_eq_some_iff.mp hxi).1
      have li2 := (List.getElem?_eq_some_iff.mp hyi).1
      have s2 := s1.trans (same_new fT (o := .tup [.int xi, .int yi]))
      have hD2 := (upd_ne (o := .tup [.int xi, .int yi]) DT).trans hD
      refine ⟨T, _, rfl, .inl (.inl upd_same), rfl, _, _, rfl, ?_⟩
      refine ⟨_, _, rfl, rfl, rfl, ?_⟩
      generalize upd H1 T _ = H2 at s2 hD2 ⊢
      refine yes_ ?_
      refine ⟨_, rfl, _, rfl, xi, yi, rfl, rfl, mulB (by decide) (bx _ (List.mem_of_getElem? hxi)) (by_ _ (List.mem_of_getElem? hyi)), ?_⟩
      refine ⟨_, hD2, ?_, ?_, ?_⟩
      · rw [List.length_map, List.length_zipWith, List.length_take, sizeLine_eq]
        omega
      · intro c o e
        rw [upd_ne (ne_of_none e nD)]
        exact s2 _ _ e
      · rw [upd_same, List.take_add_one, hxi, List.take_add_one, hyi, List.zipWith_append (by rw [List.length_take, List.length_take]; omega), List.map_append]
        rfl
    · rintro H1 ⟨s1, hD⟩
      refine ⟨D, _, rfl, .inl (.inl hD), ?_⟩
      have e : List.zipWith (· * ·) (xs.take (min (xs.map V.int).length (ys.map V.int).length)) (ys.take (min (xs.map V.int).length (ys.map V.int).length)) = List.zipWith (· * ·) xs ys := by
        rw [List.length_map, List.length_map, ← List.take_zipWith, List.take_of_length_le (by rw [List.length_zipWith]; exact Nat.le_refl _)]
      rw [e]
      exact q H1 s1
end
end K02.LS
namespace K02
open PySem PySem.Spec PyProof.Rows L2 MM
section
variable {P : Program} {w : World} {K : PySem.W.Frag} {mg : Str → Option Value} {base : Heap}
/-- the greatest common divisor of all -/
def gcdI (ys : List Int) : Nat := ys.foldl (fun g x => Nat.gcd g x.natAbs) 0
def lessD (ys : List Int) (lead : Nat) : List Int := ys.map fun x => x.fdiv (if ys.getD lead 0 < 0 then -(gcdI ys : Int) else (gcdI ys : Int))
def spWd (K : PySem.W.Frag) : Sp := fun vs H Q _ => ∃ (a : Addr) (ys : List Int) (l : Nat), vs = [.ref a, .int (l : Int)] ∧ H a = some (.lst (ys.map V.int)) ∧ ys.length ≤ 60 ∧ l < ys.length ∧ ys.getD l 0 ≠ 0 ∧ (∀ x ∈ ys, x.natAbs < 2 ^ 8000) ∧
  ∀ H' t, Same H H' → SqT K H' t ((lessD ys l).map V.int) → Q (.ref t) H'
theorem scWithoutDivisor : FnScope ["row", "lead", "divisor", "number"] ["row", "lead"] (defScope sWithoutDivisor) :=
  ⟨rfl, rfl, rfl, by decide +kernel, rfl, by decide +kernel, by decide +kernel⟩
theorem dWithoutDivisor (T : Tx K mg) : Def P w K mg base CX0 1 "_without_divisor" ["row", "lead"] (spWd K) := by
  refine T.t_without_divisor.def_ (N := ["row", "lead", "divisor", "number"]) scWithoutDivisor (fun _ _ _ _ _ _ us hl => match us, hl with | [_, _], _ => rfl) ?_ ?_
  · intro vs H Q E h
    obtain ⟨a, ys, l, rfl, _⟩ := h
    rfl
  · intro f cd A out s H vs Q E hr h
    obtain ⟨a, ys, l, rfl, ea, l60, ll, ne, b, q⟩ := h
    refine ⟨_, (pss_cons (ps_set (i := 2) scWithoutDivisor.nd rfl (Or.inr rfl) pe_int)
      (pss_cons (ps_for PassesOwn.never rfl (pi_list (pv 0)) (pg_name (i := 3) scWithoutDivisor.nd rfl (Or.inl rfl))
        (pss_one (ps_set (i := 2) scWithoutDivisor.nd rfl (Or.inr rfl) (pe_callBfun cr_gcd rfl T.b_gcd (pa_cons (pv 2) (pa_cons (pv 3) pa_nil))))))
      (pss_cons (ps_if (pt_cmpR op_lt (pe_ix ix_list (pv 0) (pv 1) (fun _ _ => rfl)) pe_int (nomark _)) (pss_one (ps_set (i := 2) scWithoutDivisor.nd rfl (Or.inr rfl) (pe_un un_neg (pv 2)))) pss_nil)
      (pss_one (ps_ret (pe_callTy call_tuple_of rfl T.f_tuple (by decide +kernel) (pa_cons (pe_lc (own := [("number", 3)]) (g := gName 3) (tt := tYes) rfl scWithoutDivisor.nd (pi_list (pv 0)) (blkOk_by (N := ["row", "lead", "divisor", "number"]) (sc := defScope sWithoutDivisor) (by decide +kernel)) (fun _ _ _ _ _ => pg_name (i := 3) scWithoutDivisor.nd rfl (Or.inl rfl)) (fun _ _ _ _ _ => pts_nil) (fun _ _ _ _ _ => (pe_op op_fdivG (pv 3) (pv 2)))) pa_nil))))))), ?_⟩
    have fold : ∀ {i : Nat} {n : Int}, ys[i]? = some n → (ys.take (i + 1)).foldl (fun g x => Nat.gcd g x.natAbs) 0 = Nat.gcd ((ys.take i).foldl (fun g x => Nat.gcd g x.natAbs) 0) n.natAbs := fun {i n} h => by
      rw [List.take_add_one, h, List.foldl_append]
      rfl
    refine ⟨_, rfl, a, rfl, ⟨_, .inl (.inl ea)⟩, for_list (K := K) (a := a) (xs := ys.map V.int) (fun i σ H' => H' = H ∧ ∃ x3, σ = [some (.ref a), some (.int (l : Int)), some (.int (((ys.take i).foldl (fun g x => Nat.gcd g x.natAbs) 0 : Nat) : Int)), x3]) ⟨rfl, _, rfl⟩
      (fun i σ H' _ e => by rw [e.1]; exact .inl (.inl ea)) ?_ ?_⟩
    · rintro i x σ H' hx ⟨rfl, x3, rfl⟩
      obtain ⟨n, hn, rfl⟩ := map_int hx
      refine ⟨_, rfl, _, rfl, _, _, rfl, ?_⟩
      refine ⟨rfl, some (.int n), ?_⟩
      rw [fold hn, Int.natAbs_natCast]
      rfl
    rintro σ H' ⟨rfl, x3, rfl⟩
    rw [List.length_map, List.take_length]
    obtain ⟨G, hG⟩ : ∃ G, G = gcdI ys := ⟨_, rfl⟩
    have hG2 : ys.foldl (fun g x => Nat.gcd g x.natAbs) 0 = G := hG.symm
    rw [hG2]
    have dv : ∀ (zs : List Int) (g : Nat), zs.foldl (fun g x => Nat.gcd g x.natAbs) g ∣ g ∧ ∀ x ∈ zs, zs.foldl (fun g x => Nat.gcd g x.natAbs) g ∣ x.natAbs := by
      intro zs
      induction zs with
      | nil => exact fun g => ⟨Nat.dvd_refl _, fun x hx => by cases hx⟩
      | cons y r ih =>
        intro g
        obtain ⟨h1, h2⟩ := ih (Nat.gcd g y.natAbs)
        refine ⟨Nat.dvd_trans h1 (Nat.gcd_dvd_left _ _), fun x hx => ?_⟩
        rcases List.mem_cons.mp hx with rfl | hx
        · exact Nat.dvd_trans h1 (Nat.gcd_dvd_right _ _)
        · exact h2 x hx
    have gl := (dv ys 0).2 _ (mem_mem ll)
    rw [hG2] at gl
    have g0 : G ≠ 0 := fun z => by
      rw [z] at gl
      have := Nat.eq_zero_of_zero_dvd gl
      omega
    have gb : G < 2 ^ 8000 := Nat.lt_of_le_of_lt (Nat.le_of_dvd (by omega) gl) (b _ (mem_mem ll))
    obtain ⟨d, hd⟩ : ∃ d : Int, d = if ys.getD l 0 < 0 then -(gcdI ys : Int) else (gcdI ys : Int) := ⟨_, rfl⟩
    try dsimp only [gName]
    refine seq_rest (fun σ H2 => H2 = H' ∧ σ = [some (.ref a), some (.int (l : Int)), some (.int d), x3]) ?_ ?_
    rotate_left
    · intro N hN
      refine ⟨_, rfl, _, rfl, a, _, _, .int (ys.getD l 0), rfl, rfl, .inl (.inl ea), atI_nat (intsAt ll), ?_⟩
      refine ⟨_, _, rfl, rfl, _, rfl, ?_⟩
      by_cases c : ys.getD l 0 < 0
      · refine ifT (decide_eq_true c) ?_
        refine ⟨_, rfl, (G : Int), rfl, ?_⟩
        refine hN _ _ ⟨rfl, ?_⟩
        rw [hd, if_pos c, ← hG]
        rfl
      · refine ifF (decide_eq_false c) ?_
        refine hN _ _ ⟨rfl, ?_⟩
        rw [hd, if_neg c, ← hG]
    rintro σ H2 ⟨rfl, rfl⟩
    have d0 : d ≠ 0 := by
      rw [hd, ← hG]
      split <;> omega
    have db : d.natAbs < 2 ^ 8999 := by
      have : d.natAbs = G := by
        rw [hd, ← hG]
        split <;> omega
      rw [this]
      exact Nat.lt_trans gb (Nat.pow_lt_pow_right (by decide) (by decide))
    refine ⟨_, rfl, a, rfl, ⟨_, .inl (.inl ea)⟩, fun D nD => ?_⟩
    refine lc_seq (fun x => match x with | .int n => .int (n.fdiv d) | _ => .non) (.inl (.inl ea)) nD (by rw [List.length_map, sizeLine_eq]; omega) ?_ ?_
    · intro x acc hx Q' q'
      obtain ⟨n, _, rfl⟩ := List.mem_map.mp hx
      exact ⟨_, rfl, _, rfl, _, _, rfl, rfl, divG d0 db, q'⟩
    have em : (ys.map V.int).map (fun x => match x with | .int n => V.int (n.fdiv d) | _ => .non) = (lessD ys l).map V.int := by
      unfold lessD
      rw [← hd, List.map_map, List.map_map]
      rfl
    rw [em]
    have sD := same_new (o := .lst ((lessD ys l).map V.int)) nD
    refine ⟨D, _, rfl, .inl ⟨.inl (.inl upd_same), fun t ft => ?_⟩⟩
    exact q _ t (sD.trans (same_new ft)) (.inl (.inl upd_same))
end
end K02


set_option Elab.async false
set_option linter.all false
set_option maxRecDepth 100000
set_option maxHeartbeats 8000000
namespace K02
open LS
open PySem PySem.Spec PyProof.Rows L2 MM
/-! own words for the readings: a step, its side -/
local macro_rules | `(tactic| walk_at "side") => `(tactic| first
  | omega
  | exact ⟨by omega, by omega⟩
  | exact Or.inl ⟨by omega, by omega⟩
  | exact Or.inr ⟨by omega, by omega⟩
  | (show CPw _ _; decide +kernel)
  | (show (0 : Int) < _; decide +kernel)
  | (show CDivW _ _; first | assumption | exact ⟨by decide, by decide +kernel⟩))
local macro_rules | `(tactic| walk_at "here") => `(tactic| first
  | assumption
  | exact upd_same
  | exact Or.inl (Or.inl upd_same)
  | exact Or.inl upd_same)
local macro_rules | `(tactic| walk_at "one") => `(tactic| first
  | refine ⟨_, rfl, ?_⟩
  | refine Or.inl ⟨_, rfl, ?_⟩
  | refine Or.inr ⟨_, rfl, ?_⟩
  | refine ⟨_, _, rfl, rfl, (by walk_at "side"), ?_⟩
  | refine ⟨_, _, rfl, rfl, ?_⟩
  | refine ⟨_, _, rfl, Or.inl (by walk_at "here"), ?_⟩
  | refine ⟨_, _, rfl, Or.inr (by walk_at "here"), ?_⟩
  | refine ⟨_, _, rfl, (by walk_at "here"), ?_⟩
  | refine ⟨_, _, _, _, rfl, rfl, (by walk_at "here"), rfl, ?_⟩
  | refine ⟨_, _, rfl, ?_⟩
  | refine ifT (by rfl) ?_
  | refine ifF (by rfl) ?_
  | refine ifT (decide_eq_true (by omega)) ?_
  | refine ifF (decide_eq_false (by omega)) ?_)
local macro_rules | `(tactic| walk_at "st") => `(tactic| repeat (walk_at "one"))

section
variable {P : Program} {w : World} {K : PySem.W.Frag} {mg : Str → Option Value} {base : Heap}
/-- what a table leads to zero, with a told free column -/
structure KerV (R : List (List Int)) (c f : Nat) (cs : List Nat) (ys : List Int) : Prop where
  len : ys.length = c
  lead : ys.getD f 0 ≠ 0
  after : ∀ j, j < c → f < j → ys.getD j 0 = 0
  rows : ∀ i, i < R.length → DT.S c (fun j => mat R i j * ys.getD j 0) = 0
  free : ∀ j, j < c → j ≠ f → j ∉ cs → ys.getD j 0 = 0
  big : ∀ x ∈ ys, x.natAbs < 2 ^ 8000
theorem dot_S : ∀ (xs ys : List Int), xs.length = ys.length → dot xs ys = DT.S ys.length fun j => xs.getD j 0 * ys.getD j 0
  | [], [], _ => rfl
  | x :: xs, y :: ys, h => by
    have ih := dot_S xs ys (by simpa using h)
    show (x * y :: List.zipWith (· * ·) xs ys).sum = DT.S (ys.length + 1) _
    rw [DT.S_front, List.sum_cons]
    show x * y + dot xs ys = _
    rw [ih]
    rfl
  | [], y :: ys, h => by simp at h
  | x :: xs, [], h => by simp at h
def spKrow (K : PySem.W.Frag) : Sp := fun vs H Q _ => ∃ (x t : Addr) (ws : List V) (R Y : List (List Int)) (cs : List Nat) (ord : Nat → Nat) (sn : Int) (X : DT.M) (f c : Nat), vs = [.ref x, .ref t, .int (f : Int), .int (c : Int)] ∧
  H x = some (.lst ws) ∧ LL H ws Y ∧ SqT K H t (nv cs) ∧ Fin R c Y cs ord sn X ∧ Rect R c ∧ R.length ≤ 6 ∧ Big R (2 ^ 47) ∧ c ≤ 60 ∧ f < c ∧ f ∉ cs ∧
  ∀ H' r ys, Same H H' → H' r = some (.lst (ys.map V.int)) → KerV R c f cs ys → Q (.ref r) H'
theorem scKernelRow : FnScope ["rows", "begun", "free", "width", "row", "_", "at", "column"] ["rows", "begun", "free", "width"] (defScope sKernelRow) :=
  ⟨rfl, rfl, rfl, by decide +kernel, rfl, by decide +kernel, by decide +kernel⟩
theorem dKernelRow (T : Tx K mg) (DLineProduct : Def P w K mg base CX0 1 "_line_product" ["one", "other"] spLineL) : Def P w K mg base CX0 2 "_kernel_row" ["rows", "begun", "free", "width"] (spKrow K) := by
  refine T.t_kernel_row.def_ (N := ["rows", "begun", "free", "width", "row", "_", "at", "column"]) scKernelRow (fun _ _ _ _ _ _ us hl => match us, hl with | [_, _, _, _], _ => rfl) ?_ ?_
  · intro vs H Q E h
    obtain ⟨x, t, ws, R, Y, cs, ord, sn, X, f, c, rfl, _⟩ := h
    rfl
  · intro f cd A out s H vs Q E hr h
    have hr1 : Rm 1 _ := hr.le (by decide)
    obtain ⟨x, t, ws, R, Y, cs, ord, sn, X, f, c, rfl, ex, ll, St, fin, rc, r6, bR, c60, fc, nf, q⟩ := h
    refine ⟨_, (pss_cons (ps_setLc (i := 4) (own := [("_", 5)]) (g := gName 5) (tt := tYes) rfl scKernelRow.nd rfl rfl (sw_true rfl rfl rfl rfl) (pi_range1 rfl T.f_range (pa_cons (pv 3) pa_nil)) (blkOk_by (N := ["rows", "begun", "free", "width", "row", "_", "at", "column"]) (sc := defScope sKernelRow) (by decide +kernel)) (fun _ _ _ _ _ => pg_name (i := 5) scKernelRow.nd rfl (Or.inl rfl)) (fun _ _ _ _ _ => pts_nil) (fun _ _ _ _ _ => pe_int))
      (pss_cons (ps_asg (pe_ifExp (pt_cmpR op_gt (pe_callB call_len_seq rfl T.f_len (by decide +kernel) (pa_cons (pv 1) pa_nil)) pe_int (nomark _)) (pe_ix ix_list (pe_ix ix_list (pv 0) (pe_un un_neg pe_int) (fun _ _ => rfl)) (pe_ix ix_tup (pv 1) (pe_un un_neg pe_int) (fun _ _ => rfl)) (fun _ _ => rfl)) pe_int) (pg_sub (pv 4) (pv 2) set_list))
      (pss_cons (ps_for PassesOwn.never rfl (pi_range3 rfl T.f_range (pa_cons (pe_op op_sub (pe_callB call_len_seq rfl T.f_len (by decide +kernel) (pa_cons (pv 1) pa_nil)) pe_int) (pa_cons (pe_un un_neg pe_int) (pa_cons (pe_un un_neg pe_int) pa_nil)))) (pg_name (i := 6) scKernelRow.nd rfl (Or.inl rfl))
        (pss_cons (ps_set (i := 7) scKernelRow.nd rfl (Or.inl rfl) (pe_ix ix_tup (pv 1) (pv 6) (fun _ _ => rfl)))
        (pss_one (ps_asg (pe_op op_fdivG (pe_un un_neg (pe_d DLineProduct (hr1.le (by decide)) pass0 (pa_cons (pe_ix ix_list (pv 0) (pv 6) (fun _ _ => rfl)) (pa_cons (pv 4) pa_nil)))) (pe_ix ix_list (pe_ix ix_list (pv 0) (pv 6) (fun _ _ => rfl)) (pv 7) (fun _ _ => rfl))) (pg_sub (pv 4) (pv 7) set_list)))))
      (pss_one (ps_ret (pv 4)))))), ?_⟩
    obtain ⟨st, lY, rY, eY, bY, hs⟩ := fin
    have few := st.few
    obtain ⟨d, hd⟩ : ∃ d, d = cs.length := ⟨_, rfl⟩
    have lw := ll.len
    obtain ⟨xf, x1, x2, x3, x4, x5⟩ := st.cramer fc nf
    have xb : ∀ j, (xf j).natAbs < 2 ^ 8000 := fun j => by
      have h := x5 47 (by omega) (fun i j hi hj => big_get bR rc hi hj) j
      refine Nat.lt_of_le_of_lt h ?_
      have : (cs.length + 1) * 2 ^ (cs.length * 50) ≤ 2 ^ 3 * 2 ^ (6 * 50) := Nat.mul_le_mul (by omega) (Nat.pow_le_pow_right (by decide) (Nat.mul_le_mul_right _ (by omega)))
      refine Nat.lt_of_le_of_lt this ?_
      rw [← Nat.pow_add]
      exact Nat.pow_lt_pow_right (by decide) (by decide)
    refine ⟨_, rfl, (c : Int), rfl, by omega, by omega, fun D nD => ?_⟩
    refine lc_rng (fun _ => .int 0) (by rw [sizeLine_eq]; omega) ?_ ?_
    · exact fun i acc _ Q q => q
    have s1 : Same H (upd H D (.lst ((List.range ((c : Int)).toNat).map fun _ => .int 0))) := same_new nD
    have eD : (upd H D (.lst ((List.range ((c : Int)).toNat).map fun _ => .int 0))) D = some (.lst ((List.replicate c (0 : Int)).map V.int)) := by
      rw [upd_same, Int.toNat_natCast, List.map_replicate]
      congr 2
      refine List.ext_getElem (by simp) fun i h1 h2 => by simp
    have fD := nD
    generalize upd H D _ = H1 at s1 eD ⊢
    have keep : ∀ {H3 : Hp} {o : HO}, Same H H3 → Same H (upd H3 D o) := fun {H3 o} s b x e => by
      rw [upd_ne (ne_of_none e fD)]
      exact s _ _ e
    have xD : x ≠ D := ne_of_none ex fD
    have setint : ∀ (ys : List Int) (i : Nat) (v : Int), (ys.map V.int).set i (.int v) = (ys.set i v).map V.int := fun ys i v => (List.map_set ..).symm
    try dsimp only [gName]
    refine seq_rest (fun σ H2 => Same H H2 ∧ H2 D = some (.lst (((List.replicate c (0 : Int)).set f (xf f)).map V.int)) ∧ σ = [some (.ref x), some (.ref t), some (.int (f : Int)), some (.int (c : Int)), some (.ref D), none, none, none]) ?_ ?_
    rotate_left
    · intro N hN
      refine ⟨_, rfl, t, _, rfl, .inr (same_sqt s1 St), _, _, rfl, rfl, _, rfl, ?_⟩
      rw [nv_len, ← hd]
      by_cases c0 : d = 0
      · refine ifF (decide_eq_false (by omega)) ?_
        have x10 : xf f = 1 := by
          rw [x1, ← hd, c0]
          rfl
        refine ⟨_, rfl, _, rfl, D, _, (f : Int), f, rfl, rfl, eD, ixN_in (by rw [List.length_map, List.length_replicate]; exact fc), ?_⟩
        refine hN _ _ ⟨keep s1, ?_, rfl⟩
        rw [upd_same, setint, x10]
      · refine ifT (decide_eq_true (by omega)) ?_
        obtain ⟨e, he⟩ : ∃ e, d = e + 1 := ⟨d - 1, by omega⟩
        obtain ⟨u, hu, b, rfl, eb⟩ := paired_get (ll.same s1) (row_get (i := e) (by omega))
        have lb := rect_get rY (i := e) (by omega)
        have ce : cs.getD e 0 < c := st.col (by omega)
        have pv := st.piv (t := e) (Nat.le_refl _) (by omega)
        have val : (Y.getD e []).getD (cs.getD e 0) 0 = xf f := by
          rw [x1, ← hd, he, ← pv, ← eY e (by omega) _ ce]
          rfl
        refine ⟨_, rfl, _, rfl, x, ws, _, .ref b, rfl, rfl, .inl (.inl (s1 _ _ ex)), atI_last hu (by omega), _, rfl, _, rfl, t, _, _, .int ((cs.getD e 0 : Nat) : Int), rfl, rfl, same_sqt s1 St, atI_last (n := e) ?_ (by rw [nv_len]; omega), b, _, _, .int (xf f), rfl, rfl, .inl (.inl eb), ?_, ?_⟩
        · unfold nv
          rw [List.getElem?_map, List.getD, List.getElem?_eq_getElem (by omega)]
          rfl
        · rw [← val]
          exact atI_nat (intsAt (by omega))
        refine ⟨_, rfl, _, rfl, D, _, (f : Int), f, rfl, rfl, eD, ixN_in (by rw [List.length_map, List.length_replicate]; exact fc), ?_⟩
        refine hN _ _ ⟨keep s1, ?_, rfl⟩
        rw [upd_same, setint]
    clear eD s1
    rintro σ H2 ⟨s2, eD, rfl⟩
    refine ⟨_, rfl, t, _, rfl, .inr (same_sqt s2 St), _, _, rfl, rfl, _, rfl, _, rfl, ?_⟩
    rw [nv_len, ← hd]
    refine ⟨(d : Int) - 1, -1, -1, _, rfl, RgC.neg (by omega) (by omega) (by omega) (by omega), ?_⟩
    rw [show ((d : Int) - 1 - -1).toNat = d by omega]
    refine for_rangeC (fun i σ H3 => Same H H3 ∧ ∃ ys : List Int, ys.length = c ∧ H3 D = some (.lst (ys.map V.int)) ∧ (∀ j, j < c → ys.getD j 0 = if j = f ∨ j ∈ cs.drop (d - i) then xf j else 0) ∧ ∃ x6 x7, σ = [some (.ref x), some (.ref t), some (.int (f : Int)), some (.int (c : Int)), some (.ref D), none, x6, x7])
      ⟨s2, _, by rw [List.length_set, List.length_replicate], eD, fun j hj => ?_, _, _, rfl⟩ ?_ ?_
    · rw [Nat.sub_zero, hd, List.drop_length]
      by_cases e : j = f
      · rw [if_pos (.inl e), e, List.getD, List.getElem?_set_self (by rw [List.length_replicate]; exact fc)]
        rfl
      · rw [if_neg (fun z => by rcases z with z | z; exact e z; cases z), List.getD, List.getElem?_set_ne (fun z => e z.symm), List.getElem?_replicate, if_pos hj]
        rfl
    · rintro i σ H3 hi ⟨s3, ys, ly, eD3, hy, x6, x7, rfl⟩
      obtain ⟨e, he⟩ : ∃ e, e = d - 1 - i := ⟨_, rfl⟩
      have ed : e < cs.length := by omega
      have ev : (d : Int) - 1 + (i : Int) * (-1) = (e : Int) := by omega
      rw [ev]
      have ce : cs.getD e 0 < c := st.col ed
      obtain ⟨u, hu, b, rfl, eb⟩ := paired_get (ll.same s3) (row_get (i := e) (by omega))
      have lb := rect_get rY (i := e) (by omega)
      have bYr : ∀ z ∈ Y.getD e [], z.natAbs < 2 ^ 8000 := fun z hz => Nat.lt_trans (bY _ (row_mem (by omega)) z hz) (Nat.pow_lt_pow_right (by decide) (by decide))
      have by8 : ∀ z ∈ ys, z.natAbs < 2 ^ 8000 := fun z hz => by
        obtain ⟨j, hj, rfl⟩ := List.mem_iff_getElem.mp hz
        have := hy j (by omega)
        rw [List.getD, List.getElem?_eq_getElem hj, Option.getD_some] at this
        rw [this]
        split
        · exact xb j
        · exact Nat.pow_pos (by decide)
      have p0 : X e (cs.getD e 0) ≠ 0 := by
        rw [st.piv (Nat.le_refl _) ed]
        exact st.led _ (by omega)
      have pe : (Y.getD e []).getD (cs.getD e 0) 0 = X e (cs.getD e 0) := eY e ed _ ce
      -- what stands to be divided
      have dv : -dot (Y.getD e []) ys = X e (cs.getD e 0) * xf (cs.getD e 0) := by
        rw [dot_S _ _ (by omega), ly]
        have e1 : DT.S c (fun j => (Y.getD e []).getD j 0 * ys.getD j 0) = DT.S c (fun j => X e j * xf j + -(X e j * (xf j - ys.getD j 0))) := DT.S_congr fun j hj => by
          have : (Y.getD e []).getD j 0 = X e j := eY e ed j hj
          rw [this]
          grind
        rw [e1, DT.S_add, x4 e ed, DT.S_neg, DT.S_one (p := cs.getD e 0) ce fun j hj ne => ?_]
        · have z0 : ys.getD (cs.getD e 0) 0 = 0 := by
            rw [hy _ ce, if_neg]
            rintro (z | z)
            · refine nf (by rw [← z, List.getD, List.getElem?_eq_getElem ed]; exact List.getElem_mem _)
            · obtain ⟨n, hn, en⟩ := List.mem_iff_getElem.mp z
              rw [List.getElem_drop] at en
              rw [List.getD, List.getElem?_eq_getElem ed, Option.getD_some] at en
              have := List.pairwise_iff_getElem.mp st.up e (d - i + n) ed (by rw [List.length_drop] at hn; omega) (by omega)
              omega
          rw [z0]
          grind
        · rw [hy j hj]
          by_cases m : j = f ∨ j ∈ cs.drop (d - i)
          · rw [if_pos m, Int.sub_self, Int.mul_zero]
          · rw [if_neg m]
            by_cases m2 : j ∈ cs
            · obtain ⟨n, hn, en⟩ := List.mem_iff_getElem.mp m2
              have nl : n < e := by
                rcases Nat.lt_trichotomy n e with l | l | l
                · exact l
                · exfalso
                  refine ne ?_
                  rw [← en, List.getD, List.getElem?_eq_getElem ed]
                  simp only [l]
                  rfl
                · exfalso
                  refine m (.inr ?_)
                  rw [← en]
                  exact List.mem_iff_getElem.mpr ⟨n - (d - i), by rw [List.length_drop]; omega, by rw [List.getElem_drop]; congr 1; omega⟩
              have lt : j < cs.getD e 0 := by
                rw [← en, List.getD, List.getElem?_eq_getElem ed]
                exact List.pairwise_iff_getElem.mp st.up n e hn ed nl
              rw [st.zrow e ed j lt, Int.zero_mul]
            · rw [x2 j (fun z => m (.inl z)) m2, Int.sub_self, Int.mul_zero]
      refine ⟨_, rfl, _, rfl, t, _, _, .int ((cs.getD e 0 : Nat) : Int), rfl, rfl, same_sqt s3 St, atI_nat ?_, ?_⟩
      · unfold nv
        rw [List.getElem?_map, List.getD, List.getElem?_eq_getElem ed]
        rfl
      refine ⟨_, rfl, _, rfl, x, ws, _, .ref b, rfl, rfl, .inl (.inl (s3 _ _ ex)), atI_nat hu, _, rfl, b, D, _, ys, rfl, eb, eD3, by omega, bYr, by8, fun H4 s4 => ?_⟩
      refine ⟨_, rfl, ?_⟩
      have eb4 := s4 _ _ eb
      have eD4 := s4 _ _ eD3
      refine ⟨_, rfl, _, rfl, x, ws, _, .ref b, rfl, rfl, .inl (.inl (s4 _ _ (s3 _ _ ex))), atI_nat hu, _, rfl, b, _, _, .int (X e (cs.getD e 0)), rfl, rfl, .inl (.inl eb4), ?_, ?_⟩
      · rw [← pe]
        exact atI_nat (intsAt (by omega))
      refine ⟨_, _, rfl, rfl, divG p0 ?_, ?_⟩
      · rw [← pe]
        exact Nat.lt_trans (bYr _ (mem_mem (by omega))) (Nat.pow_lt_pow_right (by decide) (by decide))
      rw [dv]
      dsimp only
      rw [Int.mul_fdiv_cancel_left _ p0]
      refine ⟨_, rfl, _, rfl, D, _, _, cs.getD e 0, rfl, rfl, eD4, ixN_in (by rw [List.length_map]; omega), ?_⟩
      refine ⟨keep (s3.trans s4), ys.set (cs.getD e 0) (xf (cs.getD e 0)), by rw [List.length_set]; exact ly, by rw [upd_same, setint], fun j hj => ?_, _, _, rfl⟩
      have dr : cs.drop (d - (i + 1)) = cs.getD e 0 :: cs.drop (d - i) := by
        rw [show d - (i + 1) = e by omega, show d - i = e + 1 by omega, List.getD, List.getElem?_eq_getElem ed]
        exact List.drop_eq_getElem_cons ed
      rw [dr]
      by_cases e1 : j = cs.getD e 0
      · rw [if_pos (.inr (by rw [e1]; exact List.mem_cons_self)), e1, List.getD, List.getElem?_set_self (by omega)]
        rfl
      · rw [List.getD, List.getElem?_set_ne (fun z => e1 z.symm), ← List.getD, hy j hj]
        have : (j = f ∨ j ∈ cs.drop (d - i)) ↔ (j = f ∨ j ∈ cs.getD e 0 :: cs.drop (d - i)) := by
          constructor
          · rintro (h | h)
            · exact .inl h
            · exact .inr (List.mem_cons_of_mem _ h)
          · rintro (h | h)
            · exact .inl h
            · rcases List.mem_cons.mp h with h | h
              · exact absurd h e1
              · exact .inr h
        by_cases c2 : j = f ∨ j ∈ cs.drop (d - i)
        · rw [if_pos c2, if_pos (this.mp c2)]
        · rw [if_neg c2, if_neg (fun z => c2 (this.mpr z))]
    · rintro σ H3 ⟨s3, ys, ly, eD3, hy, x6, x7, rfl⟩
      rw [Nat.sub_self, List.drop_zero] at hy
      have all : ∀ j, j < c → ys.getD j 0 = xf j := fun j hj => by
        rw [hy j hj]
        split
        · rfl
        · rename_i z
          exact (x2 j (fun h => z (.inl h)) (fun h => z (.inr h))).symm
      refine ⟨_, rfl, q _ D ys s3 eD3 ⟨ly, ?_, fun j hj fj => ?_, fun i hi => ?_, fun j hj h1 h2 => ?_, fun z hz => ?_⟩⟩
      · rw [all f fc, x1]
        exact st.led _ (Nat.le_refl _)
      · rw [all j hj]
        rcases st.after x2 x4 (c - j) j (by omega) fj with z | z
        · exact z
        · omega
      · rw [DT.S_congr (g := fun j => mat R i j * xf j) fun j hj => by rw [all j hj]]
        exact x3 i hi
      · rw [all j hj]
        exact x2 j h1 h2
      · obtain ⟨j, hj, rfl⟩ := List.mem_iff_getElem.mp hz
        have := all j (by omega)
        rw [List.getD, List.getElem?_eq_getElem hj, Option.getD_some] at this
        rw [this]
        exact xb j
end
end K02


set_option Elab.async false
set_option linter.all false
set_option maxRecDepth 100000
set_option maxHeartbeats 2000000
namespace MM
open PySem PySem.Spec PyProof.Rows L2 HT
/-! t[::-1] of a tuple -/
theorem places_back (n : Nat) : Builtin.Slice.slicePlaces ((n : Int) - 1) (-1) (-1) = n := by
  unfold Builtin.Slice.slicePlaces
  rw [if_neg (by decide)]
  by_cases c : n = 0
  · subst c
    rw [if_neg (by decide)]
    rfl
  · rw [if_pos (by omega)]
    rw [show -(-1 : Int) = 1 from rfl, Int.ediv_one]
    omega
theorem picks_back (its : List Value) : ((List.range its.length).filterMap fun (k : Nat) => its.toArray[((its.length : Int) - 1 + (k : Int) * (-1)).toNat]?) = its.reverse := by
  have e : ∀ (k : Nat) (hk : k < its.length), its.toArray[((its.length : Int) - 1 + (k : Int) * (-1)).toNat]? = some (its.reverse[k]'(by rw [List.length_reverse]; exact hk)) := fun k hk => by
    rw [show ((its.length : Int) - 1 + (k : Int) * (-1)).toNat = its.length - 1 - k by omega, List.getElem?_toArray, List.getElem?_eq_getElem (by omega), List.getElem_reverse]
  have key : ∀ m, m ≤ its.length → ((List.range m).filterMap fun (k : Nat) => its.toArray[((its.length : Int) - 1 + (k : Int) * (-1)).toNat]?) = its.reverse.take m := by
    intro m
    induction m with
    | zero => exact fun _ => rfl
    | succ m ih =>
      intro h
      rw [List.range_succ, List.filterMap_append, ih (by omega), List.take_add_one, List.getElem?_eq_getElem (by rw [List.length_reverse]; omega)]
      rw [List.filterMap_cons, e m (by omega)]
      rfl
  rw [key _ (Nat.le_refl _), List.take_of_length_le (by rw [List.length_reverse]; exact Nat.le_refl _)]
section
variable {prog : Program} {w : World} {A : Around} {E : Value → Shared → Prop} {s : Shared}
theorem applied_back {sl : Addr} {vs : Value} {n : Nat} {Q : Int × Int × Nat → Shared → Prop} (hs : s.heap.IsSliceOf sl .none .none vs) (ps : IsPart vs (some (-1)))
    (h : Q ((n : Int) - 1, -1, n) s) : wpAny (model prog w) A (Builtin.Slice.sliceApplied (.ref sl) (pure ((n : Nat) : Int))) Q E s := by
  obtain ⟨o, ho, hc, hd⟩ := id hs
  unfold Builtin.Slice.sliceApplied Builtin.Slice.sliceFields
  refine wpAny_bind (wpAny_bind (wpAny_field ho hd (x := .none) rfl (wpAny_bind (wpAny_field ho hd (x := .none) rfl (wpAny_bind (wpAny_field ho hd (x := vs) rfl (wpAny_pure ?_)))))))
  refine wpAny_bind (slicePart_ ps ?_)
  show wpAny _ _ (if ((-1 : Int) == 0) = true then _ else _) _ _ s
  rw [if_neg (by decide)]
  refine wpAny_bind (slicePart_ .none (wpAny_bind (slicePart_ .none (wpAny_bind (wpAny_pure (wpAny_pure ?_))))))
  have e := places_back n
  show Q ((n : Int) - 1, -1, Builtin.Slice.slicePlaces ((n : Int) - 1) (-1) (-1)) s
  rw [e]
  exact h
theorem item_back {t sl : Addr} {its : List Value} {vs : Value} {Q : Value → Shared → Prop} (ht : IsTup s.heap t its.toArray) (z : its.length ≤ sizeLine) (hs : s.heap.IsSliceOf sl .none .none vs) (ps : IsPart vs (some (-1)))
    (h : Q (.ref s.heap.objs.size) { s with heap := s.heap.push { cls := .type "tuple", data := .seq its.reverse.toArray } }) : wpAny (model prog w) A (getItem (.ref t) (.ref sl)) Q E s := by
  have z : sizeOk (.seq its.reverse.toArray) := (by show its.reverse.toArray.size ≤ sizeLine; rw [List.size_toArray, List.length_reverse]; exact z)
  obtain ⟨o, ho, hc, hd⟩ := id hs
  have ty : s.TypeIs (.ref sl) "slice" := ⟨o, ho, hc⟩
  unfold getItem
  try with_reducible refine wpAny_holding ?_
  first | refine wpAny_bind (wpAny_pure ?_) | skip
  refine wpAny_bind (wpAny_sequenceKey ht.typeIs (by decide) (wpAny_bind (wpAny_callSpecial?_slot (name := Str.ofString "__getitem__") ht.typeIs PyProof.Rows.slot_tuple_getitem
    (wpAny_call_entry PyProof.Rows.slot_tuple_getitem ht.typeIs entry_tuple_getitem ?_ (args_tuple_getitem _ _)))))
  show wpAny _ _ (Builtin.Tuple.tupleItemsOf (.ref t) >>= _) _ _ s
  refine wpAny_bind (tupleItemsOf_ ht (wpAny_bind (wpAny_typeOf ty ?_)))
  rw [if_pos (by decide)]
  rw [List.size_toArray]
  refine wpAny_bind (applied_back hs ps ?_)
  have st : ((((its.length : Nat) : Int) - 1 == 0 && (-1 : Int) == 1 && (its.length == its.length)) : Bool) = false := by
    rw [show ((-1 : Int) == 1) = false from rfl, Bool.and_false, Bool.false_and]
  show wpAny _ _ (if ((((its.length : Nat) : Int) - 1 == 0 && (-1 : Int) == 1 && (its.length == its.length)) : Bool) = true then _ else _) _ _ s
  rw [st, if_neg (by decide)]
  dsimp only
  rw [picks_back]
  first
    | exact wpAny_bind (m := Builtin.Tuple.tupleExact _) (wpAny_newObj_type (wpAny_pure ⟨_, rfl, wpAny_pure h⟩) z)
    | exact wpAny_bind (m := Builtin.Tuple.tupleExact _) (wpAny_newObj_type (wpAny_bind (wpAny_pure (wpAny_pure ⟨_, rfl, wpAny_pure h⟩))) z)
    | exact wpAny_bind (wpAny_bind (m := Builtin.Tuple.tupleExact _) (wpAny_newObj_type (wpAny_pure (wpAny_pure ⟨_, rfl, wpAny_pure h⟩)) z))
    | exact wpAny_bind (wpAny_bind (m := Builtin.Tuple.tupleExact _) (wpAny_newObj_type (wpAny_pure ⟨_, rfl, wpAny_pure h⟩) z))
end
section
variable {X : Cx}
def tBackT (K : PySem.W.Frag) (te : TE) : TE := fun σ H Q => te σ H fun x H1 => ∃ a xs, x = .ref a ∧ SqT K H1 a xs ∧ xs.length ≤ sizeLine ∧ ∀ p, H1 p = none → Q (.ref p) (upd H1 p (.tup xs.reverse))
theorem pe_backT {e : Expr} {te : TE} {k : Nat} {p1 p2 p3 pos : Pos} (he : PE X e te) : PE X (.Subscript e (.Slice none none (some (.UnaryOp .USub (.Constant (.int 1) k p1) p2)) p3) pos) (tBackT X.K te) := by
  refine ⟨fun pins s σ H Q I h => ?_⟩
  refine Subscript_ (thn (he.run pins s σ H _ I h) fun v s1 ⟨x, H1, I1, r1, a, xs, ex, hx, hz0, q⟩ => ?_)
  subst ex
  cases r1
  have hst : PO X (some (.UnaryOp .USub (.Constant (.int 1) k p1) p2)) (tPart (tUn (rU fun i => .int (-i)) (tC (.int 1)))) := po_some (pe_un un_neg pe_int)
  refine wpAny_Slice (thn (po_none.run pins s1 σ H1 (fun o H2 => o = none ∧ H2 = H1) I1 ⟨rfl, rfl⟩) fun vl s2 ⟨l, H2, I2, pl, el, e2⟩ => ?_)
  subst el e2
  cases pl
  refine thn (po_none.run pins s2 σ H2 (fun o H3 => o = none ∧ H3 = H2) I2 ⟨rfl, rfl⟩) fun vu s3 ⟨o3, H3, I3, pu, eu, e3⟩ => ?_
  subst eu e3
  cases pu
  refine thn (hst.run pins s3 σ H3 (fun o H4 => o = some (-1) ∧ H4 = H3) I3 ⟨1, rfl, -1, rfl, rfl, rfl⟩) fun vs s4 ⟨o, H4, I4, ps, eo, e4⟩ => ?_
  subst eo e4
  have I5 : Inv X pins σ H4 { s4 with heap := s4.heap.push { cls := .type "slice", data := .fields #[.none, .none, vs] } } := I4.kept (t' := s4.toks) fun b ob q => Heap.get?_push_of_some _ q
  obtain ⟨its, r, ht, hz⟩ := I5.tuple hx
  have hlen := r.length
  refine tail_any (ops := [.ref a, .ref s4.heap.objs.size]) ht.typeIs PyProof.Rows.slot_tuple_getitem.lookup ?_ (by with_unfolding_all rfl)
  refine item_back ht (by omega) (Heap.IsSliceOf.new _ _ _ vs) ps ?_
  refine ⟨.ref _, _, I5.laid (t' := s4.toks) (o := .tup xs.reverse) (fun b ob q => Heap.get?_push_of_some _ q) (Nat.le_refl _) ?_, rfl, q _ (I5.hok.fresh (Nat.le_refl _))⟩
  exact ⟨by rw [List.length_reverse]; exact hz0, _, r.reverse, IsTup.new _ _⟩
end
end MM

set_option Elab.async false
set_option linter.all false
set_option maxRecDepth 100000
set_option maxHeartbeats 8000000
namespace K02
open LS
open PySem PySem.Spec PyProof.Rows L2 MM
/-! own words for the readings: a step, its side -/
local macro_rules | `(tactic| walk_at "side") => `(tactic| first
  | omega
  | exact ⟨by omega, by omega⟩
  | exact Or.inl ⟨by omega, by omega⟩
  | exact Or.inr ⟨by omega, by omega⟩
  | (show CPw _ _; decide +kernel)
  | (show (0 : Int) < _; decide +kernel)
  | (show CDivW _ _; first | assumption | exact ⟨by decide, by decide +kernel⟩))
local macro_rules | `(tactic| walk_at "here") => `(tactic| first
  | assumption
  | exact upd_same
  | exact Or.inl (Or.inl upd_same)
  | exact Or.inl upd_same)
local macro_rules | `(tactic| walk_at "one") => `(tactic| first
  | refine ⟨_, rfl, ?_⟩
  | refine Or.inl ⟨_, rfl, ?_⟩
  | refine Or.inr ⟨_, rfl, ?_⟩
  | refine ⟨_, _, rfl, rfl, (by walk_at "side"), ?_⟩
  | refine ⟨_, _, rfl, rfl, ?_⟩
  | refine ⟨_, _, rfl, Or.inl (by walk_at "here"), ?_⟩
  | refine ⟨_, _, rfl, Or.inr (by walk_at "here"), ?_⟩
  | refine ⟨_, _, rfl, (by walk_at "here"), ?_⟩
  | refine ⟨_, _, _, _, rfl, rfl, (by walk_at "here"), rfl, ?_⟩
  | refine ⟨_, _, rfl, ?_⟩
  | refine ifT (by rfl) ?_
  | refine ifF (by rfl) ?_
  | refine ifT (decide_eq_true (by omega)) ?_
  | refine ifF (decide_eq_false (by omega)) ?_)
local macro_rules | `(tactic| walk_at "st") => `(tactic| repeat (walk_at "one"))

section
variable {P : Program} {w : World} {K : PySem.W.Frag} {mg : Str → Option Value} {base : Heap}
/-- the rows, each the other way round -/
def revR (R : List (List Int)) : List (List Int) := R.map List.reverse
theorem revR_rect {R : List (List Int)} {c : Nat} (h : Rect R c) : Rect (revR R) c := fun row hr => by
  obtain ⟨r, hr2, rfl⟩ := List.mem_map.mp hr
  rw [List.length_reverse]
  exact h r hr2
theorem revR_big {R : List (List Int)} {B : Nat} (h : Big R B) : Big (revR R) B := fun row hr x hx => by
  obtain ⟨r, hr2, rfl⟩ := List.mem_map.mp hr
  exact h r hr2 x (List.mem_reverse.mp hx)
theorem revR_len (R : List (List Int)) : (revR R).length = R.length := List.length_map _
/-- the row that is told for a free column -/
def RowOf (R : List (List Int)) (c : Nat) (cs : List Nat) (f : Nat) (row : List Int) : Prop := f < c ∧ f ∉ cs ∧ ∃ ys, KerV (revR R) c f cs ys ∧ row = lessD ys.reverse (c - 1 - f)
/-- the free columns among the last n -/
def frees (c : Nat) (cs : List Nat) (n : Nat) : List Nat := ((List.range n).map fun i => c - 1 - i).filter fun f => !decide (f ∈ cs)
theorem frees_succ (c : Nat) (cs : List Nat) (n : Nat) : frees c cs (n + 1) = frees c cs n ++ (if c - 1 - n ∈ cs then [] else [c - 1 - n]) := by
  unfold frees
  rw [List.range_succ, List.map_append, List.filter_append]
  congr 1
  by_cases m : c - 1 - n ∈ cs
  · rw [if_pos m]
    simp [m]
  · rw [if_neg m]
    simp [m]
theorem in_nv {f : Nat} {cs : List Nat} : inV (.int (f : Int)) (nv cs) = decide (f ∈ cs) := by
  unfold inV nv
  rw [List.any_map]
  by_cases m : f ∈ cs
  · rw [decide_eq_true m, List.any_eq_true]
    exact ⟨f, m, by show ((f : Int) == (f : Int)) = true; exact beq_self_eq_true _⟩
  · rw [decide_eq_false m, Bool.eq_false_iff]
    intro h
    obtain ⟨x, hx, e⟩ := List.any_eq_true.mp h
    have e2 : ((x : Int) == (f : Int)) = true := e
    have := eq_of_beq e2
    exact m (by rw [show f = x by omega]; exact hx)
theorem nv_flat (cs : List Nat) : (nv cs).all flatV = true := by
  unfold nv
  rw [List.all_map, List.all_eq_true]
  exact fun _ _ => rfl
/-- what is told of a kernel -/
def Ker (R : List (List Int)) (c : Nat) (cs : List Nat) (W : List (List Int)) : Prop := Paired (RowOf R c cs) (frees c cs c) W
def spKernel (K : PySem.W.Frag) : Sp := fun vs H Q _ => ∃ (a : Addr) (us : List V) (R : List (List Int)) (c : Nat), vs = [.ref a] ∧ SqT K H a us ∧ TR K H us R ∧ Sml R c ∧
  ∀ H' r ws W cs ord sn X, Same H H' → SqT K H' r ws → TR K H' ws W → DT.St (mat (revR R)) R.length c c ord cs X sn → Ker R c cs W → Q (.ref r) H'
theorem scKernel : FnScope ["table", "rows", "begun", "_", "line", "width", "found", "free", "row"] ["table"] (defScope sKernel) :=
  ⟨rfl, rfl, rfl, by decide +kernel, rfl, by decide +kernel, by decide +kernel⟩
theorem dKernel (T : Tx K mg) (DNeedTable : Def P w K mg base CX0 5 "_need_table" ["table"] (spNeedTable K)) (DStairs : Def P w K mg base CX0 2 "_stairs" ["table"] (spStairsL K)) (DKernelRow : Def P w K mg base CX0 2 "_kernel_row" ["rows", "begun", "free", "width"] (spKrow K)) (DWithoutDivisor : Def P w K mg base CX0 1 "_without_divisor" ["row", "lead"] (spWd K)) : Def P w K mg base CX0 6 "kernel" ["table"] (spKernel K) := by
  refine T.t_kernel.def_ (N := ["table", "rows", "begun", "_", "line", "width", "found", "free", "row"]) scKernel (fun _ _ _ _ _ _ us hl => match us, hl with | [_], _ => rfl) ?_ ?_
  · intro vs H Q E h
    obtain ⟨a, us, R, c, rfl, _⟩ := h
    rfl
  · intro f cd A out s H vs Q E hr h
    have hr1 : Rm 5 _ := hr.le (by decide)
    obtain ⟨a, us, R, c, rfl, S, tR, ⟨gd, six, big⟩, q⟩ := h
    refine ⟨_, (pss_cons (ps_expr (pe_d DNeedTable (hr1.le (by decide)) pass0 (pa_cons (pv 0) pa_nil)))
      (pss_cons (ps_asg (pe_d DStairs (hr1.le (by decide)) pass0 (pa_cons (pe_lc (own := [("line", 4)]) (g := gName 4) (tt := tYes) rfl scKernel.nd (pi_tup (pv 0)) (blkOk_by (N := ["table", "rows", "begun", "_", "line", "width", "found", "free", "row"]) (sc := defScope sKernel) (by decide +kernel)) (fun _ _ _ _ _ => pg_name (i := 4) scKernel.nd rfl (Or.inl rfl)) (fun _ _ _ _ _ => pts_nil) (fun _ _ _ _ _ => (show PE _ _ (tBackT K _) from pe_backT (pv 4)))) pa_nil)) (pg_tup rfl (pgs_cons (pg_name (i := 1) scKernel.nd rfl (Or.inl rfl)) (pgs_cons (pg_name (i := 2) scKernel.nd rfl (Or.inl rfl)) (pgs_cons (pg_name (i := 3) scKernel.nd rfl (Or.inl rfl)) pgs_nil)))))
      (pss_cons (ps_set (i := 5) scKernel.nd rfl (Or.inl rfl) (pe_callB call_len_seq rfl T.f_len (by decide +kernel) (pa_cons (pe_ix ix_tup (pv 0) pe_int (fun _ _ => rfl)) pa_nil)))
      (pss_cons (ps_set (i := 6) scKernel.nd rfl (Or.inl rfl) (pe_lst pa_nil))
      (pss_cons (ps_for PassesOwn.never rfl (pi_range3 rfl T.f_range (pa_cons (pe_op op_sub (pv 5) pe_int) (pa_cons (pe_un un_neg pe_int) (pa_cons (pe_un un_neg pe_int) pa_nil)))) (pg_name (i := 7) scKernel.nd rfl (Or.inl rfl))
        (pss_one (ps_if (pt_cmpR op_notIn_seq (pv 7) (pv 2) rfl) (pss_cons (ps_set (i := 8) scKernel.nd rfl (Or.inl rfl) (pe_d DKernelRow (hr1.le (by decide)) pass0 (pa_cons (pv 1) (pa_cons (pv 2) (pa_cons (pv 7) (pa_cons (pv 5) pa_nil))))))
          (pss_one (ps_expr (pe_bm PySem.F.plainAttrs_list PySem.F.slot_list_append PySem.F.type_list_append mt_append (pv 6) (pa_cons (pe_d DWithoutDivisor (hr1.le (by decide)) pass0 (pa_cons (pe_revL (pv 8)) (pa_cons (pe_op op_sub (pe_op op_sub (pv 5) pe_int) (pv 7)) pa_nil))) pa_nil))))) pss_nil)))
      (pss_one (ps_ret (pe_callTy call_tuple_of rfl T.f_tuple (by decide +kernel) (pa_cons (pv 6) pa_nil))))))))), ?_⟩
    refine ⟨_, rfl, _, _, rfl, tab_tv S tR, good_tab gd, fun H1 s1 => ?_⟩
    replace S := same_sqt s1 S
    replace tR := tR.same s1
    have lu := tR.len
    have r1 := gd.r1
    have c60 := gd.m2
    have rc := gd.rect
    refine ⟨_, rfl, a, rfl, ⟨_, S⟩, fun D nD => ?_⟩
    refine lc_tup (K := K) (a := a) (xs := us) (Pv := fun i H' => Same H1 H' ∧ ∃ zs, H' D = some (.lst zs) ∧ TR K H' zs ((revR R).take i)) ⟨same_new nD, [], upd_same, .nil⟩ (fun i H' _ e => same_sqt e.1 S) ?_ ?_
    · rintro i x H2 hx ⟨s2, zs, eD, tz⟩
      obtain ⟨row, hrow, b, rfl, Sb⟩ := paired_at tR hx
      have li := (List.getElem?_eq_some_iff.mp hx).1
      have lr := rc row (List.mem_of_getElem? hrow)
      have lz := tz.len
      refine ⟨wipe_one, yes_ ?_⟩
      refine ⟨_, rfl, b, _, rfl, same_sqt s2 Sb, by rw [List.length_map, sizeLine_eq]; omega, fun p np => ?_⟩
      have sp := same_new (o := .tup (row.map V.int).reverse) np
      have eD2 := sp _ _ eD
      refine ⟨zs, eD2, by rw [lz, List.length_take, sizeLine_eq]; omega, ?_, zs ++ [.ref p], upd_same, ?_⟩
      · intro x o e
        rw [upd_ne (ne_of_none e nD)]
        exact sp _ _ (s2 _ _ e)
      · have e : (revR R).take (i + 1) = (revR R).take i ++ [row.reverse] := by
          unfold revR
          rw [List.take_add_one, List.getElem?_map, hrow]
          rfl
        rw [e]
        refine paired_snoc ⟨p, rfl, sqt_lst (tup_sqt ?_) eD2⟩ ((tz.same sp).put eD2)
        rw [upd_same, List.map_reverse]
    rintro H2 ⟨s2, zs, eD, tz⟩
    rw [List.take_of_length_le (by rw [revR_len]; omega)] at tz
    refine ⟨D, zs, revR R, c, rfl, lst_sql eD, tz, revR_rect rc, by rw [revR_len]; exact r1, by rw [revR_len]; exact six, c60, revR_big big, fun H3 r x t wy Y cs ord sn X s3 er ex ll St fin => ?_⟩
    have st := fin.st
    rw [revR_len] at st
    refine ⟨r, _, rfl, .inl (.inl er), rfl, _, _, rfl, ?_⟩
    refine ⟨_, _, rfl, ?_⟩
    refine ⟨_, _, rfl, rfl, ?_⟩
    have s13 := s2.trans s3
    replace S := same_sqt s13 S
    replace tR := tR.same s13
    have s03 := s1.trans s13
    obtain ⟨u0, hu0, b0, rfl, S0⟩ := paired_get tR (row_get (i := 0) (by omega))
    have l0 := rect_get rc (i := 0) (by omega)
    refine ⟨_, rfl, a, _, _, .ref b0, rfl, rfl, S, atI_nat (j := 0) hu0, b0, _, rfl, .inr S0, ?_⟩
    rw [List.length_map, l0]
    refine ⟨Nat.zero_le _, fun F fF => ?_⟩
    have sF := same_new (o := .lst []) fF
    have eF : (upd H3 F (.lst [])) F = some (.lst []) := upd_same
    have fFH : H F = none := s03.free fF
    have xF : x ≠ F := ne_of_none ex fF
    replace ex := sF _ _ ex
    have llp : LLp (fun b => b ≠ F) (upd H3 F (.lst [])) wy Y := Paired.mapP ll fun _ _ ⟨b, e, hb⟩ => ⟨b, e, ne_of_none hb fF, sF _ _ hb⟩
    replace St := same_sqt sF St
    have s4 := s03.trans sF
    generalize upd H3 F _ = H4 at eF ex llp St s4 ⊢
    clear ll er tz eD s2 S0 hu0
    refine ⟨_, rfl, _, _, rfl, rfl, _, rfl, _, rfl, ?_⟩
    refine ⟨(c : Int) - 1, -1, -1, _, rfl, RgC.neg (by omega) (by omega) (by omega) (by omega), ?_⟩
    rw [show ((c : Int) - 1 - -1).toNat = c by omega]
    refine for_rangeC (fun i σ H5 => Same H H5 ∧ H5 x = some (.lst wy) ∧ LLp (fun b => b ≠ F) H5 wy Y ∧ SqT K H5 t (nv cs) ∧ ∃ fs W, H5 F = some (.lst fs) ∧ TR K H5 fs W ∧ Paired (RowOf R c cs) (frees c cs i) W ∧
        ∃ x7 x8, σ = [some (.ref a), some (.ref x), some (.ref t), some (.int sn), none, some (.int (c : Int)), some (.ref F), x7, x8])
      ⟨s4, ex, llp, St, [], [], eF, .nil, .nil, _, _, rfl⟩ ?_ ?_
    · rintro i σ H5 hi ⟨s5, ex5, ll5, St5, fs, W, eF5, tW, pW, x7, x8, rfl⟩
      have ev : (c : Int) - 1 + (i : Int) * (-1) = ((c - 1 - i : Nat) : Int) := by omega
      rw [ev]
      obtain ⟨f, hf⟩ : ∃ f, f = c - 1 - i := ⟨_, rfl⟩
      rw [← hf]
      have fsn := frees_succ c cs i
      rw [← hf] at fsn
      refine ⟨_, rfl, _, rfl, t, nv cs, rfl, .inr St5, rfl, nv_flat cs, ?_⟩
      rw [in_nv]
      refine ⟨_, rfl, ?_⟩
      by_cases m : f ∈ cs
      · refine ifF (by rw [decide_eq_true m]; rfl) ?_
        rw [if_pos m, List.append_nil] at fsn
        exact ⟨s5, ex5, ll5, St5, fs, W, eF5, tW, by rw [fsn]; exact pW, _, _, rfl⟩
      · refine ifT (by rw [decide_eq_false m]; rfl) ?_
        rw [if_neg m] at fsn
        have lW := tW.len
        have lf : (frees c cs i).length = W.length := paired_len pW
        have lfi : (frees c cs i).length ≤ i := by
          unfold frees
          refine Nat.le_trans (List.length_filter_le _ _) ?_
          rw [List.length_map, List.length_range]
          exact Nat.le_refl _
        refine ⟨_, rfl, _, rfl, _, rfl, _, rfl, x, t, wy, revR R, Y, cs, ord, sn, X, f, c, rfl, ex5, ll5.ll, St5, fin, revR_rect rc, by rw [revR_len]; exact six, revR_big big, c60, by omega, m, fun H6 rr ys s6 er6 kv => ?_⟩
        have eF6 := s6 _ _ eF5
        refine ⟨_, rfl, .inl ⟨rfl, _, .inl (.inl eF6)⟩, ?_⟩
        refine ⟨_, rfl, rr, _, rfl, .inl (.inl er6), fun p np => ?_⟩
        have sp := same_new (o := .lst (ys.map V.int).reverse) np
        have ep : (upd H6 p (.lst (ys.map V.int).reverse)) p = some (.lst (ys.reverse.map V.int)) := by rw [upd_same, List.map_reverse]
        replace eF6 := sp _ _ eF6
        have s67 := s6.trans sp
        generalize upd H6 p _ = H7 at sp ep eF6 s67 ⊢
        have ly := kv.len
        have rl : ys.reverse.getD (c - 1 - f) 0 = ys.getD f 0 := by
          rw [List.getD, List.getElem?_reverse (by omega), ly, ← List.getD]
          congr 1
          omega
        refine ⟨_, rfl, _, _, rfl, rfl, _, rfl, _, _, rfl, rfl, p, ys.reverse, c - 1 - f, ?_, ep, by rw [List.length_reverse]; omega, by rw [List.length_reverse]; omega, by rw [rl]; exact kv.lead, fun x hx => kv.big x (List.mem_reverse.mp hx), fun H8 u s8 Su => ?_⟩
        · show [V.ref p, V.int ((c : Int) - 1 - (f : Int))] = _
          rw [show (c : Int) - 1 - (f : Int) = ((c - 1 - f : Nat) : Int) by omega]
        have s58 := s67.trans s8
        have eF8 := s8 _ _ eF6
        refine ⟨F, _, _, rfl, rfl, eF8, by rw [lW, sizeLine_eq]; omega, ?_⟩
        refine ⟨fun y o e => by rw [upd_ne (ne_of_none e fFH)]; exact s58 _ _ (s5 _ _ e), (upd_ne xF).trans (s58 _ _ ex5), (ll5.same s58).put fun _ h => h, sqt_lst (same_sqt s58 St5) eF8, fs ++ [.ref u], W ++ [lessD ys.reverse (c - 1 - f)], upd_same, paired_snoc ⟨u, rfl, sqt_lst Su eF8⟩ ((tW.same s58).put eF8), ?_, _, _, rfl⟩
        rw [fsn]
        exact paired_snoc ⟨by omega, m, ys, kv, rfl⟩ pW
    · rintro σ H5 ⟨s5, ex5, ll5, St5, fs, W, eF5, tW, pW, x7, x8, rfl⟩
      refine ⟨_, rfl, F, _, rfl, .inl ⟨.inl (.inl eF5), fun u fu => ?_⟩⟩
      have su := same_new (o := .tup fs) fu
      exact q _ u fs W cs ord sn X (s5.trans su) (.inl (.inl upd_same)) (tW.same su) st pW
end
end K02


set_option Elab.async false
set_option linter.all false
set_option maxRecDepth 100000
set_option maxHeartbeats 8000000
namespace K02
open LS
open PySem PySem.Spec PyProof.Rows L2 MM
/-! own words for the readings: a step, its side -/
local macro_rules | `(tactic| walk_at "side") => `(tactic| first
  | omega
  | exact ⟨by omega, by omega⟩
  | exact Or.inl ⟨by omega, by omega⟩
  | exact Or.inr ⟨by omega, by omega⟩
  | (show CPw _ _; decide +kernel)
  | (show (0 : Int) < _; decide +kernel)
  | (show CDivW _ _; first | assumption | exact ⟨by decide, by decide +kernel⟩))
local macro_rules | `(tactic| walk_at "here") => `(tactic| first
  | assumption
  | exact upd_same
  | exact Or.inl (Or.inl upd_same)
  | exact Or.inl upd_same)
local macro_rules | `(tactic| walk_at "one") => `(tactic| first
  | refine ⟨_, rfl, ?_⟩
  | refine Or.inl ⟨_, rfl, ?_⟩
  | refine Or.inr ⟨_, rfl, ?_⟩
  | refine ⟨_, _, rfl, rfl, (by walk_at "side"), ?_⟩
  | refine ⟨_, _, rfl, rfl, ?_⟩
  | refine ⟨_, _, rfl, Or.inl (by walk_at "here"), ?_⟩
  | refine ⟨_, _, rfl, Or.inr (by walk_at "here"), ?_⟩
  | refine ⟨_, _, rfl, (by walk_at "here"), ?_⟩
  | refine ⟨_, _, _, _, rfl, rfl, (by walk_at "here"), rfl, ?_⟩
  | refine ⟨_, _, rfl, ?_⟩
  | refine ifT (by rfl) ?_
  | refine ifF (by rfl) ?_
  | refine ifT (decide_eq_true (by omega)) ?_
  | refine ifF (decide_eq_false (by omega)) ?_)
local macro_rules | `(tactic| walk_at "st") => `(tactic| repeat (walk_at "one"))

section
variable {P : Program} {w : World} {K : PySem.W.Frag} {mg : Str → Option Value} {base : Heap}
def spBez : Sp := fun vs H Q _ => ∃ a b : Nat, vs = [.int (a : Int), .int (b : Int)] ∧ 0 < a ∧ 0 < b ∧ a < 2 ^ 4000 ∧ b < 2 ^ 4000 ∧
  ∀ H' p (s t : Int), Same H H' → H' p = some (.tup [.int ((Nat.gcd a b : Nat) : Int), .int s, .int t]) → s * (a : Int) + t * (b : Int) = ((Nat.gcd a b : Nat) : Int) → s.natAbs < 2 ^ 4000 → t.natAbs < 2 ^ 8100 → Q (.ref p) H'
theorem scBezout : FnScope ["one", "other", "left", "right", "left_one", "right_one", "times"] ["one", "other"] (defScope sBezout) :=
  ⟨rfl, rfl, rfl, by decide +kernel, rfl, by decide +kernel, by decide +kernel⟩
theorem dBezout (T : Tx K mg) : Def P w K mg base CX0 1 "bezout" ["one", "other"] spBez := by
  refine T.t_bezout.def_ (N := ["one", "other", "left", "right", "left_one", "right_one", "times"]) scBezout (fun _ _ _ _ _ _ us hl => match us, hl with | [_, _], _ => rfl) ?_ ?_
  · intro vs H Q E h
    obtain ⟨a, b, rfl, _⟩ := h
    rfl
  · intro f cd A out s H vs Q E hr h
    obtain ⟨a, b, rfl, a0, b0, a8, b8, q⟩ := h
    refine ⟨_, (pss_cons (ps_par (i := 2) (j := 3) rfl scBezout.nd rfl rfl (by decide) rfl rfl (pa_cons (pv 0) (pa_cons (pv 1) pa_nil)) (by rfl))
      (pss_cons (ps_asg (pe_tup (pa_cons pe_int (pa_cons pe_int pa_nil))) (pg_tup rfl (pgs_cons (pg_name (i := 4) scBezout.nd rfl (Or.inl rfl)) (pgs_cons (pg_name (i := 5) scBezout.nd rfl (Or.inl rfl)) pgs_nil))))
      (pss_cons (ps_while PassesOwn.never (pt_cmpR op_ne (pv 3) pe_int (nomark _))
        (pss_cons (ps_set (i := 6) scBezout.nd rfl (Or.inl rfl) (pe_op op_fdivW (pv 2) (pv 3)))
        (pss_cons (ps_par (i := 2) (j := 3) rfl scBezout.nd rfl rfl (by decide) rfl rfl (pa_cons (pv 3) (pa_cons (pe_op op_sub (pv 2) (pe_op op_mulW (pv 6) (pv 3))) pa_nil)) (by rfl))
        (pss_one (ps_par (i := 4) (j := 5) rfl scBezout.nd rfl rfl (by decide) rfl rfl (pa_cons (pv 5) (pa_cons (pe_op op_sub (pv 4) (pe_op op_mulW (pv 6) (pv 5))) pa_nil)) (by rfl))))))
      (pss_one (ps_ret (pe_tup (pa_cons (pv 2) (pa_cons (pv 4) (pa_cons (pe_op op_fdivW (pe_op op_sub (pv 2) (pe_op op_mulW (pv 4) (pv 0))) (pv 1)) pa_nil))))))))), ?_⟩
    have up1 : ∀ {z : Int}, z.natAbs < 2 ^ 4000 → z.natAbs < 2 ^ 8100 := fun h => Nat.lt_trans h (Nat.pow_lt_pow_right (by decide) (by decide))
    refine ⟨_, rfl, _, rfl, _, _, rfl, by show 2 ≤ sizeLine; decide, fun T nT => ?_⟩
    have sT := same_new (o := .tup [.int 1, .int 0]) nT
    have eT : (upd H T (.tup [.int 1, .int 0])) T = some (.tup [.int 1, .int 0]) := upd_same
    generalize upd H T _ = H1 at sT eT ⊢
    refine ⟨T, _, rfl, .inl (.inl eT), rfl, _, _, rfl, ?_⟩
    refine ⟨_, _, rfl, rfl, ?_⟩
    refine while_by (fun σ H2 => H2 = H1 ∧ ∃ (f o : Nat) (lo ro lt rt : Int) (x6 : Option V), σ = [some (.int (a : Int)), some (.int (b : Int)), some (.int (f : Int)), some (.int (o : Int)), some (.int lo), some (.int ro), x6] ∧
        Nat.gcd f o = Nat.gcd a b ∧ 0 < f ∧ f < 2 ^ 4000 ∧ o < 2 ^ 4000 ∧ lo * (a : Int) + lt * (b : Int) = (f : Int) ∧ ro * (a : Int) + rt * (b : Int) = (o : Int) ∧ ro.natAbs * f + lo.natAbs * o ≤ b ∧ lo.natAbs ≤ b ∧ ro.natAbs ≤ b)
      (fun σ _ => match σ with | [_, _, _, some (.int o), _, _, _] => o.toNat | _ => 0) ⟨rfl, a, b, 1, 0, 0, 1, none, rfl, rfl, a0, a8, b8, by omega, by omega, by simp, by simp; omega, Nat.zero_le _⟩ ?_ ?_
    · rintro σ H2 ⟨rfl, f, o, lo, ro, lt, rt, x6, rfl, eg, f0, f8, o8, e1, e2, bd, bl, br⟩
      refine ⟨_, rfl, rfl, _, rfl, ?_⟩
      rw [dInt]
      by_cases c : o = 0
      · refine ifF (by rw [decide_eq_true (by omega)]; rfl) ?_
        subst c
        rw [Nat.gcd_zero_right] at eg
        have l8 : lo.natAbs < 2 ^ 4000 := Nat.lt_of_le_of_lt bl b8
        have ev : ((f : Int) - lo * (a : Int)) / (b : Int) = lt := by
          rw [show (f : Int) - lo * (a : Int) = lt * (b : Int) by omega]
          exact Int.mul_ediv_cancel _ (by omega)
        have b9 : CDivW ((f : Int) - lo * (a : Int)) (b : Int) := ⟨by omega, by
          have : ((b : Int)).natAbs = b := Int.natAbs_natCast b
          rw [this]
          exact Nat.lt_of_lt_of_le ((Nat.log2_lt (by omega)).mpr b8) (by decide)⟩
        refine ⟨_, rfl, _, rfl, _, rfl, _, rfl, _, rfl, _, _, rfl, rfl, mulB (e := 4000) (by decide) l8 (by rw [Int.natAbs_natCast]; exact a8), ?_⟩
        refine ⟨_, _, rfl, rfl, _, rfl, _, _, rfl, rfl, b9, ?_⟩
        refine ⟨by show 3 ≤ sizeLine; decide, fun p np => ?_⟩
        have tb : lt.natAbs < 2 ^ 8100 := by
          have h1 : (lo * (a : Int)).natAbs < 2 ^ 8000 := by
            rw [Int.natAbs_mul, Int.natAbs_natCast]
            exact Nat.lt_of_lt_of_le (Nat.mul_lt_mul'' l8 a8) (by rw [← Nat.pow_add]; exact Nat.pow_le_pow_right (by decide) (by decide))
          have h2 : ((f : Int) - lo * (a : Int)).natAbs < 2 ^ 8001 := by
            have e : (2 : Nat) ^ 8001 = 2 ^ 8000 + 2 ^ 8000 := by rw [Nat.pow_succ]; omega
            have h3 : f < 2 ^ 8000 := Nat.lt_trans f8 (Nat.pow_lt_pow_right (by decide) (by decide))
            rw [e]
            generalize 2 ^ 8000 = X at h1 h3 ⊢
            omega
          have e3 : (f : Int) - lo * (a : Int) = (b : Int) * lt := by rw [Int.mul_comm (b : Int) lt]; omega
          exact Nat.lt_trans (abs_le_mul (by omega) e3 h2) (Nat.pow_lt_pow_right (by decide) (by decide))
        exact q _ p lo lt (sT.trans (same_new np)) (by rw [upd_same]; show some (HO.tup [V.int f, V.int lo, V.int (((f : Int) - lo * (a : Int)) / (b : Int))]) = _; rw [ev, eg]) (by rw [← eg]; exact e1) l8 tb
      · refine ifT (by rw [decide_eq_false (by omega)]; rfl) ?_
        have o0 : 0 < o := by omega
        have qd : (f : Int) / (o : Int) = ((f / o : Nat) : Int) := rfl
        have qm : (f : Int) - ((f / o : Nat) : Int) * (o : Int) = ((f % o : Nat) : Int) := by
          have := Nat.div_add_mod f o
          have e : ((f / o : Nat) : Int) * (o : Int) = ((o * (f / o) : Nat) : Int) := by rw [Int.natCast_mul, Int.mul_comm]
          rw [e]
          omega
        have q8 : f / o < 2 ^ 4000 := Nat.lt_of_le_of_lt (Nat.div_le_self _ _) f8
        have b9 : CDivW (f : Int) (o : Int) := ⟨by omega, by
          rw [Int.natAbs_natCast]
          exact Nat.lt_of_lt_of_le ((Nat.log2_lt (by omega)).mpr o8) (by decide)⟩
        have r8 : ro.natAbs < 2 ^ 4000 := Nat.lt_of_le_of_lt br b8
        refine ⟨_, rfl, _, rfl, _, _, rfl, rfl, b9, ?_⟩
        refine ⟨_, rfl, _, rfl, _, rfl, _, rfl, _, _, rfl, rfl, mulB (e := 4000) (by decide) (by rw [qd, Int.natAbs_natCast]; exact q8) (by rw [Int.natAbs_natCast]; exact o8), _, _, rfl, rfl, ?_⟩
        refine ⟨_, _, rfl, _, rfl, _, rfl, _, rfl, _, rfl, _, _, rfl, rfl, mulB (e := 4000) (by decide) (by rw [qd, Int.natAbs_natCast]; exact q8) r8, _, _, rfl, rfl, ?_⟩
        have fm : o * (f / o) + f % o = f := Nat.div_add_mod f o
        have sub : (lo - ((f / o : Nat) : Int) * ro).natAbs ≤ lo.natAbs + (f / o) * ro.natAbs := by
          have h : (((f / o : Nat) : Int) * ro).natAbs = (f / o) * ro.natAbs := by rw [Int.natAbs_mul, Int.natAbs_natCast]
          rw [← h]
          omega
        have bd2 : (lo - ((f / o : Nat) : Int) * ro).natAbs * o + ro.natAbs * (f % o) ≤ b := by
          have h1 := Nat.mul_le_mul_right o sub
          have h2 : (lo.natAbs + (f / o) * ro.natAbs) * o + ro.natAbs * (f % o) = ro.natAbs * f + lo.natAbs * o := by
            generalize f / o = x at fm ⊢
            generalize f % o = y at fm ⊢
            rw [← fm]
            grind
          omega
        refine ⟨_, _, rfl, ⟨rfl, o, f % o, ro, lo - ((f / o : Nat) : Int) * ro, rt, lt - ((f / o : Nat) : Int) * rt, _, (by show [some (V.int (a : Int)), some (V.int (b : Int)), some (V.int (o : Int)), some (V.int ((f : Int) - ((f / o : Nat) : Int) * (o : Int))), some (V.int ro), some (V.int (lo - ((f / o : Nat) : Int) * ro)), some (V.int ((f / o : Nat) : Int))] = _; rw [qm]), ?_, o0, o8, Nat.lt_trans (Nat.mod_lt _ o0) o8, e2, ?_, bd2, br, ?_⟩, ?_⟩
        · rw [← eg, Nat.gcd_comm f o, Nat.gcd_rec o f, Nat.gcd_comm]
        · rw [← qm, ← e1, ← e2]
          generalize ((f / o : Nat) : Int) = x
          grind
        · have : (lo - ((f / o : Nat) : Int) * ro).natAbs * 1 ≤ (lo - ((f / o : Nat) : Int) * ro).natAbs * o := Nat.mul_le_mul_left _ o0
          omega
        · show ((f : Int) - ((f / o : Nat) : Int) * (o : Int)).toNat < ((o : Nat) : Int).toNat
          rw [qm]
          have := Nat.mod_lt f o0
          omega
    · rintro σ H2 Q1 Q2 m ⟨v, hv, e1, k, e3, q⟩
      exact ⟨v, hv, e1, k, e3, m _ _ q⟩
/-- two rows, mixed -/
def mixR (x : List Int) (s : Int) (y : List Int) (t b : Int) : List Int := List.zipWith (fun l r => (s * l + t * r) % b) x y
def spMix : Sp := fun vs H Q _ => ∃ (a c : Addr) (x y : List Int) (s t b : Int), vs = [.ref a, .int s, .ref c, .int t, .int b] ∧ H a = some (.lst (x.map V.int)) ∧ H c = some (.lst (y.map V.int)) ∧ x.length = y.length ∧ x.length ≤ 60 ∧
  (∀ z ∈ x, z.natAbs < 2 ^ 4000) ∧ (∀ z ∈ y, z.natAbs < 2 ^ 4000) ∧ s.natAbs < 2 ^ 8100 ∧ t.natAbs < 2 ^ 8100 ∧ 0 < b ∧ ∀ H' r, Same H H' → H r = none → H' r = some (.lst ((mixR x s y t b).map V.int)) → Q (.ref r) H'
theorem scMixed : FnScope ["one", "one_times", "other", "other_times", "bound", "left", "right"] ["one", "one_times", "other", "other_times", "bound"] (defScope sMixed) :=
  ⟨rfl, rfl, rfl, by decide +kernel, rfl, by decide +kernel, by decide +kernel⟩
theorem dMixed (T : Tx K mg) : Def P w K mg base CX0 1 "mixed" ["one", "one_times", "other", "other_times", "bound"] spMix := by
  refine T.t_mixed.def_ (N := ["one", "one_times", "other", "other_times", "bound", "left", "right"]) scMixed (fun _ _ _ _ _ _ us hl => match us, hl with | [_, _, _, _, _], _ => rfl) ?_ ?_
  · intro vs H Q E h
    obtain ⟨a, c, x, y, s, t, b, rfl, _⟩ := h
    rfl
  · intro f cd A out s H vs Q E hr h
    obtain ⟨a, c, x, y, s, t, b, rfl, ha, hc, len, l60, bx, by_, bs, bt, b0, q⟩ := h
    refine ⟨_, (pss_one (ps_ret (pe_lc (own := [("left", 5), ("right", 6)]) (g := gTup K 2 (gCons (gName 5) (gCons (gName 6) gNil))) (tt := tYes) rfl scMixed.nd (RZ.pi_zipA rfl T.f_zip (pa_cons (pv 0) (pa_cons (pv 2) pa_nil))) (blkOk_by (N := ["one", "one_times", "other", "other_times", "bound", "left", "right"]) (sc := defScope sMixed) (by decide +kernel)) (fun _ _ _ _ _ => (show PG _ _ (gTup K 2 (gCons (gName 5) (gCons (gName 6) gNil))) from pg_tup rfl (pgs_cons (pg_name (i := 5) scMixed.nd rfl (Or.inl rfl)) (pgs_cons (pg_name (i := 6) scMixed.nd rfl (Or.inl rfl)) pgs_nil)))) (fun _ _ _ _ _ => pts_nil) (fun _ _ _ _ _ => (pe_op op_mod (pe_op op_add (pe_op op_mulW (pv 1) (pv 5)) (pe_op op_mulW (pv 3) (pv 6))) (pv 4)))))), ?_⟩
    refine ⟨_, rfl, _, rfl, a, c, _, _, rfl, .inl ⟨.inl (.inl ha), .inl (.inl hc), fun D nD => ?_⟩⟩
    refine lc_zipL2 (n := x.length) (us := x.map V.int) (ws := y.map V.int) (by rw [List.length_map, List.length_map, len, Nat.min_self])
      (fun i H' => Same H H' ∧ H' D = some (.lst ((List.zipWith (fun l r => (s * l + t * r) % b) (x.take i) (y.take i)).map V.int))) ⟨same_new nD, upd_same⟩
      (fun i H' _ e => ⟨.inl (.inl (e.1 _ _ ha)), .inl (.inl (e.1 _ _ hc))⟩) ?_ ?_
    · rintro i x' y' H1 T hx hy ⟨s1, hD⟩ fT
      obtain ⟨xi, hxi, rfl⟩ := map_int hx
      obtain ⟨yi, hyi, rfl⟩ := map_int hy
      have DT : D ≠ T := ne_of_none hD fT
      have li := (List.getElem?_eq_some_iff.mp hxi).1
      have li2 := (List.getElem?_eq_some_iff.mp hyi).1
      have s2 := s1.trans (same_new fT (o := .tup [.int xi, .int yi]))
      have hD2 := (upd_ne (o := .tup [.int xi, .int yi]) DT).trans hD
      have up : ∀ {z : Int}, z.natAbs < 2 ^ 4000 → z.natAbs < 2 ^ 8100 := fun h => Nat.lt_trans h (Nat.pow_lt_pow_right (by decide) (by decide))
      refine ⟨T, _, rfl, .inl (.inl upd_same), rfl, _, _, rfl, ?_⟩
      refine ⟨_, _, rfl, rfl, rfl, ?_⟩
      generalize upd H1 T _ = H2 at s2 hD2 ⊢
      refine yes_ ?_
      refine ⟨_, rfl, _, rfl, _, _, rfl, rfl, mulB (e := 8100) (by decide) bs (up (bx _ (List.mem_of_getElem? hxi))), ?_⟩
      refine ⟨_, rfl, _, rfl, _, _, rfl, rfl, mulB (e := 8100) (by decide) bt (up (by_ _ (List.mem_of_getElem? hyi))), ?_⟩
      refine ⟨_, _, rfl, rfl, _, rfl, _, _, rfl, rfl, b0, ?_⟩
      refine ⟨_, hD2, ?_, ?_, ?_⟩
      · rw [List.length_map, List.length_zipWith, List.length_take, sizeLine_eq]
        omega
      · intro c o e
        rw [upd_ne (ne_of_none e nD)]
        exact s2 _ _ e
      · rw [upd_same, List.take_add_one, hxi, List.take_add_one, hyi, List.zipWith_append (by rw [List.length_take, List.length_take]; omega), List.map_append]
        rfl
    · rintro H1 ⟨s1, hD⟩
      rw [List.take_length, len, List.take_length] at hD
      exact q H1 D s1 nD hD
end
end K02


set_option Elab.async false
set_option linter.all false
set_option maxRecDepth 100000
set_option maxHeartbeats 8000000
namespace K02
open LS
open PySem PySem.Spec PyProof.Rows L2 MM
/-! own words for the readings: a step, its side -/
local macro_rules | `(tactic| walk_at "side") => `(tactic| first
  | omega
  | exact ⟨by omega, by omega⟩
  | exact Or.inl ⟨by omega, by omega⟩
  | exact Or.inr ⟨by omega, by omega⟩
  | (show CPw _ _; decide +kernel)
  | (show (0 : Int) < _; decide +kernel)
  | (show CDivW _ _; first | assumption | exact ⟨by decide, by decide +kernel⟩))
local macro_rules | `(tactic| walk_at "here") => `(tactic| first
  | assumption
  | exact upd_same
  | exact Or.inl (Or.inl upd_same)
  | exact Or.inl upd_same)
local macro_rules | `(tactic| walk_at "one") => `(tactic| first
  | refine ⟨_, rfl, ?_⟩
  | refine Or.inl ⟨_, rfl, ?_⟩
  | refine Or.inr ⟨_, rfl, ?_⟩
  | refine ⟨_, _, rfl, rfl, (by walk_at "side"), ?_⟩
  | refine ⟨_, _, rfl, rfl, ?_⟩
  | refine ⟨_, _, rfl, Or.inl (by walk_at "here"), ?_⟩
  | refine ⟨_, _, rfl, Or.inr (by walk_at "here"), ?_⟩
  | refine ⟨_, _, rfl, (by walk_at "here"), ?_⟩
  | refine ⟨_, _, _, _, rfl, rfl, (by walk_at "here"), rfl, ?_⟩
  | refine ⟨_, _, rfl, ?_⟩
  | refine ifT (by rfl) ?_
  | refine ifF (by rfl) ?_
  | refine ifT (decide_eq_true (by omega)) ?_
  | refine ifF (decide_eq_false (by omega)) ?_)
local macro_rules | `(tactic| walk_at "st") => `(tactic| repeat (walk_at "one"))

section
variable {P : Program} {w : World} {K : PySem.W.Frag} {mg : Str → Option Value} {base : Heap}
/-- all members are from 0 and below b -/
def InB (b : Nat) (R : List (List Int)) : Prop := ∀ row ∈ R, ∀ x ∈ row, 0 ≤ x ∧ x < (b : Int)
theorem mix_get {x y : List Int} {s t b : Int} {j : Nat} (l : x.length = y.length) (h : j < x.length) : (mixR x s y t b).getD j 0 = (s * x.getD j 0 + t * y.getD j 0) % b := by
  unfold mixR
  rw [List.getD, List.getElem?_zipWith, mem_get h, mem_get (by omega : j < y.length)]
  rfl
theorem mix_len {x y : List Int} {s t b : Int} (l : x.length = y.length) : (mixR x s y t b).length = x.length := by
  unfold mixR
  rw [List.length_zipWith, ← l, Nat.min_self]
theorem mix_in {x y : List Int} {s t : Int} {b : Nat} (b0 : 0 < b) : ∀ z ∈ mixR x s y t (b : Int), 0 ≤ z ∧ z < (b : Int) := by
  intro z hz
  unfold mixR at hz
  obtain ⟨i, hi, rfl⟩ := List.mem_iff_getElem.mp hz
  rw [List.getElem_zipWith]
  exact ⟨Int.emod_nonneg _ (by omega), Int.emod_lt_of_pos _ (by omega)⟩
theorem mod_as (u b : Int) : ∃ z, u % b = u + b * z := ⟨-(u / b), by
  have := Int.mul_ediv_add_emod u b
  rw [Int.mul_neg]
  omega⟩
theorem put_mid (t : List Int) (cl rest : List (List Int)) (row : List Int) (i : Nat) : (t :: (cl ++ row :: rest)).getD i [] = if i = 0 then t else if i = cl.length + 1 then row else (t :: (cl ++ [] :: rest)).getD i [] := by
  cases i with
  | zero => rfl
  | succ i =>
    rw [if_neg (by omega)]
    show (cl ++ row :: rest).getD i [] = if i + 1 = cl.length + 1 then row else (cl ++ [] :: rest).getD i []
    rw [List.getD, List.getD, List.getElem?_append, List.getElem?_append]
    by_cases c : i < cl.length
    · rw [if_pos c, if_pos c, if_neg (by omega)]
    · rw [if_neg c, if_neg c]
      by_cases e : i = cl.length
      · subst e
        rw [if_pos rfl, Nat.sub_self]
        rfl
      · rw [if_neg (by omega)]
        obtain ⟨n, hn⟩ : ∃ n, i - cl.length = n + 1 := ⟨i - cl.length - 1, by omega⟩
        rw [hn]
        rfl
theorem col_step {t row t' row' : List Int} {cl rest : List (List Int)} {b : Int} {c k r : Nat} {α β γ δ g : Int} (dt : α * δ - β * γ = 1) (hl : cl.length + 1 < r)
    (ht : ∀ x, x < c → ∃ z, t'.getD x 0 = α * t.getD x 0 + β * row.getD x 0 + b * z) (hr : ∀ x, x < c → ∃ z, row'.getD x 0 = γ * t.getD x 0 + δ * row.getD x 0 + b * z) :
    DT.P b r c k (mat (t :: (cl ++ row :: rest))) g ↔ DT.P b r c k (mat (t' :: (cl ++ row' :: rest))) g := by
  have at0 : ∀ (t row : List Int) x, mat (t :: (cl ++ row :: rest)) 0 x = t.getD x 0 := fun t row x => rfl
  have at1 : ∀ (t row : List Int) x, mat (t :: (cl ++ row :: rest)) (cl.length + 1) x = row.getD x 0 := fun t row x => by
    unfold mat
    rw [put_mid, if_neg (by omega), if_pos rfl]
  refine DT.P_mix_iff (p := 0) (q := cl.length + 1) (by omega) hl (by omega) dt ?_ ?_ ?_
  · intro x hx
    rw [at0, at0, at1]
    exact ht x hx
  · intro x hx
    rw [at1, at0, at1]
    exact hr x hx
  · intro i hi n0 n1 x hx
    unfold mat
    rw [put_mid t', put_mid t, if_neg n0, if_neg n1, if_neg n0, if_neg n1]
    cases i with
    | zero => exact absurd rfl n0
    | succ i => rfl
theorem bez_one {G u v s t : Int} (h : s * (G * u) + t * (G * v) = G) : G * (s * u - t * -v) = G * 1 := by grind
/-- the first column cleared -/
structure ColC (b : Nat) (c : Nat) (R R' : List (List Int)) : Prop where
  len : R'.length = R.length
  rect : Rect R' c
  inb : InB b R'
  pos : 0 < mat R' 0 0
  zero : ∀ i, 0 < i → i < R.length → mat R' i 0 = 0
  top : R'.getD 0 [] = R.getD 0 [] ∨ mat R' 0 0 < mat R 0 0
  same : ∀ (k : Nat) (g : Int), DT.P b R.length c k (mat R) g ↔ DT.P b R.length c k (mat R') g
def spColC (K : PySem.W.Frag) : Sp := fun vs H Q _ => ∃ (a : Addr) (us : List V) (R : List (List Int)) (c b : Nat) (A : Addr → Prop), vs = [.ref a, .int (b : Int)] ∧ H a = some (.lst us) ∧ (∀ b, H b = none → A b) ∧ LLp A H us R ∧ Rect R c ∧ 1 ≤ R.length ∧ R.length ≤ 60 ∧ 1 ≤ c ∧ c ≤ 60 ∧ InB b R ∧ 0 < mat R 0 0 ∧ b < 2 ^ 4000 ∧
  ∀ H' r ws R', Same H H' → H' r = some (.lst ws) → LLp A H' ws R' → ColC b c R R' → Q (.ref r) H'
theorem scColumnCleared : FnScope ["rows", "bound", "top", "cleared", "row", "shared", "top_times", "row_times", "top_part", "row_part"] ["rows", "bound"] (defScope sColumnCleared) :=
  ⟨rfl, rfl, rfl, by decide +kernel, rfl, by decide +kernel, by decide +kernel⟩
theorem dColumnCleared (T : Tx K mg) (DMixed : Def P w K mg base CX0 1 "mixed" ["one", "one_times", "other", "other_times", "bound"] spMix) (DBezout : Def P w K mg base CX0 1 "bezout" ["one", "other"] spBez) : Def P w K mg base CX0 3 "_column_cleared" ["rows", "bound"] (spColC K) := by
  refine T.t_column_cleared.def_ (N := ["rows", "bound", "top", "cleared", "row", "shared", "top_times", "row_times", "top_part", "row_part"]) scColumnCleared (fun _ _ _ _ _ _ us hl => match us, hl with | [_, _], _ => rfl) ?_ ?_
  · intro vs H Q E h
    obtain ⟨a, us, R, c, b, A, rfl, _⟩ := h
    rfl
  · intro f cd A out s H vs Q E hr h
    have hr1 : Rm 1 _ := hr.le (by decide)
    obtain ⟨a, us, R, c, b, A, rfl, ha, fA, hR, rc, r1, r60, c1, c60, ib, t0, b8, q⟩ := h
    refine ⟨_, (pss_cons (ps_set (i := 2) scColumnCleared.nd rfl (Or.inl rfl) (pe_ix ix_list (pv 0) pe_int (fun _ _ => rfl)))
      (pss_cons (ps_set (i := 3) scColumnCleared.nd rfl (Or.inl rfl) (pe_lst pa_nil))
      (pss_cons (ps_for PassesOwn.never rfl (pi_list (pe_slice sl_list (pv 0) (po_some pe_int) po_none)) (pg_name (i := 4) scColumnCleared.nd rfl (Or.inl rfl))
        (pss_one (ps_if (pt_cmpR op_eq (pe_op op_mod (pe_ix ix_list (pv 4) pe_int (fun _ _ => rfl)) (pe_ix ix_list (pv 2) pe_int (fun _ _ => rfl))) pe_int (nomark _)) (pss_one (ps_expr (pe_bm PySem.F.plainAttrs_list PySem.F.slot_list_append PySem.F.type_list_append mt_append (pv 3) (pa_cons (pe_ifExp (pt_cmpR op_ne (pe_ix ix_list (pv 4) pe_int (fun _ _ => rfl)) pe_int (nomark _)) (pe_d DMixed (hr1.le (by decide)) pass0 (pa_cons (pv 4) (pa_cons pe_int (pa_cons (pv 2) (pa_cons (pe_un un_neg (pe_op op_fdivW (pe_ix ix_list (pv 4) pe_int (fun _ _ => rfl)) (pe_ix ix_list (pv 2) pe_int (fun _ _ => rfl)))) (pa_cons (pv 1) pa_nil)))))) (pv 4)) pa_nil)))) (pss_cons (ps_asg (pe_d DBezout (hr1.le (by decide)) pass0 (pa_cons (pe_ix ix_list (pv 2) pe_int (fun _ _ => rfl)) (pa_cons (pe_ix ix_list (pv 4) pe_int (fun _ _ => rfl)) pa_nil))) (pg_tup rfl (pgs_cons (pg_name (i := 5) scColumnCleared.nd rfl (Or.inl rfl)) (pgs_cons (pg_name (i := 6) scColumnCleared.nd rfl (Or.inl rfl)) (pgs_cons (pg_name (i := 7) scColumnCleared.nd rfl (Or.inl rfl)) pgs_nil)))))
          (pss_cons (ps_set (i := 8) scColumnCleared.nd rfl (Or.inl rfl) (pe_op op_fdivW (pe_ix ix_list (pv 2) pe_int (fun _ _ => rfl)) (pv 5)))
          (pss_cons (ps_set (i := 9) scColumnCleared.nd rfl (Or.inl rfl) (pe_op op_fdivW (pe_ix ix_list (pv 4) pe_int (fun _ _ => rfl)) (pv 5)))
          (pss_cons (ps_expr (pe_bm PySem.F.plainAttrs_list PySem.F.slot_list_append PySem.F.type_list_append mt_append (pv 3) (pa_cons (pe_d DMixed (hr1.le (by decide)) pass0 (pa_cons (pv 4) (pa_cons (pv 8) (pa_cons (pv 2) (pa_cons (pe_un un_neg (pv 9)) (pa_cons (pv 1) pa_nil)))))) pa_nil)))
          (pss_one (ps_set (i := 2) scColumnCleared.nd rfl (Or.inl rfl) (pe_d DMixed (hr1.le (by decide)) pass0 (pa_cons (pv 2) (pa_cons (pv 6) (pa_cons (pv 4) (pa_cons (pv 7) (pa_cons (pv 1) pa_nil)))))))))))))))
      (pss_one (ps_ret (pe_op op_cat (pe_lst (pa_cons (pv 2) pa_nil)) (pv 3))))))), ?_⟩
    have lu := hR.len
    obtain ⟨u0, hu0, b0, rfl, A0, h0⟩ := paired_get hR (row_get (i := 0) (by omega))
    refine ⟨_, rfl, a, us, _, .ref b0, rfl, rfl, lst_sql ha, atI_nat hu0, ?_⟩
    refine ⟨by decide, fun D nD => ?_⟩
    have s1 := same_new (o := .lst []) nD
    have hD : (upd H D (.lst [])) D = some (.lst []) := upd_same
    generalize upd H D (.lst []) = H1 at s1 hD ⊢
    refine ⟨_, rfl, _, rfl, a, us, rfl, lst_sql (s1 _ _ ha), fun F nF => ?_⟩
    rw [show cutV us (some 1) none = us.drop 1 from cut_from us 1]
    have FD : D ≠ F := ne_of_none hD nF
    have s2 := s1.trans (same_new (o := .lst (us.drop 1)) nF)
    have hD2 := (upd_ne (o := .lst (us.drop 1)) FD).trans hD
    have hF2 : (upd H1 F (.lst (us.drop 1))) F = some (.lst (us.drop 1)) := upd_same
    generalize upd H1 F _ = H2 at s2 hD2 hF2 ⊢
    clear s1 hD nF
    have keep : ∀ {H3 : Hp} {o : HO}, Same H H3 → Same H (upd H3 D o) := fun {H3 o} s b x e => by
      rw [upd_ne (ne_of_none e nD)]
      exact s _ _ e
    refine ⟨F, rfl, ⟨_, .inl (.inl hF2)⟩, for_list (K := K) (a := F) (xs := us.drop 1) (fun i σ H' => Same H H' ∧ H' F = some (.lst (us.drop 1)) ∧ ∃ (tp : Addr) (t : List Int) (cs : List V) (cl : List (List Int)), H' tp = some (.lst (t.map V.int)) ∧ (tp ≠ D ∧ A tp) ∧ H' D = some (.lst cs) ∧ LLp (fun b => b ≠ D ∧ A b) H' cs cl ∧
        cl.length = i ∧ t.length = c ∧ Rect cl c ∧ InB b (t :: cl) ∧ 0 < t.getD 0 0 ∧ (∀ row ∈ cl, row.getD 0 0 = 0) ∧ (t = R.getD 0 [] ∨ t.getD 0 0 < mat R 0 0) ∧ (∀ (k : Nat) (g : Int), DT.P b R.length c k (mat R) g ↔ DT.P b R.length c k (mat (t :: (cl ++ R.drop (i + 1)))) g) ∧
        ∃ x4 x5 x6 x7 x8 x9, σ = [some (.ref a), some (.int (b : Int)), some (.ref tp), some (.ref D), x4, x5, x6, x7, x8, x9])
      ⟨s2, hF2, b0, R.getD 0 [], [], [], s2 _ _ h0, ⟨ne_of_none h0 nD, A0⟩, hD2, .nil, rfl, rect_get rc (by omega), (fun _ h => by cases h), ?_, t0, (fun _ h => by cases h), .inl rfl, ?_, _, _, _, _, _, _, rfl⟩ (fun i σ H' _ h => .inl (.inl h.2.1)) ?_ ?_⟩
    · intro row hr
      cases hr with
      | head => exact ib _ (row_mem (by omega))
      | tail _ h => cases h
    · intro k g
      have : R = R.getD 0 [] :: ([] ++ R.drop (0 + 1)) := by
        cases R with
        | nil => exact absurd r1 (by decide)
        | cons r R => rfl
      rw [← this]
    · rintro i x σ H' hx ⟨s3, hF, tp, t, cs, cl, ht, ⟨td, At⟩, hD, hc, lcl, lt, rcl, ibt, tpos, cz, ttop, same, x4, x5, x6, x7, x8, x9, rfl⟩
      rw [List.getElem?_drop] at hx
      obtain ⟨row, hrow, br, rfl, Ab, hb⟩ := paired_at hR hx
      have hrow' : R[i + 1]? = some row := by rw [Nat.add_comm]; exact hrow
      have li := (List.getElem?_eq_some_iff.mp hrow).1
      have hb3 := s3 _ _ hb
      have lrow : row.length = c := rc row (List.mem_of_getElem? hrow)
      have ibr := ib row (List.mem_of_getElem? hrow)
      have r0b := ibr _ (mem_mem (j := 0) (by omega))
      have t0b := ibt _ List.mem_cons_self _ (mem_mem (j := 0) (by omega))
      obtain ⟨r0, er0⟩ : ∃ r0, r0 = row.getD 0 0 := ⟨_, rfl⟩
      obtain ⟨t0', et0⟩ : ∃ t0', t0' = t.getD 0 0 := ⟨_, rfl⟩
      have atR : atI (row.map V.int) 0 = some (.int r0) := by rw [er0]; exact atI_nat (j := 0) (intsAt (by omega))
      have atT : atI (t.map V.int) 0 = some (.int t0') := by rw [et0]; exact atI_nat (j := 0) (intsAt (by omega))
      rw [← er0] at r0b
      rw [← et0] at t0b tpos
      have stepP : ∀ (t' row' : List Int) (α β γ δ : Int), α * δ - β * γ = 1 → (∀ x, x < c → ∃ z, t'.getD x 0 = α * t.getD x 0 + β * row.getD x 0 + (b : Int) * z) → (∀ x, x < c → ∃ z, row'.getD x 0 = γ * t.getD x 0 + δ * row.getD x 0 + (b : Int) * z) →
          ∀ (k : Nat) (g : Int), DT.P b R.length c k (mat R) g ↔ DT.P b R.length c k (mat (t' :: ((cl ++ [row']) ++ R.drop (i + 1 + 1)))) g := fun t' row' α β γ δ dt h1 h2 k g => by
        rw [same k g, List.append_assoc, List.singleton_append, List.drop_eq_getElem_cons (by omega), show R[i + 1] = row from Option.some.inj (by rw [← hrow', List.getElem?_eq_getElem])]
        exact col_step dt (by omega) h1 h2
      have app : ∀ {H3 : Hp} {r' : Addr} {row' : List Int}, Same H' H3 → H3 r' = some (.lst (row'.map V.int)) → r' ≠ D → A r' → row'.length = c → (∀ x ∈ row', 0 ≤ x ∧ x < (b : Int)) → row'.getD 0 0 = 0 →
          Same H (upd H3 D (.lst (cs ++ [.ref r']))) ∧ (upd H3 D (.lst (cs ++ [.ref r']))) F = some (.lst (us.drop 1)) ∧ (upd H3 D (.lst (cs ++ [.ref r']))) tp = some (.lst (t.map V.int)) ∧ (upd H3 D (.lst (cs ++ [.ref r']))) D = some (.lst (cs ++ [.ref r'])) ∧
          LLp (fun b => b ≠ D ∧ A b) (upd H3 D (.lst (cs ++ [.ref r']))) (cs ++ [.ref r']) (cl ++ [row']) ∧ (cl ++ [row']).length = i + 1 ∧ Rect (cl ++ [row']) c ∧ InB b (cl ++ [row']) ∧ (∀ z ∈ cl ++ [row'], z.getD 0 0 = 0) := fun {H3 r' row'} s4 hr rd Ar lr' ir cr => by
        refine ⟨keep (s3.trans s4), (upd_ne FD.symm).trans (s4 _ _ hF), (upd_ne td).trans (s4 _ _ ht), upd_same, paired_snoc ⟨r', rfl, ⟨rd, Ar⟩, (upd_ne rd).trans hr⟩ ((hc.same s4).put fun b h => h.1), by rw [List.length_append, lcl]; rfl, ?_, ?_, ?_⟩
        · intro z hz
          rcases List.mem_append.mp hz with hz | hz
          · exact rcl z hz
          · rw [List.mem_singleton.mp hz]
            exact lr'
        · intro z hz
          rcases List.mem_append.mp hz with hz | hz
          · exact ibt z (List.mem_cons_of_mem _ hz)
          · rw [List.mem_singleton.mp hz]
            exact ir
        · intro z hz
          rcases List.mem_append.mp hz with hz | hz
          · exact cz z hz
          · rw [List.mem_singleton.mp hz]
            exact cr
      have inb : ∀ {t' : List Int} {cl' : List (List Int)}, (∀ x ∈ t', 0 ≤ x ∧ x < (b : Int)) → InB b cl' → InB b (t' :: cl') := fun {t' cl'} h1 h2 z hz => by
        rcases List.mem_cons.mp hz with rfl | hz
        · exact h1
        · exact h2 z hz
      have b82 : ∀ {x : Int}, 0 ≤ x ∧ x < (b : Int) → x.natAbs < 2 ^ 4000 := fun {x} h => Nat.lt_trans (by omega : x.natAbs < b) b8
      have cd9 : ∀ {x y : Int}, 0 < y → y < (b : Int) → CDivW x y := fun {x y} h1 h2 => ⟨h1, Nat.lt_of_lt_of_le ((Nat.log2_lt (by omega)).mpr (b82 ⟨by omega, h2⟩)) (by decide)⟩
      refine ⟨_, rfl, br, _, _, .int r0, rfl, rfl, .inl (.inl hb3), atR, ?_⟩
      refine ⟨_, rfl, tp, _, _, .int t0', rfl, rfl, .inl (.inl ht), atT, ?_⟩
      refine ⟨_, _, rfl, rfl, tpos, ?_⟩
      refine ⟨rfl, _, rfl, ?_⟩
      by_cases dv : r0 % t0' = 0
      · refine ifT (decide_eq_true (congrArg V.int dv)) ?_
        refine ⟨_, rfl, .inl ⟨rfl, _, .inl (.inl hD)⟩, ?_⟩
        refine ⟨_, rfl, br, _, _, .int r0, rfl, rfl, .inl (.inl hb3), atR, rfl, _, rfl, ?_⟩
        have ed : r0 = t0' * (r0 / t0') := by have := Int.mul_ediv_add_emod r0 t0'; omega
        have lcs := hc.len
        by_cases rz : r0 = 0
        · refine ifF (by show (!decide (V.int r0 = V.int 0)) = false; rw [decide_eq_true (congrArg V.int rz)]; rfl) ?_
          obtain ⟨p1, p2, p3, p4, p5, p6, p7, p8, p9⟩ := app (Same.refl _) hb3 (ne_of_none hb nD) Ab lrow ibr (by rw [← er0, rz])
          refine ⟨_, rfl, D, cs, _, rfl, rfl, hD, by rw [lcs, lcl, sizeLine_eq]; omega, ?_⟩
          exact ⟨p1, p2, tp, t, _, _, p3, ⟨td, At⟩, p4, p5, p6, lt, p7, inb (ibt _ List.mem_cons_self) p8, et0 ▸ tpos, p9, ttop, stepP t row 1 0 0 1 (by decide) (fun x _ => ⟨0, by omega⟩) (fun x _ => ⟨0, by omega⟩), _, _, _, _, _, _, rfl⟩
        · refine ifT (by show (!decide (V.int r0 = V.int 0)) = true; rw [decide_eq_false fun h => rz (V.int.inj h)]; rfl) ?_
          refine ⟨_, rfl, _, rfl, _, rfl, br, _, _, .int r0, rfl, rfl, .inl (.inl hb3), atR, _, rfl, tp, _, _, .int t0', rfl, rfl, .inl (.inl ht), atT, _, _, rfl, rfl, cd9 tpos t0b.2, ?_⟩
          refine ⟨_, rfl, _, rfl, br, tp, row, t, 1, -(r0 / t0'), (b : Int), rfl, hb3, ht, by rw [lrow, lt], by omega, fun z hz => b82 (ibr z hz), fun z hz => b82 (ibt _ List.mem_cons_self z hz), by decide, ?_, by omega, fun H3 r s4 fr er => ?_⟩
          · have h1 : 0 ≤ r0 / t0' := Int.ediv_nonneg r0b.1 (by omega)
            have h2 : r0 / t0' ≤ r0 := Int.ediv_le_self _ r0b.1
            exact Nat.lt_of_le_of_lt (by omega : (-(r0 / t0')).natAbs ≤ r0.natAbs) (Nat.lt_trans (b82 r0b) (Nat.pow_lt_pow_right (by decide) (by decide)))
          obtain ⟨p1, p2, p3, p4, p5, p6, p7, p8, p9⟩ := app s4 er (ne_of_none hD fr).symm (fA _ (s3.free fr)) (by rw [mix_len (by rw [lrow, lt]), lrow]) (mix_in (by omega)) (by
            rw [mix_get (by rw [lrow, lt]) (by omega), ← er0, ← et0]
            rw [show 1 * r0 + -(r0 / t0') * t0' = 0 by rw [Int.neg_mul, Int.mul_comm (r0 / t0')]; omega]
            exact Int.zero_emod _)
          refine ⟨D, cs, _, rfl, rfl, s4 _ _ hD, by rw [lcs, lcl, sizeLine_eq]; omega, ?_⟩
          refine ⟨p1, p2, tp, t, _, _, p3, ⟨td, At⟩, p4, p5, p6, lt, p7, inb (ibt _ List.mem_cons_self) p8, et0 ▸ tpos, p9, ttop, stepP t _ 1 0 (-(r0 / t0')) 1 (by omega) (fun x _ => ⟨0, by omega⟩) (fun x hx => ?_), _, _, _, _, _, _, rfl⟩
          rw [mix_get (by rw [lrow, lt]) (by omega)]
          obtain ⟨z, hz⟩ := mod_as (1 * row.getD x 0 + -(r0 / t0') * t.getD x 0) (b : Int)
          exact ⟨z, by rw [hz]; omega⟩
      · refine ifF (decide_eq_false fun h => dv (V.int.inj h)) ?_
        obtain ⟨tn, rfl⟩ : ∃ tn : Nat, t0' = (tn : Int) := ⟨t0'.toNat, by omega⟩
        obtain ⟨rn, rfl⟩ : ∃ rn : Nat, r0 = (rn : Int) := ⟨r0.toNat, by omega⟩
        have rn0 : 0 < rn := Nat.pos_of_ne_zero fun z => dv (by rw [z]; exact Int.zero_emod _)
        refine ⟨_, rfl, tp, _, _, .int (tn : Int), rfl, rfl, .inl (.inl ht), atT, _, rfl, br, _, _, .int (rn : Int), rfl, rfl, .inl (.inl hb3), atR, ?_⟩
        refine ⟨tn, rn, rfl, by omega, rn0, by have := b82 t0b; omega, by have := b82 r0b; omega, fun H3 p sT tT s4 ep bz b1 b2 => ?_⟩
        obtain ⟨G, hG⟩ : ∃ G, G = Nat.gcd tn rn := ⟨_, rfl⟩
        rw [← hG] at ep bz
        obtain ⟨u, hu⟩ : G ∣ tn := hG ▸ Nat.gcd_dvd_left _ _
        obtain ⟨v, hv⟩ : G ∣ rn := hG ▸ Nat.gcd_dvd_right _ _
        have G0 : 0 < G := by
          rw [hG]
          exact Nat.gcd_pos_of_pos_right _ rn0
        have Gt : G ≤ tn := Nat.le_of_dvd (by omega) ⟨u, hu⟩
        have Gn : G ≠ tn := fun z => dv (by
          rw [← z, hv]
          exact Int.emod_eq_zero_of_dvd (by rw [Int.natCast_mul]; exact ⟨_, rfl⟩))
        have du : (tn : Int) / (G : Int) = (u : Int) := by
          rw [hu, Int.natCast_mul]
          exact Int.mul_ediv_cancel_left _ (by omega)
        have dw : (rn : Int) / (G : Int) = (v : Int) := by
          rw [hv, Int.natCast_mul]
          exact Int.mul_ediv_cancel_left _ (by omega)
        have ut : u ≤ tn := by rw [hu]; exact Nat.le_mul_of_pos_left _ G0
        have vr : v ≤ rn := by rw [hv]; exact Nat.le_mul_of_pos_left _ G0
        refine ⟨p, _, rfl, .inl (.inl ep), rfl, _, _, rfl, ?_⟩
        refine ⟨_, _, rfl, ?_⟩
        refine ⟨_, _, rfl, rfl, ?_⟩
        refine ⟨_, rfl, tp, _, _, .int (tn : Int), rfl, rfl, .inl (.inl (s4 _ _ ht)), atT, _, rfl, _, _, rfl, rfl, cd9 (by omega) (by omega), ?_⟩
        refine ⟨_, rfl, br, _, _, .int (rn : Int), rfl, rfl, .inl (.inl (s4 _ _ hb3)), atR, _, rfl, _, _, rfl, rfl, cd9 (by omega) (by omega), ?_⟩
        refine ⟨_, rfl, .inl ⟨rfl, _, .inl (.inl (s4 _ _ hD))⟩, ?_⟩
        have up1 : ∀ {z : Int}, z.natAbs < 2 ^ 4000 → z.natAbs < 2 ^ 8100 := fun h => Nat.lt_trans h (Nat.pow_lt_pow_right (by decide) (by decide))
        have lcs := hc.len
        refine ⟨_, rfl, _, rfl, _, rfl, _, rfl, _, rfl, _, rfl, br, tp, row, t, (tn : Int) / (G : Int), -((rn : Int) / (G : Int)), (b : Int), rfl, s4 _ _ hb3, s4 _ _ ht, by rw [lrow, lt], by omega, fun z hz => b82 (ibr z hz), fun z hz => b82 (ibt _ List.mem_cons_self z hz), ?_, ?_, by omega, fun H4 r s5 fr er => ?_⟩
        · rw [du]
          exact up1 (b82 ⟨by omega, by omega⟩)
        · rw [dw, Int.natAbs_neg]
          exact up1 (b82 ⟨by omega, by omega⟩)
        rw [du, dw] at er
        obtain ⟨p1, p2, p3, p4, p5, p6, p7, p8, p9⟩ := app (s4.trans s5) er (ne_of_none (s4 _ _ hD) fr).symm (fA _ ((s3.trans s4).free fr)) (by rw [mix_len (by rw [lrow, lt]), lrow]) (mix_in (by omega)) (by
          rw [mix_get (by rw [lrow, lt]) (by omega), ← er0, ← et0, hu, hv, Int.natCast_mul, Int.natCast_mul]
          rw [show (u : Int) * ((G : Int) * (v : Int)) + -(v : Int) * ((G : Int) * (u : Int)) = 0 by grind]
          exact Int.zero_emod _)
        have hb4 := (upd_ne (o := .lst (cs ++ [.ref r])) (ne_of_none hb nD)).trans ((s4.trans s5) _ _ hb3)
        refine ⟨D, cs, _, rfl, rfl, (s4.trans s5) _ _ hD, by rw [lcs, lcl, sizeLine_eq]; omega, ?_⟩
        generalize upd H4 D _ = H5 at p1 p2 p3 p4 p5 hb4 ⊢
        refine ⟨_, rfl, _, rfl, _, rfl, _, rfl, _, rfl, tp, br, t, row, sT, tT, (b : Int), rfl, p3, hb4, by rw [lrow, lt], by omega, fun z hz => b82 (ibt _ List.mem_cons_self z hz), fun z hz => b82 (ibr z hz), up1 b1, b2, by omega, fun H6 r' s6 fr' er' => ?_⟩
        have new0 : (mixR t sT row tT (b : Int)).getD 0 0 = (G : Int) := by
          rw [mix_get (by rw [lrow, lt]) (by omega), ← er0, ← et0, bz]
          exact Int.emod_eq_of_lt (by omega) (by omega)
        refine ⟨p1.trans s6, s6 _ _ p2, r', _, _, _, er', ⟨(ne_of_none p4 fr').symm, fA _ (p1.free fr')⟩, s6 _ _ p4, p5.same s6, p6, by rw [mix_len (by rw [lrow, lt]), lt], p7, inb (mix_in (by omega)) p8, by rw [new0]; omega, p9, .inr ?_, stepP _ _ sT tT (-(v : Int)) (u : Int) ?_ (fun x hx => ?_) (fun x hx => ?_), _, _, _, _, _, _, rfl⟩
        · rw [new0]
          rcases ttop with e | e
          · rw [e] at et0
            have : mat R 0 0 = (tn : Int) := et0.symm
            omega
          · rw [← et0] at e
            omega
        · have bz2 := bz
          rw [hu, hv, Int.natCast_mul, Int.natCast_mul] at bz2
          exact Int.eq_of_mul_eq_mul_left (by omega) (bez_one bz2)
        · rw [mix_get (by rw [lrow, lt]) (by omega)]
          exact mod_as _ _
        · rw [mix_get (by rw [lrow, lt]) (by omega)]
          obtain ⟨z, hz⟩ := mod_as ((u : Int) * row.getD x 0 + -(v : Int) * t.getD x 0) (b : Int)
          exact ⟨z, by rw [hz]; omega⟩
    · rintro σ H' ⟨s3, hF, tp, t, cs, cl, ht, ⟨td, At⟩, hD, hc, lcl, lt, rcl, ibt, tpos, cz, ttop, same, x4, x5, x6, x7, x8, x9, rfl⟩
      rw [List.length_drop, lu] at lcl same
      have e1 : R.drop (R.length - 1 + 1) = [] := List.drop_eq_nil_of_le (by omega)
      rw [e1] at same
      simp only [List.append_nil] at same
      refine ⟨_, rfl, by show 1 ≤ sizeLine; decide, fun T nT => ?_⟩
      have sT := same_new (o := .lst [V.ref tp]) nT
      have lcs := hc.len
      refine ⟨_, rfl, T, D, _, cs, rfl, rfl, upd_same, sT _ _ hD, by show 1 + cs.length ≤ sizeLine; rw [lcs, lcl, sizeLine_eq]; omega, fun p np => ?_⟩
      have s5 := sT.trans (same_new (o := .lst ([V.ref tp] ++ cs)) np)
      refine q _ p _ (t :: cl) (s3.trans s5) upd_same (.cons ⟨tp, rfl, At, s5 _ _ ht⟩ (Paired.mapP (hc.same s5) fun _ _ ⟨b, e, n, hb⟩ => ⟨b, e, n.2, hb⟩)) ⟨by show cl.length + 1 = _; omega, ?_, ibt, tpos, ?_, ttop, same⟩
      · intro z hz
        rcases List.mem_cons.mp hz with rfl | hz
        · exact lt
        · exact rcl z hz
      · intro i h1 h2
        obtain ⟨j, rfl⟩ : ∃ j, i = j + 1 := ⟨i - 1, by omega⟩
        exact cz _ (row_mem (R := cl) (i := j) (by omega))
end
end K02


set_option Elab.async false
set_option linter.all false
set_option maxRecDepth 100000
set_option maxHeartbeats 8000000
namespace K02.LS
open K02
open PySem PySem.Spec PyProof.Rows L2 MM
/-! own words for the readings: a step, its side -/
local macro_rules | `(tactic| walk_at "side") => `(tactic| first
  | omega
  | exact ⟨by omega, by omega⟩
  | exact Or.inl ⟨by omega, by omega⟩
  | exact Or.inr ⟨by omega, by omega⟩
  | (show CPw _ _; decide +kernel)
  | (show (0 : Int) < _; decide +kernel)
  | (show CDivW _ _; first | assumption | exact ⟨by decide, by decide +kernel⟩))
local macro_rules | `(tactic| walk_at "here") => `(tactic| first
  | assumption
  | exact upd_same
  | exact Or.inl (Or.inl upd_same)
  | exact Or.inl upd_same)
local macro_rules | `(tactic| walk_at "one") => `(tactic| first
  | refine ⟨_, rfl, ?_⟩
  | refine Or.inl ⟨_, rfl, ?_⟩
  | refine Or.inr ⟨_, rfl, ?_⟩
  | refine ⟨_, _, rfl, rfl, (by walk_at "side"), ?_⟩
  | refine ⟨_, _, rfl, rfl, ?_⟩
  | refine ⟨_, _, rfl, Or.inl (by walk_at "here"), ?_⟩
  | refine ⟨_, _, rfl, Or.inr (by walk_at "here"), ?_⟩
  | refine ⟨_, _, rfl, (by walk_at "here"), ?_⟩
  | refine ⟨_, _, _, _, rfl, rfl, (by walk_at "here"), rfl, ?_⟩
  | refine ⟨_, _, rfl, ?_⟩
  | refine ifT (by rfl) ?_
  | refine ifF (by rfl) ?_
  | refine ifT (decide_eq_true (by omega)) ?_
  | refine ifF (decide_eq_false (by omega)) ?_)
local macro_rules | `(tactic| walk_at "st") => `(tactic| repeat (walk_at "one"))

section
variable {P : Program} {w : World} {K : PySem.W.Frag} {mg : Str → Option Value} {base : Heap}
def spColsL : Sp := fun vs H Q _ => ∃ (a : Addr) (us : List V) (R : List (List Int)) (m : Nat), vs = [.ref a] ∧ H a = some (.lst us) ∧ LL H us R ∧ Rect R m ∧ 1 ≤ R.length ∧ R.length ≤ 60 ∧ m ≤ 60 ∧
  ∀ H' r ws, Same H H' → H r = none → H' r = some (.lst ws) → LLp (fun b => H b = none) H' ws (cols R m) → Q (.ref r) H'
theorem scColumns : FnScope ["rows", "row", "at"] ["rows"] (defScope sColumns) :=
  ⟨rfl, rfl, rfl, by decide +kernel, rfl, by decide +kernel, by decide +kernel⟩
theorem dColumns (T : Tx K mg) : Def P w K mg base CX0 1 "_columns" ["rows"] spColsL := by
  refine T.t_columns.def_ (N := ["rows", "row", "at"]) scColumns (fun _ _ _ _ _ _ us hl => match us, hl with | [_], _ => rfl) ?_ ?_
  · intro vs H Q E h
    obtain ⟨a, us, R, m, rfl, _⟩ := h
    rfl
  · intro f cd A out s H vs Q E hr h
    obtain ⟨a, us, R, m, rfl, S, hR, rc, l1, l2, m2, q⟩ := h
    refine ⟨_, (pss_one (ps_ret (pe_lc (own := [("at", 2)]) (g := gName 2) (tt := tYes) rfl scColumns.nd (pi_range1 rfl T.f_range (pa_cons (pe_callB call_len_seq rfl T.f_len (by decide +kernel) (pa_cons (pe_ix ix_list (pv 0) pe_int (fun _ _ => rfl)) pa_nil)) pa_nil)) (blkOk_by (N := ["rows", "row", "at"]) (sc := defScope sColumns) (by decide +kernel)) (fun _ _ _ _ _ => pg_name (i := 2) scColumns.nd rfl (Or.inr rfl)) (fun _ _ _ _ _ => pts_nil) (fun _ _ _ _ _ => (pe_lc (own := [("row", 1)]) (g := gName 1) (tt := tYes) rfl scColumns.nd (show PI _ _ _ (iList K _) from pi_list (pv 0)) (blkOk_by (N := ["rows", "row", "at"]) (sc := _) (by kernel_rfl)) (fun _ _ _ _ _ => pg_name (i := 1) scColumns.nd rfl (Or.inl rfl)) (fun _ _ _ _ _ => pts_nil) (fun _ _ _ _ _ => (pe_ix (show IxR _ (rIxL K) from ix_list) (pv 1) (pv 2) (fun _ _ => rfl)))))))), ?_⟩
    have lu := hR.len
    obtain ⟨u0, hu0, b0, rfl, S0⟩ := paired_get hR (row_get (i := 0) (by omega))
    have ly0 := rc _ (row_mem (R := R) (i := 0) (by omega))
    refine ⟨_, rfl, a, _, _, .ref b0, rfl, rfl, .inl (.inl S), atI_nat (j := 0) hu0, b0, _, rfl, .inl (.inl (.inl S0)), ?_⟩
    rw [List.length_map, ly0]
    refine ⟨(m : Int), rfl, by omega, by omega, fun D nD => ?_⟩
    refine lc_range (Pv := fun i H' => Same H H' ∧ ∃ cs : List V, H' D = some (.lst cs) ∧ LLp (fun b => b ≠ D ∧ H b = none) H' cs (cols R i)) ⟨same_new nD, [], upd_same, .nil⟩ ?_ ?_
    · rintro i H1 hi ⟨s1, cs, hD, hc⟩
      have hi' : i < m := by omega
      have lc := hc.len
      refine ⟨wipe_one, yes_ ?_⟩
      refine ⟨_, rfl, a, rfl, ⟨_, .inl (.inl (s1 _ _ S))⟩, fun D2 nD2 => ?_⟩
      have DD : D2 ≠ D := (ne_of_none hD nD2).symm
      refine lc_list (K := K) (a := a) (xs := us) (Pv := fun j H' => Same H1 H' ∧ H' D2 = some (.lst (((R.take j).map fun row => row.getD i 0).map V.int))) ⟨same_new nD2, upd_same⟩ (fun j H' _ e => .inl (.inl ((s1.trans e.1) _ _ S))) ?_ ?_
      · rintro j x H2 hx ⟨s2, hD2⟩
        obtain ⟨row, hrow, b, rfl, Sb⟩ := paired_at hR hx
        have lj : j < us.length := (List.getElem?_eq_some_iff.mp hx).1
        have lr := rc row (List.mem_of_getElem? hrow)
        refine ⟨wipe_one, yes_ ?_⟩
        refine ⟨_, rfl, _, rfl, b, _, _, .int (row.getD i 0), rfl, rfl, .inl (.inl ((s1.trans s2) _ _ Sb)), ?_, ?_⟩
        · rw [Int.zero_add]
          exact atI_nat (intsAt (by omega))
        refine ⟨_, hD2, ?_, ?_, ?_⟩
        · rw [List.length_map, List.length_map, List.length_take, sizeLine_eq]
          omega
        · intro c o e
          rw [upd_ne (ne_of_none e nD2)]
          exact s2 _ _ e
        · rw [upd_same, List.take_add_one, hrow, List.map_append, List.map_append]
          rfl
      rintro H2 ⟨s2, hD2⟩
      rw [lu, List.take_length] at hD2
      refine ⟨cs, s2 _ _ hD, ?_, ?_, cs ++ [.ref D2], upd_same, ?_⟩
      · rw [lc, sizeLine_eq]
        unfold cols
        rw [List.length_map, List.length_range]
        omega
      · intro c o e
        rw [upd_ne (ne_of_none e nD)]
        exact s2 _ _ (s1 _ _ e)
      · rw [cols_succ]
        exact paired_snoc ⟨D2, rfl, ⟨DD, s1.free nD2⟩, (upd_ne DD).trans hD2⟩ ((hc.same s2).put fun b h => h.1)
    · rintro H1 ⟨s1, cs, hD, hc⟩
      rw [show ((m : Int)).toNat = m from Int.toNat_natCast m] at hc
      exact q H1 D cs s1 nD hD (Paired.mapP hc fun _ _ ⟨b, e, n, hb⟩ => ⟨b, e, n.2, hb⟩)
end
end K02.LS
namespace K02
open LS
open PySem PySem.Spec PyProof.Rows L2 MM
section
variable {P : Program} {w : World} {K : PySem.W.Frag} {mg : Str → Option Value} {base : Heap}
theorem cols_len (R : List (List Int)) (m : Nat) : (cols R m).length = m := by
  unfold cols
  rw [List.length_map, List.length_range]
theorem cols_getD {R : List (List Int)} {m j : Nat} (h : j < m) : (cols R m).getD j [] = R.map fun row => row.getD j 0 := by
  unfold cols
  rw [List.getD, List.getElem?_map, List.getElem?_range h]
  rfl
theorem cols_rect (R : List (List Int)) (m : Nat) : Rect (cols R m) R.length := by
  intro row hr
  obtain ⟨j, _, rfl⟩ := List.mem_map.mp hr
  exact List.length_map _
theorem cols_mat {R : List (List Int)} {m i j : Nat} (hi : i < m) (hj : j < R.length) : mat (cols R m) i j = mat R j i := by
  unfold mat
  rw [cols_getD hi, List.getD, List.getElem?_map, row_get hj]
  rfl
theorem cols_in {R : List (List Int)} {m b : Nat} (rc : Rect R m) (h : InB b R) : InB b (cols R m) := by
  intro row hr x hx
  obtain ⟨j, hj, rfl⟩ := List.mem_map.mp hr
  obtain ⟨r, hr2, rfl⟩ := List.mem_map.mp hx
  have := rc r hr2
  exact h r hr2 _ (mem_mem (by have := List.mem_range.mp hj; omega))
theorem P_cols_iff {R : List (List Int)} {m k : Nat} {b g : Int} : DT.P b R.length m k (mat R) g ↔ DT.P b m R.length k (mat (cols R m)) g :=
  ⟨fun h => DT.P_congr (fun i hi q hq => (cols_mat hi hq).symm) (DT.P_tr h), fun h => DT.P_congr (fun i hi q hq => cols_mat hq hi) (DT.P_tr h)⟩
/-- the first row and column cleared -/
structure CornerC (b r c r' c' : Nat) (R R' : List (List Int)) : Prop where
  dim : r' = r ∧ c' = c ∨ r' = c ∧ c' = r
  len : R'.length = r'
  rect : Rect R' c'
  inb : InB b R'
  pos : 0 < mat R' 0 0
  zc : ∀ i, 0 < i → i < r' → mat R' i 0 = 0
  zr : ∀ j, 0 < j → j < c' → mat R' 0 j = 0
  same : ∀ (k : Nat) (g : Int), DT.P b r c k (mat R) g ↔ DT.P b r' c' k (mat R') g
/-- the numbers of the first row -/
def topR (H : Hp) (v : Option V) : List Int := match v with
  | some (.ref x) => (match H x with
    | some (.lst (.ref p :: _)) => (match H p with
      | some (.lst xs) => xs.filterMap fun v => match v with | .int n => some n | _ => none
      | _ => [])
    | _ => [])
  | _ => []
theorem ints_back : ∀ xs : List Int, ((xs.map V.int).filterMap fun v => match v with | .int n => some n | _ => none) = xs
  | [] => rfl
  | x :: xs => by
    rw [List.map_cons, List.filterMap_cons, ints_back xs]
theorem topR_eq {H : Hp} {x : Addr} {ws : List V} {X : List (List Int)} (hx : H x = some (.lst ws)) (l : LL H ws X) (h1 : 1 ≤ X.length) : topR H (some (.ref x)) = X.getD 0 [] := by
  cases l with
  | nil => exact absurd h1 (by decide)
  | cons r _ =>
    obtain ⟨b, rfl, hb⟩ := r
    unfold topR
    simp only [hx, hb]
    exact ints_back _
def topM (xs : List Int) : Nat := 2 * (xs.getD 0 0).toNat + if (xs.drop 1).all (fun n => n == 0) then 0 else 1
def spCorner (K : PySem.W.Frag) : Sp := fun vs H Q _ => ∃ (a : Addr) (us : List V) (R : List (List Int)) (c b : Nat) (A : Addr → Prop), vs = [.ref a, .int (b : Int)] ∧ H a = some (.lst us) ∧ (∀ b, H b = none → A b) ∧ LLp A H us R ∧ Rect R c ∧ 1 ≤ R.length ∧ R.length ≤ 60 ∧ 1 ≤ c ∧ c ≤ 60 ∧ InB b R ∧ 0 < mat R 0 0 ∧ b < 2 ^ 4000 ∧
  ∀ H' r ws R' r' c', Same H H' → H' r = some (.lst ws) → LLp A H' ws R' → CornerC b R.length c r' c' R R' → Q (.ref r) H'
theorem scCornerCleared : FnScope ["rows", "bound", "number"] ["rows", "bound"] (defScope sCornerCleared) :=
  ⟨rfl, rfl, rfl, by decide +kernel, rfl, by decide +kernel, by decide +kernel⟩
theorem dCornerCleared (T : Tx K mg) (DColumnCleared : Def P w K mg base CX0 3 "_column_cleared" ["rows", "bound"] (spColC K)) (DColumns : Def P w K mg base CX0 1 "_columns" ["rows"] spColsL) : Def P w K mg base CX0 4 "_corner_cleared" ["rows", "bound"] (spCorner K) := by
  refine T.t_corner_cleared.def_ (N := ["rows", "bound", "number"]) scCornerCleared (fun _ _ _ _ _ _ us hl => match us, hl with | [_, _], _ => rfl) ?_ ?_
  · intro vs H Q E h
    obtain ⟨a, us, R, c, b, A, rfl, _⟩ := h
    rfl
  · intro f cd A out s H vs Q E hr h
    have hr1 : Rm 3 _ := hr.le (by decide)
    obtain ⟨a, us, R, c, b, A, rfl, ha, fA, hR, rc, r1, r60, c1, c60, ib, t0, b8, q⟩ := h
    refine ⟨_, (pss_cons (ps_set (i := 0) scCornerCleared.nd rfl (Or.inl rfl) (pe_d DColumnCleared (hr1.le (by decide)) pass0 (pa_cons (pv 0) (pa_cons (pv 1) pa_nil))))
      (pss_cons (ps_while PassesOwn.never (pt_val (pe_callB (cr_any rfl) rfl T.f_any (by decide +kernel) (pa_cons (pe_lc (own := [("number", 2)]) (g := gName 2) (tt := tYes) rfl scCornerCleared.nd (pi_list (pe_slice sl_list (pe_ix ix_list (pv 0) pe_int (fun _ _ => rfl)) (po_some pe_int) po_none)) (blkOk_by (N := ["rows", "bound", "number"]) (sc := defScope sCornerCleared) (by decide +kernel)) (fun _ _ _ _ _ => pg_name (i := 2) scCornerCleared.nd rfl (Or.inl rfl)) (fun _ _ _ _ _ => pts_nil) (fun _ _ _ _ _ => (pe_cmpR op_ne (pv 2) pe_int (nomark _)))) pa_nil)))
        (pss_one (ps_set (i := 0) scCornerCleared.nd rfl (Or.inl rfl) (pe_d DColumnCleared (hr1.le (by decide)) pass0 (pa_cons (pe_d DColumns (hr1.le (by decide)) pass0 (pa_cons (pv 0) pa_nil)) (pa_cons (pv 1) pa_nil))))))
      (pss_one (ps_ret (pv 0))))), ?_⟩
    refine ⟨_, rfl, _, rfl, a, us, R, c, b, A, rfl, ha, fA, hR, rc, r1, r60, c1, c60, ib, t0, b8, fun H1 x0 ws0 X0 s1 hx0 hX0 C0 => ?_⟩
    refine while_by (fun σ H2 => Same H H2 ∧ ∃ (x : Addr) (ws : List V) (X : List (List Int)) (r' c' : Nat) (y : Option V), σ = [some (.ref x), some (.int (b : Int)), y] ∧ H2 x = some (.lst ws) ∧ LLp A H2 ws X ∧ (r' = R.length ∧ c' = c ∨ r' = c ∧ c' = R.length) ∧
        X.length = r' ∧ Rect X c' ∧ InB b X ∧ 0 < mat X 0 0 ∧ (∀ i, 0 < i → i < r' → mat X i 0 = 0) ∧ ∀ (k : Nat) (g : Int), DT.P b R.length c k (mat R) g ↔ DT.P b r' c' k (mat X) g)
      (fun σ H2 => topM (topR H2 (σ.getD 0 none))) ⟨s1, x0, ws0, X0, R.length, c, _, rfl, hx0, hX0, .inl ⟨rfl, rfl⟩, C0.len, C0.rect, C0.inb, C0.pos, C0.zero, C0.same⟩ ?_ ?_
    · rintro σ H2 ⟨s2, x, ws, X, r', c', y, rfl, hx, hX, dm, lX, rX, iX, pX, zX, same⟩
      have r1' : 1 ≤ r' := by omega
      have c1' : 1 ≤ c' := by omega
      obtain ⟨u0, hu0, b0, rfl, A0, h0⟩ := paired_get hX (row_get (i := 0) (by omega))
      have lrow := rect_get rX (i := 0) (by omega)
      obtain ⟨row, hrow⟩ : ∃ row, row = X.getD 0 [] := ⟨_, rfl⟩
      rw [← hrow] at h0 lrow
      refine ⟨_, rfl, x, ws, _, .ref b0, rfl, rfl, .inl (.inl hx), atI_nat hu0, ?_⟩
      refine ⟨_, rfl, b0, _, rfl, .inl (.inl h0), fun F nF => ?_⟩
      rw [show cutV (row.map V.int) (some 1) none = (row.drop 1).map V.int by rw [List.map_drop]; exact cut_from _ 1]
      have s3 := s2.trans (same_new (o := .lst ((row.drop 1).map V.int)) nF)
      have hx3 := same_new (o := .lst ((row.drop 1).map V.int)) nF _ _ hx
      have hX3 := hX.same (same_new (o := .lst ((row.drop 1).map V.int)) nF)
      have hF3 : (upd H2 F (.lst ((row.drop 1).map V.int))) F = some (.lst ((row.drop 1).map V.int)) := upd_same
      have em : topR H2 (some (.ref x)) = row := by rw [hrow]; exact topR_eq hx hX.ll (by omega)
      generalize upd H2 F _ = H3 at s3 hx3 hX3 hF3 ⊢
      refine ⟨F, rfl, ⟨_, .inl (.inl hF3)⟩, fun D nD => ?_⟩
      refine lc_list (K := K) (a := F) (xs := (row.drop 1).map V.int) (Pv := fun i H' => Same H3 H' ∧ H' D = some (.lst ((((row.drop 1).take i).map fun n => !decide (n = 0)).map V.bl))) ⟨same_new nD, upd_same⟩ (fun i H' _ e => .inl (.inl (e.1 _ _ hF3))) ?_ ?_
      · rintro i v H' hv ⟨s4, hD⟩
        obtain ⟨n, hn, rfl⟩ := map_int hv
        have ln := (List.getElem?_eq_some_iff.mp hn).1
        rw [List.length_drop] at ln
        refine ⟨wipe_one, yes_ ?_⟩
        refine ⟨_, rfl, rfl, _, hD, ?_, ?_, ?_⟩
        · rw [List.length_map, List.length_map, List.length_take, List.length_drop, sizeLine_eq]
          omega
        · intro k o e
          rw [upd_ne (ne_of_none e nD)]
          exact s4 _ _ e
        · rw [upd_same, List.take_add_one, hn, List.map_append, List.map_append]
          refine congrArg (fun z => some (HO.lst (_ ++ [z]))) ?_
          show V.bl (!decide (V.int n = V.int 0)) = V.bl (!decide (n = 0))
          by_cases z : n = 0
          · rw [decide_eq_true z, decide_eq_true (congrArg V.int z)]
          · rw [decide_eq_false z, decide_eq_false fun h => z (V.int.inj h)]
      rintro H4 ⟨s4, hD⟩
      rw [List.length_map, List.take_length] at hD
      refine ⟨D, _, rfl, .inl (.inl hD), _, rfl, ?_⟩
      have s4' := s4
      replace s4 := s3.trans s4
      have r6 : X.length ≤ 60 := by omega
      have c6 : c' ≤ 60 := by omega
      by_cases nz : ((row.drop 1).map fun n => !decide (n = 0)).any id = true
      · refine ifT nz ?_
        refine ⟨_, rfl, x, ws, X, c', rfl, s4' _ _ hx3, (hX3.same s4').ll, rX, by omega, r6, c6, fun H5 T us5 s5 fT hT hU => ?_⟩
        have p5 : 0 < mat (cols X c') 0 0 := by
          rw [cols_mat (by omega) (by omega)]
          exact pX
        refine ⟨_, rfl, T, us5, cols X c', X.length, b, A, rfl, hT, fun b h => fA b ((s4.trans s5).free h), Paired.mapP hU fun _ _ ⟨b, e, n, hb⟩ => ⟨b, e, fA b (s4.free n), hb⟩, cols_rect _ _, by rw [cols_len]; exact c1', by rw [cols_len]; exact c6, by omega, r6, cols_in rX iX, p5, b8, fun H6 z ws6 Z s6 hz hZ C6 => ?_⟩
        have lZ := C6.len
        rw [cols_len] at lZ
        refine ⟨⟨(s4.trans s5).trans s6, z, ws6, Z, c', X.length, y, rfl, hz, hZ, by omega, lZ, C6.rect, C6.inb, C6.pos, by have := C6.zero; rwa [cols_len] at this, fun k g => ?_⟩, ?_⟩
        · rw [same k g, ← lX, P_cols_iff]
          have := C6.same k g
          rwa [cols_len] at this
        · show topM (topR H6 (some (.ref z))) < topM (topR H2 (some (.ref x)))
          rw [em, topR_eq hz hZ.ll (by omega)]
          have old : topM row = 2 * (row.getD 0 0).toNat + 1 := by
            unfold topM
            rw [if_neg]
            intro al
            obtain ⟨v, hv, e⟩ := List.any_eq_true.mp nz
            obtain ⟨n, hn, rfl⟩ := List.mem_map.mp hv
            have := eq_of_beq (List.all_eq_true.mp al n hn)
            rw [decide_eq_true this] at e
            exact absurd e (by decide)
          have r00 : mat X 0 0 = row.getD 0 0 := by rw [hrow]; rfl
          have g0 : mat (cols X c') 0 0 = row.getD 0 0 := by rw [cols_mat (by omega) (by omega), r00]
          rw [old]
          rcases C6.top with e | e
          · rw [e, cols_getD (by omega)]
            unfold topM
            have l0 : (X.map fun row => row.getD 0 0).getD 0 0 = row.getD 0 0 := by
              rw [← cols_getD (by omega : 0 < c')]
              exact g0
            rw [if_pos, l0]
            · omega
            · rw [List.all_eq_true]
              intro v hv
              obtain ⟨j, hj, rfl⟩ := List.mem_iff_getElem.mp hv
              rw [List.getElem_drop, List.getElem_map]
              rw [List.length_drop, List.length_map] at hj
              have := zX (1 + j) (by omega) (by omega)
              have hj2 : 1 + j < X.length := by omega
              unfold mat at this
              rw [show X.getD (1 + j) [] = X[1 + j] by rw [List.getD, List.getElem?_eq_getElem hj2]; rfl] at this
              rw [this]
              rfl
          · rw [g0] at e
            have e2 : (Z.getD 0 []).getD 0 0 = mat Z 0 0 := rfl
            have pz := C6.pos
            unfold topM
            rw [e2]
            split <;> omega
      · refine ifF (Bool.eq_false_iff.mpr nz) ?_
        refine ⟨_, rfl, q H4 x ws X r' c' s4 (s4' _ _ hx3) (hX3.same s4') ⟨dm, lX, rX, iX, pX, zX, fun j j0 jc => ?_, same⟩⟩
        refine Classical.byContradiction fun ne => nz ?_
        rw [List.any_eq_true]
        refine ⟨true, List.mem_map.mpr ⟨row.getD j 0, ?_, ?_⟩, rfl⟩
        · rw [List.mem_iff_getElem]
          refine ⟨j - 1, by rw [List.length_drop]; omega, ?_⟩
          rw [List.getElem_drop, List.getD, List.getElem?_eq_getElem (by omega), Option.getD_some]
          congr 1
          omega
        · have : mat X 0 j = row.getD j 0 := by rw [hrow]; rfl
          rw [← this, decide_eq_false ne]
          rfl
    · rintro σ H2 Q1 Q2 m ⟨v0, hv0, l, xs, k0, y0, e1, e2, S1, at1, p0, hp, l2, xs2, e3, S2, h⟩
      refine ⟨v0, hv0, l, xs, k0, y0, e1, e2, S1, at1, p0, hp, l2, xs2, e3, S2, fun F nF => ?_⟩
      obtain ⟨l3, e4, S3, h2⟩ := h F nF
      refine ⟨l3, e4, S3, fun D nD => ?_⟩
      obtain ⟨W, i0, st⟩ := h2 D nD
      refine ⟨W, i0, fun i k H w => ?_⟩
      rcases st i k H w with ⟨s, a5, bs, e5, S5, c5, e6, q5⟩ | z
      · exact .inl ⟨s, a5, bs, e5, S5, c5, e6, m _ _ q5⟩
      · exact .inr z
end
end K02


set_option Elab.async false
set_option linter.all false
set_option maxRecDepth 100000
set_option maxHeartbeats 8000000
namespace K02
open LS
open PySem PySem.Spec PyProof.Rows L2 MM
/-! own words for the readings: a step, its side -/
local macro_rules | `(tactic| walk_at "side") => `(tactic| first
  | omega
  | exact ⟨by omega, by omega⟩
  | exact Or.inl ⟨by omega, by omega⟩
  | exact Or.inr ⟨by omega, by omega⟩
  | (show CPw _ _; decide +kernel)
  | (show (0 : Int) < _; decide +kernel)
  | (show CDivW _ _; first | assumption | exact ⟨by decide, by decide +kernel⟩))
local macro_rules | `(tactic| walk_at "here") => `(tactic| first
  | assumption
  | exact upd_same
  | exact Or.inl (Or.inl upd_same)
  | exact Or.inl upd_same)
local macro_rules | `(tactic| walk_at "one") => `(tactic| first
  | refine ⟨_, rfl, ?_⟩
  | refine Or.inl ⟨_, rfl, ?_⟩
  | refine Or.inr ⟨_, rfl, ?_⟩
  | refine ⟨_, _, rfl, rfl, (by walk_at "side"), ?_⟩
  | refine ⟨_, _, rfl, rfl, ?_⟩
  | refine ⟨_, _, rfl, Or.inl (by walk_at "here"), ?_⟩
  | refine ⟨_, _, rfl, Or.inr (by walk_at "here"), ?_⟩
  | refine ⟨_, _, rfl, (by walk_at "here"), ?_⟩
  | refine ⟨_, _, _, _, rfl, rfl, (by walk_at "here"), rfl, ?_⟩
  | refine ⟨_, _, rfl, ?_⟩
  | refine ifT (by rfl) ?_
  | refine ifF (by rfl) ?_
  | refine ifT (decide_eq_true (by omega)) ?_
  | refine ifF (decide_eq_false (by omega)) ?_)
local macro_rules | `(tactic| walk_at "st") => `(tactic| repeat (walk_at "one"))

section
variable {P : Program} {w : World} {K : PySem.W.Frag} {mg : Str → Option Value} {base : Heap}
def spPlace : Sp := fun vs H Q _ => ∃ (a : Addr) (us : List V) (R : List (List Int)) (c : Nat), vs = [.ref a] ∧ H a = some (.lst us) ∧ LL H us R ∧ Rect R c ∧ R.length ≤ 60 ∧ c ≤ 60 ∧
  (∀ H' p i j, Same H H' → H' p = some (.tup [.int ((i : Nat) : Int), .int ((j : Nat) : Int)]) → i < R.length → j < c → mat R i j ≠ 0 → Q (.ref p) H') ∧
  ((∀ i, i < R.length → ∀ j, j < c → mat R i j = 0) → ∀ H', Same H H' → Q .non H')
theorem scLeadPlace : FnScope ["rows", "at", "row", "column", "number"] ["rows"] (defScope sLeadPlace) :=
  ⟨rfl, rfl, rfl, by decide +kernel, rfl, by decide +kernel, by decide +kernel⟩
theorem dLeadPlace (T : Tx K mg) : Def P w K mg base CX0 1 "_lead_place" ["rows"] spPlace := by
  refine T.t_lead_place.def_ (N := ["rows", "at", "row", "column", "number"]) scLeadPlace (fun _ _ _ _ _ _ us hl => match us, hl with | [_], _ => rfl) ?_ ?_
  · intro vs H Q E h
    obtain ⟨a, us, R, c, rfl, _⟩ := h
    rfl
  · intro f cd A out s H vs Q E hr h
    obtain ⟨a, us, R, c, rfl, ha, hR, rc, r60, c60, q1, q2⟩ := h
    refine ⟨_, (pss_cons (ps_for PassesOwn.never rfl (pi_enum rfl T.f_enumerate (pa_cons (pv 0) pa_nil)) (pg_tup rfl (pgs_cons (pg_name (i := 1) scLeadPlace.nd rfl (Or.inl rfl)) (pgs_cons (pg_name (i := 2) scLeadPlace.nd rfl (Or.inl rfl)) pgs_nil)))
        (pss_one (ps_for PassesOwn.never rfl (pi_enum rfl T.f_enumerate (pa_cons (pv 2) pa_nil)) (pg_tup rfl (pgs_cons (pg_name (i := 3) scLeadPlace.nd rfl (Or.inl rfl)) (pgs_cons (pg_name (i := 4) scLeadPlace.nd rfl (Or.inl rfl)) pgs_nil)))
          (pss_one (ps_if (pt_cmpR op_ne (pv 4) pe_int (nomark _)) (pss_one (ps_ret (pe_tup (pa_cons (pv 1) (pa_cons (pv 3) pa_nil))))) pss_nil)))))
      (pss_one (ps_ret pe_non))), ?_⟩
    have lu := hR.len
    refine ⟨_, rfl, a, us, rfl, .inl (.inl ha), for_enumL (K := K) (a := a) (xs := us) (fun i σ H' => Same H H' ∧ (∀ k, k < i → ∀ j, j < c → mat R k j = 0) ∧ ∃ y1 y2 y3 y4, σ = [some (.ref a), y1, y2, y3, y4])
      ⟨Same.refl _, fun k h => by omega, _, _, _, _, rfl⟩ (fun i σ H' _ h => .inl (.inl (h.1 _ _ ha))) ?_ ?_⟩
    · rintro i x σ H' T hx ⟨s1, z, y1, y2, y3, y4, rfl⟩ nT
      obtain ⟨row, hrow, b, rfl, hb⟩ := paired_at hR hx
      have li := (List.getElem?_eq_some_iff.mp hrow).1
      have lrow : row.length = c := rc row (List.mem_of_getElem? hrow)
      have erow : row = R.getD i [] := by rw [List.getD, hrow]; rfl
      have s2 := s1.trans (same_new (o := .tup [.int (i : Int), .ref b]) nT)
      refine ⟨T, _, rfl, .inl (.inl upd_same), rfl, _, _, rfl, ?_⟩
      refine ⟨_, _, rfl, rfl, ?_⟩
      generalize upd H' T _ = H1 at s2 ⊢
      refine ⟨_, rfl, b, _, rfl, .inl (.inl (s2 _ _ hb)), for_enumL (K := K) (a := b) (xs := row.map V.int) (fun j σ H' => Same H H' ∧ (∀ k, k < j → mat R i k = 0) ∧ ∃ y3 y4, σ = [some (.ref a), some (.int (i : Int)), some (.ref b), y3, y4])
        ⟨s2, fun k h => by omega, _, _, rfl⟩ (fun j σ H' _ h => .inl (.inl (h.1 _ _ hb))) ?_ ?_⟩
      · rintro j x σ H2 U hx ⟨s3, zz, y3, y4, rfl⟩ nU
        obtain ⟨n, hn, rfl⟩ := map_int hx
        have lj := (List.getElem?_eq_some_iff.mp hn).1
        have em : mat R i j = n := by
          unfold mat
          rw [← erow, List.getD, hn]
          rfl
        have s4 := s3.trans (same_new (o := .tup [.int (j : Int), .int n]) nU)
        refine ⟨U, _, rfl, .inl (.inl upd_same), rfl, _, _, rfl, ?_⟩
        refine ⟨_, _, rfl, rfl, ?_⟩
        generalize upd H2 U _ = H3 at s4 ⊢
        refine ⟨_, rfl, rfl, _, rfl, ?_⟩
        by_cases e : n = 0
        · refine ifF (by show (!decide (V.int n = V.int 0)) = false; rw [decide_eq_true (congrArg V.int e)]; rfl) ?_
          refine ⟨s4, fun k hk => ?_, _, _, rfl⟩
          by_cases c1 : k = j
          · rw [c1, em, e]
          · exact zz k (by omega)
        · refine ifT (by show (!decide (V.int n = V.int 0)) = true; rw [decide_eq_false fun h => e (V.int.inj h)]; rfl) ?_
          refine ⟨_, rfl, _, rfl, by show 2 ≤ sizeLine; decide, fun p np => ?_⟩
          exact q1 _ p i j (s4.trans (same_new np)) upd_same li (by omega) (by rw [em]; exact e)
      · rintro σ H2 ⟨s3, zz, y3, y4, rfl⟩
        rw [List.length_map] at zz
        refine ⟨s3, fun k hk j hj => ?_, _, _, _, _, rfl⟩
        by_cases c1 : k = i
        · rw [c1]
          exact zz j (by omega)
        · exact z k (by omega) j hj
    · rintro σ H' ⟨s1, z, y1, y2, y3, y4, rfl⟩
      exact q2 (fun i hi j hj => z i (by omega) j hj) _ s1
end
end K02


set_option Elab.async false
set_option linter.all false
set_option maxRecDepth 100000
set_option maxHeartbeats 8000000
namespace K02
open LS
open PySem PySem.Spec PyProof.Rows L2 MM
/-! own words for the readings: a step, its side -/
local macro_rules | `(tactic| walk_at "side") => `(tactic| first
  | omega
  | exact ⟨by omega, by omega⟩
  | exact Or.inl ⟨by omega, by omega⟩
  | exact Or.inr ⟨by omega, by omega⟩
  | (show CPw _ _; decide +kernel)
  | (show (0 : Int) < _; decide +kernel)
  | (show CDivW _ _; first | assumption | exact ⟨by decide, by decide +kernel⟩))
local macro_rules | `(tactic| walk_at "here") => `(tactic| first
  | assumption
  | exact upd_same
  | exact Or.inl (Or.inl upd_same)
  | exact Or.inl upd_same)
local macro_rules | `(tactic| walk_at "one") => `(tactic| first
  | refine ⟨_, rfl, ?_⟩
  | refine Or.inl ⟨_, rfl, ?_⟩
  | refine Or.inr ⟨_, rfl, ?_⟩
  | refine ⟨_, _, rfl, rfl, (by walk_at "side"), ?_⟩
  | refine ⟨_, _, rfl, rfl, ?_⟩
  | refine ⟨_, _, rfl, Or.inl (by walk_at "here"), ?_⟩
  | refine ⟨_, _, rfl, Or.inr (by walk_at "here"), ?_⟩
  | refine ⟨_, _, rfl, (by walk_at "here"), ?_⟩
  | refine ⟨_, _, _, _, rfl, rfl, (by walk_at "here"), rfl, ?_⟩
  | refine ⟨_, _, rfl, ?_⟩
  | refine ifT (by rfl) ?_
  | refine ifF (by rfl) ?_
  | refine ifT (decide_eq_true (by omega)) ?_
  | refine ifF (decide_eq_false (by omega)) ?_)
local macro_rules | `(tactic| walk_at "st") => `(tactic| repeat (walk_at "one"))

section
variable {P : Program} {w : World} {K : PySem.W.Frag} {mg : Str → Option Value} {base : Heap}
theorem Ch_k0 {b : Int} {r c : Nat} {A : DT.M} : DT.Ch b r c 0 A 1 := by
  intro g
  constructor
  · intro h
    have := h 0 (Nat.le_refl _) (fun _ => 0) (fun _ => 0) (fun _ h => absurd h (Nat.not_lt_zero _)) (fun _ h => absurd h (Nat.not_lt_zero _))
    have e : b ^ (0 - 0) * DT.det 0 (fun p q => A 0 0) = 1 := by simp [DT.det]
    rw [e] at this
    have := Int.natAbs_dvd_natAbs.mpr this
    simpa using this
  · intro h j jk R C hR hC
    obtain rfl : j = 0 := by omega
    have : g = 1 := Nat.dvd_one.mp h
    rw [this]
    exact ⟨_, (Int.one_mul _).symm⟩
theorem Ch_empty {b r c k : Nat} {A : DT.M} (h : r = 0 ∨ c = 0) : DT.Ch (b : Int) r c k A (b ^ k) := by
  intro g
  constructor
  · intro p
    have := p 0 (Nat.zero_le _) (fun _ => 0) (fun _ => 0) (fun _ h => absurd h (Nat.not_lt_zero _)) (fun _ h => absurd h (Nat.not_lt_zero _))
    have e : (b : Int) ^ (k - 0) * DT.det 0 (fun p q => A 0 0) = ((b ^ k : Nat) : Int) := by simp [DT.det]
    rw [e] at this
    exact Int.ofNat_dvd.mp this
  · intro d j jk R C hR hC
    cases j with
    | zero =>
      have e : (b : Int) ^ (k - 0) * DT.det 0 (fun p q => A (R p) (C q)) = ((b ^ k : Nat) : Int) := by simp [DT.det]
      rw [e]
      exact Int.ofNat_dvd.mpr d
    | succ j =>
      have h1 := hR 0 (Nat.zero_lt_succ _)
      have h2 := hC 0 (Nat.zero_lt_succ _)
      omega
theorem Ch_of {b r c r' c' k E : Nat} {A A' : DT.M} (h : ∀ g : Int, DT.P b r c k A g ↔ DT.P b r' c' k A' g) (ch : DT.Ch b r' c' k A' E) : DT.Ch b r c k A E := fun g => (h g).trans (ch g)
theorem F_block {b r c : Nat} {A : DT.M} {es : List Nat} (h0 : ∀ q, q < c → A 0 (q + 1) = 0) (h1 : ∀ p, p < r → A (p + 1) 0 = 0) (h : ∀ k, DT.Ch (b : Int) r c k (fun p q => A (p + 1) (q + 1)) (DT.F b es k)) :
    ∀ k, DT.Ch (b : Int) (r + 1) (c + 1) k A (DT.F b (Nat.gcd (A 0 0).natAbs b :: es) k)
  | 0 => Ch_k0
  | k + 1 => by
    have := DT.Ch_block h0 h1 (h k) (h (k + 1))
    rw [DT.gcd_bound (DT.F_mul b es k)] at this
    exact this
/-- without the first row and column -/
def tailR (X : List (List Int)) : List (List Int) := (X.drop 1).map (List.drop 1)
theorem drop_getD {xs : List Int} {q : Nat} : (xs.drop 1).getD q 0 = xs.getD (q + 1) 0 := by
  rw [List.getD, List.getElem?_drop, Nat.add_comm, ← List.getD]
theorem mat_tail (X : List (List Int)) (p q : Nat) : mat (tailR X) p q = mat X (p + 1) (q + 1) := by
  have e : (tailR X).getD p [] = (X.getD (p + 1) []).drop 1 := by
    unfold tailR
    rw [List.getD, List.getElem?_map, List.getElem?_drop, Nat.add_comm 1 p, List.getD]
    cases X[p + 1]? <;> rfl
  unfold mat
  rw [e, drop_getD]
theorem tail_len (X : List (List Int)) : (tailR X).length = X.length - 1 := by
  unfold tailR
  rw [List.length_map, List.length_drop]
theorem tail_rect {X : List (List Int)} {c : Nat} (h : Rect X c) : Rect (tailR X) (c - 1) := by
  intro row hr
  obtain ⟨r, hr2, rfl⟩ := List.mem_map.mp hr
  rw [List.length_drop, h r (List.mem_of_mem_drop hr2)]
theorem tail_in {X : List (List Int)} {b : Nat} (h : InB b X) : InB b (tailR X) := by
  intro row hr x hx
  obtain ⟨r, hr2, rfl⟩ := List.mem_map.mp hr
  exact h r (List.mem_of_mem_drop hr2) x (List.mem_of_mem_drop hx)
/-- row i to the front -/
def frontI (i p : Nat) : Nat := if p = 0 then i else if p ≤ i then p - 1 else p
def frontO (i p : Nat) : Nat := if p = i then 0 else if p < i then p + 1 else p
theorem frontIO (i p : Nat) : frontI i (frontO i p) = p := by
  unfold frontO
  split
  · unfold frontI
    rw [if_pos rfl]
    omega
  · split
    · unfold frontI
      rw [if_neg (by omega), if_pos (by omega)]
      omega
    · unfold frontI
      rw [if_neg (by omega), if_neg (by omega)]
theorem frontI_lt {i p n : Nat} (hi : i < n) (h : p < n) : frontI i p < n := by
  unfold frontI
  split
  · exact hi
  · split <;> omega
theorem frontO_lt {i p n : Nat} (hi : i < n) (h : p < n) : frontO i p < n := by
  unfold frontO
  split
  · omega
  · split <;> omega
def frontL {α : Type} (l : List α) (i : Nat) (x : α) : List α := x :: (l.take i ++ l.drop (i + 1))
theorem frontL_len {α : Type} {l : List α} {i : Nat} {x : α} (h : i < l.length) : (frontL l i x).length = l.length := by
  unfold frontL
  rw [List.length_cons, List.length_append, List.length_take, List.length_drop]
  omega
theorem frontL_get {α : Type} {l : List α} {i p : Nat} {x d : α} (h : i < l.length) (hx : l.getD i d = x) (hp : p < l.length) : (frontL l i x).getD p d = l.getD (frontI i p) d := by
  unfold frontI
  cases p with
  | zero => rw [if_pos rfl, hx]; rfl
  | succ p =>
    rw [if_neg (by omega)]
    show (l.take i ++ l.drop (i + 1)).getD p d = _
    rw [List.getD, List.getElem?_append, List.length_take]
    by_cases c : p + 1 ≤ i
    · rw [if_pos (by omega), if_pos c, List.getElem?_take, if_pos (by omega), Nat.add_sub_cancel]
      rfl
    · rw [if_neg (by omega), if_neg c, List.getElem?_drop, List.getD, show i + 1 + (p - min i l.length) = p + 1 by omega]
theorem frontL_mem {α : Type} {l : List α} {i : Nat} {x : α} (hx : x ∈ l) : ∀ z ∈ frontL l i x, z ∈ l := by
  intro z hz
  rcases List.mem_cons.mp hz with rfl | hz
  · exact hx
  · rcases List.mem_append.mp hz with hz | hz
    · exact List.mem_of_mem_take hz
    · exact List.mem_of_mem_drop hz
/-- a row and a column to the front -/
def frontM (X : List (List Int)) (i j : Nat) : List (List Int) := (frontL X i (X.getD i [])).map fun row => frontL row j (row.getD j 0)
theorem frontM_mat {X : List (List Int)} {c i j p q : Nat} (rc : Rect X c) (hi : i < X.length) (hj : j < c) (hp : p < X.length) (hq : q < c) : mat (frontM X i j) p q = mat X (frontI i p) (frontI j q) := by
  have l := frontI_lt hi hp
  have e : (frontM X i j).getD p [] = frontL (X.getD (frontI i p) []) j ((X.getD (frontI i p) []).getD j 0) := by
    unfold frontM
    rw [List.getD, List.getElem?_map, row_get (by rw [frontL_len hi]; exact hp), frontL_get hi rfl hp]
    rfl
  have lr := rect_get rc l
  unfold mat
  rw [e, frontL_get (by omega) rfl (by omega)]
theorem frontM_len {X : List (List Int)} {i j : Nat} (hi : i < X.length) : (frontM X i j).length = X.length := by
  unfold frontM
  rw [List.length_map, frontL_len hi]
theorem frontM_rect {X : List (List Int)} {c i j : Nat} (rc : Rect X c) (hi : i < X.length) (hj : j < c) : Rect (frontM X i j) c := by
  intro row hr
  obtain ⟨r, hr2, rfl⟩ := List.mem_map.mp hr
  have := rc r (frontL_mem (row_mem hi) r hr2)
  rw [frontL_len (by omega), this]
theorem frontM_in {X : List (List Int)} {c b i j : Nat} (rc : Rect X c) (hi : i < X.length) (hj : j < c) (h : InB b X) : InB b (frontM X i j) := by
  intro row hr x hx
  obtain ⟨r, hr2, rfl⟩ := List.mem_map.mp hr
  have m := frontL_mem (row_mem hi) r hr2
  have := rc r m
  exact h r m x (frontL_mem (mem_mem (by omega)) x hx)
theorem frontM_P {X : List (List Int)} {c i j k : Nat} {b g : Int} (rc : Rect X c) (hi : i < X.length) (hj : j < c) : DT.P b X.length c k (mat X) g ↔ DT.P b X.length c k (mat (frontM X i j)) g := by
  constructor
  · intro h
    exact DT.P_congr (fun p hp q hq => (frontM_mat rc hi hj hp hq).symm) (DT.P_cols (frontI j) (fun q hq => frontI_lt hj hq) (DT.P_rows (frontI i) (fun p hp => frontI_lt hi hp) h))
  · intro h
    refine DT.P_congr (fun p hp q hq => ?_) (DT.P_cols (frontO j) (fun q hq => frontO_lt hj hq) (DT.P_rows (frontO i) (fun p hp => frontO_lt hi hp) h))
    rw [frontM_mat rc hi hj (frontO_lt hi hp) (frontO_lt hj hq), frontIO, frontIO]
def spDiag (K : PySem.W.Frag) : Sp := fun vs H Q _ => ∃ (a : Addr) (us : List V) (R : List (List Int)) (c b : Nat), vs = [.ref a, .int (b : Int)] ∧ H a = some (.lst us) ∧ LL H us R ∧ Rect R c ∧ R.length ≤ 60 ∧ c ≤ 60 ∧ InB b R ∧ 0 < b ∧ b < 2 ^ 4000 ∧
  ∀ H' r ds, Same H H' → H' r = some (.lst (nv ds)) → ds.length = min R.length c → (∀ d ∈ ds, d ∣ b) → (∀ k, DT.Ch (b : Int) R.length c k (mat R) (DT.F b ds k)) → Q (.ref r) H'
theorem scDiagonal : FnScope ["rows", "bound", "found", "place", "row", "at", "column", "ordered"] ["rows", "bound"] (defScope sDiagonal) :=
  ⟨rfl, rfl, rfl, by decide +kernel, rfl, by decide +kernel, by decide +kernel⟩
theorem dDiagonal (T : Tx K mg) (DLeadPlace : Def P w K mg base CX0 1 "_lead_place" ["rows"] spPlace) (DCornerCleared : Def P w K mg base CX0 4 "_corner_cleared" ["rows", "bound"] (spCorner K)) : Def P w K mg base CX0 5 "_diagonal" ["rows", "bound"] (spDiag K) := by
  refine T.t_diagonal.def_ (N := ["rows", "bound", "found", "place", "row", "at", "column", "ordered"]) scDiagonal (fun _ _ _ _ _ _ us hl => match us, hl with | [_, _], _ => rfl) ?_ ?_
  · intro vs H Q E h
    obtain ⟨a, us, R, c, b, rfl, _⟩ := h
    rfl
  · intro f cd A out s H vs Q E hr h
    have hr1 : Rm 4 _ := hr.le (by decide)
    obtain ⟨a, us, R, c, b, rfl, ha, hR, rc, r60, c60, ib, b0, b8, q⟩ := h
    refine ⟨_, (pss_cons (ps_set (i := 2) scDiagonal.nd rfl (Or.inl rfl) (pe_lst pa_nil))
      (pss_cons (ps_while PassesOwn.never (PW.pt (pw_and (pt_cmpR op_gt (pe_callB call_len_seq rfl T.f_len (by decide +kernel) (pa_cons (pv 0) pa_nil)) pe_int (nomark _)) (pw_and1 (pt_cmpR op_gt (pe_callB call_len_seq rfl T.f_len (by decide +kernel) (pa_cons (pe_ix ix_list (pv 0) pe_int (fun _ _ => rfl)) pa_nil)) pe_int (nomark _)))))
        (pss_cons (ps_set (i := 3) scDiagonal.nd rfl (Or.inl rfl) (pe_d DLeadPlace (hr1.le (by decide)) pass0 (pa_cons (pv 0) pa_nil)))
        (pss_one (ps_if (pt_cmpR op_isN (pv 3) pe_non (nomark _)) (pss_cons (ps_expr (pe_bm PySem.F.plainAttrs_list PySem.F.slot_list_append PySem.F.type_list_append mt_append (pv 2) (pa_cons (pv 1) pa_nil)))
          (pss_one (ps_setLc (i := 0) (own := [("row", 4)]) (g := gName 4) (tt := tYes) rfl scDiagonal.nd rfl rfl (sw_true rfl rfl rfl rfl) (pi_list (pe_slice sl_list (pv 0) (po_some pe_int) po_none)) (blkOk_by (N := ["rows", "bound", "found", "place", "row", "at", "column", "ordered"]) (sc := defScope sDiagonal) (by decide +kernel)) (fun _ _ _ _ _ => pg_name (i := 4) scDiagonal.nd rfl (Or.inl rfl)) (fun _ _ _ _ _ => pts_nil) (fun _ _ _ _ _ => (pe_slice (show SlR _ (rSlL K) from sl_list) (pv 4) (po_some pe_int) po_none))))) (pss_cons (ps_asg (pv 3) (pg_tup rfl (pgs_cons (pg_name (i := 5) scDiagonal.nd rfl (Or.inl rfl)) (pgs_cons (pg_name (i := 6) scDiagonal.nd rfl (Or.inr rfl)) pgs_nil))))
          (pss_cons (ps_set (i := 7) scDiagonal.nd rfl (Or.inl rfl) (pe_op op_cat (pe_op op_cat (pe_lst (pa_cons (pe_ix ix_list (pv 0) (pv 5) (fun _ _ => rfl)) pa_nil)) (pe_slice sl_list (pv 0) po_none (po_some (pv 5)))) (pe_slice sl_list (pv 0) (po_some (pe_op op_add (pv 5) pe_int)) po_none)))
          (pss_cons (ps_setLc (i := 0) (own := [("row", 4)]) (g := gName 4) (tt := tYes) rfl scDiagonal.nd rfl rfl (sw_true rfl rfl rfl rfl) (pi_list (pv 7)) (blkOk_by (N := ["rows", "bound", "found", "place", "row", "at", "column", "ordered"]) (sc := defScope sDiagonal) (by decide +kernel)) (fun _ _ _ _ _ => pg_name (i := 4) scDiagonal.nd rfl (Or.inl rfl)) (fun _ _ _ _ _ => pts_nil) (fun _ _ _ _ _ => (pe_op op_cat (pe_op op_cat (pe_lst (pa_cons (pe_ix (show IxR _ (rIxL K) from ix_list) (pv 4) (pv 6) (fun _ _ => rfl)) pa_nil)) (pe_slice (show SlR _ (rSlL K) from sl_list) (pv 4) po_none (po_some (pv 6)))) (pe_slice (show SlR _ (rSlL K) from sl_list) (pv 4) (po_some (pe_op op_add (pv 6) pe_int)) po_none))))
          (pss_cons (ps_set (i := 0) scDiagonal.nd rfl (Or.inl rfl) (pe_d DCornerCleared (hr1.le (by decide)) pass0 (pa_cons (pv 0) (pa_cons (pv 1) pa_nil))))
          (pss_cons (ps_expr (pe_bm PySem.F.plainAttrs_list PySem.F.slot_list_append PySem.F.type_list_append mt_append (pv 2) (pa_cons (pe_callBfun cr_gcd rfl T.b_gcd (pa_cons (pe_ix ix_list (pe_ix ix_list (pv 0) pe_int (fun _ _ => rfl)) pe_int (fun _ _ => rfl)) (pa_cons (pv 1) pa_nil))) pa_nil)))
          (pss_one (ps_setLc (i := 0) (own := [("row", 4)]) (g := gName 4) (tt := tYes) rfl scDiagonal.nd rfl rfl (sw_true rfl rfl rfl rfl) (pi_list (pe_slice sl_list (pv 0) (po_some pe_int) po_none)) (blkOk_by (N := ["rows", "bound", "found", "place", "row", "at", "column", "ordered"]) (sc := defScope sDiagonal) (by decide +kernel)) (fun _ _ _ _ _ => pg_name (i := 4) scDiagonal.nd rfl (Or.inl rfl)) (fun _ _ _ _ _ => pts_nil) (fun _ _ _ _ _ => (pe_slice (show SlR _ (rSlL K) from sl_list) (pv 4) (po_some pe_int) po_none)))))))))))))
      (pss_one (ps_ret (pv 2))))), ?_⟩
    refine ⟨by decide, fun D nD => ?_⟩
    have s1 := same_new (o := .lst []) nD
    have hD : (upd H D (.lst [])) D = some (.lst []) := upd_same
    generalize upd H D (.lst []) = H1 at s1 hD ⊢
    have keep : ∀ {H3 : Hp} {o : HO}, Same H H3 → Same H (upd H3 D o) := fun {H3 o} s b x e => by
      rw [upd_ne (ne_of_none e nD)]
      exact s _ _ e
    refine while_by (fun σ H' => Same H H' ∧ ∃ (x : Addr) (ws : List V) (X : List (List Int)) (r' c' : Nat) (ds : List Nat) (y3 y4 y5 y6 y7 : Option V), σ = [some (.ref x), some (.int (b : Int)), some (.ref D), y3, y4, y5, y6, y7] ∧ H' D = some (.lst (nv ds)) ∧ H' x = some (.lst ws) ∧ x ≠ D ∧
        LLa D H' ws X ∧ X.length = r' ∧ Rect X c' ∧ r' ≤ 60 ∧ c' ≤ 60 ∧ InB b X ∧ ds.length + min r' c' = min R.length c ∧ (∀ d ∈ ds, d ∣ b) ∧
        ∀ es : List Nat, (∀ k, DT.Ch (b : Int) r' c' k (mat X) (DT.F b es k)) → ∀ k, DT.Ch (b : Int) R.length c k (mat R) (DT.F b (ds ++ es) k))
      (fun _ H' => match H' D with | some (.lst xs) => 60 - xs.length | _ => 0)
      ⟨s1, a, us, R, R.length, c, [], _, _, _, _, _, rfl, hD, s1 _ _ ha, ne_of_none ha nD, (hR.la nD).same s1, rfl, rc, r60, c60, ib, Nat.zero_add _, (fun d h => by cases h), fun es h => h⟩ ?_ ?_
    · rintro σ H2 ⟨s2, x, ws, X, r', c', ds, y3, y4, y5, y6, y7, rfl, hD2, hx, xD, hX, lX, rX, r6, c6, iX, ln, dv, out⟩
      have lw := hX.len
      have fin : ∀ {H' : Hp}, Same H2 H' → (r' = 0 ∨ c' = 0) → Q (.ref D) H' := fun {H'} s3 z => by
        refine q H' D ds (s2.trans s3) (s3 _ _ hD2) (by rcases z with z | z <;> omega) dv fun k => ?_
        have := out [] (fun k => Ch_empty z) k
        rwa [List.append_nil] at this
      refine ⟨_, rfl, x, ws, rfl, .inl (.inl (.inl hx)), _, _, rfl, rfl, _, rfl, ?_⟩
      by_cases rz : r' = 0
      · refine ifF (decide_eq_false (by omega)) ?_
        refine ifF rfl ?_
        exact ⟨_, rfl, fin (Same.refl _) (.inl rz)⟩
      refine ifT (decide_eq_true (by omega)) ?_
      obtain ⟨u0, hu0, b00, rfl, aD0, h0⟩ := paired_get hX (row_get (i := 0) (by omega))
      have l0 := rect_get rX (i := 0) (by omega)
      refine ⟨_, rfl, x, ws, _, .ref b00, rfl, rfl, .inl (.inl hx), atI_nat (j := 0) hu0, b00, _, rfl, .inl (.inl (.inl h0)), _, _, rfl, rfl, _, rfl, ?_⟩
      rw [List.length_map, l0]
      by_cases cz : c' = 0
      · refine ifF (decide_eq_false (by omega)) ?_
        exact ⟨_, rfl, fin (Same.refl _) (.inr cz)⟩
      refine ifT (decide_eq_true (by omega)) ?_
      have lnv : (nv ds).length < 60 := by rw [nv_len]; omega
      have cdv : ∀ {d : Nat}, d ∣ b → ∀ e ∈ ds ++ [d], e ∣ b := fun {d} h e he => by
        rcases List.mem_append.mp he with he | he
        · exact dv e he
        · rw [List.mem_singleton.mp he]
          exact h
      have nvs : ∀ d : Nat, nv ds ++ [.int (d : Int)] = nv (ds ++ [d]) := fun d => by
        unfold nv
        rw [List.map_append]
        rfl
      refine ⟨_, rfl, x, ws, X, c', rfl, hx, hX.ll, rX, by omega, c6, fun H3 p i j s3 hp hi hj ne => ?_, fun z H3 s3 => ?_⟩
      · refine ⟨_, rfl, rfl, _, rfl, ?_⟩
        refine ifF rfl ?_
        refine ⟨_, rfl, p, _, rfl, .inl (.inl hp), rfl, _, _, rfl, ?_⟩
        refine ⟨_, _, rfl, rfl, ?_⟩
        obtain ⟨ui, hui, bi, rfl, aDi, hbi⟩ := paired_get hX (row_get (i := i) hi)
        have hX3 := hX.same s3
        have hx3 := s3 _ _ hx
        refine ⟨_, rfl, _, rfl, x, ws, _, .ref bi, rfl, rfl, .inl (.inl hx3), atI_nat hui, by show 1 ≤ sizeLine; decide, fun L nL => ?_⟩
        have sL := same_new (o := .lst [.ref bi]) nL
        have hL : (upd H3 L (.lst [.ref bi])) L = some (.lst [.ref bi]) := upd_same
        generalize upd H3 L _ = H4 at sL hL ⊢
        simp only [tNoPart]
        refine ⟨_, rfl, _, rfl, _, rfl, x, ws, rfl, .inl (.inl (sL _ _ hx3)), fun M nM => ?_⟩
        rw [cut_upto]
        have sM := same_new (o := .lst (ws.take i)) nM
        have hM : (upd H4 M (.lst (ws.take i))) M = some (.lst (ws.take i)) := upd_same
        have hL5 := sM _ _ hL
        generalize upd H4 M _ = H5 at sM hL5 hM ⊢
        refine ⟨L, M, _, _, rfl, rfl, hL5, hM, by rw [List.length_take, sizeLine_eq]; show 1 + _ ≤ _; omega, fun N nN => ?_⟩
        have sN := same_new (o := .lst ([.ref bi] ++ ws.take i)) nN
        have hN : (upd H5 N (.lst ([.ref bi] ++ ws.take i))) N = some (.lst ([.ref bi] ++ ws.take i)) := upd_same
        generalize upd H5 N _ = H6 at sN hN ⊢
        have s36 := (sL.trans sM).trans sN
        refine ⟨_, rfl, _, rfl, _, _, rfl, rfl, _, rfl, x, ws, rfl, .inl (.inl (s36 _ _ hx3)), fun O nO => ?_⟩
        rw [show cutV ws (some ((i : Int) + 1)) none = ws.drop (i + 1) from cut_from ws (i + 1)]
        have sO := same_new (o := .lst (ws.drop (i + 1))) nO
        have hO : (upd H6 O (.lst (ws.drop (i + 1)))) O = some (.lst (ws.drop (i + 1))) := upd_same
        have hN7 := sO _ _ hN
        generalize upd H6 O _ = H7 at sO hN7 hO ⊢
        refine ⟨N, O, _, _, rfl, rfl, hN7, hO, by rw [List.length_append, List.length_take, List.length_drop, sizeLine_eq]; show 1 + _ + _ ≤ _; omega, fun Z nZ => ?_⟩
        rw [show [V.ref bi] ++ ws.take i ++ ws.drop (i + 1) = frontL ws i (.ref bi) from rfl]
        have sZ := same_new (o := .lst (frontL ws i (.ref bi))) nZ
        have hZ : (upd H7 Z (.lst (frontL ws i (.ref bi)))) Z = some (.lst (frontL ws i (.ref bi))) := upd_same
        have s38 := (s36.trans sO).trans sZ
        generalize upd H7 Z _ = H8 at sZ hZ s38 ⊢
        have hD8 := s38 _ _ (s3 _ _ hD2)
        have hX8 := hX3.same s38
        have hF8 : LLa D H8 (frontL ws i (.ref bi)) (frontL X i (X.getD i [])) := .cons ⟨bi, rfl, aDi, s38 _ _ (s3 _ _ hbi)⟩ (paired_app (paired_take hX8 _) (paired_drop hX8 _))
        have lF : (frontL ws i (V.ref bi)).length = r' := by rw [frontL_len (by omega), lw, lX]
        refine ⟨_, rfl, Z, rfl, ⟨_, .inl (.inl hZ)⟩, fun E0' nE => ?_⟩
        refine lc_list (K := K) (a := Z) (xs := frontL ws i (.ref bi)) (Pv := fun n H' => Same H8 H' ∧ ∃ rs, H' E0' = some (.lst rs) ∧ LLp (fun b => b ≠ E0' ∧ b ≠ D) H' rs (((frontL X i (X.getD i [])).take n).map fun row => frontL row j (row.getD j 0))) ⟨same_new nE, [], upd_same, .nil⟩ (fun i H' _ e => .inl (.inl (e.1 _ _ hZ))) ?_ ?_
        · rintro n v H' hv ⟨s9, rs, hE, lr⟩
          obtain ⟨row, hrow, b9, rfl, aD9, e9⟩ := paired_at hF8 hv
          have li := (List.getElem?_eq_some_iff.mp hv).1
          have lrow : row.length = c' := rX row (frontL_mem (row_mem hi) _ (List.mem_of_getElem? hrow))
          have lrs := lr.len
          rw [List.length_map, List.length_take] at lrs
          refine ⟨wipe_one, yes_ ?_⟩
          refine ⟨_, rfl, _, rfl, b9, _, _, .int (row.getD j 0), rfl, rfl, .inl (.inl (s9 _ _ e9)), atI_nat (intsAt (by omega)), by show 1 ≤ sizeLine; decide, fun A1 n1 => ?_⟩
          have t1 := same_new (o := .lst [.int (row.getD j 0)]) n1
          have g1 : (upd H' A1 (.lst [.int (row.getD j 0)])) A1 = some (.lst [.int (row.getD j 0)]) := upd_same
          generalize upd H' A1 _ = G1 at t1 g1 ⊢
          refine ⟨_, rfl, _, rfl, _, rfl, b9, _, rfl, .inl (.inl (t1 _ _ (s9 _ _ e9))), fun A2 n2 => ?_⟩
          rw [cut_upto]
          have t2 := same_new (o := .lst ((row.map V.int).take j)) n2
          have g2 : (upd G1 A2 (.lst ((row.map V.int).take j))) A2 = some (.lst ((row.map V.int).take j)) := upd_same
          have g1' := t2 _ _ g1
          generalize upd G1 A2 _ = G2 at t2 g2 g1' ⊢
          refine ⟨A1, A2, _, _, rfl, rfl, g1', g2, by rw [List.length_take, List.length_map, sizeLine_eq]; show 1 + _ ≤ _; omega, fun A3 n3 => ?_⟩
          have t3 := same_new (o := .lst ([.int (row.getD j 0)] ++ (row.map V.int).take j)) n3
          have g3 : (upd G2 A3 (.lst ([.int (row.getD j 0)] ++ (row.map V.int).take j))) A3 = some (.lst ([.int (row.getD j 0)] ++ (row.map V.int).take j)) := upd_same
          generalize upd G2 A3 _ = G3 at t3 g3 ⊢
          have t13 := (t1.trans t2).trans t3
          refine ⟨_, rfl, _, rfl, _, _, rfl, rfl, _, rfl, b9, _, rfl, .inl (.inl (t13 _ _ (s9 _ _ e9))), fun A4 n4 => ?_⟩
          rw [show cutV (row.map V.int) (some ((j : Int) + 1)) none = (row.map V.int).drop (j + 1) from cut_from _ (j + 1)]
          have t4 := same_new (o := .lst ((row.map V.int).drop (j + 1))) n4
          have g4 : (upd G3 A4 (.lst ((row.map V.int).drop (j + 1)))) A4 = some (.lst ((row.map V.int).drop (j + 1))) := upd_same
          have g3' := t4 _ _ g3
          generalize upd G3 A4 _ = G4 at t4 g4 g3' ⊢
          refine ⟨A3, A4, _, _, rfl, rfl, g3', g4, by rw [List.length_append, List.length_take, List.length_drop, List.length_map, sizeLine_eq]; show 1 + _ + _ ≤ _; omega, fun A5 n5 => ?_⟩
          rw [show [V.int (row.getD j 0)] ++ (row.map V.int).take j ++ (row.map V.int).drop (j + 1) = (frontL row j (row.getD j 0)).map V.int by
            unfold frontL
            rw [List.map_cons, List.map_append, List.map_take, List.map_drop]
            rfl]
          have t5 := same_new (o := .lst ((frontL row j (row.getD j 0)).map V.int)) n5
          have t15 := (t13.trans t4).trans t5
          have TE : A5 ≠ E0' := (ne_of_none ((t13.trans t4) _ _ hE) n5).symm
          have TD : A5 ≠ D := (ne_of_none ((t13.trans t4) _ _ (s9 _ _ hD8)) n5).symm
          refine ⟨rs, t15 _ _ hE, by rw [lrs, sizeLine_eq]; omega, ?_, rs ++ [.ref A5], upd_same, ?_⟩
          · intro k o e
            rw [upd_ne (ne_of_none e nE)]
            exact t15 _ _ (s9 _ _ e)
          · rw [List.take_add_one, hrow, List.map_append]
            exact paired_snoc ⟨A5, rfl, ⟨TE, TD⟩, (upd_ne TE).trans upd_same⟩ ((lr.same t15).put fun b h => h.1)
        rintro H9 ⟨s9, rs, hE, lr⟩
        rw [lF, show (frontL X i (X.getD i [])).take r' = frontL X i (X.getD i []) from List.take_of_length_le (by rw [frontL_len hi]; omega)] at lr
        have em := frontM_mat (p := 0) (q := 0) rX hi hj (by omega) (by omega)
        rw [show frontI i 0 = i from rfl, show frontI j 0 = j from rfl] at em
        have nn := (iX _ (row_mem hi) _ (mem_mem (j := j) (by rw [rect_get rX hi]; exact hj))).1
        have pM : 0 < mat (frontM X i j) 0 0 := by
          rw [em]
          have : mat X i j = (X.getD i []).getD j 0 := rfl
          omega
        have lM := frontM_len (j := j) hi
        refine ⟨_, rfl, _, rfl, E0', rs, frontM X i j, c', b, (fun b => b ≠ D), rfl, hE, fun b h e => (by rw [e, (s38.trans s9) _ _ (s3 _ _ hD2)] at h; cases h), Paired.mapP lr fun _ _ ⟨b, e, n, hb⟩ => ⟨b, e, n.2, hb⟩, frontM_rect rX hi hj, by omega, by omega, by omega, c6, frontM_in rX hi hj iX, pM, b8, fun HA x6 ws6 Y r2 c2 sA hx6 hY C => ?_⟩
        rw [lM] at C
        have dm := C.dim
        have lY := C.len
        have rY := C.rect
        have iY := C.inb
        have pY := C.pos
        have lw6 := hY.len
        have s3A := (s38.trans s9).trans sA
        have hDA := s3A _ _ (s3 _ _ hD2)
        have x6D : x6 ≠ D := fun e => by
          rw [e, hDA] at hx6
          have h1 := congrArg (fun o => match o with | some (HO.lst xs) => xs | _ => []) hx6
          have h2 : nv ds = ws6 := h1
          obtain ⟨z0, hz0, bz, rfl, _⟩ := paired_get hY (row_get (i := 0) (by omega))
          rw [← h2] at hz0
          unfold nv at hz0
          rw [List.getElem?_map] at hz0
          cases e2 : ds[0]? with
          | none => rw [e2] at hz0; cases hz0
          | some d => rw [e2] at hz0; cases hz0
        have lY2 : 1 ≤ Y.length := by omega
        obtain ⟨z0, hz0, bz, rfl, aDz, ebz⟩ := paired_get hY (row_get (i := 0) (by omega))
        have ly0 := rect_get rY (i := 0) (by omega)
        obtain ⟨d, hd⟩ : ∃ d, d = Nat.gcd (mat Y 0 0).natAbs b := ⟨_, rfl⟩
        refine ⟨_, rfl, .inl ⟨rfl, _, .inl (.inl hDA)⟩, ?_⟩
        refine ⟨_, rfl, x6, ws6, _, .ref bz, rfl, rfl, .inl (.inl hx6), atI_nat (j := 0) hz0, bz, _, _, .int (mat Y 0 0), rfl, rfl, .inl (.inl ebz), atI_nat (j := 0) (intsAt (by omega)), ?_⟩
        refine ⟨_, rfl, _, _, rfl, ?_⟩
        rw [show Nat.gcd (mat Y 0 0).natAbs ((b : Int)).natAbs = d by rw [hd, Int.natAbs_natCast]]
        refine ⟨D, nv ds, _, rfl, rfl, hDA, by rw [sizeLine_eq]; omega, ?_⟩
        have s5 := keep (o := .lst (nv ds ++ [.int (d : Int)])) ((s2.trans s3).trans s3A)
        have hx5 := (upd_ne (o := .lst (nv ds ++ [.int (d : Int)])) x6D).trans hx6
        have hX5 := hY.put (o := .lst (nv ds ++ [.int (d : Int)])) fun b h => h
        have hD5 : (upd HA D (.lst (nv ds ++ [.int (d : Int)]))) D = some (.lst (nv ds ++ [.int (d : Int)])) := upd_same
        generalize upd HA D _ = HB at s5 hx5 hX5 hD5 ⊢
        refine ⟨_, rfl, _, rfl, x6, ws6, rfl, .inl (.inl hx5), fun F nF => ?_⟩
        rw [show cutV ws6 (some 1) none = ws6.drop 1 from cut_from ws6 1]
        have sF := same_new (H := HB) (o := .lst (ws6.drop 1)) nF
        have hF : (upd HB F (.lst (ws6.drop 1))) F = some (.lst (ws6.drop 1)) := upd_same
        have hXF := (hX5.ll).same sF
        have hDF := sF _ _ hD5
        generalize upd HB F _ = HF at sF hF hXF hDF ⊢
        refine ⟨F, rfl, ⟨_, .inl (.inl hF)⟩, fun E nE => ?_⟩
        have DE : D ≠ E := ne_of_none hDF nE
        refine lc_list (K := K) (a := F) (xs := ws6.drop 1) (Pv := fun i H' => Same HF H' ∧ ∃ rs, H' E = some (.lst rs) ∧ LLp (fun b => b ≠ E ∧ b ≠ D) H' rs (((Y.drop 1).take i).map (List.drop 1))) ⟨same_new nE, [], upd_same, .nil⟩ (fun i H' _ e => .inl (.inl (e.1 _ _ hF))) ?_ ?_
        · rintro i v H' hv ⟨s9, rs, hE, lr⟩
          rw [List.getElem?_drop] at hv
          obtain ⟨row, hrow, b9, rfl, e9⟩ := paired_at hXF hv
          have li := (List.getElem?_eq_some_iff.mp hrow).1
          have lrow : row.length = c2 := rY row (List.mem_of_getElem? hrow)
          have lrs := lr.len
          rw [List.length_map, List.length_take, List.length_drop] at lrs
          refine ⟨wipe_one, yes_ ?_⟩
          refine ⟨_, rfl, _, rfl, b9, _, rfl, .inl (.inl (s9 _ _ e9)), fun T nT => ?_⟩
          rw [show cutV (row.map V.int) (some 1) none = (row.drop 1).map V.int by rw [List.map_drop]; exact cut_from _ 1]
          have TE : T ≠ E := (ne_of_none hE nT).symm
          have TD : T ≠ D := (ne_of_none (s9 _ _ hDF) nT).symm
          refine ⟨rs, same_new nT _ _ hE, by rw [lrs, sizeLine_eq]; omega, ?_, rs ++ [.ref T], upd_same, ?_⟩
          · intro k o e
            rw [upd_ne (ne_of_none e nE)]
            exact same_new nT _ _ (s9 _ _ e)
          · rw [List.take_add_one, List.getElem?_drop, hrow, List.map_append]
            exact paired_snoc ⟨T, rfl, ⟨TE, TD⟩, (upd_ne TE).trans upd_same⟩ ((lr.same (same_new nT)).put fun b h => h.1)
        rintro H9 ⟨s9, rs, hE, lr⟩
        rw [List.length_drop, lw6, show (Y.drop 1).take (Y.length - 1) = Y.drop 1 from List.take_of_length_le (by rw [List.length_drop]; omega)] at lr
        replace s9 := sF.trans s9
        refine ⟨⟨s5.trans s9, E, rs, tailR Y, r2 - 1, c2 - 1, ds ++ [d], _, _, _, _, _, rfl, (s9 _ _ hD5).trans (by rw [nvs]), hE, DE.symm, Paired.mapP lr fun _ _ ⟨b, e, n, hb⟩ => ⟨b, e, n.2, hb⟩, by rw [tail_len, lY], tail_rect rY, by omega, by omega, tail_in iY,
          by rw [List.length_append]; show ds.length + 1 + _ = _; omega, cdv (hd ▸ Nat.gcd_dvd_right _ _), fun es h => ?_⟩, ?_⟩
        · rw [List.append_assoc]
          refine out (d :: es) fun k => ?_
          have := F_block (b := b) (r := r2 - 1) (c := c2 - 1) (A := mat Y) (es := es) (fun q hq => C.zr (q + 1) (by omega) (by omega)) (fun p hp => C.zc (p + 1) (by omega) (by omega)) (by
            have e : (fun p q => mat Y (p + 1) (q + 1)) = mat (tailR Y) := by
              funext p q
              exact (mat_tail Y p q).symm
            rw [e]
            exact h) k
          rw [← hd, show r2 - 1 + 1 = r2 by omega, show c2 - 1 + 1 = c2 by omega] at this
          refine Ch_of (fun g => ?_) this
          rw [← lX, frontM_P rX hi hj]
          exact C.same k g
        · simp only [s9 _ _ hD5, hD2]
          rw [List.length_append]
          show 60 - ((nv ds).length + 1) < 60 - (nv ds).length
          omega
      · refine ⟨_, rfl, rfl, _, rfl, ?_⟩
        refine ifT rfl ?_
        have hD3 := s3 _ _ hD2
        refine ⟨_, rfl, .inl ⟨rfl, _, .inl (.inl hD3)⟩, _, rfl, D, nv ds, _, rfl, rfl, hD3, by rw [sizeLine_eq]; omega, ?_⟩
        have s5 := keep (o := .lst (nv ds ++ [.int (b : Int)])) (s2.trans s3)
        have hx5 := (upd_ne (o := .lst (nv ds ++ [.int (b : Int)])) xD).trans (s3 _ _ hx)
        have hX5 := (hX.same s3).put (o := .lst (nv ds ++ [.int (b : Int)]))
        have hD5 : (upd H3 D (.lst (nv ds ++ [.int (b : Int)]))) D = some (.lst (nv ds ++ [.int (b : Int)])) := upd_same
        generalize upd H3 D _ = H5 at s5 hx5 hX5 hD5 ⊢
        refine ⟨_, rfl, _, rfl, x, ws, rfl, .inl (.inl hx5), fun F nF => ?_⟩
        rw [show cutV ws (some 1) none = ws.drop 1 from cut_from ws 1]
        have sF := same_new (H := H5) (o := .lst (ws.drop 1)) nF
        have hF : (upd H5 F (.lst (ws.drop 1))) F = some (.lst (ws.drop 1)) := upd_same
        have hXF := (hX5.ll).same sF
        have hDF := sF _ _ hD5
        generalize upd H5 F _ = HF at sF hF hXF hDF ⊢
        refine ⟨F, rfl, ⟨_, .inl (.inl hF)⟩, fun E nE => ?_⟩
        have DE : D ≠ E := ne_of_none hDF nE
        refine lc_list (K := K) (a := F) (xs := ws.drop 1) (Pv := fun i H' => Same HF H' ∧ ∃ rs, H' E = some (.lst rs) ∧ LLp (fun b => b ≠ E ∧ b ≠ D) H' rs (((X.drop 1).take i).map (List.drop 1))) ⟨same_new nE, [], upd_same, .nil⟩ (fun i H' _ e => .inl (.inl (e.1 _ _ hF))) ?_ ?_
        · rintro i v H' hv ⟨s9, rs, hE, lr⟩
          rw [List.getElem?_drop] at hv
          obtain ⟨row, hrow, b9, rfl, e9⟩ := paired_at hXF hv
          have li := (List.getElem?_eq_some_iff.mp hrow).1
          have lrow : row.length = c' := rX row (List.mem_of_getElem? hrow)
          have lrs := lr.len
          rw [List.length_map, List.length_take, List.length_drop] at lrs
          refine ⟨wipe_one, yes_ ?_⟩
          refine ⟨_, rfl, _, rfl, b9, _, rfl, .inl (.inl (s9 _ _ e9)), fun T nT => ?_⟩
          rw [show cutV (row.map V.int) (some 1) none = (row.drop 1).map V.int by rw [List.map_drop]; exact cut_from _ 1]
          have TE : T ≠ E := (ne_of_none hE nT).symm
          have TD : T ≠ D := (ne_of_none (s9 _ _ hDF) nT).symm
          refine ⟨rs, same_new nT _ _ hE, by rw [lrs, sizeLine_eq]; omega, ?_, rs ++ [.ref T], upd_same, ?_⟩
          · intro k o e
            rw [upd_ne (ne_of_none e nE)]
            exact same_new nT _ _ (s9 _ _ e)
          · rw [List.take_add_one, List.getElem?_drop, hrow, List.map_append]
            exact paired_snoc ⟨T, rfl, ⟨TE, TD⟩, (upd_ne TE).trans upd_same⟩ ((lr.same (same_new nT)).put fun b h => h.1)
        rintro H9 ⟨s9, rs, hE, lr⟩
        rw [List.length_drop, lw, show (X.drop 1).take (X.length - 1) = X.drop 1 from List.take_of_length_le (by rw [List.length_drop]; omega)] at lr
        replace s9 := sF.trans s9
        refine ⟨⟨s5.trans s9, E, rs, tailR X, r' - 1, c' - 1, ds ++ [b], _, _, _, _, _, rfl, (s9 _ _ hD5).trans (by rw [nvs]), hE, DE.symm, Paired.mapP lr fun _ _ ⟨b, e, n, hb⟩ => ⟨b, e, n.2, hb⟩, by rw [tail_len, lX], tail_rect rX, by omega, by omega, tail_in iX,
          by rw [List.length_append]; show ds.length + 1 + _ = _; omega, cdv (Nat.dvd_refl _), fun es h => ?_⟩, ?_⟩
        · rw [List.append_assoc]
          refine out (b :: es) fun k => ?_
          have := F_block (b := b) (r := r' - 1) (c := c' - 1) (A := mat X) (es := es) (fun q hq => z 0 (by omega) (q + 1) (by omega)) (fun p hp => z (p + 1) (by omega) 0 (by omega)) (by
            have e : (fun p q => mat X (p + 1) (q + 1)) = mat (tailR X) := by
              funext p q
              exact (mat_tail X p q).symm
            rw [e]
            exact h) k
          rw [z 0 (by omega) 0 (by omega), show Nat.gcd (0 : Int).natAbs b = b from Nat.gcd_zero_left b, show r' - 1 + 1 = r' by omega, show c' - 1 + 1 = c' by omega] at this
          exact this
        · simp only [s9 _ _ hD5, hD2]
          rw [List.length_append]
          show 60 - ((nv ds).length + 1) < 60 - (nv ds).length
          omega
    · rintro σ H2 Q1 Q2 m h
      obtain ⟨v1, h1, p1, ys1, e1, S1, i1, j1, e2, e3, k1, e4, h2⟩ := h
      refine ⟨v1, h1, p1, ys1, e1, S1, i1, j1, e2, e3, k1, e4, ?_⟩
      cases k1 with
      | false => exact m _ _ h2
      | true =>
        obtain ⟨v1, h1, l1, xs1, kk, y1, e5, e6, S2, at1, p1, ys1, e1, S1, i1, j1, e2, e3, k1, e4, h3⟩ := h2
        exact ⟨v1, h1, l1, xs1, kk, y1, e5, e6, S2, at1, p1, ys1, e1, S1, i1, j1, e2, e3, k1, e4, m _ _ h3⟩
end
end K02


set_option Elab.async false
set_option linter.all false
set_option maxRecDepth 100000
set_option maxHeartbeats 8000000
namespace K02
open LS
open PySem PySem.Spec PyProof.Rows L2 MM
/-! own words for the readings: a step, its side -/
local macro_rules | `(tactic| walk_at "side") => `(tactic| first
  | omega
  | exact ⟨by omega, by omega⟩
  | exact Or.inl ⟨by omega, by omega⟩
  | exact Or.inr ⟨by omega, by omega⟩
  | (show CPw _ _; decide +kernel)
  | (show (0 : Int) < _; decide +kernel)
  | (show CDivW _ _; first | assumption | exact ⟨by decide, by decide +kernel⟩))
local macro_rules | `(tactic| walk_at "here") => `(tactic| first
  | assumption
  | exact upd_same
  | exact Or.inl (Or.inl upd_same)
  | exact Or.inl upd_same)
local macro_rules | `(tactic| walk_at "one") => `(tactic| first
  | refine ⟨_, rfl, ?_⟩
  | refine Or.inl ⟨_, rfl, ?_⟩
  | refine Or.inr ⟨_, rfl, ?_⟩
  | refine ⟨_, _, rfl, rfl, (by walk_at "side"), ?_⟩
  | refine ⟨_, _, rfl, rfl, ?_⟩
  | refine ⟨_, _, rfl, Or.inl (by walk_at "here"), ?_⟩
  | refine ⟨_, _, rfl, Or.inr (by walk_at "here"), ?_⟩
  | refine ⟨_, _, rfl, (by walk_at "here"), ?_⟩
  | refine ⟨_, _, _, _, rfl, rfl, (by walk_at "here"), rfl, ?_⟩
  | refine ⟨_, _, rfl, ?_⟩
  | refine ifT (by rfl) ?_
  | refine ifF (by rfl) ?_
  | refine ifT (decide_eq_true (by omega)) ?_
  | refine ifF (decide_eq_false (by omega)) ?_)
local macro_rules | `(tactic| walk_at "st") => `(tactic| repeat (walk_at "one"))

section
variable {P : Program} {w : World} {K : PySem.W.Frag} {mg : Str → Option Value} {base : Heap}
theorem nv_at {ds : List Nat} {i : Nat} (h : i < ds.length) : (nv ds)[i]? = some (.int ((ds.getD i 0 : Nat) : Int)) := by
  unfold nv
  rw [List.getElem?_map, List.getElem?_eq_getElem h, List.getD, List.getElem?_eq_getElem h]
  rfl
theorem nv_set {ds : List Nat} {i n : Nat} : (nv ds).set i (.int (n : Int)) = nv (ds.set i n) := by
  unfold nv
  rw [List.map_set]
theorem nat_mem {ds : List Nat} {i : Nat} (h : i < ds.length) : ds.getD i 0 ∈ ds := by
  rw [List.getD, List.getElem?_eq_getElem h]
  exact List.getElem_mem _
theorem nat_set_eq {ds : List Nat} {i n : Nat} (h : i < ds.length) : (ds.set i n).getD i 0 = n := by
  rw [List.getD, List.getElem?_set_self h]
  rfl
theorem nat_set_ne {ds : List Nat} {i j n : Nat} (h : i ≠ j) : (ds.set i n).getD j 0 = ds.getD j 0 := by
  rw [List.getD, List.getElem?_set_ne h, ← List.getD]
def spChain (K : PySem.W.Frag) : Sp := fun vs H Q _ => ∃ (a : Addr) (ds : List Nat) (b : Nat), vs = [.ref a] ∧ H a = some (.lst (nv ds)) ∧ ds.length ≤ 60 ∧ (∀ d ∈ ds, d ∣ b) ∧ 0 < b ∧ b < 2 ^ 4000 ∧
  ∀ H' r es, Same H H' → H r = none → H' r = some (.lst (nv es)) → es.length = ds.length → (∀ d ∈ es, d ∣ b) → DT.Chain es → (∀ k, DT.F b es k = DT.F b ds k) → Q (.ref r) H'
theorem scAsChain : FnScope ["numbers", "chain", "low", "high", "one", "other"] ["numbers"] (defScope sAsChain) :=
  ⟨rfl, rfl, rfl, by decide +kernel, rfl, by decide +kernel, by decide +kernel⟩
theorem dAsChain (T : Tx K mg) : Def P w K mg base CX0 1 "_as_chain" ["numbers"] (spChain K) := by
  refine T.t_as_chain.def_ (N := ["numbers", "chain", "low", "high", "one", "other"]) scAsChain (fun _ _ _ _ _ _ us hl => match us, hl with | [_], _ => rfl) ?_ ?_
  · intro vs H Q E h
    obtain ⟨a, ds, b, rfl, _⟩ := h
    rfl
  · intro f cd A out s H vs Q E hr h
    obtain ⟨a, ds, b, rfl, ha, l60, dv, b0, b8, q⟩ := h
    refine ⟨_, (pss_cons (ps_set (i := 1) scAsChain.nd rfl (Or.inl rfl) (pe_callTy call_list_of rfl T.f_list (by decide +kernel) (pa_cons (pv 0) pa_nil)))
      (pss_cons (ps_for PassesOwn.never rfl (pi_range1 rfl T.f_range (pa_cons (pe_callB call_len_seq rfl T.f_len (by decide +kernel) (pa_cons (pv 1) pa_nil)) pa_nil)) (pg_name (i := 2) scAsChain.nd rfl (Or.inl rfl))
        (pss_one (ps_for PassesOwn.never rfl (pi_range2 rfl T.f_range (pa_cons (pe_op op_add (pv 2) pe_int) (pa_cons (pe_callB call_len_seq rfl T.f_len (by decide +kernel) (pa_cons (pv 1) pa_nil)) pa_nil))) (pg_name (i := 3) scAsChain.nd rfl (Or.inl rfl))
          (pss_cons (ps_par (i := 4) (j := 5) rfl scAsChain.nd rfl rfl (by decide) rfl rfl (pa_cons (pe_ix ix_list (pv 1) (pv 2) (fun _ _ => rfl)) (pa_cons (pe_ix ix_list (pv 1) (pv 3) (fun _ _ => rfl)) pa_nil)) (by rfl))
          (pss_cons (ps_asg (pe_callBfun cr_gcd rfl T.b_gcd (pa_cons (pv 4) (pa_cons (pv 5) pa_nil))) (pg_sub (pv 1) (pv 2) set_list))
          (pss_one (ps_asg (pe_callBfun cr_lcm rfl T.b_lcm (pa_cons (pv 4) (pa_cons (pv 5) pa_nil))) (pg_sub (pv 1) (pv 3) set_list))))))))
      (pss_one (ps_ret (pv 1))))), ?_⟩
    refine ⟨_, rfl, a, _, rfl, .inl (.inl (.inl ha)), fun D nD => ?_⟩
    have s1 := same_new (o := .lst (nv ds)) nD
    have hD : (upd H D (.lst (nv ds))) D = some (.lst (nv ds)) := upd_same
    generalize upd H D _ = H1 at s1 hD ⊢
    refine ⟨_, rfl, D, _, rfl, .inl (.inl (.inl hD)), ?_⟩
    rw [nv_len]
    refine ⟨((ds.length : Nat) : Int), rfl, by omega, by omega, for_range (fun i σ H' => Same H H' ∧ ∃ es : List Nat, H' D = some (.lst (nv es)) ∧ es.length = ds.length ∧ (∀ d ∈ es, d ∣ b) ∧ (∀ k, DT.F b es k = DT.F b ds k) ∧ (∀ t, t < i → ∀ u, t < u → u < ds.length → es.getD t 0 ∣ es.getD u 0) ∧
      ∃ y2 y3 y4 y5, σ = [some (.ref a), some (.ref D), y2, y3, y4, y5]) ⟨s1, ds, hD, rfl, dv, fun k => rfl, fun t h => by omega, _, _, _, _, rfl⟩ ?_ ?_⟩
    · rintro i σ H2 hi ⟨s2, es, hD2, le, dve, fe, pre, y2, y3, y4, y5, rfl⟩
      have il : i < ds.length := by simpa using hi
      rw [Int.zero_add]
      refine ⟨_, rfl, _, _, rfl, rfl, _, rfl, D, _, rfl, .inl (.inl (.inl hD2)), ?_⟩
      rw [nv_len, le]
      refine ⟨((i + 1 : Nat) : Int), (ds.length : Int), by rw [Int.natCast_add]; rfl, ⟨by omega, by omega, by omega, by omega⟩, ?_⟩
      refine for_range (fun j σ H' => Same H H' ∧ ∃ es : List Nat, H' D = some (.lst (nv es)) ∧ es.length = ds.length ∧ (∀ d ∈ es, d ∣ b) ∧ (∀ k, DT.F b es k = DT.F b ds k) ∧ (∀ t, t < i → ∀ u, t < u → u < ds.length → es.getD t 0 ∣ es.getD u 0) ∧
        (∀ u, i < u → u < i + 1 + j → es.getD i 0 ∣ es.getD u 0) ∧ ∃ y3 y4 y5, σ = [some (.ref a), some (.ref D), some (.int (i : Int)), y3, y4, y5]) ⟨s2, es, hD2, le, dve, fe, pre, fun u h1 h2 => by omega, _, _, _, rfl⟩ ?_ ?_
      · rintro j σ H3 hj ⟨s3, es, hD3, le, dve, fe, pre, now, y3, y4, y5, rfl⟩
        have jl : i + 1 + j < ds.length := by omega
        obtain ⟨h, eh⟩ : ∃ h, h = i + 1 + j := ⟨_, rfl⟩
        rw [show ((i + 1 : Nat) : Int) + (j : Int) = (h : Int) by omega]
        have ih : i < h := by omega
        have hl : h < ds.length := by omega
        have hb : es.getD h 0 < 2 ^ 13000 ∧ es.getD i 0 < 2 ^ 13000 := by
          have h1 := Nat.le_of_dvd b0 (dve _ (nat_mem (i := h) (by omega)))
          have h2 := Nat.le_of_dvd b0 (dve _ (nat_mem (i := i) (by omega)))
          have h3 : (2 : Nat) ^ 4000 < 2 ^ 13000 := Nat.pow_lt_pow_right (by decide) (by decide)
          exact ⟨Nat.lt_of_le_of_lt h1 (Nat.lt_trans b8 h3), Nat.lt_of_le_of_lt h2 (Nat.lt_trans b8 h3)⟩
        have sgl : (es.set i (Nat.gcd (es.getD i 0) (es.getD h 0))).length = es.length := List.length_set
        refine ⟨_, rfl, _, rfl, D, _, _, _, rfl, rfl, .inl (.inl hD3), atI_nat (nv_at (i := i) (by omega)), _, rfl, _, rfl, D, _, _, _, rfl, rfl, .inl (.inl hD3), atI_nat (nv_at (i := h) (by omega)), _, _, rfl, ?_⟩
        refine ⟨_, rfl, _, rfl, _, _, rfl, ?_⟩
        rw [Int.natAbs_natCast, Int.natAbs_natCast]
        refine ⟨_, rfl, _, rfl, D, _, (i : Int), i, rfl, rfl, hD3, ixN_in (by rw [nv_len]; omega), ?_⟩
        rw [nv_set]
        refine ⟨_, rfl, _, rfl, _, _, rfl, by rw [Int.natAbs_natCast]; exact hb.2, by rw [Int.natAbs_natCast]; exact hb.1, ?_⟩
        rw [Int.natAbs_natCast, Int.natAbs_natCast]
        refine ⟨_, rfl, _, rfl, D, _, (h : Int), h, rfl, rfl, upd_same, ixN_in (by rw [nv_len]; omega), ?_⟩
        rw [nv_set]
        obtain ⟨fs, hfs⟩ : ∃ fs, fs = (es.set i (Nat.gcd (es.getD i 0) (es.getD h 0))).set h (Nat.lcm (es.getD i 0) (es.getD h 0)) := ⟨_, rfl⟩
        rw [← hfs]
        have lfs : fs.length = ds.length := by rw [hfs, List.length_set, List.length_set, le]
        have fi : fs.getD i 0 = Nat.gcd (es.getD i 0) (es.getD h 0) := by rw [hfs, nat_set_ne (by omega), nat_set_eq (by omega)]
        have fh : fs.getD h 0 = Nat.lcm (es.getD i 0) (es.getD h 0) := by rw [hfs, nat_set_eq (by omega)]
        have fo : ∀ u, u ≠ i → u ≠ h → fs.getD u 0 = es.getD u 0 := fun u h1 h2 => by rw [hfs, nat_set_ne (fun z => h2 z.symm), nat_set_ne (fun z => h1 z.symm)]
        refine ⟨fun x o e => ?_, fs, upd_same, lfs, fun d hd => ?_, fun k => ?_, fun t ti u tu ul => ?_, fun u h1 h2 => ?_, _, _, _, rfl⟩
        · rw [upd_ne (ne_of_none e nD), upd_ne (ne_of_none e nD)]
          exact s3 _ _ e
        · rw [hfs] at hd
          rcases List.mem_or_eq_of_mem_set hd with hd | rfl
          · rcases List.mem_or_eq_of_mem_set hd with hd | rfl
            · exact dve d hd
            · exact Nat.dvd_trans (Nat.gcd_dvd_left _ _) (dve _ (nat_mem (by omega)))
          · exact Nat.lcm_dvd (dve _ (nat_mem (by omega))) (dve _ (nat_mem (by omega)))
        · rw [hfs, DT.F_set2 es i h ih (by omega), fe]
        · rw [fo t (by omega) (by omega)]
          by_cases c1 : u = i
          · rw [c1, fi]
            exact Nat.dvd_gcd (pre t ti i (by omega) (by omega)) (pre t ti h (by omega) (by omega))
          · by_cases c2 : u = h
            · rw [c2, fh]
              exact Nat.dvd_trans (pre t ti i (by omega) (by omega)) (Nat.dvd_lcm_left _ _)
            · rw [fo u c1 c2]
              exact pre t ti u tu ul
        · rw [fi]
          by_cases c2 : u = h
          · rw [c2, fh]
            exact Nat.dvd_trans (Nat.gcd_dvd_left _ _) (Nat.dvd_lcm_left _ _)
          · rw [fo u (by omega) c2]
            exact Nat.dvd_trans (Nat.gcd_dvd_left _ _) (now u h1 (by omega))
      · rintro σ H3 ⟨s3, es, hD3, le, dve, fe, pre, now, y3, y4, y5, rfl⟩
        refine ⟨s3, es, hD3, le, dve, fe, fun t ti u tu ul => ?_, _, _, _, _, rfl⟩
        by_cases c1 : t = i
        · rw [c1]
          exact now u (by omega) (by omega)
        · exact pre t (by omega) u tu ul
    · rintro σ H2 ⟨s2, es, hD2, le, dve, fe, pre, y2, y3, y4, y5, rfl⟩
      rw [show ((ds.length : Nat) : Int).toNat = ds.length from Int.toNat_natCast _] at pre
      refine ⟨_, rfl, q H2 D es s2 nD hD2 le dve ?_ fe⟩
      unfold DT.Chain
      rw [List.pairwise_iff_getElem]
      intro t u ht hu tu
      have := pre t (by omega) u tu (by omega)
      rwa [List.getD, List.getElem?_eq_getElem ht, List.getD, List.getElem?_eq_getElem hu] at this
/-- the table modulo b -/
def modR (b : Int) (R : List (List Int)) : List (List Int) := R.map fun row => row.map fun n => n % b
theorem modR_rect {b : Int} {R : List (List Int)} {c : Nat} (h : Rect R c) : Rect (modR b R) c := fun row hr => by
  obtain ⟨r, hr2, rfl⟩ := List.mem_map.mp hr
  rw [List.length_map]
  exact h r hr2
theorem modR_in {b : Nat} {R : List (List Int)} (b0 : 0 < b) : InB b (modR b R) := fun row hr x hx => by
  obtain ⟨r, hr2, rfl⟩ := List.mem_map.mp hr
  obtain ⟨n, hn, rfl⟩ := List.mem_map.mp hx
  exact ⟨Int.emod_nonneg _ (by omega), Int.emod_lt_of_pos _ (by omega)⟩
theorem modR_mat {b : Int} {R : List (List Int)} {c i j : Nat} (rc : Rect R c) (hi : i < R.length) (hj : j < c) : mat (modR b R) i j = mat R i j % b := by
  unfold mat modR
  have e : (R.map fun row => row.map fun n => n % b).getD i [] = (R.getD i []).map fun n => n % b := by
    rw [List.getD, List.getElem?_map, row_get hi]
    rfl
  rw [e, List.getD, List.getElem?_map, mem_get (by rw [rect_get rc hi]; exact hj)]
  rfl
theorem P_shift {b g : Int} {r c k : Nat} {A A' : DT.M} (e : ∀ i, i < r → ∀ j, j < c → ∃ z, A' i j = A i j + b * z) (h : DT.P b r c k A g) : DT.P b r c k A' g := by
  have ex : ∀ i j, ∃ z, i < r → j < c → A' i j = A i j + b * z := fun i j => by
    by_cases h1 : i < r
    · by_cases h2 : j < c
      · obtain ⟨z, hz⟩ := e i h1 j h2
        exact ⟨z, fun _ _ => hz⟩
      · exact ⟨0, fun _ h => absurd h h2⟩
    · exact ⟨0, fun h => absurd h h1⟩
  refine DT.P_combo (fun i t => if t = i then 1 else 0) (fun i j => Classical.choose (ex i j)) (fun i hi j hj => ?_) h
  refine (Classical.choose_spec (ex i j) hi hj).trans ?_
  congr 1
  symm
  rw [DT.S_one (p := i) hi]
  · rw [if_pos rfl, Int.one_mul]
  · intro t ht nt
    rw [if_neg nt, Int.zero_mul]
theorem modR_P {b g : Int} {R : List (List Int)} {c k : Nat} (rc : Rect R c) : DT.P b R.length c k (mat R) g ↔ DT.P b R.length c k (mat (modR b R)) g := by
  constructor
  · refine P_shift fun i hi j hj => ?_
    rw [modR_mat rc hi hj]
    exact mod_as _ _
  · refine P_shift fun i hi j hj => ?_
    rw [modR_mat rc hi hj]
    obtain ⟨z, hz⟩ := mod_as (mat R i j) b
    exact ⟨-z, by rw [hz, Int.mul_neg]; omega⟩
def spWithin (K : PySem.W.Frag) : Sp := fun vs H Q _ => ∃ (a : Addr) (us : List V) (R : List (List Int)) (c b : Nat), vs = [.ref a, .int (b : Int)] ∧ SqT K H a us ∧ TR K H us R ∧ Rect R c ∧ R.length ≤ 60 ∧ c ≤ 60 ∧ 0 < b ∧ b < 2 ^ 4000 ∧
  ∀ H' r ss, Same H H' → H' r = some (.lst (nv ss)) → ss.length = min R.length c → (∀ d ∈ ss, d ∣ b) → DT.Chain ss → (∀ k, DT.Ch (b : Int) R.length c k (mat R) (DT.F b ss k)) → Q (.ref r) H'
theorem scDivisorsWithin : FnScope ["table", "bound", "rows", "number", "row"] ["table", "bound"] (defScope sDivisorsWithin) :=
  ⟨rfl, rfl, rfl, by decide +kernel, rfl, by decide +kernel, by decide +kernel⟩
theorem dDivisorsWithin (T : Tx K mg) (DAsChain : Def P w K mg base CX0 1 "_as_chain" ["numbers"] (spChain K)) (DDiagonal : Def P w K mg base CX0 5 "_diagonal" ["rows", "bound"] (spDiag K)) : Def P w K mg base CX0 6 "_divisors_within" ["table", "bound"] (spWithin K) := by
  refine T.t_divisors_within.def_ (N := ["table", "bound", "rows", "number", "row"]) scDivisorsWithin (fun _ _ _ _ _ _ us hl => match us, hl with | [_, _], _ => rfl) ?_ ?_
  · intro vs H Q E h
    obtain ⟨a, us, R, c, b, rfl, _⟩ := h
    rfl
  · intro f cd A out s H vs Q E hr h
    have hr1 : Rm 5 _ := hr.le (by decide)
    obtain ⟨a, us, R, c, b, rfl, S, hR, rc, r60, c60, b0, b8, q⟩ := h
    refine ⟨_, (pss_cons (ps_setLc (i := 2) (own := [("row", 4)]) (g := gName 4) (tt := tYes) rfl scDivisorsWithin.nd rfl rfl (sw_true rfl rfl rfl rfl) (pi_tup (pv 0)) (blkOk_by (N := ["table", "bound", "rows", "number", "row"]) (sc := defScope sDivisorsWithin) (by decide +kernel)) (fun _ _ _ _ _ => pg_name (i := 4) scDivisorsWithin.nd rfl (Or.inl rfl)) (fun _ _ _ _ _ => pts_nil) (fun _ _ _ _ _ => (pe_lc (own := [("number", 3)]) (g := gName 3) (tt := tYes) rfl scDivisorsWithin.nd (show PI _ _ _ (iTup K _) from pi_tup (pv 4)) (blkOk_by (N := ["table", "bound", "rows", "number", "row"]) (sc := _) (by kernel_rfl)) (fun _ _ _ _ _ => pg_name (i := 3) scDivisorsWithin.nd rfl (Or.inl rfl)) (fun _ _ _ _ _ => pts_nil) (fun _ _ _ _ _ => (pe_op op_mod (pv 3) (pv 1))))))
      (pss_one (ps_ret (pe_d DAsChain (hr1.le (by decide)) pass0 (pa_cons (pe_d DDiagonal (hr1.le (by decide)) pass0 (pa_cons (pv 2) (pa_cons (pv 1) pa_nil))) pa_nil))))), ?_⟩
    have lu := hR.len
    refine ⟨_, rfl, a, rfl, ⟨_, S⟩, fun D nD => ?_⟩
    refine lc_tup (K := K) (a := a) (xs := us) (Pv := fun i H' => Same H H' ∧ ∃ rs, H' D = some (.lst rs) ∧ LLa D H' rs (modR b (R.take i))) ⟨same_new nD, [], upd_same, .nil⟩ (fun i H' _ e => same_sqt e.1 S) ?_ ?_
    · rintro i x H' hx ⟨s1, rs, hD, lr⟩
      obtain ⟨row, hrow, e, rfl, Se⟩ := paired_at hR hx
      have li := (List.getElem?_eq_some_iff.mp hrow).1
      have lrow : row.length = c := rc row (List.mem_of_getElem? hrow)
      have lrs := lr.len
      unfold modR at lrs
      rw [List.length_map, List.length_take] at lrs
      refine ⟨wipe_one, yes_ ?_⟩
      refine ⟨_, rfl, e, rfl, ⟨_, same_sqt s1 Se⟩, fun E nE => ?_⟩
      have ED : E ≠ D := (ne_of_none hD nE).symm
      refine lc_tup (K := K) (a := e) (xs := row.map V.int) (Pv := fun j H2 => Same H' H2 ∧ H2 E = some (.lst (((row.take j).map fun n => n % (b : Int)).map V.int))) ⟨same_new nE, upd_same⟩ (fun j H2 _ e => same_sqt (s1.trans e.1) Se) ?_ ?_
      · rintro j v H2 hv ⟨s2, hE⟩
        obtain ⟨n, hn, rfl⟩ := map_int hv
        have lj := (List.getElem?_eq_some_iff.mp hn).1
        refine ⟨wipe_one, yes_ ?_⟩
        refine ⟨_, rfl, _, rfl, _, _, rfl, rfl, by omega, _, hE, ?_, ?_, ?_⟩
        · rw [List.length_map, List.length_map, List.length_take, sizeLine_eq]
          omega
        · intro x o e
          rw [upd_ne (ne_of_none e nE)]
          exact s2 _ _ e
        · rw [upd_same, List.take_add_one, hn, List.map_append, List.map_append]
          rfl
      rintro H2 ⟨s2, hE⟩
      rw [List.length_map, List.take_length] at hE
      refine ⟨rs, s2 _ _ hD, by rw [lrs, sizeLine_eq]; omega, ?_, rs ++ [.ref E], upd_same, ?_⟩
      · intro x o e
        rw [upd_ne (ne_of_none e nD)]
        exact s2 _ _ (s1 _ _ e)
      · unfold modR
        rw [List.take_add_one, hrow, List.map_append]
        exact paired_snoc ⟨E, rfl, ED, (upd_ne ED).trans hE⟩ (lr.same s2).put
    rintro H1 ⟨s1, rs, hD, lr⟩
    rw [lu, List.take_length] at lr
    have lM : (modR b R).length = R.length := List.length_map _
    refine ⟨_, rfl, _, rfl, D, rs, modR b R, c, b, rfl, hD, lr.ll, modR_rect rc, by omega, c60, modR_in b0, b0, b8, fun H2 d ds s2 hd ld dv ch => ?_⟩
    rw [lM] at ld ch
    refine ⟨d, ds, b, rfl, hd, by omega, dv, b0, b8, fun H3 r es s3 nr hr le dve cn fe => ?_⟩
    refine q H3 r es ((s1.trans s2).trans s3) hr (by omega) dve cn fun k => ?_
    rw [fe]
    exact Ch_of (fun g => modR_P rc) (ch k)
end
end K02


set_option Elab.async false
set_option linter.all false
set_option maxRecDepth 100000
set_option maxHeartbeats 2000000
/-! zip of a list and a tuple -/
namespace MM
open PySem PySem.Spec PyProof.Rows L2
/-- a list at a beside a tuple at b -/
def ItzN (K : PySem.W.Frag) (a b : Addr) : It where
  go i H := ∃ (us ws : List V) (p q : V), SqL K H a us ∧ SqT K H b ws ∧ us[i]? = some p ∧ ws[i]? = some q
  yld i H v H' := ∃ T p q, v = .ref T ∧ H T = none ∧ H' = upd H T (.tup [p, q]) ∧ (∀ us, SqL K H a us → us[i]? = some p) ∧ ∀ ws, SqT K H b ws → ws[i]? = some q
  stop i H := ∃ us ws : List V, SqL K H a us ∧ SqT K H b ws ∧ i ≤ us.length ∧ i ≤ ws.length ∧ (i = us.length ∨ i = ws.length)
abbrev tnN (a b z TI TO i1 i2 : Addr) (i : Nat) (h : Heap) : Prop :=
  IsZip h z TI TO .none ∧ IsTupOf2 h TI (.ref i1) (.ref i2) ∧ (∃ p q, IsTupOf2 h TO p q) ∧ h.IsListIter i1 a i ∧ h.IsTupleIter i2 b i
theorem turn_zipN {P : Program} {w : World} {K : PySem.W.Frag} {tgs : List Expr} {n : Nat} {ps : Pos} {a b z TI TO i1 i2 : Addr} (D : ZipApart z TI TO i1 i2 a b) :
    Turn P w K (.Tuple tgs n ps) (ItzN K a b) [z, TI, TO, i1, i2] z (tnN a b z TI TO i1 i2) where
  mem := List.mem_cons_self
  obj := by
    rintro i h ⟨e1, e2, ⟨p, q, e3⟩, ⟨o1, e4, _, d1⟩, ⟨o2, e5, _, d2⟩⟩ c hc
    simp only [List.mem_cons, List.not_mem_nil, or_false] at hc
    rcases hc with rfl | rfl | rfl | rfl | rfl
    · exact ⟨_, e1, nofun⟩
    · exact ⟨_, e2, nofun⟩
    · exact ⟨_, e3, nofun⟩
    · exact ⟨o1, e4, fun v e => by rw [d1] at e; cases e⟩
    · exact ⟨o2, e5, fun v e => by rw [d2] at e; cases e⟩
  keep := by
    rintro i h h' ⟨e1, e2, ⟨p, q, e3⟩, e4, e5⟩ k
    exact ⟨k _ (by simp) _ e1, k _ (by simp) _ e2, ⟨p, q, k _ (by simp) _ e3⟩, e4.at (k _ (by simp)), e5.at (k _ (by simp))⟩
  item := by
    rintro X rfl rfl rfl calm i pins s σ H E I fp ⟨ez, eTI, ⟨p0, q0, eTO⟩, e1, e2⟩ ⟨us, ws, p, q, S1, S2, hp, hq⟩
    obtain ⟨as_, r1, c1, _⟩ := I.list S1
    obtain ⟨bs, r2, c2, _⟩ := I.tuple S2
    obtain ⟨u1, hu1, ru1⟩ := r1.get hp
    obtain ⟨u2, hu2, ru2⟩ := r2.get hq
    have zlt : z < s.heap.objs.size := Heap.lt_size ez
    have hd := I.ok.hd calm
    have l1 : i < as_.toArray.size := by
      rw [List.size_toArray]
      exact (List.getElem?_eq_some_iff.mp hu1).1
    have l2 : i < bs.toArray.size := by
      rw [List.size_toArray]
      exact (List.getElem?_eq_some_iff.mp hu2).1
    refine wpAny_pyNext_zipD2_item (sepM D) (Draws.list (A := X.A.in1) hd i1 a D.l1i1 as_.toArray) (Draws.tuple (A := X.A.in1) hd i2 b D.l2i2 bs.toArray) ez eTI eTO ⟨e1, c1.isList⟩ ⟨e2, c2⟩ l1 l2
      fun x1 x2 h' tk y1 y2 f1 f2 f3 f4 f5 f6 kp => ?_
    have y1' : some u1 = some x1 := by
      rw [← hu1, ← y1]
      simp
    have y2' : some u2 = some x2 := by
      rw [← hu2, ← y2]
      simp
    cases y1'
    cases y2'
    refine ⟨_, rfl, wpAny_letOwnedTupleGo_zip (s := { s with heap := h', toks := tk }) f1 fun h2 g1 sb => ?_⟩
    have zn : s.heap.objs.size ≠ z := Nat.ne_of_gt zlt
    have T2 : h2.get? s.heap.objs.size = some { cls := .type "tuple", data := .seq #[u1, u2] } := (sb.2 _ zn).trans f5
    have new : ObjOk X.prog X.w (upd H s.heap.objs.size (.tup [p, q])) h2 s.heap.objs.size (.tup [p, q]) :=
      ⟨by show 2 ≤ sizeLine; decide, [u1, u2], .cons ru1 (.cons ru2 .nil), ⟨_, T2, rfl, _, rfl⟩⟩
    have I2 : Inv X pins σ (upd H s.heap.objs.size (.tup [p, q])) { s with heap := h2, toks := tk } := by
      refine I.turnedNew (t' := tk) (ch := [z, TI, TO, i1, i2]) (fun c o nc e => ?_) fp (Nat.le_refl _) new
      simp only [List.mem_cons, List.not_mem_nil, or_false, not_or] at nc
      exact (sb.2 c nc.1).trans (kp c o nc.1 nc.2.2.1 nc.2.2.2.1 nc.2.2.2.2 e)
    refine ⟨.ref s.heap.objs.size, _, I2, rfl, ⟨_, p, q, rfl, I.hok.fresh (Nat.le_refl _), rfl, ?_, ?_⟩, ⟨g1, (sb.2 _ D.TIz).trans (kp _ _ D.TIz D.TITO D.TIi1 D.TIi2 eTI), ⟨u1, u2, (sb.2 _ D.TOz).trans f2⟩, f3.1.at fun o e => (sb.2 _ D.i1z).trans e, f4.1.at fun o e => (sb.2 _ D.i2z).trans e⟩, fun c hc => ?_⟩
    · intro l hl
      rw [I.list_inj hl S1]
      exact hp
    · intro l hl
      rw [I.tuple_inj hl S2]
      exact hq
    · have lt : c < s.heap.objs.size := by
        obtain ⟨_, q1, _⟩ := e1
        obtain ⟨_, q2, _⟩ := e2
        have hc2 := hc
        simp only [List.mem_cons, List.not_mem_nil, or_false] at hc2
        rcases hc2 with rfl | rfl | rfl | rfl | rfl
        · exact zlt
        · exact Heap.lt_size eTI
        · exact Heap.lt_size eTO
        · exact Heap.lt_size q1
        · exact Heap.lt_size q2
      rw [upd_ne (Nat.ne_of_lt lt)]
      exact (fp c hc).1
  done := by
    rintro X rfl rfl rfl calm i pins s σ H E I fp ⟨ez, eTI, ⟨p0, q0, eTO⟩, e1, e2⟩ ⟨us, ws, S1, S2, m1, m2, le⟩
    obtain ⟨as_, r1, c1, _⟩ := I.list S1
    obtain ⟨bs, r2, c2, _⟩ := I.tuple S2
    have hd := I.ok.hd calm
    have n1 := r1.length
    have n2 := r2.length
    refine wpAny_pyNext_zipD2_end (sepM D) (Draws.list (A := X.A.in1) hd i1 a D.l1i1 as_.toArray) (Draws.tuple (A := X.A.in1) hd i2 b D.l2i2 bs.toArray) ez eTI eTO ⟨e1, c1.isList⟩ ⟨e2, c2⟩
      (by rw [List.size_toArray]; omega) (by rw [List.size_toArray]; omega) (by rw [List.size_toArray, List.size_toArray]; omega) fun h' tk kp => ⟨rfl, I.turnedL (t' := tk) (ch := [z, TI, TO, i1, i2]) (fun c o nc e => ?_) fp⟩
    simp only [List.mem_cons, List.not_mem_nil, or_false, not_or] at nc
    exact kp c o nc.1 nc.2.2.1 nc.2.2.2.1 nc.2.2.2.2 e
  self := fun A i s Q E st h => wpAny_pyIter_zip st.1 h
def iZipN (K : PySem.W.Frag) (ta : TA) : TI := fun σ H R => ta σ H fun vs H1 => ∃ a b us ws, vs = [.ref a, .ref b] ∧ SqL K H1 a us ∧ SqT K H1 b ws ∧ R (ItzN K a b) H1
theorem pi_zipN {X : Cx} {e e2 : Expr} {ta : TA} {p pos ps : Pos} {tgs : List Expr} {n : Nat} (hg : Gl X "zip") (hm : X.mg "zip" = none) (ha : PA X [e, e2] ta)
    (hs : starEach [e, e2] X.env = (false, eval e X.env) :: starEach [e2] X.env := by rfl) (hpl : (backTo pos (starEach [e2] X.env)).any (·.1) = false := by rfl) :
    PI X (.Tuple tgs n ps) (.Call (.Name "zip" p) [e, e2] [] pos) (iZipN X.K ta) := by
  refine ⟨fun pins s σ H R I h => Call_ (ld_blt I hg hm PyProof.Rows.boot_zip (PyProof.Rows.callWith_type1 (thn (ha.run pos pins s σ H _ I h) fun vals s1 hx => ?_) hs hpl))⟩
  obtain ⟨vs, H1, I1, rs, a, b, us, ws, rfl, S1, S2, q⟩ := hx
  cases rs with
  | cons h1 rs1 =>
  cases rs1 with
  | cons h2 t =>
    cases t
    cases h1
    cases h2
    obtain ⟨as_, r1, c1, _⟩ := I1.list S1
    obtain ⟨bs, r2, c2, _⟩ := I1.tuple S2
    have nw : ∀ k : Nat, FpOk X pins H1 (s1.heap.objs.size + k) := fun k => I1.fpOk (Nat.le_add_right _ _) (I1.hok.fresh (Nat.le_add_right _ _))
    refine zip_begins2 (begins_list a as_.toArray) (begins_tuple b bs.toArray) c1.isList c2 fun h' g1 g2 g3 g4 g5 _ kp => wpAny_pyIter_zip g1 ?_
    have I2 : Inv X pins σ H1 { s1 with heap := h' } := I1.kept (t' := s1.toks) kp
    have la : b < s1.heap.objs.size := by
      obtain ⟨_, z, _⟩ := id c2
      exact Heap.lt_size z
    refine ⟨s1.heap.objs.size + 4, [s1.heap.objs.size + 4, s1.heap.objs.size + 2, s1.heap.objs.size + 3, s1.heap.objs.size, s1.heap.objs.size + 1], _, _, H1, rfl, I2, turn_zipN (PySem.W.ktu_apart s1.heap.objs.size a b c1.lt la), ⟨g1, g2, ⟨_, _, g3⟩, ⟨_, g4, rfl, rfl⟩, ⟨_, g5, rfl, rfl⟩⟩, fun c hc => ?_, q⟩
    simp only [List.mem_cons, List.not_mem_nil, or_false] at hc
    rcases hc with rfl | rfl | rfl | rfl | rfl
    · exact nw 4
    · exact nw 2
    · exact nw 3
    · exact nw 0
    · exact nw 1
section
variable {K : PySem.W.Frag} {a b : Addr} {us ws : List V}
theorem walk_zipN {n : Nat} (hn : n = min us.length ws.length) : Walk (ItzN K a b) n (fun H => SqL K H a us ∧ SqT K H b ws) (YPair (fun i => us[i]?) (fun i => ws[i]?)) := by
  refine ⟨fun i H lt q => ?_, fun H q => ?_, fun i H x H' lt q y => ?_⟩
  · exact ⟨us, ws, us[i]'(by omega), ws[i]'(by omega), q.1, q.2, List.getElem?_eq_getElem _, List.getElem?_eq_getElem _⟩
  · exact ⟨us, ws, q.1, q.2, by omega, by omega, by omega⟩
  · obtain ⟨T, p, r, rfl, fr, rfl, f1, f2⟩ := y
    exact ⟨T, p, r, rfl, fr, rfl, f1 us q.1, f2 ws q.2⟩
variable {v : Nat} {g : TG} {tt : TT} {te : TE} {vs : List Nat} {σ : L2.St} {H1 : Hp} {D : Addr} {Qd : Hp → Prop} {n : Nat}
theorem lc_zipN (hn : n = min us.length ws.length) (Pv : Nat → Hp → Prop) (h0 : Pv 0 (upd H1 D (.lst []))) (hq : ∀ i H, i ≤ n → Pv i H → SqL K H a us ∧ SqT K H b ws)
    (hs : ∀ i x y H T, us[i]? = some x → ws[i]? = some y → Pv i H → H T = none → LcT g tt te vs σ D (Pv (i + 1)) (.ref T) (upd H T (.tup [x, y])))
    (hd : ∀ H, Pv n H → Qd H) : LcW (ItzN K a b) g tt te vs σ H1 D Qd := by
  refine lc_it (walk_zipN hn) Pv h0 hq (fun i x H H' lt p y => ?_) hd
  obtain ⟨T, p1, q1, rfl, fr, rfl, e1, e2⟩ := y
  exact hs i p1 q1 H T e1 e2 p fr
end
end MM

set_option Elab.async false
set_option linter.all false
set_option maxRecDepth 100000
set_option maxHeartbeats 8000000
namespace K02
open LS
open PySem PySem.Spec PyProof.Rows L2 MM
/-! own words for the readings: a step, its side -/
local macro_rules | `(tactic| walk_at "side") => `(tactic| first
  | omega
  | exact ⟨by omega, by omega⟩
  | exact Or.inl ⟨by omega, by omega⟩
  | exact Or.inr ⟨by omega, by omega⟩
  | (show CPw _ _; decide +kernel)
  | (show (0 : Int) < _; decide +kernel)
  | (show CDivW _ _; first | assumption | exact ⟨by decide, by decide +kernel⟩))
local macro_rules | `(tactic| walk_at "here") => `(tactic| first
  | assumption
  | exact upd_same
  | exact Or.inl (Or.inl upd_same)
  | exact Or.inl upd_same)
local macro_rules | `(tactic| walk_at "one") => `(tactic| first
  | refine ⟨_, rfl, ?_⟩
  | refine Or.inl ⟨_, rfl, ?_⟩
  | refine Or.inr ⟨_, rfl, ?_⟩
  | refine ⟨_, _, rfl, rfl, (by walk_at "side"), ?_⟩
  | refine ⟨_, _, rfl, rfl, ?_⟩
  | refine ⟨_, _, rfl, Or.inl (by walk_at "here"), ?_⟩
  | refine ⟨_, _, rfl, Or.inr (by walk_at "here"), ?_⟩
  | refine ⟨_, _, rfl, (by walk_at "here"), ?_⟩
  | refine ⟨_, _, _, _, rfl, rfl, (by walk_at "here"), rfl, ?_⟩
  | refine ⟨_, _, rfl, ?_⟩
  | refine ifT (by rfl) ?_
  | refine ifF (by rfl) ?_
  | refine ifT (decide_eq_true (by omega)) ?_
  | refine ifF (decide_eq_false (by omega)) ?_)
local macro_rules | `(tactic| walk_at "st") => `(tactic| repeat (walk_at "one"))

section
variable {P : Program} {w : World} {K : PySem.W.Frag} {mg : Str → Option Value} {base : Heap}
theorem def_or {CX : CXT} {k : Nat} {x : Str} {ps : List Str} {S1 S2 : Sp} (D1 : Def P w K mg base CX k x ps S1) (D2 : Def P w K mg base CX k x ps S2) : Def P w K mg base CX k x ps fun vs H Q E => S1 vs H Q E ∨ S2 vs H Q E := by
  obtain ⟨f1, fd1, F1, m1, k1, b1, oc1, od1, sl1, l1⟩ := D1
  obtain ⟨f2, fd2, F2, m2, k2, b2, oc2, od2, sl2, l2⟩ := D2
  have e : f1 = f2 := by
    rw [m1] at m2
    have := Option.some.inj m2
    exact Value.ref.inj this
  subst e
  have e : fd1 = fd2 := by
    rw [l1] at l2
    injection l2 with h
    injection h with h1 h2 h3 h4
    injection h3
  subst e
  refine ⟨f1, fd1, ⟨fun h => h.elim F1.arity F2.arity, fun r e b v h => ?_⟩, m1, k1, b1, oc1, od1, sl1, l1⟩
  rcases h with h | h
  · exact F1.runs r e b v h
  · exact F2.runs r e b v h
/-- the stairs of a tuple or a list -/
def spStairsU (K : PySem.W.Frag) : Sp := fun vs H Q E => spStairs K vs H Q E ∨ spStairsL K vs H Q E
/-- what the rows begin with -/
def beg (Y : List (List Int)) (cs : List Nat) : List Int := List.zipWith (fun row (c : Nat) => row.getD c 0) Y cs
def spBegun (K : PySem.W.Frag) : Sp := fun vs H Q _ => ∃ (x t : Addr) (ws : List V) (Y : List (List Int)) (cs : List Nat) (c : Nat), vs = [.ref x, .ref t] ∧ H x = some (.lst ws) ∧ LL H ws Y ∧ SqT K H t (nv cs) ∧ Y.length = cs.length ∧ Rect Y c ∧ (∀ i, i < cs.length → cs.getD i 0 < c) ∧ cs.length ≤ 60 ∧
  ∀ H' r, Same H H' → H r = none → H' r = some (.lst ((beg Y cs).map V.int)) → Q (.ref r) H'
theorem scBegunWith : FnScope ["rows", "begun", "row", "column"] ["rows", "begun"] (defScope sBegunWith) :=
  ⟨rfl, rfl, rfl, by decide +kernel, rfl, by decide +kernel, by decide +kernel⟩
theorem dBegunWith (T : Tx K mg) : Def P w K mg base CX0 1 "_begun_with" ["rows", "begun"] (spBegun K) := by
  refine T.t_begun_with.def_ (N := ["rows", "begun", "row", "column"]) scBegunWith (fun _ _ _ _ _ _ us hl => match us, hl with | [_, _], _ => rfl) ?_ ?_
  · intro vs H Q E h
    obtain ⟨x, t, ws, Y, cs, c, rfl, _⟩ := h
    rfl
  · intro f cd A out s H vs Q E hr h
    obtain ⟨x, t, ws, Y, cs, c, rfl, hx, hY, St, lY, rY, cc, c60, q⟩ := h
    refine ⟨_, (pss_one (ps_ret (pe_lc (own := [("row", 2), ("column", 3)]) (g := gTup K 2 (gCons (gName 2) (gCons (gName 3) gNil))) (tt := tYes) rfl scBegunWith.nd (pi_zipN rfl T.f_zip (pa_cons (pv 0) (pa_cons (pv 1) pa_nil))) (blkOk_by (N := ["rows", "begun", "row", "column"]) (sc := defScope sBegunWith) (by decide +kernel)) (fun _ _ _ _ _ => (show PG _ _ (gTup K 2 (gCons (gName 2) (gCons (gName 3) gNil))) from pg_tup rfl (pgs_cons (pg_name (i := 2) scBegunWith.nd rfl (Or.inl rfl)) (pgs_cons (pg_name (i := 3) scBegunWith.nd rfl (Or.inl rfl)) pgs_nil)))) (fun _ _ _ _ _ => pts_nil) (fun _ _ _ _ _ => (pe_ix (show IxR _ (rIxL K) from ix_list) (pv 2) (pv 3) (fun _ _ => rfl)))))), ?_⟩
    have lw := hY.len
    have ln : (nv cs).length = cs.length := nv_len cs
    refine ⟨_, rfl, _, rfl, x, t, _, _, rfl, .inl (.inl hx), St, fun D nD => ?_⟩
    refine lc_zipN (n := cs.length) (us := ws) (ws := nv cs) (by omega) (fun i H' => Same H H' ∧ H' D = some (.lst ((beg (Y.take i) (cs.take i)).map V.int))) ⟨same_new nD, upd_same⟩ (fun i H' _ e => ⟨.inl (.inl (e.1 _ _ hx)), same_sqt e.1 St⟩) ?_ ?_
    · rintro i x' y' H1 T hx' hy' ⟨s1, hD⟩ fT
      obtain ⟨row, hrow, b, rfl, hb⟩ := paired_at hY hx'
      have li := (List.getElem?_eq_some_iff.mp hrow).1
      rw [nv_at (by omega)] at hy'
      cases hy'
      have lrow : row.length = c := rY row (List.mem_of_getElem? hrow)
      have lc := cc i (by omega)
      have DT : D ≠ T := ne_of_none hD fT
      have s2 := s1.trans (same_new fT (o := .tup [.ref b, .int ((cs.getD i 0 : Nat) : Int)]))
      have hD2 := (upd_ne (o := .tup [.ref b, .int ((cs.getD i 0 : Nat) : Int)]) DT).trans hD
      refine ⟨T, _, rfl, .inl (.inl upd_same), rfl, _, _, rfl, ?_⟩
      refine ⟨_, _, rfl, rfl, rfl, ?_⟩
      generalize upd H1 T _ = H2 at s2 hD2 ⊢
      refine yes_ ?_
      refine ⟨_, rfl, _, rfl, b, _, _, .int (row.getD (cs.getD i 0) 0), rfl, rfl, .inl (.inl (s2 _ _ hb)), atI_nat (intsAt (by omega)), _, hD2, ?_, ?_, ?_⟩
      · rw [List.length_map, beg, List.length_zipWith, List.length_take, sizeLine_eq]
        omega
      · intro k o e
        rw [upd_ne (ne_of_none e nD)]
        exact s2 _ _ e
      · have ec : cs[i]? = some (cs.getD i 0) := by
          rw [List.getD, List.getElem?_eq_getElem (by omega)]
          rfl
        rw [upd_same]
        unfold beg
        rw [List.take_add_one, hrow, List.take_add_one, ec, List.zipWith_append (by rw [List.length_take, List.length_take]; omega), List.map_append]
        rfl
    · rintro H1 ⟨s1, hD⟩
      rw [List.take_length, List.take_of_length_le (by omega)] at hD
      exact q H1 D s1 nD hD
end
end K02


set_option linter.all false
namespace K02
open PySem PySem.Spec PyProof.Rows L2 MM
/-- the rank, told twice -/
theorem shr_rank {R : List (List Int)} {c n : Nat} {D : Nat → Nat} {ord : Nat → Nat} {cs : List Nat} {X : DT.M} {sn : Int} (h : Shr R c D n) (st : DT.St (mat R) R.length c c ord cs X sn) : cs.length = n := by
  have few : cs.length ≤ c := by
    have := st.up
    have hb := st.below
    refine Classical.byContradiction fun ne => ?_
    -- c + 1 numbers below c, ascending
    have asc : ∀ t, t < cs.length → t ≤ cs.getD t 0 := by
      intro t
      induction t with
      | zero => exact fun _ => Nat.zero_le _
      | succ t ih =>
        intro ht
        have h1 := ih (by omega)
        have h2 := List.pairwise_iff_getElem.mp this t (t + 1) (by omega) ht (by omega)
        rw [List.getD, List.getElem?_eq_getElem (by omega)] at h1
        rw [List.getD, List.getElem?_eq_getElem ht]
        show t + 1 ≤ cs[t + 1]
        have h3 : t ≤ cs[t] := h1
        omega
    have h1 := asc c (by omega)
    have h2 := hb (cs.getD c 0) (by rw [List.getD, List.getElem?_eq_getElem (by omega)]; exact List.getElem_mem _)
    omega
  have fr := st.few
  refine Nat.le_antisymm ?_ ?_
  · refine Classical.byContradiction fun ne => ?_
    rcases h.last with e | z
    · omega
    · have m := DT.Ch_minor z (R := ord) (C := fun a => cs.getD a 0) (fun a ha => st.into a (by omega)) (fun a ha => st.below _ (by rw [List.getD, List.getElem?_eq_getElem (by omega)]; exact List.getElem_mem _))
      have l := st.led (n + 1) (by omega)
      exact l (Int.zero_dvd.mp m)
  · refine Classical.byContradiction fun ne => ?_
    have p : DT.P 0 R.length c n (mat R) ((D n + 1 : Nat) : Int) := by
      intro j jn Ro C hR hC
      by_cases e : j = n
      · subst e
        rw [st.none_ (by omega) hR hC, Int.mul_zero]
        exact Int.dvd_zero _
      · rw [Int.zero_pow (by omega), Int.zero_mul]
        exact Int.dvd_zero _
    have := Nat.le_of_dvd (h.pos n (Nat.le_refl _)) ((h.ch n (Nat.le_refl _) _).mp p)
    omega
/-- the last minor of a square table -/
theorem shr_square {R : List (List Int)} {D : Nat → Nat} {ord : Nat → Nat} {cs : List Nat} {X : DT.M} {sn : Int} (h : Shr R R.length D R.length) (st : DT.St (mat R) R.length R.length R.length ord cs X sn) (ss : sn = 1 ∨ sn = -1) :
    D R.length = (DT.L (mat R) ord cs R.length).natAbs := by
  have lc := shr_rank h st
  obtain ⟨r, hr⟩ : ∃ r, r = R.length := ⟨_, rfl⟩
  have id := DT.asc_id cs 0 st.up fun x hx => ⟨Nat.zero_le _, by have := st.below x hx; omega⟩
  have sg := st.sign fun b => cs.getD b 0
  have eL : (DT.L (mat R) ord cs R.length) = DT.det R.length fun a b => mat R (ord a) (cs.getD b 0) := rfl
  rw [← eL] at sg
  have ed : (DT.det R.length fun a b => mat R a (cs.getD b 0)) = DT.det R.length (mat R) := DT.det_congr fun a b _ hb => by
    rw [id b (by omega), Nat.zero_add]
  rw [ed] at sg
  have en : (DT.L (mat R) ord cs R.length).natAbs = (DT.det R.length (mat R)).natAbs := by
    rw [← sg]
    rcases ss with rfl | rfl <;> simp
  refine Nat.dvd_antisymm ?_ ?_
  · have m := DT.Ch_minor (h.ch _ (Nat.le_refl _)) (R := ord) (C := fun a => cs.getD a 0) (fun a ha => st.into a ha) (fun a ha => st.below _ (by rw [List.getD, List.getElem?_eq_getElem (by omega)]; exact List.getElem_mem _))
    exact Int.ofNat_dvd_left.mp m
  · rw [en]
    refine (h.ch _ (Nat.le_refl _) _).mp (DT.P_asc fun l m hl hm => ?_)
    have il := DT.asc_id l 0 hl.2.1 fun x hx => ⟨Nat.zero_le _, by have := hl.2.2 x hx; have := hl.1; omega⟩
    have im := DT.asc_id m 0 hm.2.1 fun x hx => ⟨Nat.zero_le _, by have := hm.2.2 x hx; have := hm.1; omega⟩
    have : (DT.det R.length fun a b => mat R (l.getD a 0) (m.getD b 0)) = DT.det R.length (mat R) := DT.det_congr fun a b ha hb => by
      rw [il a (by have := hl.1; omega), im b (by have := hm.1; omega), Nat.zero_add, Nat.zero_add]
    rw [this]
    exact Int.natAbs_dvd.mpr (Int.dvd_refl _)
end K02

set_option Elab.async false
set_option linter.all false
set_option maxRecDepth 100000
set_option maxHeartbeats 8000000
namespace K02
open LS
open PySem PySem.Spec PyProof.Rows L2 MM
/-! own words for the readings: a step, its side -/
local macro_rules | `(tactic| walk_at "side") => `(tactic| first
  | omega
  | exact ⟨by omega, by omega⟩
  | exact Or.inl ⟨by omega, by omega⟩
  | exact Or.inr ⟨by omega, by omega⟩
  | (show CPw _ _; decide +kernel)
  | (show (0 : Int) < _; decide +kernel)
  | (show CDivW _ _; first | assumption | exact ⟨by decide, by decide +kernel⟩))
local macro_rules | `(tactic| walk_at "here") => `(tactic| first
  | assumption
  | exact upd_same
  | exact Or.inl (Or.inl upd_same)
  | exact Or.inl upd_same)
local macro_rules | `(tactic| walk_at "one") => `(tactic| first
  | refine ⟨_, rfl, ?_⟩
  | refine Or.inl ⟨_, rfl, ?_⟩
  | refine Or.inr ⟨_, rfl, ?_⟩
  | refine ⟨_, _, rfl, rfl, (by walk_at "side"), ?_⟩
  | refine ⟨_, _, rfl, rfl, ?_⟩
  | refine ⟨_, _, rfl, Or.inl (by walk_at "here"), ?_⟩
  | refine ⟨_, _, rfl, Or.inr (by walk_at "here"), ?_⟩
  | refine ⟨_, _, rfl, (by walk_at "here"), ?_⟩
  | refine ⟨_, _, _, _, rfl, rfl, (by walk_at "here"), rfl, ?_⟩
  | refine ⟨_, _, rfl, ?_⟩
  | refine ifT (by rfl) ?_
  | refine ifF (by rfl) ?_
  | refine ifT (decide_eq_true (by omega)) ?_
  | refine ifF (decide_eq_false (by omega)) ?_)
local macro_rules | `(tactic| walk_at "st") => `(tactic| repeat (walk_at "one"))

section
variable {P : Program} {w : World} {K : PySem.W.Frag} {mg : Str → Option Value} {base : Heap}
/-- the elementary divisors -/
def elemD (D : Nat → Nat) (n : Nat) : List Nat := (List.range n).map fun k => D (k + 1) / D k
theorem int_last {pvs : List Int} {n : Nat} (h : pvs.length = n + 1) : atI (pvs.map V.int) (-1) = some (.int (pvs.getD n 0)) := atI_last (n := n) (intsAt (by omega)) (by rw [List.length_map]; exact h)
theorem int_last2 {pvs : List Int} {n : Nat} (h : pvs.length = n + 2) : atI (pvs.map V.int) (-2) = some (.int (pvs.getD n 0)) := by
  unfold atI ixN
  rw [if_neg (by decide), if_pos (by rw [List.length_map]; omega), List.length_map, h]
  show (pvs.map V.int)[((-2 : Int) + ((n + 2 : Nat) : Int)).toNat]? = _
  rw [show ((-2 : Int) + ((n + 2 : Nat) : Int)).toNat = n by omega]
  exact intsAt (by omega)
theorem cut_less (xs : List V) : cutV xs none (some (-1)) = xs.take (xs.length - 1) := by
  unfold cutV
  rw [show HT.sIx xs.length 0 none = 0 from rfl, List.drop_zero, Nat.sub_zero]
  congr 1
  unfold HT.sIx
  simp only []
  split <;> omega
def spSquare (K : PySem.W.Frag) : Sp := fun vs H Q _ => ∃ (a p : Addr) (us : List V) (R : List (List Int)) (D : Nat → Nat) (pvs : List Int) (n : Nat), vs = [.ref a, .ref p] ∧ SqT K H a us ∧ TR K H us R ∧ Rect R (n + 1) ∧ R.length = n + 1 ∧ n + 1 ≤ 6 ∧ Shr R (n + 1) D (n + 1) ∧
  H p = some (.lst (pvs.map V.int)) ∧ pvs.length = n + 1 ∧ (pvs.getD n 0).natAbs = D (n + 1) ∧ (∀ m, n = m + 1 → D n ∣ (pvs.getD m 0).natAbs) ∧ (∀ z ∈ pvs, z.natAbs < 2 ^ 3071) ∧
  ∀ H' t, Same H H' → SqT K H' t (nv (elemD D (n + 1))) → Q (.ref t) H'
theorem scSquareDivisors : FnScope ["table", "pivots", "bound", "divisors", "last", "divisor"] ["table", "pivots"] (defScope sSquareDivisors) :=
  ⟨rfl, rfl, rfl, by decide +kernel, rfl, by decide +kernel, by decide +kernel⟩
theorem dSquareDivisors (T : Tx K mg) (DDivisorsWithin : Def P w K mg base CX0 6 "_divisors_within" ["table", "bound"] (spWithin K)) : Def P w K mg base CX0 7 "_square_divisors" ["table", "pivots"] (spSquare K) := by
  refine T.t_square_divisors.def_ (N := ["table", "pivots", "bound", "divisors", "last", "divisor"]) scSquareDivisors (fun _ _ _ _ _ _ us hl => match us, hl with | [_, _], _ => rfl) ?_ ?_
  · intro vs H Q E h
    obtain ⟨a, p, us, R, D, pvs, n, rfl, _⟩ := h
    rfl
  · intro f cd A out s H vs Q E hr h
    have hr1 : Rm 6 _ := hr.le (by decide)
    obtain ⟨a, p, us, R, D, pvs, n, rfl, S, tR, rc, lR, n6, sh, hp, lp, pl, pm, bp, q⟩ := h
    refine ⟨_, (pss_cons (ps_set (i := 2) scSquareDivisors.nd rfl (Or.inl rfl) (pe_ifExp (pt_cmpR op_gt (pe_callB call_len_seq rfl T.f_len (by decide +kernel) (pa_cons (pv 1) pa_nil)) pe_int (nomark _)) (pe_callBfun cr_gcd rfl T.b_gcd (pa_cons (pe_ix ix_list (pv 1) (pe_un un_neg pe_int) (fun _ _ => rfl)) (pa_cons (pe_ix ix_list (pv 1) (pe_un un_neg pe_int) (fun _ _ => rfl)) pa_nil))) pe_int))
      (pss_cons (ps_set (i := 3) scSquareDivisors.nd rfl (Or.inl rfl) (pe_slice sl_list (pe_d DDivisorsWithin (hr1.le (by decide)) pass0 (pa_cons (pv 0) (pa_cons (pv 2) pa_nil))) po_none (po_some (pe_un un_neg pe_int))))
      (pss_cons (ps_set (i := 4) scSquareDivisors.nd rfl (Or.inl rfl) (pe_callB call_abs rfl T.f_abs (by decide +kernel) (pa_cons (pe_ix ix_list (pv 1) (pe_un un_neg pe_int) (fun _ _ => rfl)) pa_nil)))
      (pss_cons (ps_for PassesOwn.never rfl (pi_list (pv 3)) (pg_name (i := 5) scSquareDivisors.nd rfl (Or.inl rfl))
        (pss_one (ps_set (i := 4) scSquareDivisors.nd rfl (Or.inl rfl) (pe_op op_fdivW (pv 4) (pv 5)))))
      (pss_one (ps_ret (pe_callTy call_tuple_of rfl T.f_tuple (by decide +kernel) (pa_cons (pe_op op_cat (pv 3) (pe_lst (pa_cons (pv 4) pa_nil))) pa_nil)))))))), ?_⟩
    refine seq_rest (fun σ H2 => H2 = H ∧ ∃ b : Nat, D n ∣ b ∧ 0 < b ∧ b < 2 ^ 4000 ∧ σ = [some (.ref a), some (.ref p), some (.int (b : Int)), none, none, none]) ?_ ?_
    rotate_left
    · intro N hN
      have D0 : 0 < D n := sh.pos n (by omega)
      refine ⟨_, rfl, p, _, rfl, .inl (.inl (.inl hp)), _, _, rfl, rfl, _, rfl, ?_⟩
      rw [List.length_map, lp]
      by_cases n1 : 1 ≤ n
      · refine ifT (decide_eq_true (by omega)) ?_
        obtain ⟨m, rfl⟩ : ∃ m, n = m + 1 := ⟨n - 1, by omega⟩
        have z1 : 0 < (pvs.getD (m + 1) 0).natAbs := by rw [pl]; exact sh.pos _ (Nat.le_refl _)
        refine ⟨_, rfl, _, rfl, p, _, _, _, rfl, rfl, .inl (.inl hp), int_last lp, _, rfl, _, rfl, p, _, _, _, rfl, rfl, .inl (.inl hp), int_last2 lp, _, _, rfl, ?_⟩
        refine hN _ _ ⟨rfl, _, Nat.dvd_gcd ?_ (pm m rfl), Nat.gcd_pos_of_pos_left _ z1, ?_, rfl⟩
        · rw [pl]
          exact DT.Ch_next (sh.ch (m + 1) (by omega)) (sh.ch (m + 2) (by omega))
        · exact Nat.lt_of_le_of_lt (Nat.gcd_le_left _ z1) (Nat.lt_trans (bp _ (mem_mem (by omega))) (Nat.pow_lt_pow_right (by decide) (by decide)))
      · refine ifF (decide_eq_false (by omega)) ?_
        obtain rfl : n = 0 := by omega
        exact hN _ _ ⟨rfl, 1, by rw [sh.zero]; exact Nat.dvd_refl _, by decide, by decide, rfl⟩
    · rintro σ H2 ⟨rfl, b, db, b0, b8, rfl⟩
      refine ⟨_, rfl, _, rfl, a, us, R, n + 1, b, rfl, S, tR, rc, by omega, by omega, b0, b8, fun H1 r ss s1 hr ls dv cn ch => ?_⟩
      have lss : ss.length = n + 1 := by omega
      simp only [tNoPart]
      refine ⟨_, rfl, _, rfl, r, _, rfl, .inl (.inl hr), fun F nF => ?_⟩
      have ecut : cutV (nv ss) none (some (-1)) = nv (ss.take n) := by
        rw [cut_less, nv_len, lss]
        unfold nv
        rw [List.map_take]
        rfl
      have sF := s1.trans (same_new (o := .lst (nv (ss.take n))) nF)
      have hF : (upd H1 F (.lst (nv (ss.take n)))) F = some (.lst (nv (ss.take n))) := upd_same
      rw [show cutV (nv ss) none (some (-1)) = nv (ss.take n) from ecut]
      generalize upd H1 F _ = H3 at sF hF ⊢
      have hp3 := sF _ _ hp
      have eq : ∀ k, k < n → ss.getD k 0 = D (k + 1) / D k := DT.quot (A := mat R) (r := R.length) (c := n + 1) (K := n) (fun k hk => sh.ch k (by omega)) db ch cn dv (by omega) (fun k hk => sh.pos k (by omega))
      have ltk : (ss.take n).length = n := by rw [List.length_take]; omega
      have lt0 : atI (pvs.map V.int) (-1) = some (.int (pvs.getD n 0)) := int_last lp
      refine ⟨_, rfl, _, rfl, p, _, _, _, rfl, rfl, .inl (.inl hp3), lt0, _, rfl, ?_⟩
      rw [abs_nat, pl]
      have dn : ∀ k, k ≤ n + 1 → D k ∣ D (n + 1) := by
        intro k hk
        induction h : n + 1 - k generalizing k with
        | zero =>
          obtain rfl : k = n + 1 := by omega
          exact Nat.dvd_refl _
        | succ m ih => exact Nat.dvd_trans (DT.Ch_next (sh.ch k (by omega)) (sh.ch (k + 1) (by omega))) (ih (k + 1) (by omega) (by omega))
      have d8 : D (n + 1) < 2 ^ 3071 := by
        rw [← pl]
        exact bp _ (mem_mem (by omega))
      refine ⟨_, rfl, F, rfl, ⟨_, .inl (.inl hF)⟩, for_list (K := K) (a := F) (xs := nv (ss.take n)) (fun k σ H' => H' = H3 ∧ ∃ y, σ = [some (.ref a), some (.ref p), some (.int (b : Int)), some (.ref F), some (.int ((D (n + 1) / D k : Nat) : Int)), y]) ⟨rfl, _, by rw [sh.zero, Nat.div_one]; rfl⟩
        (fun k σ H' _ e => by rw [e.1]; exact .inl (.inl hF)) ?_ ?_⟩
      · rintro k x σ H' hx ⟨rfl, y, rfl⟩
        have kn : k < n := by
          have := (List.getElem?_eq_some_iff.mp hx).1
          rw [nv_len] at this
          omega
        rw [nv_at (by omega)] at hx
        cases hx
        have ek : (ss.take n).getD k 0 = D (k + 1) / D k := by
          rw [← eq k kn, List.getD, List.getElem?_take, if_pos kn, ← List.getD]
        rw [ek]
        have pk := sh.pos k (by omega)
        have pk1 := sh.pos (k + 1) (by omega)
        have nx := DT.Ch_next (sh.ch k (by omega)) (sh.ch (k + 1) (by omega))
        obtain ⟨z, hz⟩ := nx
        have ez : D (k + 1) / D k = z := by rw [hz, Nat.mul_div_cancel_left _ pk]
        have z0 : 0 < z := Nat.pos_of_ne_zero fun e => by rw [e] at hz; omega
        rw [ez]
        have zb : z < 2 ^ 3071 := by
          have h1 : z ≤ D (k + 1) := by rw [hz]; exact Nat.le_mul_of_pos_left _ pk
          have h2 := Nat.le_of_dvd (sh.pos _ (Nat.le_refl _)) (dn (k + 1) (by omega))
          omega
        refine ⟨_, rfl, _, rfl, _, _, rfl, rfl, ⟨by omega, ?_⟩, rfl, some (V.int (z : Int)), ?_⟩
        · rw [Int.natAbs_natCast]
          exact Nat.lt_of_lt_of_le ((Nat.log2_lt (by omega)).mpr zb) (by decide)
        · have : D (n + 1) / D k / z = D (n + 1) / D (k + 1) := by rw [Nat.div_div_eq_div_mul, hz]
          show [some (V.ref a), some (V.ref p), some (V.int b), some (V.ref F), some (V.int (((D (n + 1) / D k : Nat) : Int) / (z : Int))), some (V.int z)] = _
          rw [← Int.natCast_ediv, this]
      · rintro σ H' ⟨rfl, y, rfl⟩
        rw [nv_len, ltk]
        refine ⟨_, rfl, _, rfl, by show 1 ≤ sizeLine; decide, fun L nL => ?_⟩
        have sL := same_new (o := .lst [.int ((D (n + 1) / D n : Nat) : Int)]) nL
        refine ⟨F, L, _, _, rfl, rfl, sL _ _ hF, upd_same, by rw [nv_len, ltk, sizeLine_eq]; show n + 1 ≤ _; omega, fun M nM => ?_⟩
        have fin : nv (ss.take n) ++ [.int ((D (n + 1) / D n : Nat) : Int)] = nv (elemD D (n + 1)) := by
          unfold nv elemD
          rw [List.range_succ, List.map_append, List.map_append]
          congr 1
          congr 1
          refine List.ext_getElem (by rw [ltk, List.length_map, List.length_range]) fun k h1 h2 => ?_
          rw [List.getElem_take, List.getElem_map, List.getElem_range]
          have := eq k (by omega)
          rwa [List.getD, List.getElem?_eq_getElem (by omega)] at this
        rw [fin]
        have sM := sL.trans (same_new (o := .lst (nv (elemD D (n + 1)))) nM)
        refine ⟨M, _, rfl, .inl ⟨.inl (.inl upd_same), fun t nt => ?_⟩⟩
        exact q _ t ((sF.trans sM).trans (same_new nt)) (.inl (.inl upd_same))
end
end K02


set_option Elab.async false
set_option linter.all false
set_option maxRecDepth 100000
set_option maxHeartbeats 8000000
namespace K02
open LS
open PySem PySem.Spec PyProof.Rows L2 MM
/-! own words for the readings: a step, its side -/
local macro_rules | `(tactic| walk_at "side") => `(tactic| first
  | omega
  | exact ⟨by omega, by omega⟩
  | exact Or.inl ⟨by omega, by omega⟩
  | exact Or.inr ⟨by omega, by omega⟩
  | (show CPw _ _; decide +kernel)
  | (show (0 : Int) < _; decide +kernel)
  | (show CDivW _ _; first | assumption | exact ⟨by decide, by decide +kernel⟩))
local macro_rules | `(tactic| walk_at "here") => `(tactic| first
  | assumption
  | exact upd_same
  | exact Or.inl (Or.inl upd_same)
  | exact Or.inl upd_same)
local macro_rules | `(tactic| walk_at "one") => `(tactic| first
  | refine ⟨_, rfl, ?_⟩
  | refine Or.inl ⟨_, rfl, ?_⟩
  | refine Or.inr ⟨_, rfl, ?_⟩
  | refine ⟨_, _, rfl, rfl, (by walk_at "side"), ?_⟩
  | refine ⟨_, _, rfl, rfl, ?_⟩
  | refine ⟨_, _, rfl, Or.inl (by walk_at "here"), ?_⟩
  | refine ⟨_, _, rfl, Or.inr (by walk_at "here"), ?_⟩
  | refine ⟨_, _, rfl, (by walk_at "here"), ?_⟩
  | refine ⟨_, _, _, _, rfl, rfl, (by walk_at "here"), rfl, ?_⟩
  | refine ⟨_, _, rfl, ?_⟩
  | refine ifT (by rfl) ?_
  | refine ifF (by rfl) ?_
  | refine ifT (decide_eq_true (by omega)) ?_
  | refine ifF (decide_eq_false (by omega)) ?_)
local macro_rules | `(tactic| walk_at "st") => `(tactic| repeat (walk_at "one"))

section
variable {P : Program} {w : World} {K : PySem.W.Frag} {mg : Str → Option Value} {base : Heap}
theorem beg_len {Y : List (List Int)} {cs : List Nat} (h : Y.length = cs.length) : (beg Y cs).length = cs.length := by
  unfold beg
  rw [List.length_zipWith, h, Nat.min_self]
theorem beg_get {Y : List (List Int)} {cs : List Nat} {t : Nat} (h : Y.length = cs.length) (ht : t < cs.length) : (beg Y cs).getD t 0 = mat Y t (cs.getD t 0) := by
  have ec : cs[t]? = some (cs.getD t 0) := by
    rw [List.getD, List.getElem?_eq_getElem ht]
    rfl
  unfold beg
  rw [List.getD, List.getElem?_zipWith, row_get (by omega), ec]
  rfl
theorem cs_mem {cs : List Nat} {i : Nat} (h : i < cs.length) : cs.getD i 0 ∈ cs := nat_mem h
theorem fin_L {R Y : List (List Int)} {c : Nat} {cs : List Nat} {ord : Nat → Nat} {sn : Int} {X : DT.M} (f : Fin R c Y cs ord sn X) {t : Nat} (ht : t < cs.length) : (beg Y cs).getD t 0 = DT.L (mat R) ord cs (t + 1) := by
  rw [beg_get f.len ht, f.eq t ht _ (f.st.below _ (cs_mem ht))]
  exact f.st.piv (Nat.le_refl _) ht
theorem fin_big {R Y : List (List Int)} {c : Nat} {cs : List Nat} {ord : Nat → Nat} {sn : Int} {X : DT.M} (f : Fin R c Y cs ord sn X) : ∀ z ∈ beg Y cs, z.natAbs < 2 ^ 3071 := by
  intro z hz
  obtain ⟨t, ht, rfl⟩ := List.mem_iff_getElem.mp hz
  rw [beg_len f.len] at ht
  have : (beg Y cs)[t] = (beg Y cs).getD t 0 := by
    rw [List.getD, List.getElem?_eq_getElem (by rw [beg_len f.len]; exact ht)]
    rfl
  rw [this, beg_get f.len ht]
  exact big_get f.big f.rect (by rw [f.len]; exact ht) (f.st.below _ (cs_mem ht))
theorem shr_dvd {R : List (List Int)} {c k n : Nat} {D : Nat → Nat} {ord : Nat → Nat} {cs : List Nat} {X : DT.M} {sn : Int} (h : Shr R c D n) (st : DT.St (mat R) R.length c c ord cs X sn) (hk : k ≤ n) (hk2 : k ≤ cs.length) : D k ∣ (DT.L (mat R) ord cs k).natAbs :=
  Int.ofNat_dvd_left.mp (DT.Ch_minor (h.ch k hk) (R := ord) (C := fun a => cs.getD a 0) (fun a ha => st.into a (by have := st.few; omega)) (fun a ha => st.below _ (cs_mem (by omega))))
/-- the table turned round -/
def rev2 (R : List (List Int)) : List (List Int) := revR R.reverse
theorem rev2_len (R : List (List Int)) : (rev2 R).length = R.length := by
  unfold rev2
  rw [revR_len, List.length_reverse]
theorem rev2_rect {R : List (List Int)} {c : Nat} (h : Rect R c) : Rect (rev2 R) c := revR_rect fun row hr => h row (List.mem_reverse.mp hr)
theorem rev2_big {R : List (List Int)} {B : Nat} (h : Big R B) : Big (rev2 R) B := revR_big fun row hr => h row (List.mem_reverse.mp hr)
theorem rev2_mat {R : List (List Int)} {c i j : Nat} (rc : Rect R c) (hi : i < R.length) (hj : j < c) : mat (rev2 R) i j = mat R (R.length - 1 - i) (c - 1 - j) := by
  have e : (rev2 R).getD i [] = (R.getD (R.length - 1 - i) []).reverse := by
    unfold rev2 revR
    rw [List.getD, List.getElem?_map, List.getElem?_reverse hi, row_get (by omega)]
    rfl
  have l := rect_get rc (i := R.length - 1 - i) (by omega)
  unfold mat
  rw [e, List.getD, List.getElem?_reverse (by omega), l]
  rfl
theorem rev2_P {R : List (List Int)} {c k : Nat} {b g : Int} (rc : Rect R c) : DT.P b R.length c k (mat R) g ↔ DT.P b R.length c k (mat (rev2 R)) g := by
  constructor
  · intro h
    exact DT.P_congr (fun i hi j hj => (rev2_mat rc hi hj).symm) (DT.P_cols (fun j => c - 1 - j) (fun j hj => by omega) (DT.P_rows (fun i => R.length - 1 - i) (fun i hi => by omega) h))
  · intro h
    refine DT.P_congr (fun i hi j hj => ?_) (DT.P_cols (fun j => c - 1 - j) (fun j hj => by omega) (DT.P_rows (fun i => R.length - 1 - i) (fun i hi => by omega) h))
    show mat (rev2 R) (R.length - 1 - i) (c - 1 - j) = mat R i j
    rw [rev2_mat rc (by omega) (by omega), show R.length - 1 - (R.length - 1 - i) = i by omega, show c - 1 - (c - 1 - j) = j by omega]
theorem shr_rev {R : List (List Int)} {c n : Nat} {D : Nat → Nat} (rc : Rect R c) (h : Shr R c D n) : Shr (rev2 R) c D n := by
  have t : ∀ {k E : Nat}, DT.Ch 0 R.length c k (mat R) E → DT.Ch 0 (rev2 R).length c k (mat (rev2 R)) E := fun {k E} ch g => by
    rw [rev2_len]
    exact (rev2_P rc).symm.trans (ch g)
  exact ⟨h.zero, fun k hk => t (h.ch k hk), h.pos, by rw [rev2_len]; exact h.most, by rw [rev2_len]; exact h.last.imp id fun z => (by have := t z; rwa [rev2_len] at this)⟩
theorem paired_rev {α β : Type} {R : α → β → Prop} : ∀ {us : List α} {os : List β}, Paired R us os → Paired R us.reverse os.reverse
  | _, _, .nil => .nil
  | _, _, .cons r t => by
    rw [List.reverse_cons, List.reverse_cons]
    exact paired_snoc r (paired_rev t)
def spElem (K : PySem.W.Frag) : Sp := fun vs H Q _ => ∃ (a : Addr) (us : List V) (R : List (List Int)) (c : Nat) (D : Nat → Nat) (n : Nat), vs = [.ref a] ∧ SqT K H a us ∧ TR K H us R ∧ Sml R c ∧ Shr R c D n ∧
  ∀ H' t, Same H H' → SqT K H' t (nv (elemD D n)) → Q (.ref t) H'
theorem scElementaryDivisors : FnScope ["table", "rows", "begun", "_", "pivots", "other_rows", "other_begun", "row", "bound"] ["table"] (defScope sElementaryDivisors) :=
  ⟨rfl, rfl, rfl, by decide +kernel, rfl, by decide +kernel, by decide +kernel⟩
theorem dElementaryDivisors (T : Tx K mg) (DNeedTable : Def P w K mg base CX0 5 "_need_table" ["table"] (spNeedTable K)) (DStairs : Def P w K mg base CX0 2 "_stairs" ["table"] (spStairsU K)) (DBegunWith : Def P w K mg base CX0 1 "_begun_with" ["rows", "begun"] (spBegun K)) (DSquareDivisors : Def P w K mg base CX0 7 "_square_divisors" ["table", "pivots"] (spSquare K)) (DDivisorsWithin : Def P w K mg base CX0 6 "_divisors_within" ["table", "bound"] (spWithin K)) : Def P w K mg base CX0 8 "elementary_divisors" ["table"] (spElem K) := by
  refine T.t_elementary_divisors.def_ (N := ["table", "rows", "begun", "_", "pivots", "other_rows", "other_begun", "row", "bound"]) scElementaryDivisors (fun _ _ _ _ _ _ us hl => match us, hl with | [_], _ => rfl) ?_ ?_
  · intro vs H Q E h
    obtain ⟨a, us, R, c, D, n, rfl, _⟩ := h
    rfl
  · intro f cd A out s H vs Q E hr h
    have hr1 : Rm 7 _ := hr.le (by decide)
    obtain ⟨a, us, R, c, D, n, rfl, S, tR, ⟨gd, six, big⟩, sh, q⟩ := h
    refine ⟨_, (pss_cons (ps_expr (pe_d DNeedTable (hr1.le (by decide)) pass0 (pa_cons (pv 0) pa_nil)))
      (pss_cons (ps_asg (pe_d DStairs (hr1.le (by decide)) pass0 (pa_cons (pv 0) pa_nil)) (pg_tup rfl (pgs_cons (pg_name (i := 1) scElementaryDivisors.nd rfl (Or.inl rfl)) (pgs_cons (pg_name (i := 2) scElementaryDivisors.nd rfl (Or.inl rfl)) (pgs_cons (pg_name (i := 3) scElementaryDivisors.nd rfl (Or.inl rfl)) pgs_nil)))))
      (pss_cons (ps_if (pt_cmpR op_eq (pe_callB call_len_seq rfl T.f_len (by decide +kernel) (pa_cons (pv 2) pa_nil)) pe_int (nomark _)) (pss_one (ps_ret (pe_tup pa_nil))) pss_nil)
      (pss_cons (ps_set (i := 4) scElementaryDivisors.nd rfl (Or.inl rfl) (pe_d DBegunWith (hr1.le (by decide)) pass0 (pa_cons (pv 1) (pa_cons (pv 2) pa_nil))))
      (pss_cons (ps_if (PW.pt (pw_and (pt_cmpR op_eq (pe_callB call_len_seq rfl T.f_len (by decide +kernel) (pa_cons (pv 2) pa_nil)) (pe_callB call_len_seq rfl T.f_len (by decide +kernel) (pa_cons (pv 0) pa_nil)) (nomark _)) (pw_and1 (pt_cmpR op_eq (pe_callB call_len_seq rfl T.f_len (by decide +kernel) (pa_cons (pv 2) pa_nil)) (pe_callB call_len_seq rfl T.f_len (by decide +kernel) (pa_cons (pe_ix ix_tup (pv 0) pe_int (fun _ _ => rfl)) pa_nil)) (nomark _))))) (pss_one (ps_ret (pe_d DSquareDivisors (hr1.le (by decide)) pass0 (pa_cons (pv 0) (pa_cons (pv 4) pa_nil))))) pss_nil)
      (pss_cons (ps_asg (pe_d DStairs (hr1.le (by decide)) pass0 (pa_cons (pe_lc (own := [("row", 7)]) (g := gName 7) (tt := tYes) rfl scElementaryDivisors.nd (pi_tup (pe_backT (pv 0))) (blkOk_by (N := ["table", "rows", "begun", "_", "pivots", "other_rows", "other_begun", "row", "bound"]) (sc := defScope sElementaryDivisors) (by decide +kernel)) (fun _ _ _ _ _ => pg_name (i := 7) scElementaryDivisors.nd rfl (Or.inl rfl)) (fun _ _ _ _ _ => pts_nil) (fun _ _ _ _ _ => (show PE _ _ (tBackT K _) from pe_backT (pv 7)))) pa_nil)) (pg_tup rfl (pgs_cons (pg_name (i := 5) scElementaryDivisors.nd rfl (Or.inl rfl)) (pgs_cons (pg_name (i := 6) scElementaryDivisors.nd rfl (Or.inl rfl)) (pgs_cons (pg_name (i := 3) scElementaryDivisors.nd rfl (Or.inl rfl)) pgs_nil)))))
      (pss_cons (ps_set (i := 8) scElementaryDivisors.nd rfl (Or.inl rfl) (pe_callBfun cr_gcd rfl T.b_gcd (pa_cons (pe_ix ix_list (pv 4) (pe_un un_neg pe_int) (fun _ _ => rfl)) (pa_cons (pe_ix ix_list (pe_d DBegunWith (hr1.le (by decide)) pass0 (pa_cons (pv 5) (pa_cons (pv 6) pa_nil))) (pe_un un_neg pe_int) (fun _ _ => rfl)) pa_nil))))
      (pss_one (ps_ret (pe_callTy call_tuple_of rfl T.f_tuple (by decide +kernel) (pa_cons (pe_slice sl_list (pe_d DDivisorsWithin (hr1.le (by decide)) pass0 (pa_cons (pv 0) (pa_cons (pv 8) pa_nil))) po_none (po_some (pe_callB call_len_seq rfl T.f_len (by decide +kernel) (pa_cons (pv 2) pa_nil)))) pa_nil))))))))))), ?_⟩
    refine ⟨_, rfl, _, _, rfl, tab_tv S tR, good_tab gd, fun H1 s1 => ?_⟩
    replace S := same_sqt s1 S
    replace tR := tR.same s1
    have lu := tR.len
    have r1 := gd.r1
    have c60 := gd.m2
    have rc := gd.rect
    refine ⟨_, rfl, .inl ⟨a, us, R, c, rfl, S, tR, rc, r1, six, c60, big, fun H2 r x t ws Y cs ord sn X s2 er ex ll St fin => ?_⟩⟩
    refine ⟨r, _, rfl, .inl (.inl er), rfl, _, _, rfl, ?_⟩
    refine ⟨_, _, rfl, ?_⟩
    refine ⟨_, _, rfl, rfl, ?_⟩
    replace S := same_sqt s2 S
    replace tR := tR.same s2
    have lc := shr_rank sh fin.st
    have lnv := nv_len cs
    have cmem : ∀ i, i < cs.length → cs.getD i 0 < c := fun i hi => fin.st.below _ (cs_mem hi)
    have s03 := s1.trans s2
    refine ⟨_, rfl, t, _, rfl, .inr St, rfl, _, rfl, ?_⟩
    rw [lnv, lc]
    by_cases n0 : n = 0
    · refine ifT (decide_eq_true (by rw [n0]; rfl)) ?_
      refine ⟨by decide, fun p np => ?_⟩
      refine q _ p (s03.trans (same_new np)) ?_
      rw [n0]
      exact .inl (.inl upd_same)
    refine ifF (decide_eq_false fun h => n0 (by have := V.int.inj h; omega)) ?_
    refine ⟨_, rfl, _, rfl, x, t, ws, Y, cs, c, rfl, ex, ll, St, fin.len, fin.rect, cmem, by have := fin.st.few; omega, fun H3 pA s3 np hp => ?_⟩
    replace S := same_sqt s3 S
    replace tR := tR.same s3
    replace St := same_sqt s3 St
    have s04 := s03.trans s3
    have lb := beg_len fin.len
    have bb := fin_big fin
    obtain ⟨m, hm⟩ : ∃ m, n = m + 1 := ⟨n - 1, by omega⟩
    obtain ⟨u0, hu0, b00, rfl, S0⟩ := paired_get tR (row_get (i := 0) (by omega))
    have l0 := rect_get rc (i := 0) (by omega)
    have last := fin_L fin (t := m) (by omega)
    have dl := shr_dvd sh fin.st (k := m + 1) (by omega) (by omega)
    have Dp := sh.pos n (Nat.le_refl _)
    try dsimp only [gName]
    refine seq_rest (fun σ H4 => H4 = H3 ∧ ∃ y5 y6 y7 y8, σ = [some (.ref a), some (.ref x), some (.ref t), some (.int sn), some (.ref pA), y5, y6, y7, y8]) ?_ ?_
    rotate_left
    · intro N hN
      refine ⟨_, rfl, t, _, rfl, .inr St, _, rfl, a, _, rfl, .inr S, rfl, _, rfl, ?_⟩
      rw [lnv, lc, lu]
      by_cases e1 : n = R.length
      · refine ifT (decide_eq_true (by rw [e1])) ?_
        refine ⟨_, rfl, t, _, rfl, .inr St, _, rfl, a, _, _, .ref b00, rfl, rfl, S, atI_nat (j := 0) hu0, b00, _, rfl, .inr S0, rfl, _, rfl, ?_⟩
        rw [lnv, lc, List.length_map, l0]
        by_cases e2 : n = c
        · refine ifT (decide_eq_true (by rw [e2])) ?_
          subst e2
          subst hm
          refine ⟨_, rfl, _, rfl, a, pA, us, R, D, beg Y cs, m, rfl, S, tR, rc, e1.symm, by omega, sh, hp, by rw [lb, lc], ?_, ?_, bb, fun H' t' s' St' => q H' t' (s04.trans s') St'⟩
          · rw [last]
            have sh2 := sh
            have fs := fin.st
            rw [e1] at sh2 fs
            rw [e1]
            exact (shr_square sh2 fs fin.sign).symm
          · intro m' e
            rw [fin_L fin (t := m') (by omega), ← e]
            exact shr_dvd sh fin.st (by omega) (by omega)
        · refine ifF (decide_eq_false fun h => e2 (by have := V.int.inj h; omega)) ?_
          exact hN _ _ ⟨rfl, _, _, _, _, rfl⟩
      · refine ifF (decide_eq_false fun h => e1 (by have := V.int.inj h; omega)) ?_
        refine ifF rfl ?_
        exact hN _ _ ⟨rfl, _, _, _, _, rfl⟩
    · rintro σ H4 ⟨rfl, y5, y6, y7, y8, rfl⟩
      refine ⟨_, rfl, a, _, rfl, S, by rw [sizeLine_eq]; omega, fun B nB => ?_⟩
      have sB := same_new (o := .tup us.reverse) nB
      have hB : (upd H4 B (.tup us.reverse)) B = some (.tup us.reverse) := upd_same
      replace S := same_sqt sB S
      replace tR := tR.same sB
      have hp5 := sB _ _ hp
      replace s04 := s04.trans sB
      generalize upd H4 B _ = H5 at sB hB S tR hp5 s04 ⊢
      have tV := paired_rev tR
      refine ⟨B, rfl, ⟨_, .inl (.inl hB)⟩, fun E' nE => ?_⟩
      refine lc_tup (K := K) (a := B) (xs := us.reverse) (Pv := fun i H' => Same H5 H' ∧ ∃ zs, H' E' = some (.lst zs) ∧ TR K H' zs ((rev2 R).take i)) ⟨same_new nE, [], upd_same, .nil⟩ (fun i H' _ e => same_sqt e.1 (.inl (.inl hB))) ?_ ?_
      · rintro i v H' hv ⟨s9, zs, hE, tz⟩
        obtain ⟨row, hrow, b, rfl, Sb⟩ := paired_at tV hv
        have li := (List.getElem?_eq_some_iff.mp hv).1
        rw [List.length_reverse] at li
        have lr : row.length = c := rc row (List.mem_reverse.mp (List.mem_of_getElem? hrow))
        have lz := tz.len
        refine ⟨wipe_one, yes_ ?_⟩
        refine ⟨_, rfl, b, _, rfl, same_sqt s9 Sb, by rw [List.length_map, sizeLine_eq]; omega, fun p np => ?_⟩
        have sp := same_new (o := .tup (row.map V.int).reverse) np
        have hE2 := sp _ _ hE
        refine ⟨zs, hE2, by rw [lz, List.length_take, sizeLine_eq]; omega, ?_, zs ++ [.ref p], upd_same, ?_⟩
        · intro k o e
          rw [upd_ne (ne_of_none e nE)]
          exact sp _ _ (s9 _ _ e)
        · have e : (rev2 R).take (i + 1) = (rev2 R).take i ++ [row.reverse] := by
            unfold rev2 revR
            rw [List.take_add_one, List.getElem?_map, hrow]
            rfl
          rw [e]
          refine paired_snoc ⟨p, rfl, sqt_lst (tup_sqt ?_) hE2⟩ ((tz.same sp).put hE2)
          rw [upd_same, List.map_reverse]
      rintro H6 ⟨s6, zs, hE, tz⟩
      rw [List.length_reverse, List.take_of_length_le (by rw [rev2_len]; omega)] at tz
      have shr := shr_rev rc sh
      refine Or.inr ⟨E', zs, rev2 R, c, rfl, lst_sql hE, tz, rev2_rect rc, by rw [rev2_len]; exact r1, by rw [rev2_len]; exact six, c60, rev2_big big, fun H7 r2 x2 t2 ws2 Y2 cs2 ord2 sn2 X2 s7 er2 ex2 ll2 St2 fin2 => ?_⟩
      have lc2 := shr_rank shr fin2.st
      have n6 : n ≤ 6 := by have := fin.st.few; omega
      refine ⟨r2, _, rfl, .inl (.inl er2), rfl, _, _, rfl, ?_⟩
      refine ⟨_, _, rfl, ?_⟩
      refine ⟨_, _, rfl, rfl, ?_⟩
      have s47 := s6.trans s7
      have cmem2 : ∀ i, i < cs2.length → cs2.getD i 0 < c := fun i hi => fin2.st.below _ (cs_mem hi)
      have atp : atI ((beg Y cs).map V.int) (-1) = some (.int ((beg Y cs).getD m 0)) := int_last (by rw [lb, lc, hm])
      refine ⟨_, rfl, _, rfl, pA, _, _, _, rfl, rfl, .inl (.inl (s47 _ _ hp5)), atp, ?_⟩
      refine ⟨_, rfl, _, rfl, x2, t2, ws2, Y2, cs2, c, rfl, ex2, ll2, St2, fin2.len, fin2.rect, cmem2, by omega, fun H8 pB s8 np2 hp2 => ?_⟩
      have lb2 := beg_len fin2.len
      have last2 := fin_L fin2 (t := m) (by omega)
      have dl2 := shr_dvd shr fin2.st (k := m + 1) (by omega) (by omega)
      have atp2 : atI ((beg Y2 cs2).map V.int) (-1) = some (.int ((beg Y2 cs2).getD m 0)) := int_last (by rw [lb2, lc2, hm])
      refine ⟨_, rfl, pB, _, _, _, rfl, rfl, .inl (.inl hp2), atp2, ?_⟩
      refine ⟨_, _, rfl, ?_⟩
      obtain ⟨b, hb⟩ : ∃ b, b = Nat.gcd ((beg Y cs).getD m 0).natAbs ((beg Y2 cs2).getD m 0).natAbs := ⟨_, rfl⟩
      rw [← hb]
      have z1 : 0 < ((beg Y cs).getD m 0).natAbs := by
        rw [last]
        have := fin.st.led (m + 1) (by omega)
        omega
      have b0 : 0 < b := by rw [hb]; exact Nat.gcd_pos_of_pos_left _ z1
      have b8 : b < 2 ^ 4000 := by
        rw [hb]
        exact Nat.lt_of_le_of_lt (Nat.gcd_le_left _ z1) (Nat.lt_trans (bb _ (mem_mem (by omega))) (Nat.pow_lt_pow_right (by decide) (by decide)))
      have db : D n ∣ b := by
        rw [hb, last, last2, hm]
        exact Nat.dvd_gcd dl dl2
      have s48 := s47.trans s8
      replace S := same_sqt s48 S
      replace tR := tR.same s48
      refine ⟨_, rfl, _, rfl, a, us, R, c, b, rfl, S, tR, rc, by omega, c60, b0, b8, fun H9 r9 ss s9 hr9 ls dv cn ch => ?_⟩
      simp only [tNoPart]
      replace St := same_sqt ((sB.trans s48).trans s9) St
      refine ⟨_, rfl, t, _, rfl, .inr St, _, rfl, r9, _, rfl, .inl (.inl hr9), fun F nF => ?_⟩
      have most := sh.most
      have eq : ∀ k, k < n → ss.getD k 0 = D (k + 1) / D k := DT.quot (A := mat R) (r := R.length) (c := c) (K := n) (fun k hk => sh.ch k hk) db ch cn dv (by omega) (fun k hk => sh.pos k hk)
      have ecut : cutV (nv ss) none (some ((nv cs).length : Int)) = nv (elemD D n) := by
        rw [lnv, lc]
        refine (cut_upto (nv ss) n).trans ?_
        unfold nv elemD
        rw [← List.map_take]
        congr 1
        refine List.ext_getElem (by rw [List.length_take, List.length_map, List.length_range]; omega) fun k h1 h2 => ?_
        rw [List.getElem_take, List.getElem_map, List.getElem_range]
        rw [List.length_map, List.length_range] at h2
        have := eq k h2
        rwa [List.getD, List.getElem?_eq_getElem (by omega)] at this
      rw [ecut]
      have sF := same_new (o := .lst (nv (elemD D n))) nF
      refine ⟨F, _, rfl, .inl ⟨.inl (.inl upd_same), fun l nl => ?_⟩⟩
      exact q _ l ((((s04.trans s48).trans s9).trans sF).trans (same_new nl)) (.inl (.inl upd_same))
end
end K02


set_option Elab.async false
set_option linter.all false
set_option maxRecDepth 100000
set_option maxHeartbeats 8000000
namespace K02
open LS
open PySem PySem.Spec PyProof.Rows L2 MM
/-! own words for the readings: a step, its side -/
local macro_rules | `(tactic| walk_at "side") => `(tactic| first
  | omega
  | exact ⟨by omega, by omega⟩
  | exact Or.inl ⟨by omega, by omega⟩
  | exact Or.inr ⟨by omega, by omega⟩
  | (show CPw _ _; decide +kernel)
  | (show (0 : Int) < _; decide +kernel)
  | (show CDivW _ _; first | assumption | exact ⟨by decide, by decide +kernel⟩))
local macro_rules | `(tactic| walk_at "here") => `(tactic| first
  | assumption
  | exact upd_same
  | exact Or.inl (Or.inl upd_same)
  | exact Or.inl upd_same)
local macro_rules | `(tactic| walk_at "one") => `(tactic| first
  | refine ⟨_, rfl, ?_⟩
  | refine Or.inl ⟨_, rfl, ?_⟩
  | refine Or.inr ⟨_, rfl, ?_⟩
  | refine ⟨_, _, rfl, rfl, (by walk_at "side"), ?_⟩
  | refine ⟨_, _, rfl, rfl, ?_⟩
  | refine ⟨_, _, rfl, Or.inl (by walk_at "here"), ?_⟩
  | refine ⟨_, _, rfl, Or.inr (by walk_at "here"), ?_⟩
  | refine ⟨_, _, rfl, (by walk_at "here"), ?_⟩
  | refine ⟨_, _, _, _, rfl, rfl, (by walk_at "here"), rfl, ?_⟩
  | refine ⟨_, _, rfl, ?_⟩
  | refine ifT (by rfl) ?_
  | refine ifF (by rfl) ?_
  | refine ifT (decide_eq_true (by omega)) ?_
  | refine ifF (decide_eq_false (by omega)) ?_)
local macro_rules | `(tactic| walk_at "st") => `(tactic| repeat (walk_at "one"))

section
variable {P : Program} {w : World} {K : PySem.W.Frag} {mg : Str → Option Value} {base : Heap}
/-- all but the bag -/
def Sb (p : Addr) (H H' : Hp) : Prop := ∀ b o, H b = some o → b ≠ p → H' b = some o
def IsBag (p : Addr) (H : Hp) : Prop := ∃ g m c : Int, H p = some (.lst [.int g, .int m, .int c])
def spDrawn (K : PySem.W.Frag) : Sp := fun vs H Q _ => ∃ (p : Addr) (r c : Nat), vs = [.ref p, .int (r : Int), .int (c : Int)] ∧ IsBag p H ∧ 1 ≤ r ∧ r ≤ 6 ∧ 1 ≤ c ∧ c ≤ 6 ∧
  ∀ H' t ws R, Sb p H H' → IsBag p H' → SqT K H' t ws → TR K H' ws R → R.length = r → Rect R c → Big R (2 ^ 47) → Q (.ref t) H'
theorem scTbDrawnL : FnScope ["_law_bag_here", "_law_rows", "_law_columns", "_law_high", "_law_found", "_law_place", "_law_row", "_law_at", "_law_to", "_law_many", "_law_number"] ["_law_bag_here", "_law_rows", "_law_columns"] (defScope sTbDrawnL) :=
  ⟨rfl, rfl, rfl, by decide +kernel, rfl, by decide +kernel, by decide +kernel⟩
theorem dTbDrawnL (T : Tx K mg) (DOneOfL : Def P w K mg base CX0 2 "_law_one_of" ["_law_bag_here", "_law_items"] (spOneOf K)) (DGrabL : Def P w K mg base CX0 1 "_law_grab" ["_law_bag_here", "_law_total"] spGrab) : Def P w K mg base CX0 3 "_law_tb_drawn" ["_law_bag_here", "_law_rows", "_law_columns"] (spDrawn K) := by
  refine T.t_law_tb_drawn.def_ (N := ["_law_bag_here", "_law_rows", "_law_columns", "_law_high", "_law_found", "_law_place", "_law_row", "_law_at", "_law_to", "_law_many", "_law_number"]) scTbDrawnL (fun _ _ _ _ _ _ us hl => match us, hl with | [_, _, _], _ => rfl) ?_ ?_
  · intro vs H Q E h
    obtain ⟨p, r, c, rfl, _⟩ := h
    rfl
  · intro f cd A out s H vs Q E hr h
    have hr1 : Rm 2 _ := hr.le (by decide)
    obtain ⟨p, r, c, rfl, ⟨g0, m0, c0, hp⟩, r1, r6, c1, c6, q⟩ := h
    refine ⟨_, (pss_cons (ps_set (i := 3) scTbDrawnL.nd rfl (Or.inr rfl) (pe_d DOneOfL (hr1.le (by decide)) pass0 (pa_cons (pv 0) (pa_cons (pe_lst (pa_cons pe_int (pa_cons pe_int (pa_cons pe_int (pa_cons pe_int (pa_cons (pe_op op_pw pe_int pe_int) pa_nil)))))) pa_nil))))
      (pss_cons (ps_setLc (i := 4) (own := [("_law_row", 6)]) (g := gName 6) (tt := tYes) rfl scTbDrawnL.nd rfl rfl (sw_true rfl rfl rfl rfl) (pi_range1 rfl T.f_range (pa_cons (pv 1) pa_nil)) (blkOk_by (N := ["_law_bag_here", "_law_rows", "_law_columns", "_law_high", "_law_found", "_law_place", "_law_row", "_law_at", "_law_to", "_law_many", "_law_number"]) (sc := defScope sTbDrawnL) (by decide +kernel)) (fun _ _ _ _ _ => pg_name (i := 6) scTbDrawnL.nd rfl (Or.inl rfl)) (fun _ _ _ _ _ => pts_nil) (fun _ _ _ _ _ => (pe_lc (own := [("_law_place", 5)]) (g := gName 5) (tt := tYes) rfl scTbDrawnL.nd (pi_range1 rfl T.f_range (pa_cons (pv 2) pa_nil)) (blkOk_by (N := ["_law_bag_here", "_law_rows", "_law_columns", "_law_high", "_law_found", "_law_place", "_law_row", "_law_at", "_law_to", "_law_many", "_law_number"]) (sc := _) (by kernel_rfl)) (fun _ _ _ _ _ => pg_name (i := 5) scTbDrawnL.nd rfl (Or.inl rfl)) (fun _ _ _ _ _ => pts_nil) (fun _ _ _ _ _ => (pe_op op_sub (pe_d DGrabL (hr1.le (by decide)) pass0 (pa_cons (pv 0) (pa_cons (pe_op op_add (pe_op op_mul pe_int (pv 3)) pe_int) pa_nil))) (pv 3))))))
      (pss_cons (ps_if (PW.pt (pw_and (pt_cmpR op_gt (pv 1) pe_int (nomark _)) (pw_and1 (pt_cmpR (op_eqD hr.hu) (pe_d DGrabL (hr1.le (by decide)) pass0 (pa_cons (pv 0) (pa_cons pe_int pa_nil))) pe_int (nomark _))))) (pss_cons (ps_asg (pe_tup (pa_cons (pe_d DGrabL (hr1.le (by decide)) pass0 (pa_cons (pv 0) (pa_cons (pv 1) pa_nil))) (pa_cons (pe_d DGrabL (hr1.le (by decide)) pass0 (pa_cons (pv 0) (pa_cons (pv 1) pa_nil))) (pa_cons (pe_op op_sub (pe_d DGrabL (hr1.le (by decide)) pass0 (pa_cons (pv 0) (pa_cons pe_int pa_nil))) pe_int) pa_nil)))) (pg_tup rfl (pgs_cons (pg_name (i := 7) scTbDrawnL.nd rfl (Or.inl rfl)) (pgs_cons (pg_name (i := 8) scTbDrawnL.nd rfl (Or.inl rfl)) (pgs_cons (pg_name (i := 9) scTbDrawnL.nd rfl (Or.inr rfl)) pgs_nil)))))
        (pss_one (ps_asg (pe_lc (own := [("_law_number", 10)]) (g := gName 10) (tt := tYes) rfl scTbDrawnL.nd (pi_list (pe_ix ix_list (pv 4) (pv 8) (fun _ _ => rfl))) (blkOk_by (N := ["_law_bag_here", "_law_rows", "_law_columns", "_law_high", "_law_found", "_law_place", "_law_row", "_law_at", "_law_to", "_law_many", "_law_number"]) (sc := defScope sTbDrawnL) (by decide +kernel)) (fun _ _ _ _ _ => pg_name (i := 10) scTbDrawnL.nd rfl (Or.inl rfl)) (fun _ _ _ _ _ => pts_nil) (fun _ _ _ _ _ => (pe_op op_mul (pv 9) (pv 10)))) (pg_sub (pv 4) (pv 7) set_list)))) pss_nil)
      (pss_cons (ps_if (pt_cmpR (op_eqD hr.hu) (pe_d DGrabL (hr1.le (by decide)) pass0 (pa_cons (pv 0) (pa_cons pe_int pa_nil))) pe_int (nomark _)) (pss_cons (ps_asg (pe_tup (pa_cons (pe_d DGrabL (hr1.le (by decide)) pass0 (pa_cons (pv 0) (pa_cons (pv 1) pa_nil))) (pa_cons (pe_d DOneOfL (hr1.le (by decide)) pass0 (pa_cons (pv 0) (pa_cons (pe_lst (pa_cons pe_int (pa_cons pe_int (pa_cons pe_int (pa_cons pe_int pa_nil))))) pa_nil))) pa_nil))) (pg_tup rfl (pgs_cons (pg_name (i := 7) scTbDrawnL.nd rfl (Or.inl rfl)) (pgs_cons (pg_name (i := 9) scTbDrawnL.nd rfl (Or.inr rfl)) pgs_nil))))
        (pss_one (ps_asg (pe_lc (own := [("_law_number", 10)]) (g := gName 10) (tt := tYes) rfl scTbDrawnL.nd (pi_list (pe_ix ix_list (pv 4) (pv 7) (fun _ _ => rfl))) (blkOk_by (N := ["_law_bag_here", "_law_rows", "_law_columns", "_law_high", "_law_found", "_law_place", "_law_row", "_law_at", "_law_to", "_law_many", "_law_number"]) (sc := defScope sTbDrawnL) (by decide +kernel)) (fun _ _ _ _ _ => pg_name (i := 10) scTbDrawnL.nd rfl (Or.inl rfl)) (fun _ _ _ _ _ => pts_nil) (fun _ _ _ _ _ => (pe_op op_mul (pv 9) (pv 10)))) (pg_sub (pv 4) (pv 7) set_list)))) pss_nil)
      (pss_one (ps_ret (pe_callTy call_tuple_of rfl T.f_tuple (by decide +kernel) (pa_cons (pe_lc (own := [("_law_row", 6)]) (g := gName 6) (tt := tYes) rfl scTbDrawnL.nd (pi_list (pv 4)) (blkOk_by (N := ["_law_bag_here", "_law_rows", "_law_columns", "_law_high", "_law_found", "_law_place", "_law_row", "_law_at", "_law_to", "_law_many", "_law_number"]) (sc := defScope sTbDrawnL) (by decide +kernel)) (fun _ _ _ _ _ => pg_name (i := 6) scTbDrawnL.nd rfl (Or.inl rfl)) (fun _ _ _ _ _ => pts_nil) (fun _ _ _ _ _ => (pe_callTy (show CallR _ _ (rTupOf K) from call_tuple_of) rfl T.f_tuple (by decide +kernel) (pa_cons (pv 6) pa_nil)))) pa_nil)))))))), ?_⟩
    refine ⟨_, rfl, _, _, rfl, rfl, (by show CPw _ _; decide +kernel), by show 5 ≤ sizeLine; decide, fun L nL => ?_⟩
    have hp1 := same_new (o := .lst [.int 1, .int 2, .int 5, .int 30, .int (10 ^ 12)]) nL _ _ hp
    have hL : (upd H L (.lst [.int 1, .int 2, .int 5, .int 30, .int (10 ^ 12)])) L = some (.lst [.int 1, .int 2, .int 5, .int 30, .int (10 ^ 12)]) := upd_same
    have Lp : L ≠ p := (ne_of_none hp nL).symm
    refine ⟨p, L, g0, m0, c0, [.int 1, .int 2, .int 5, .int 30, .int (10 ^ 12)], rfl, hp1, .inl (.inl hL), Lp, by decide, by decide, fun v g1 m1 c1' hv => ?_⟩
    obtain ⟨h, rfl, h1, h2⟩ : ∃ h : Int, v = .int h ∧ 1 ≤ h ∧ h ≤ 10 ^ 12 := by
      simp only [List.mem_cons, List.not_mem_nil, or_false] at hv
      rcases hv with rfl | rfl | rfl | rfl | rfl
      · exact ⟨1, rfl, by decide, by decide⟩
      · exact ⟨2, rfl, by decide, by decide⟩
      · exact ⟨5, rfl, by decide, by decide⟩
      · exact ⟨30, rfl, by decide, by decide⟩
      · exact ⟨10 ^ 12, rfl, by decide, by decide⟩
    generalize hG : upd (upd H L (HO.lst _)) p (HO.lst _) = H1
    have s1 : Sb p H H1 := fun b o e n => by
      rw [← hG]
      exact (upd_ne n).trans (same_new nL _ _ e)
    have b1 : IsBag p H1 := ⟨_, _, _, by rw [← hG]; exact upd_same⟩
    clear hG
    clear hL hp1 nL hv
    refine ⟨_, rfl, (r : Int), rfl, by omega, by omega, fun F nF => ?_⟩
    have Fp : F ≠ p := fun e => by
      obtain ⟨g, m, c, e2⟩ := b1
      rw [← e, nF] at e2
      cases e2
    have nFH : ∀ {b : Addr} {o : HO}, H b = some o → b ≠ p → b ≠ F := fun {b o} e n => ne_of_none (s1 b o e n) nF
    refine lc_range (Pv := fun i H' => Sb p H H' ∧ IsBag p H' ∧ ∃ rs R, H' F = some (.lst rs) ∧ LLp (fun b => b ≠ F ∧ b ≠ p) H' rs R ∧ R.length = i ∧ Rect R c ∧ Big R (10 ^ 12 + 1))
      ⟨fun b o e n => by rw [upd_ne (nFH e n)]; exact s1 b o e n, by obtain ⟨g, m, c, e2⟩ := b1; exact ⟨g, m, c, by rw [upd_ne Fp.symm]; exact e2⟩, [], [], upd_same, .nil, rfl, (fun _ h => by cases h), (fun _ h => by cases h)⟩ ?_ ?_
    · rintro i H2 hi ⟨s2, b2, rs, R, hF, lr, lR, rc, bg⟩
      have lrs := lr.len
      refine ⟨wipe_one, yes_ ?_⟩
      refine ⟨_, rfl, (c : Int), rfl, by omega, by omega, fun E' nE => ?_⟩
      have Ep : E' ≠ p := fun e => by
        obtain ⟨g, m, c, e2⟩ := b2
        rw [← e, nE] at e2
        cases e2
      have EF : E' ≠ F := (ne_of_none hF nE).symm
      have nEH : ∀ {b : Addr} {o : HO}, H2 b = some o → b ≠ E' := fun {b o} e => ne_of_none e nE
      refine lc_range (Pv := fun j H' => Sb p H2 H' ∧ IsBag p H' ∧ ∃ xs : List Int, H' E' = some (.lst (xs.map V.int)) ∧ xs.length = j ∧ ∀ x ∈ xs, x.natAbs < 10 ^ 12 + 1)
        ⟨fun b o e n => by rw [upd_ne (nEH e)]; exact e, by obtain ⟨g, m, c, e2⟩ := b2; exact ⟨g, m, c, by rw [upd_ne Ep.symm]; exact e2⟩, [], upd_same, rfl, (fun _ h => by cases h)⟩ ?_ ?_
      · rintro j H3 hj ⟨s3, ⟨g3, m3, c3, e3⟩, xs, hE, lx, bx⟩
        refine ⟨wipe_one, yes_ ?_⟩
        refine ⟨_, rfl, _, rfl, _, _, rfl, rfl, .inl ⟨by decide, by decide⟩, _, _, rfl, rfl, p, 2 * h + 1, g3, m3, c3, rfl, e3, ?_, fun y g4 m4 c4 y0 y1 => ?_⟩
        · exact wide_div (b := 42) (by omega) (by omega) (by decide) (by decide)
        refine ⟨_, rfl, _, _, rfl, rfl, ?_⟩
        refine ⟨_, (upd_ne Ep).trans hE, by rw [List.length_map, lx, sizeLine_eq]; omega, ?_, ?_, xs ++ [y - h], ?_, by rw [List.length_append, lx]; rfl, fun x hx => ?_⟩
        · intro b o e n
          rw [upd_ne (nEH e), upd_ne n]
          exact s3 b o e n
        · exact ⟨g4, m4, c4, by rw [upd_ne Ep.symm, upd_same]⟩
        · rw [upd_same, List.map_append]
          rfl
        · rcases List.mem_append.mp hx with hx | hx
          · exact bx x hx
          · rw [List.mem_singleton.mp hx]
            omega
      rintro H3 ⟨s3, ⟨g3, m3, c3, e3⟩, xs, hE, lx, bx⟩
      rw [show ((c : Int)).toNat = c from Int.toNat_natCast c] at lx
      refine ⟨rs, s3 _ _ hF Fp, by rw [lrs, sizeLine_eq]; omega, ?_, ?_, rs ++ [.ref E'], R ++ [xs], upd_same, paired_snoc ⟨E', rfl, ⟨EF, Ep⟩, (upd_ne EF).trans hE⟩ ?_, by rw [List.length_append, lR]; rfl, ?_, ?_⟩
      · intro b o e n
        rw [upd_ne (nFH e n)]
        exact s3 _ _ (s2 b o e n) n
      · exact ⟨g3, m3, c3, by rw [upd_ne Fp.symm]; exact e3⟩
      · exact Paired.mapP lr fun _ _ ⟨b, e, n, hb⟩ => ⟨b, e, n, (upd_ne n.1).trans (s3 _ _ hb n.2)⟩
      · intro row hr
        rcases List.mem_append.mp hr with hr | hr
        · exact rc row hr
        · rw [List.mem_singleton.mp hr]
          exact lx
      · intro row hr
        rcases List.mem_append.mp hr with hr | hr
        · exact bg row hr
        · rw [List.mem_singleton.mp hr]
          exact bx
    rintro H2 ⟨s2, b2, rs, R, hF, lr, lR, rc, bg⟩
    rw [show ((r : Int)).toNat = r from Int.toNat_natCast r] at lR
    try dsimp only [gName]
    have gr : CDivW 0 (r : Int) := div_small (n := r) (by omega) (by omega)
    have nat_of : ∀ {y : Int}, 0 ≤ y → ∃ n : Nat, y = (n : Int) := fun {y} h => ⟨y.toNat, by omega⟩
    refine seq_rest (fun σ H' => Sb p H H' ∧ IsBag p H' ∧ ∃ rs R y5 y6 y7 y8 y9 y10, σ = [some (.ref p), some (.int (r : Int)), some (.int (c : Int)), some (.int h), some (.ref F), y5, y6, y7, y8, y9, y10] ∧ H' F = some (.lst rs) ∧
      LLp (fun b => b ≠ F ∧ b ≠ p) H' rs R ∧ R.length = r ∧ Rect R c ∧ Big R (2 * 10 ^ 12 + 1)) ?_ ?_
    rotate_left
    · intro N hN
      obtain ⟨g2, m2, c2, e2⟩ := b2
      have skipN : ∀ {H' : Hp}, Sb p H2 H' → IsBag p H' → N [some (.ref p), some (.int (r : Int)), some (.int (c : Int)), some (.int h), some (.ref F), none, none, none, none, none, none] H' := fun {H'} s3 b3 =>
        hN _ _ ⟨fun b o e n => s3 _ _ (s2 b o e n) n, b3, rs, R, _, _, _, _, _, _, rfl, s3 _ _ hF Fp, Paired.mapP lr fun _ _ ⟨b, e, n, hb⟩ => ⟨b, e, n, s3 _ _ hb n.2⟩, lR, rc, bg.mono (by decide)⟩
      refine ⟨_, rfl, _, _, rfl, rfl, _, rfl, ?_⟩
      by_cases r2 : 1 < r
      case neg =>
        refine ifF (decide_eq_false (by omega)) ?_
        refine ifF rfl ?_
        exact skipN (fun b o e _ => e) ⟨_, _, _, e2⟩
      refine ifT (decide_eq_true (by omega)) ?_
      refine ⟨_, rfl, p, 2, g2, m2, c2, rfl, e2, div_small (n := 2) (by decide) (by decide), fun y g3 m3 c3 y0 y1 => ?_⟩
      have s3 : Sb p H2 (upd H2 p (.lst [.int g3, .int m3, .int c3])) := fun b o e n => (upd_ne n).trans e
      have bag3 : (upd H2 p (.lst [.int g3, .int m3, .int c3])) p = some (.lst [.int g3, .int m3, .int c3]) := upd_same
      generalize upd H2 p _ = H3 at s3 bag3 ⊢
      refine ⟨.int _, .int _, .int _, .int _, rfl, rfl, ?_⟩
      rw [show PyData.eqv (.int y) (.int 0) = decide (y = 0) from rfl]
      refine ⟨_, rfl, ?_⟩
      by_cases yz : y = 0
      · refine ifT (decide_eq_true yz) ?_
        refine ⟨_, rfl, _, rfl, p, (r : Int), g3, m3, c3, rfl, bag3, gr, fun a1 g4 m4 c4 a10 a11 => ?_⟩
        have s4 : Sb p H3 (upd H3 p (.lst [.int g4, .int m4, .int c4])) := fun b o e n => (upd_ne n).trans e
        have bag4 : (upd H3 p (.lst [.int g4, .int m4, .int c4])) p = some (.lst [.int g4, .int m4, .int c4]) := upd_same
        generalize upd H3 p _ = H4 at s4 bag4 ⊢
        refine ⟨_, rfl, _, rfl, p, (r : Int), g4, m4, c4, rfl, bag4, gr, fun t1 g5 m5 c5 t10 t11 => ?_⟩
        have s5 : Sb p H4 (upd H4 p (.lst [.int g5, .int m5, .int c5])) := fun b o e n => (upd_ne n).trans e
        have bag5 : (upd H4 p (.lst [.int g5, .int m5, .int c5])) p = some (.lst [.int g5, .int m5, .int c5]) := upd_same
        generalize upd H4 p _ = H5 at s5 bag5 ⊢
        refine ⟨_, rfl, p, 5, g5, m5, c5, rfl, bag5, div_small (n := 5) (by decide) (by decide), fun q1 g6 m6 c6' q10 q11 => ?_⟩
        have s56 : Sb p H5 (upd H5 p (.lst [.int g6, .int m6, .int c6'])) := fun b o e n => (upd_ne n).trans e
        have bag56 : (upd H5 p (.lst [.int g6, .int m6, .int c6'])) p = some (.lst [.int g6, .int m6, .int c6']) := upd_same
        generalize upd H5 p _ = H5' at s56 bag56 ⊢
        obtain ⟨an, rfl⟩ := nat_of a10
        obtain ⟨tn, rfl⟩ := nat_of t10
        obtain ⟨mm, hmm⟩ : ∃ mm, mm = q1 - 2 := ⟨_, rfl⟩
        refine ⟨_, _, rfl, rfl, ?_⟩
        refine ⟨by show 3 ≤ sizeLine; decide, fun T nT => ?_⟩
        generalize hG : upd H5' T (HO.tup _) = H6
        have sT : Same H5' H6 := by
          rw [← hG]
          exact same_new nT
        have hT : H6 T = some (.tup [.int (an : Int), .int (tn : Int), .int mm]) := by
          rw [← hG, hmm]
          exact upd_same
        have bag6 := sT _ _ bag56
        have s26 : Sb p H2 H6 := fun b o e n => sT _ _ (s56 _ _ (s5 _ _ (s4 _ _ (s3 _ _ e n) n) n) n)
        clear hG
        have s6 : Sb p H H6 := fun b o e n => s26 _ _ (s2 b o e n) n
        have hF6 := s26 _ _ hF Fp
        have lr6 : LLp (fun b => b ≠ F ∧ b ≠ p) H6 rs R := Paired.mapP lr fun _ _ ⟨b, e, n, hb⟩ => ⟨b, e, n, s26 _ _ hb n.2⟩
        have lrs := lr.len
        obtain ⟨ut, hut, bt, rfl, at_, ebt⟩ := paired_get lr6 (row_get (i := tn) (by omega))
        refine ⟨T, _, rfl, .inl (.inl hT), rfl, _, _, rfl, ?_⟩
        refine ⟨_, _, rfl, ?_⟩
        refine ⟨_, _, rfl, rfl, ?_⟩
        refine ⟨_, rfl, _, rfl, F, rs, _, .ref bt, rfl, rfl, .inl (.inl hF6), atI_nat hut, bt, rfl, ⟨_, .inl (.inl ebt)⟩, fun E' nE => ?_⟩
        have Ep : E' ≠ p := fun e => by
          rw [← e, nE] at bag6
          cases bag6
        have EF : E' ≠ F := (ne_of_none hF6 nE).symm
        refine lc_list (K := K) (a := bt) (xs := (R.getD tn []).map V.int) (Pv := fun i H' => Same H6 H' ∧ H' E' = some (.lst ((((R.getD tn []).take i).map fun n => mm * n).map V.int))) ⟨same_new nE, upd_same⟩ (fun i H' _ e => .inl (.inl (e.1 _ _ ebt))) ?_ ?_
        · rintro i v H' hv ⟨s7, hE⟩
          obtain ⟨n, hn, rfl⟩ := map_int hv
          have lj := (List.getElem?_eq_some_iff.mp hn).1
          have lrow := rect_get rc (i := tn) (by omega)
          refine ⟨wipe_one, yes_ ?_⟩
          refine ⟨_, rfl, _, rfl, _, _, rfl, rfl, .inl ⟨by omega, by omega⟩, _, hE, ?_, ?_, ?_⟩
          · rw [List.length_map, List.length_map, List.length_take, sizeLine_eq]
            omega
          · intro k o e
            rw [upd_ne (ne_of_none e nE)]
            exact s7 _ _ e
          · rw [upd_same, List.take_add_one, hn, List.map_append, List.map_append]
            rfl
        rintro H7 ⟨s7, hE⟩
        rw [List.length_map, List.take_length] at hE
        refine ⟨_, rfl, _, rfl, F, rs, (an : Int), an, rfl, rfl, s7 _ _ hF6, ixN_in (by omega), ?_⟩
        have lrow := rect_get rc (i := tn) (by omega)
        refine hN _ _ ⟨fun b o e n => ?_, ⟨_, _, _, (upd_ne Fp.symm).trans (s7 _ _ bag6)⟩, rs.set an (.ref E'), R.set an ((R.getD tn []).map fun n => mm * n), _, _, _, _, _, _, rfl, upd_same, ?_, by rw [List.length_set, lR], rc.set (by rw [List.length_map, lrow]), Big.set (bg.mono (by decide)) fun x hx => ?_⟩
        · rw [upd_ne (nFH e n)]
          exact s7 _ _ (s6 b o e n)
        · refine paired_set ⟨E', rfl, ⟨EF, Ep⟩, (upd_ne EF).trans hE⟩ (Paired.mapP lr6 fun _ _ ⟨b, e, n, hb⟩ => ⟨b, e, n, (upd_ne n.1).trans (s7 _ _ hb)⟩) an
        · obtain ⟨n, hn, rfl⟩ := List.mem_map.mp hx
          have := bg _ (row_mem (i := tn) (by omega)) n hn
          rw [Int.natAbs_mul]
          have h1 : mm.natAbs ≤ 2 := by omega
          have h2 := Nat.mul_le_mul h1 (Nat.le_refl n.natAbs)
          omega
      · refine ifF (decide_eq_false yz) ?_
        exact skipN s3 ⟨_, _, _, bag3⟩
    clear lr lR rc bg hF s2 b2
    rintro σ H2 ⟨s2, b2, rs, R, y5, y6, y7, y8, y9, y10, rfl, hF, lr, lR, rc, bg⟩
    refine seq_rest (fun σ H' => Sb p H H' ∧ IsBag p H' ∧ ∃ rs R y5 y6 y7 y8 y9 y10, σ = [some (.ref p), some (.int (r : Int)), some (.int (c : Int)), some (.int h), some (.ref F), y5, y6, y7, y8, y9, y10] ∧ H' F = some (.lst rs) ∧
      LLp (fun b => b ≠ F ∧ b ≠ p) H' rs R ∧ R.length = r ∧ Rect R c ∧ Big R (2 ^ 47)) ?_ ?_
    rotate_left
    · intro N hN
      obtain ⟨g2, m2, c2, e2⟩ := b2
      refine ⟨_, rfl, p, 3, g2, m2, c2, rfl, e2, div_small (n := 3) (by decide) (by decide), fun y g3 m3 c3 y0 y1 => ?_⟩
      have s3 : Sb p H2 (upd H2 p (.lst [.int g3, .int m3, .int c3])) := fun b o e n => (upd_ne n).trans e
      have bag3 : (upd H2 p (.lst [.int g3, .int m3, .int c3])) p = some (.lst [.int g3, .int m3, .int c3]) := upd_same
      generalize upd H2 p _ = H3 at s3 bag3 ⊢
      refine ⟨.int _, .int _, .int _, .int _, rfl, rfl, ?_⟩
      rw [show PyData.eqv (.int y) (.int 0) = decide (y = 0) from rfl]
      refine ⟨_, rfl, ?_⟩
      by_cases yz : y = 0
      · refine ifT (decide_eq_true yz) ?_
        refine ⟨_, rfl, _, rfl, p, (r : Int), g3, m3, c3, rfl, bag3, gr, fun a1 g4 m4 c4 a10 a11 => ?_⟩
        have s4 : Sb p H3 (upd H3 p (.lst [.int g4, .int m4, .int c4])) := fun b o e n => (upd_ne n).trans e
        have bag4 : (upd H3 p (.lst [.int g4, .int m4, .int c4])) p = some (.lst [.int g4, .int m4, .int c4]) := upd_same
        generalize upd H3 p _ = H4 at s4 bag4 ⊢
        refine ⟨_, rfl, by show 4 ≤ sizeLine; decide, fun W nW => ?_⟩
        have s5 := same_new (o := .lst [.int 0, .int 2, .int 6, .int 12]) nW
        have hW : (upd H4 W (.lst [.int 0, .int 2, .int 6, .int 12])) W = some (.lst [.int 0, .int 2, .int 6, .int 12]) := upd_same
        have bag5 := s5 _ _ bag4
        have Wp : W ≠ p := (ne_of_none bag4 nW).symm
        generalize upd H4 W _ = H5 at s5 hW bag5 ⊢
        refine ⟨p, W, g4, m4, c4, [.int 0, .int 2, .int 6, .int 12], rfl, bag5, .inl (.inl hW), Wp, by decide, by decide, fun v g6 m6 c6' hv => ?_⟩
        obtain ⟨mm, rfl, mm0, mm1⟩ : ∃ mm : Int, v = .int mm ∧ 0 ≤ mm ∧ mm ≤ 12 := by
          simp only [List.mem_cons, List.not_mem_nil, or_false] at hv
          rcases hv with rfl | rfl | rfl | rfl
          · exact ⟨0, rfl, by decide, by decide⟩
          · exact ⟨2, rfl, by decide, by decide⟩
          · exact ⟨6, rfl, by decide, by decide⟩
          · exact ⟨12, rfl, by decide, by decide⟩
        have s56 : Sb p H5 (upd H5 p (.lst [.int g6, .int m6, .int c6'])) := fun b o e n => (upd_ne n).trans e
        have bag56 : (upd H5 p (.lst [.int g6, .int m6, .int c6'])) p = some (.lst [.int g6, .int m6, .int c6']) := upd_same
        generalize upd H5 p _ = H5' at s56 bag56 ⊢
        obtain ⟨an, rfl⟩ := nat_of a10
        refine ⟨by show 2 ≤ sizeLine; decide, fun T nT => ?_⟩
        have sT := same_new (o := .tup [.int (an : Int), .int mm]) nT
        have hT : (upd H5' T (.tup [.int (an : Int), .int mm])) T = some (.tup [.int (an : Int), .int mm]) := upd_same
        have bag6 := sT _ _ bag56
        generalize upd H5' T _ = H6 at sT hT bag6 ⊢
        have s26 : Sb p H2 H6 := fun b o e n => sT _ _ (s56 _ _ (s5 _ _ (s4 _ _ (s3 _ _ e n) n)) n)
        have s6 : Sb p H H6 := fun b o e n => s26 _ _ (s2 b o e n) n
        have hF6 := s26 _ _ hF Fp
        have lr6 : LLp (fun b => b ≠ F ∧ b ≠ p) H6 rs R := Paired.mapP lr fun _ _ ⟨b, e, n, hb⟩ => ⟨b, e, n, s26 _ _ hb n.2⟩
        have lrs := lr.len
        obtain ⟨ut, hut, bt, rfl, at_, ebt⟩ := paired_get lr6 (row_get (i := an) (by omega))
        refine ⟨T, _, rfl, .inl (.inl hT), rfl, _, _, rfl, ?_⟩
        refine ⟨_, _, rfl, rfl, ?_⟩
        refine ⟨_, rfl, _, rfl, F, rs, _, .ref bt, rfl, rfl, .inl (.inl hF6), atI_nat hut, bt, rfl, ⟨_, .inl (.inl ebt)⟩, fun E' nE => ?_⟩
        have Ep : E' ≠ p := fun e => by
          rw [← e, nE] at bag6
          cases bag6
        have EF : E' ≠ F := (ne_of_none hF6 nE).symm
        refine lc_list (K := K) (a := bt) (xs := (R.getD an []).map V.int) (Pv := fun i H' => Same H6 H' ∧ H' E' = some (.lst ((((R.getD an []).take i).map fun n => mm * n).map V.int))) ⟨same_new nE, upd_same⟩ (fun i H' _ e => .inl (.inl (e.1 _ _ ebt))) ?_ ?_
        · rintro i v H' hv ⟨s7, hE⟩
          obtain ⟨n, hn, rfl⟩ := map_int hv
          have lj := (List.getElem?_eq_some_iff.mp hn).1
          have lrow := rect_get rc (i := an) (by omega)
          refine ⟨wipe_one, yes_ ?_⟩
          refine ⟨_, rfl, _, rfl, _, _, rfl, rfl, .inl ⟨by omega, by omega⟩, _, hE, ?_, ?_, ?_⟩
          · rw [List.length_map, List.length_map, List.length_take, sizeLine_eq]
            omega
          · intro k o e
            rw [upd_ne (ne_of_none e nE)]
            exact s7 _ _ e
          · rw [upd_same, List.take_add_one, hn, List.map_append, List.map_append]
            rfl
        rintro H7 ⟨s7, hE⟩
        rw [List.length_map, List.take_length] at hE
        refine ⟨_, rfl, _, rfl, F, rs, (an : Int), an, rfl, rfl, s7 _ _ hF6, ixN_in (by omega), ?_⟩
        have lrow := rect_get rc (i := an) (by omega)
        refine hN _ _ ⟨fun b o e n => ?_, ⟨_, _, _, (upd_ne Fp.symm).trans (s7 _ _ bag6)⟩, rs.set an (.ref E'), R.set an ((R.getD an []).map fun n => mm * n), _, _, _, _, _, _, rfl, upd_same, ?_, by rw [List.length_set, lR], rc.set (by rw [List.length_map, lrow]), Big.set (bg.mono (by decide)) fun x hx => ?_⟩
        · rw [upd_ne (nFH e n)]
          exact s7 _ _ (s6 b o e n)
        · refine paired_set ⟨E', rfl, ⟨EF, Ep⟩, (upd_ne EF).trans hE⟩ (Paired.mapP lr6 fun _ _ ⟨b, e, n, hb⟩ => ⟨b, e, n, (upd_ne n.1).trans (s7 _ _ hb)⟩) an
        · obtain ⟨n, hn, rfl⟩ := List.mem_map.mp hx
          have := bg _ (row_mem (i := an) (by omega)) n hn
          rw [Int.natAbs_mul]
          have h1 : mm.natAbs ≤ 12 := by omega
          have h2 := Nat.mul_le_mul h1 (Nat.le_refl n.natAbs)
          omega
      · refine ifF (decide_eq_false yz) ?_
        exact hN _ _ ⟨fun b o e n => s3 _ _ (s2 b o e n) n, ⟨_, _, _, bag3⟩, rs, R, _, _, _, _, _, _, rfl, s3 _ _ hF Fp, Paired.mapP lr fun _ _ ⟨b, e, n, hb⟩ => ⟨b, e, n, s3 _ _ hb n.2⟩, lR, rc, bg.mono (by decide)⟩
    clear lr lR rc bg hF s2 b2
    rintro σ H2 ⟨s2, b2, rs, R, y5, y6, y7, y8, y9, y10, rfl, hF, lr, lR, rc, bg⟩
    have lrs := lr.len
    refine ⟨_, rfl, F, rfl, ⟨_, .inl (.inl hF)⟩, fun E' nE => ?_⟩
    refine lc_list (K := K) (a := F) (xs := rs) (Pv := fun i H' => Same H2 H' ∧ ∃ zs, H' E' = some (.lst zs) ∧ TR K H' zs (R.take i)) ⟨same_new nE, [], upd_same, .nil⟩ (fun i H' _ e => .inl (.inl (e.1 _ _ hF))) ?_ ?_
    · rintro i v H' hv ⟨s9, zs, hE, tz⟩
      obtain ⟨row, hrow, b, rfl, nb, hb⟩ := paired_at lr hv
      have li := (List.getElem?_eq_some_iff.mp hv).1
      have lz := tz.len
      refine ⟨wipe_one, yes_ ?_⟩
      refine ⟨_, rfl, b, _, rfl, .inl ⟨.inl (.inl (s9 _ _ hb)), fun t nt => ?_⟩⟩
      have st := same_new (o := .tup (row.map V.int)) nt
      refine ⟨zs, st _ _ hE, by rw [lz, List.length_take, sizeLine_eq]; omega, ?_, zs ++ [.ref t], upd_same, ?_⟩
      · intro k o e
        rw [upd_ne (ne_of_none e nE)]
        exact st _ _ (s9 _ _ e)
      · rw [List.take_add_one, hrow]
        exact paired_snoc ⟨t, rfl, sqt_lst (tup_sqt upd_same) (st _ _ hE)⟩ ((tz.same st).put (st _ _ hE))
    rintro H3 ⟨s9, zs, hE, tz⟩
    rw [List.take_of_length_le (by omega)] at tz
    refine ⟨E', _, rfl, .inl ⟨.inl (.inl hE), fun t nt => ?_⟩⟩
    have st := same_new (o := .tup zs) nt
    obtain ⟨g, m, cc, e⟩ := b2
    exact q _ t zs R (fun b o e n => st _ _ (s9 _ _ (s2 b o e n))) ⟨g, m, cc, st _ _ (s9 _ _ e)⟩ (.inl (.inl upd_same)) (tz.same st) lR rc bg
end
end K02


set_option linter.all false
namespace K02
open PySem PySem.Spec PyProof.Rows L2 MM
theorem fold_gcd : ∀ (xs : List Int) (g d : Nat), d ∣ xs.foldl (fun g x => Nat.gcd g x.natAbs) g ↔ d ∣ g ∧ ∀ x ∈ xs, d ∣ x.natAbs
  | [], g, d => by simp
  | x :: xs, g, d => by
    rw [List.foldl_cons, fold_gcd xs, Nat.dvd_gcd_iff]
    simp only [List.mem_cons, forall_eq_or_imp, and_assoc]
theorem gcdI_dvd {xs : List Int} {d : Nat} : d ∣ gcdI xs ↔ ∀ x ∈ xs, d ∣ x.natAbs := by
  unfold gcdI
  rw [fold_gcd]
  exact ⟨fun h => h.2, fun h => ⟨Nat.dvd_zero _, h⟩⟩
/-- what lessD divides by -/
def dv (ys : List Int) (l : Nat) : Int := if ys.getD l 0 < 0 then -(gcdI ys : Int) else (gcdI ys : Int)
theorem dv_abs (ys : List Int) (l : Nat) : (dv ys l).natAbs = gcdI ys := by
  unfold dv
  split <;> omega
theorem less_get {ys : List Int} {l j : Nat} (h : j < ys.length) : (lessD ys l).getD j 0 = (ys.getD j 0).fdiv (dv ys l) := by
  unfold lessD
  rw [List.getD, List.getElem?_map, mem_get h]
  rfl
theorem gcd_pos {ys : List Int} {l : Nat} (h : l < ys.length) (ne : ys.getD l 0 ≠ 0) : 0 < gcdI ys := by
  have := gcdI_dvd.mp (Nat.dvd_refl (gcdI ys)) _ (mem_mem h)
  refine Nat.pos_of_ne_zero fun z => ?_
  rw [z] at this
  have := Nat.eq_zero_of_zero_dvd this
  omega
theorem dv_ne {ys : List Int} {l : Nat} (h : l < ys.length) (ne : ys.getD l 0 ≠ 0) : dv ys l ≠ 0 := by
  have := gcd_pos h ne
  have := dv_abs ys l
  omega
theorem dv_dvd {ys : List Int} {l : Nat} {x : Int} (hx : x ∈ ys) : dv ys l ∣ x := by
  have := gcdI_dvd.mp (Nat.dvd_refl (gcdI ys)) x hx
  rw [← dv_abs ys l] at this
  exact Int.natAbs_dvd_natAbs.mp this
theorem less_mul {ys : List Int} {l j : Nat} (h : l < ys.length) (ne : ys.getD l 0 ≠ 0) (hj : j < ys.length) : dv ys l * (lessD ys l).getD j 0 = ys.getD j 0 := by
  rw [less_get hj]
  obtain ⟨z, hz⟩ := dv_dvd (l := l) (mem_mem hj)
  rw [hz, Int.mul_fdiv_cancel_left _ (dv_ne h ne)]
theorem less_len (ys : List Int) (l : Nat) : (lessD ys l).length = ys.length := by
  unfold lessD
  exact List.length_map _
theorem less_one {ys : List Int} {l : Nat} (h : l < ys.length) (ne : ys.getD l 0 ≠ 0) : gcdI (lessD ys l) = 1 := by
  have gp := gcd_pos h ne
  have all : ∀ y ∈ ys, gcdI (lessD ys l) * gcdI ys ∣ y.natAbs := by
    intro y hy
    obtain ⟨j, hj, rfl⟩ := List.mem_iff_getElem.mp hy
    have e := less_mul h ne hj
    have g := gcdI_dvd.mp (Nat.dvd_refl (gcdI (lessD ys l))) _ (mem_mem (j := j) (by rw [less_len]; exact hj))
    have e2 : ys[j] = ys.getD j 0 := by
      rw [List.getD, List.getElem?_eq_getElem hj]
      rfl
    rw [e2, ← e, Int.natAbs_mul, dv_abs, Nat.mul_comm]
    exact Nat.mul_dvd_mul (Nat.dvd_refl _) g
  have := Nat.le_of_dvd gp (gcdI_dvd.mpr all)
  have h1 : 0 < gcdI (lessD ys l) := by
    refine gcd_pos (l := l) (by rw [less_len]; exact h) fun z => ne ?_
    rw [← less_mul h ne h, z, Int.mul_zero]
  have : gcdI (lessD ys l) * gcdI ys ≤ 1 * gcdI ys := by omega
  have := Nat.le_of_mul_le_mul_right this gp
  omega
theorem less_lead {ys : List Int} {l : Nat} (h : l < ys.length) (ne : ys.getD l 0 ≠ 0) : 0 < (lessD ys l).getD l 0 := by
  have e := less_mul h ne h
  have gp := gcd_pos h ne
  generalize (lessD ys l).getD l 0 = z at e ⊢
  have hz : z ≠ 0 := fun q => ne (by rw [← e, q, Int.mul_zero])
  unfold dv at e
  split at e
  · rename_i neg
    refine Classical.byContradiction fun np => ?_
    have h1 : 0 ≤ -(gcdI ys : Int) * z := Int.mul_nonneg_of_nonpos_of_nonpos (by omega) (by omega)
    omega
  · rename_i neg
    refine Classical.byContradiction fun np => ?_
    have h1 : (gcdI ys : Int) * z < 0 := Int.mul_neg_of_pos_of_neg (by omega) (by omega)
    omega
theorem less_zero {ys : List Int} {l j : Nat} (h : l < ys.length) (ne : ys.getD l 0 ≠ 0) (hj : j < ys.length) (z : ys.getD j 0 = 0) : (lessD ys l).getD j 0 = 0 := by
  rw [less_get hj, z, Int.zero_fdiv]
theorem less_big {ys : List Int} {l : Nat} {B : Nat} (h : l < ys.length) (ne : ys.getD l 0 ≠ 0) (b : ∀ x ∈ ys, x.natAbs < B) : ∀ x ∈ lessD ys l, x.natAbs < B := by
  intro x hx
  obtain ⟨j, hj, rfl⟩ := List.mem_iff_getElem.mp hx
  rw [less_len] at hj
  have e := less_mul h ne hj
  have e2 : (lessD ys l)[j]'(by rw [less_len]; exact hj) = (lessD ys l).getD j 0 := by
    rw [List.getD, List.getElem?_eq_getElem (by rw [less_len]; exact hj)]
    rfl
  rw [e2]
  exact abs_le_mul (dv_ne h ne) e.symm (b _ (mem_mem hj))
theorem rev_get {ys : List Int} {j : Nat} (h : j < ys.length) : ys.reverse.getD j 0 = ys.getD (ys.length - 1 - j) 0 := by
  rw [List.getD, List.getElem?_reverse h, ← List.getD]
end K02

set_option linter.all false
namespace K02
open PySem PySem.Spec PyProof.Rows L2 MM
theorem S_rev : ∀ (n : Nat) (f : Nat → Int), DT.S n (fun j => f (n - 1 - j)) = DT.S n f
  | 0, _ => rfl
  | n + 1, f => by
    rw [DT.S_front (f := f)]
    show DT.S n (fun j => f (n + 1 - 1 - j)) + f (n + 1 - 1 - n) = _
    rw [show n + 1 - 1 - n = 0 by omega, Int.add_comm, ← S_rev n fun j => f (j + 1)]
    congr 1
    exact DT.S_congr fun j hj => by rw [show n + 1 - 1 - j = n - 1 - j + 1 by omega]
/-- what is told of a row of a kernel -/
structure KRow (R : List (List Int)) (c : Nat) (cs : List Nat) (f : Nat) (row : List Int) : Prop where
  fc : f < c
  nf : f ∉ cs
  len : row.length = c
  lead : 0 < row.getD (c - 1 - f) 0
  before : ∀ j, j < c - 1 - f → row.getD j 0 = 0
  one : gcdI row = 1
  big : ∀ x ∈ row, x.natAbs < 2 ^ 8000
  free : ∀ g, g < c → g ≠ f → g ∉ cs → row.getD (c - 1 - g) 0 = 0
  zero : ∀ i, i < R.length → dot row (R.getD i []) = 0
theorem krow {R : List (List Int)} {c f : Nat} {cs : List Nat} {row : List Int} (rc : Rect R c) (h : RowOf R c cs f row) : KRow R c cs f row := by
  obtain ⟨fc, nf, ys, ⟨ly, ld, af, rows, fr, bg⟩, rfl⟩ := h
  obtain ⟨l, hl⟩ : ∃ l, l = c - 1 - f := ⟨_, rfl⟩
  have lz : ys.reverse.length = c := by rw [List.length_reverse, ly]
  have zl : ys.reverse.getD l 0 = ys.getD f 0 := by rw [rev_get (by omega), ly, show c - 1 - l = f by omega]
  have ll : l < ys.reverse.length := by omega
  have ne : ys.reverse.getD l 0 ≠ 0 := by rw [zl]; exact ld
  rw [← hl]
  have lr : (lessD ys.reverse l).length = c := by rw [less_len, lz]
  refine ⟨fc, nf, lr, by rw [← hl]; exact less_lead ll ne, fun j hj => less_zero ll ne (by omega) (by rw [rev_get (by omega), ly]; exact af _ (by omega) (by omega)), less_one ll ne,
    less_big ll ne fun x hx => bg x (List.mem_reverse.mp hx), fun g gc gf gn => less_zero ll ne (by omega) (by rw [rev_get (by omega), ly, show c - 1 - (c - 1 - g) = g by omega]; exact fr g gc gf gn), fun i hi => ?_⟩
  have li := rect_get rc hi
  have e1 := dot_S (lessD ys.reverse l) (R.getD i []) (by rw [lr, li])
  rw [li] at e1
  have e2 : dv ys.reverse l * dot (lessD ys.reverse l) (R.getD i []) = 0 := by
    rw [e1, ← DT.S_mul]
    have h := rows i (by rw [revR_len]; exact hi)
    rw [← S_rev] at h
    rw [← h]
    refine DT.S_congr fun j hj => ?_
    have em : mat (revR R) i (c - 1 - j) = (R.getD i []).getD j 0 := by
      have e : (revR R).getD i [] = (R.getD i []).reverse := by
        unfold revR
        rw [List.getD, List.getElem?_map, row_get hi]
        rfl
      unfold mat
      rw [e, rev_get (by omega), li, show c - 1 - (c - 1 - j) = j by omega]
    have ml := less_mul ll ne (j := j) (by omega)
    rw [rev_get (by omega), ly] at ml
    rw [em, ← ml]
    grind
  rcases Int.mul_eq_zero.mp e2 with z | z
  · exact absurd z (dv_ne ll ne)
  · exact z
theorem range_back (c : Nat) : (List.range c).map (fun i => c - 1 - i) = (List.range c).reverse := by
  refine List.ext_getElem (by simp) fun i h1 h2 => ?_
  rw [List.getElem_map, List.getElem_range, List.getElem_reverse, List.getElem_range, List.length_range]
theorem free_count : ∀ (cs : List Nat) (c : Nat), cs.Nodup → (∀ x ∈ cs, x < c) → ((List.range c).filter fun f => !decide (f ∈ cs)).length + cs.length = c
  | [], c, _, _ => by rw [List.length_nil, Nat.add_zero, List.filter_eq_self.mpr (fun _ _ => by simp), List.length_range]
  | x :: cs, c, nd, lt => by
    obtain ⟨n1, n2⟩ := List.nodup_cons.mp nd
    have ih := free_count cs c n2 fun y hy => lt y (List.mem_cons_of_mem _ hy)
    have mem : x ∈ (List.range c).filter fun f => !decide (f ∈ cs) := by
      rw [List.mem_filter, List.mem_range]
      exact ⟨lt x List.mem_cons_self, by simp [n1]⟩
    have nd2 : ((List.range c).filter fun f => !decide (f ∈ cs)).Nodup := List.nodup_range.filter _
    have e := List.length_erase_of_mem mem
    rw [nd2.erase_eq_filter, List.filter_filter] at e
    have e2 : ((List.range c).filter fun a => (a != x) && !decide (a ∈ cs)) = (List.range c).filter fun f => !decide (f ∈ x :: cs) := by
      refine List.filter_congr fun a _ => ?_
      by_cases h : a = x <;> by_cases h2 : a ∈ cs <;> simp [h, h2]
    rw [e2] at e
    have : 0 < ((List.range c).filter fun f => !decide (f ∈ cs)).length := List.length_pos_of_mem mem
    rw [List.length_cons]
    omega
theorem frees_len {cs : List Nat} {c : Nat} (nd : cs.Nodup) (lt : ∀ x ∈ cs, x < c) : (frees c cs c).length + cs.length = c := by
  unfold frees
  rw [range_back, List.filter_reverse, List.length_reverse]
  exact free_count cs c nd lt
theorem frees_down {cs : List Nat} {c : Nat} : (frees c cs c).Pairwise (· > ·) := by
  unfold frees
  rw [range_back]
  refine List.Pairwise.filter _ ?_
  rw [List.pairwise_reverse]
  exact List.pairwise_lt_range
/-- rows as a kernel has them -/
structure Ech (W : List (List Int)) (ls : List Nat) : Prop where
  len : W.length = ls.length
  few : W.length ≤ 60
  small : ∀ row ∈ W, row.length ≤ 60 ∧ ∀ x ∈ row, x.natAbs < 2 ^ 8000
  into : ∀ i, i < W.length → ls.getD i 0 < (W.getD i []).length
  lead : ∀ i, i < W.length → 0 < mat W i (ls.getD i 0)
  before : ∀ i, i < W.length → ∀ j, j < ls.getD i 0 → mat W i j = 0
  one : ∀ row ∈ W, gcdI row = 1
  up : ls.Pairwise (· < ·)
  other : ∀ i, i < W.length → ∀ j, j < W.length → j ≠ i → ls.getD j 0 < (W.getD i []).length ∧ mat W i (ls.getD j 0) = 0
theorem paired_fst {α β : Type} {R : α → β → Prop} {us : List α} {os : List β} (h : Paired R us os) {i : Nat} {u : α} (e : us[i]? = some u) : ∃ o, os[i]? = some o ∧ R u o := by
  have l := paired_len h
  have lt := (List.getElem?_eq_some_iff.mp e).1
  obtain ⟨u', hu, r⟩ := paired_get h (List.getElem?_eq_getElem (by omega : i < os.length))
  rw [e] at hu
  cases hu
  exact ⟨_, List.getElem?_eq_getElem (by omega), r⟩
theorem ech_of {R W : List (List Int)} {c : Nat} {cs : List Nat} (rc : Rect R c) (c60 : c ≤ 60) (nd : cs.Nodup) (lt : ∀ x ∈ cs, x < c) (k : Ker R c cs W) :
    (∃ ls, Ech W ls) ∧ W.length + cs.length = c ∧ ∀ row ∈ W, row.length = c ∧ ∀ i, i < R.length → dot row (R.getD i []) = 0 := by
  have lf := frees_len nd lt
  have lw : (frees c cs c).length = W.length := paired_len k
  have at_ : ∀ i, i < W.length → KRow R c cs ((frees c cs c).getD i 0) (W.getD i []) := fun i hi => by
    obtain ⟨f, hf, r⟩ := paired_get k (row_get hi)
    have : (frees c cs c).getD i 0 = f := by rw [List.getD, hf]; rfl
    rw [this]
    exact krow rc r
  have mem : ∀ row ∈ W, ∃ i, i < W.length ∧ W.getD i [] = row := fun row hr => by
    obtain ⟨i, hi, rfl⟩ := List.mem_iff_getElem.mp hr
    exact ⟨i, hi, by rw [List.getD, List.getElem?_eq_getElem hi]; rfl⟩
  have lead : ∀ i, i < W.length → ((frees c cs c).map fun f => c - 1 - f).getD i 0 = c - 1 - (frees c cs c).getD i 0 := fun i hi => by
    rw [List.getD, List.getElem?_map, List.getElem?_eq_getElem (by omega), List.getD, List.getElem?_eq_getElem (by omega)]
    rfl
  have down := List.pairwise_iff_getElem.mp (frees_down (cs := cs) (c := c))
  have fr : ∀ i, i < W.length → (frees c cs c).getD i 0 < c ∧ (frees c cs c).getD i 0 ∉ cs := fun i hi => ⟨(at_ i hi).fc, (at_ i hi).nf⟩
  have get : ∀ i (hi : i < (frees c cs c).length), (frees c cs c)[i] = (frees c cs c).getD i 0 := fun i hi => by
    rw [List.getD, List.getElem?_eq_getElem hi]
    rfl
  refine ⟨⟨(frees c cs c).map fun f => c - 1 - f, by rw [List.length_map, lw], by omega, fun row hr => ?_, fun i hi => ?_, fun i hi => ?_, fun i hi j hj => ?_, fun row hr => ?_, ?_, fun i hi j hj ne => ?_⟩, by omega, fun row hr => ?_⟩
  · obtain ⟨i, hi, rfl⟩ := mem row hr
    exact ⟨by rw [(at_ i hi).len]; exact c60, (at_ i hi).big⟩
  · rw [lead i hi, (at_ i hi).len]
    have := (at_ i hi).fc
    omega
  · rw [lead i hi]
    exact (at_ i hi).lead
  · rw [lead i hi] at hj
    exact (at_ i hi).before j hj
  · obtain ⟨i, hi, rfl⟩ := mem row hr
    exact (at_ i hi).one
  · rw [List.pairwise_map]
    refine List.Pairwise.imp_of_mem (fun {a b} ha hb h => ?_) frees_down
    obtain ⟨i, hi, rfl⟩ := List.mem_iff_getElem.mp ha
    have := (fr i (by omega)).1
    rw [get] at h ⊢
    omega
  · rw [lead j hj, (at_ i hi).len]
    refine ⟨by have := (fr j hj).1; omega, (at_ i hi).free _ (fr j hj).1 (fun e => ?_) (fr j hj).2⟩
    rcases Nat.lt_or_gt_of_ne ne with h | h
    · have := down j i (by omega) (by omega) h
      rw [get, get] at this
      omega
    · have := down i j (by omega) (by omega) h
      rw [get, get] at this
      omega
  · obtain ⟨i, hi, rfl⟩ := mem row hr
    exact ⟨(at_ i hi).len, (at_ i hi).zero⟩
end K02

set_option Elab.async false
set_option linter.all false
set_option maxRecDepth 100000
set_option maxHeartbeats 2000000
/-! set(l) of a list of ints -/
namespace MM
open PySem PySem.Spec PyProof.Rows L2
theorem firstMet_nodup (val : Nat → Int) : ∀ i, (firstMet val i).Nodup
  | 0 => by
    rw [firstMet_zero]
    exact List.nodup_nil
  | i + 1 => by
    have ih := firstMet_nodup val i
    rw [firstMet_succ]
    unfold step_dedup
    split
    · exact ih
    · rename_i h
      rw [List.nodup_append]
      refine ⟨ih, by simp, fun a ha b hb z => h ?_⟩
      rw [List.mem_singleton] at hb
      subst hb z
      exact List.any_eq_true.mpr ⟨_, ha, beq_self_eq_true _⟩
theorem map_getD (ns : List Int) : (List.range ns.length).map (fun i => ns.getD i 0) = ns := by
  refine List.ext_getElem (by simp) fun i h1 h2 => ?_
  rw [List.getElem_map, List.getElem_range, List.getD, List.getElem?_eq_getElem h2]
  rfl
theorem any_mem (ns : List Int) (k : Int) : ns.any (· == k) = decide (k ∈ ns) := by
  rw [Bool.eq_iff_iff, List.any_eq_true, decide_eq_true_eq]
  exact ⟨fun ⟨x, hx, e⟩ => by rw [← beq_iff_eq.mp e]; exact hx, fun h => ⟨k, h, beq_self_eq_true _⟩⟩
def rSetL (K : PySem.W.Frag) : List V → Hp → VK → Prop := fun xs H Q => ∃ (p : Addr) (ns : List Int), xs = [.ref p] ∧ SqL K H p (ns.map V.int) ∧ ns.length ≤ 4000 ∧
  ∀ t n, H t = none → (n = ns.length ↔ ns.Nodup) → n ≤ ns.length → Q (.ref t) (upd H t (.set (fun j => decide (j ∈ ns)) n))
theorem cr_setL {X : Cx} (hc : X.calm = true) : CallR X (.type "set") (rSetL X.K) := by
  intro pins s σ H xs us Q I r h
  obtain ⟨p, ns, rfl, hp, hl, q⟩ := h
  obtain ⟨u, rfl, ru⟩ := vals1 r
  cases ru
  obtain ⟨its, rv, ht, hz⟩ := I.list hp
  have ia : IntsAre its ns := ints_of rv
  have sz : its.toArray.size = ns.length := by
    have := IntsAre.length ia
    simpa using this
  refine call_set_list (prog := X.prog) (ns := ns) (I.ok.hd hc) ht.isList (by simpa using ia) (by rw [sz]; show ns.length + 1 < 4096; omega) fun h' tk R keep => ?_
  rw [sz] at R
  have eS : (fun k' => (firstMet (fun i => ns.getD i 0) ns.length).any (· == k')) = fun j => decide (j ∈ ns) := by
    funext k
    rw [firstMet_any, map_getD, any_mem]
  have cnt : (firstMet (fun i => ns.getD i 0) ns.length).length = ns.length ↔ ns.Nodup := by
    refine count_keys (firstMet_nodup _ _) fun k => ?_
    have := congrFun eS k
    have this : (firstMet (fun i => ns.getD i 0) ns.length).any (· == k) = decide (k ∈ ns) := this
    rw [any_mem] at this
    exact (decide_eq_decide.mp this).symm
  rw [eS] at R
  refine ⟨.ref _, _, I.laid (t' := tk) (o := .set (fun j => decide (j ∈ ns)) (firstMet (fun i => ns.getD i 0) ns.length).length) (fun b o e => keep b o (Heap.lt_size e) e) (Nat.le_refl _) ?_, rfl,
    q _ _ (I.hok.fresh (Nat.le_refl _)) cnt (firstMet_length_le _ _)⟩
  exact R
theorem ite_mono {M X1 X2 Y1 Y2 : Prop} {b : Bool} (f : M → X1 → X2) (g : M → Y1 → Y2) : M → (if b = true then X1 else Y1) → if b = true then X2 else Y2 := by
  intro m h
  cases b with
  | true => exact f m h
  | false => exact g m h
theorem or_mono {M X1 X2 Y1 Y2 : Prop} (f : M → X1 → X2) (g : M → Y1 → Y2) : M → X1 ∨ Y1 → X2 ∨ Y2 := fun m h => h.imp (f m) (g m)
def rJn (K : PySem.W.Frag) : V → List V → Hp → VK → Prop := fun x xs H Q => ∃ a p, ∃ ys : List Str, x = .str a ∧ xs = [.ref p] ∧ (SqL K H p (ys.map V.str) ∨ SqT K H p (ys.map V.str)) ∧
  (ys.map (·.length)).sum + ys.length * a.length ≤ 16777216 ∧ Q (.str (Txt.join a ys)) H
end MM

set_option Elab.async false
set_option linter.all false
set_option maxRecDepth 100000
set_option maxHeartbeats 3200000
/-! set(l) of a list of ints, as a set that can be sorted -/
namespace MM
open PySem PySem.Spec PyProof.Rows L2
section
variable {P : Program} {w : World} {A : Around} {E : Value → Shared → Prop} {s : Shared}
/-- an empty set behind the heap -/
abbrev emptyAt (w : World) (s : Shared) : Heap := s.heap.push { cls := .type "set", dict := none, data := .set #[] 0 (.fresh 0 0 (!w.params.followText "set-order")) }
/-- what set(l) leaves -/
def Left (w : World) (s : Shared) (ns : List Int) (s' : Shared) : Prop :=
  ∃ h' tk c, s' = { s with heap := h', toks := tk } ∧ SetR w h' s.heap.objs.size (fun j => decide (j ∈ ns)) c ∧ c ≤ ns.length ∧ ∀ b o, s.heap.get? b = some o → h'.get? b = some o
theorem fill_list {l : Addr} {items : Array Value} {ns : List Int} {G : PySem.Fin → Shared → Prop} (hh : A.handled = none) (hl : s.heap.IsList l items) (hi : IntsAre items.toList ns) (hb : ns.length + 1 < scanBound)
    (q : ∀ s', Left w s ns s' → G (.done (.ret .none)) s') :
    wpAny (model P w) A (Builtin.«set.__init__» ⟨[.ref s.heap.objs.size, .ref l], []⟩) G E { s with heap := emptyAt w s } := by
  have len : items.size = ns.length := by
    have := IntsAre.length hi
    rwa [Array.length_toList] at this
  have old : l < s.heap.objs.size := by
    obtain ⟨o, e, _⟩ := hl
    exact Heap.lt_size e
  have hl' : (emptyAt w s).IsList l items := hl.push _
  obtain ⟨o, ho, hc, nl, hd⟩ := id hl'
  obtain ⟨ocls, odict, odata, oslots⟩ := o
  simp only at hc hd
  subst hc
  subst hd
  have n1 := F.sub_list_set
  have n2 := F.sub_list_frozenset
  have n3 : (Value.type "list" == Value.type "dict") = false := by decide
  unfold Builtin.«set.__init__» noKeywords Builtin.Frozenset.updateFrom
  generalize hp : pyIter = PI
  wp_walk
  subst hp
  refine wpAny_pyIter_list hl' ?_
  refine wpAny_bind (wpAny_runValue ?_)
  have zI : (emptyAt w s).objs.size = s.heap.objs.size + 1 := Heap.size_push ..
  have apart : l ≠ (emptyAt w s).objs.size := by
    rw [zI]
    exact Nat.ne_of_lt (Nat.lt_succ_of_lt old)
  have outside : s.heap.objs.size ∉ [(emptyAt w s).objs.size, l] := by
    simp only [List.mem_cons, List.not_mem_nil, or_false, not_or]
    rw [zI]
    exact ⟨Nat.ne_of_lt (Nat.lt_succ_self _), Nat.ne_of_gt old⟩
  have each : ∀ (i : Nat) (v : Value), items[i]? = some v → ∃ k t, ns[i]? = some k ∧ v = .int k t := fun i v hv => by
    have lt : i < ns.length := by rw [← len]; exact (Array.getElem?_eq_some_iff.mp hv).1
    obtain ⟨t, e⟩ := IntsAre.int_at hi i v (by rw [Array.getElem?_toList]; exact hv)
    refine ⟨ns.getD i 0, t, ?_, e⟩
    rw [List.getD, List.getElem?_eq_getElem lt]
    rfl
  have self : (emptyAt w s).get? s.heap.objs.size = some { cls := .type "set", dict := none, data := .set #[] 0 (.fresh 0 0 (!w.params.followText "set-order")) } := Heap.get?_push_size _ rfl
  refine set_update_ints ((Walks.list (by simp [hh]) _ l apart items).toS) s.heap.objs.size outside ns len hb each (items.size - 0) 0 _ (by omega) (Nat.zero_le _)
    ⟨⟨_, Heap.get?_push_size _ rfl, rfl, rfl⟩, hl'.push _⟩ ⟨0, Nat.le_refl 0, setR_new_at (Heap.get?_push_of_some _ self)⟩ fun s' c m hc R => ?_
  obtain ⟨h', g, d, tk, os⟩ := s'
  have eg : g = s.gens := m.gens
  have ed : d = s.drawn := m.drawn
  have eo : os = s.os := m.os
  subst eg
  subst ed
  subst eo
  refine wpAny_pure ?_
  refine wpAny_pure (q _ ⟨h', tk, c, rfl, R, by omega, fun b o e => ?_⟩)
  have lb : b < s.heap.objs.size := Heap.lt_size e
  refine m.heap b o ?_ (Heap.get?_push_of_some _ (Heap.get?_push_of_some _ e))
  simp only [List.mem_cons, List.not_mem_nil, or_false, not_or]
  rw [zI]
  exact ⟨Nat.ne_of_lt lb, Nat.ne_of_lt (Nat.lt_succ_of_lt lb)⟩
theorem call_setL {l : Addr} {items : Array Value} {ns : List Int} {Q : Value → Shared → Prop} (hh : A.handled = none) (hl : s.heap.IsList l items) (hi : IntsAre items.toList ns) (hb : ns.length + 1 < scanBound)
    (q : ∀ s', Left w s ns s' → Q (.ref s.heap.objs.size) s') : wpAny (model P w) A (call (.type "set") [.ref l]) Q E s := by
  obtain ⟨c, tl, mro⟩ := F.called_set.mro
  have made := F.called_set.made
  have sub := F.called_set.sub
  have nt := F.called_set.notType
  have can := F.called_set.canCreate
  have ok := F.typeCall_set_1 (.ref l)
  have find := F.called_set.init.lookup
  have bind := F.called_set.init.bind (.ref s.heap.objs.size)
  have self : (emptyAt w s).get? s.heap.objs.size = some { cls := .type "set", dict := none, data := .set #[] 0 (.fresh 0 0 (!w.params.followText "set-order")) } := Heap.get?_push_size _ rfl
  have ty : Shared.TypeIs { s with heap := emptyAt w s } (.ref s.heap.objs.size) "set" := ⟨_, self, rfl⟩
  refine wpAny_call (codeAny_of_tree ?_)
  show wpAny _ _ (callAny (.type "set") _) _ _ _
  refine wpAny_pure ⟨Code.quiet_builtin _ (by decide +kernel), codeAny_builtin F.entry_type_call ?_⟩
  rw [Around.under_plain (weight_type_call_type "set" [.ref l] []) rfl]
  repeat (any_goals (first | assumption | wp_step))
  refine codeAny_mono (code_set_led1 (.ref l) (E := E) (Q₁ := fun v s1 => v = .ref s.heap.objs.size ∧ s1 = { s with heap := emptyAt w s }) ⟨rfl, rfl⟩) fun r s1 hr => ?_
  rcases r with e | f
  · exact hr
  cases f with
  | ret v =>
    obtain ⟨rfl, rfl⟩ := hr
    repeat (any_goals (first | assumption | wp_step))
    refine codeAny_mono (codeAny_call_builtin (R := wants (fun v s2 => v = .none ∧ Left w s ns s2) E) F.called_set.init.plain F.entry_set_init (check_set_init_1 ty ?_)) fun r2 s2 hr2 => ?_
    · exact fill_list (by simp [hh]) hl hi hb fun s' L => ⟨rfl, L⟩
    rcases r2 with e | f
    · exact hr2
    cases f with
    | ret v =>
      obtain ⟨rfl, L⟩ := hr2
      repeat (any_goals (first | assumption | wp_step))
      exact q _ L
    | _ => exact hr2.elim
  | _ => exact hr.elim
end
def rSetLO (K : PySem.W.Frag) (w : World) : List V → Hp → VK → Prop := fun xs H Q => ∃ (p : Addr) (ns : List Int), xs = [.ref p] ∧ SqL K H p (ns.map V.int) ∧ ns.length ≤ 4000 ∧
  ∀ t n, H t = none → n ≤ ns.length → Q (.ref t) (upd H t (SetO w t (fun j => decide (j ∈ ns)) n))
theorem cr_setLO {X : Cx} (hc : X.calm = true) : CallR X (.type "set") (rSetLO X.K X.w) := by
  intro pins s σ H xs us Q I r h
  obtain ⟨p, ns, rfl, hp, hl, q⟩ := h
  obtain ⟨u, rfl, ru⟩ := vals1 r
  cases ru
  obtain ⟨its, rv, ht, hz⟩ := I.list hp
  have ia : IntsAre its ns := ints_of rv
  refine call_setL (P := X.prog) (w := X.w) (ns := ns) (I.ok.hd hc) ht.isList (by simpa using ia) (by show ns.length + 1 < 4096; omega) fun s' L => ?_
  obtain ⟨h', tk, c, rfl, R, le, keep⟩ := L
  refine ⟨.ref _, _, I.laid (t' := tk) (o := SetO X.w s.heap.objs.size (fun j => decide (j ∈ ns)) c) (fun b o e => keep b o e) (Nat.le_refl _) ?_, rfl, q _ _ (I.hok.fresh (Nat.le_refl _)) le⟩
  exact setO_new R
theorem cr_setLW {X : Cx} {K : PySem.W.Frag} {w : World} (hc : X.calm = true) (eK : X.K = K) (ew : X.w = w) : CallR X (.type "set") (rSetLO K w) := by
  subst eK
  subst ew
  exact cr_setLO hc
theorem cr_sortedSW {X : Cx} {w : World} (hc : X.calm = true) (ew : X.w = w) : CallR X (.builtin "sorted") (rSortedSet w) := by
  subst ew
  exact cr_sortedSet hc
end MM

set_option linter.all false
namespace K02
open LS
open PySem PySem.Spec PyProof.Rows L2 MM
def spEch (K : PySem.W.Frag) : Sp := fun vs H Q _ => ∃ (a : Addr) (us : List V) (W : List (List Int)) (ls : List Nat), vs = [.ref a] ∧ SqT K H a us ∧ TR K H us W ∧ Ech W ls ∧ ∀ H', Same H H' → Q (.bl true) H'
theorem shr_revR {R : List (List Int)} {c n : Nat} {D : Nat → Nat} (rc : Rect R c) (h : Shr R c D n) : Shr (revR R) c D n := by
  have em : ∀ i, i < R.length → ∀ j, j < c → mat (revR R) i j = mat R i (c - 1 - j) := fun i hi j hj => by
    have e : (revR R).getD i [] = (R.getD i []).reverse := by
      unfold revR
      rw [List.getD, List.getElem?_map, row_get hi]
      rfl
    have li := rect_get rc hi
    unfold mat
    rw [e, rev_get (by omega), li]
  have p : ∀ {k : Nat} {g : Int}, DT.P 0 R.length c k (mat R) g ↔ DT.P 0 R.length c k (mat (revR R)) g := fun {k g} => by
    constructor
    · intro h
      exact DT.P_congr (fun i hi j hj => (em i hi j hj).symm) (DT.P_cols (fun j => c - 1 - j) (fun j hj => by omega) h)
    · intro h
      refine DT.P_congr (fun i hi j hj => ?_) (DT.P_cols (fun j => c - 1 - j) (fun j hj => by omega) h)
      show mat (revR R) i (c - 1 - j) = mat R i j
      rw [em i hi _ (by omega), show c - 1 - (c - 1 - j) = j by omega]
  have t : ∀ {k E : Nat}, DT.Ch 0 R.length c k (mat R) E → DT.Ch 0 (revR R).length c k (mat (revR R)) E := fun {k E} ch g => by
    rw [revR_len]
    exact p.symm.trans (ch g)
  exact ⟨h.zero, fun k hk => t (h.ch k hk), h.pos, by rw [revR_len]; exact h.most, by rw [revR_len]; exact h.last.imp id fun z => (by have := t z; rwa [revR_len] at this)⟩
end K02

set_option Elab.async false
set_option linter.all false
set_option maxRecDepth 100000
set_option maxHeartbeats 8000000
namespace K02
open LS
open PySem PySem.Spec PyProof.Rows L2 MM
/-! own words for the readings: a step, its side -/
local macro_rules | `(tactic| walk_at "side") => `(tactic| first
  | omega
  | exact ⟨by omega, by omega⟩
  | exact Or.inl ⟨by omega, by omega⟩
  | exact Or.inr ⟨by omega, by omega⟩
  | (show CPw _ _; decide +kernel)
  | (show (0 : Int) < _; decide +kernel)
  | (show CDivW _ _; first | assumption | exact ⟨by decide, by decide +kernel⟩))
local macro_rules | `(tactic| walk_at "here") => `(tactic| first
  | assumption
  | exact upd_same
  | exact Or.inl (Or.inl upd_same)
  | exact Or.inl upd_same)
local macro_rules | `(tactic| walk_at "one") => `(tactic| first
  | refine ⟨_, rfl, ?_⟩
  | refine Or.inl ⟨_, rfl, ?_⟩
  | refine Or.inr ⟨_, rfl, ?_⟩
  | refine ⟨_, _, rfl, rfl, (by walk_at "side"), ?_⟩
  | refine ⟨_, _, rfl, rfl, ?_⟩
  | refine ⟨_, _, rfl, Or.inl (by walk_at "here"), ?_⟩
  | refine ⟨_, _, rfl, Or.inr (by walk_at "here"), ?_⟩
  | refine ⟨_, _, rfl, (by walk_at "here"), ?_⟩
  | refine ⟨_, _, _, _, rfl, rfl, (by walk_at "here"), rfl, ?_⟩
  | refine ⟨_, _, rfl, ?_⟩
  | refine ifT (by rfl) ?_
  | refine ifF (by rfl) ?_
  | refine ifT (decide_eq_true (by omega)) ?_
  | refine ifF (decide_eq_false (by omega)) ?_)
local macro_rules | `(tactic| walk_at "st") => `(tactic| repeat (walk_at "one"))

section
variable {P : Program} {w : World} {K : PySem.W.Frag} {mg : Str → Option Value} {base : Heap}
theorem emptyNe {H : Hp} {a b : Addr} {Q : VK} (S : H a = some (.lst [])) (S2 : H b = some (.lst [])) (q : Q (.bl false) H) : rNeD K (.ref a) (.ref b) H Q :=
  ⟨.list [], .list [], .lst (.inl (.inl S)) .nil, .lst (.inl (.inl S2)) .nil, shaped_ints [], shaped_ints [], q⟩
def spKerR (K : PySem.W.Frag) : Sp := fun vs H Q _ => ∃ (a : Addr) (us : List V) (R : List (List Int)) (c n : Nat) (D : Nat → Nat), vs = [.ref a, .int (n : Int)] ∧ SqT K H a us ∧ TR K H us R ∧ Sml R c ∧ Shr R c D n ∧ ∀ H', Same H H' → Q (.bl true) H'
theorem scKernelRightL : FnScope ["_law_table", "_law_many", "_law_told", "_law_width", "_law_row", "_law_line", "_law_one", "_law_other"] ["_law_table", "_law_many"] (defScope sKernelRightL) :=
  ⟨rfl, rfl, rfl, by decide +kernel, rfl, by decide +kernel, by decide +kernel⟩
theorem dKernelRightL (T : Tx K mg) (DKernel : Def P w K mg base CX0 6 "kernel" ["table"] (spKernel K)) (DIsEchelonL : Def P w K mg base CX0 2 "_law_is_echelon" ["_law_rows"] (spEch K)) : Def P w K mg base CX0 7 "_law_kernel_right" ["_law_table", "_law_many"] (spKerR K) := by
  refine T.t_law_kernel_right.def_ (N := ["_law_table", "_law_many", "_law_told", "_law_width", "_law_row", "_law_line", "_law_one", "_law_other"]) scKernelRightL (fun _ _ _ _ _ _ us hl => match us, hl with | [_, _], _ => rfl) ?_ ?_
  · intro vs H Q E h
    obtain ⟨a, us, R, c, n, D, rfl, _⟩ := h
    rfl
  · intro f cd A out s H vs Q E hr h
    have hr1 : Rm 6 _ := hr.le (by decide)
    obtain ⟨a, us, R, c, n, D, rfl, S, tR, sm, sh, q⟩ := h
    refine ⟨_, (pss_cons (ps_asg (pe_tup (pa_cons (pe_d DKernel (hr1.le (by decide)) pass0 (pa_cons (pv 0) pa_nil)) (pa_cons (pe_callB call_len_seq rfl T.f_len (by decide +kernel) (pa_cons (pe_ix ix_tup (pv 0) pe_int (fun _ _ => rfl)) pa_nil)) pa_nil))) (pg_tup rfl (pgs_cons (pg_name (i := 2) scKernelRightL.nd rfl (Or.inl rfl)) (pgs_cons (pg_name (i := 3) scKernelRightL.nd rfl (Or.inr rfl)) pgs_nil))))
      (pss_cons (ps_if (PW.pt (pw_or (pt_not (pt_val (pe_callB (cr_is .tup) rfl T.f_isinstance (by decide +kernel) (pa_cons (pv 2) (pa_cons (pe_ty .tup T.f_tuple (by decide +kernel)) pa_nil))))) (pw_or (pt_cmpR op_ne (pe_callB call_len_seq rfl T.f_len (by decide +kernel) (pa_cons (pv 2) pa_nil)) (pe_op op_sub (pv 3) (pv 1)) (nomark _)) (pw_or1 (pt_cmpR (op_neD hr.hu) (pe_lc (own := [("_law_row", 4)]) (g := gName 4) rfl scKernelRightL.nd (pi_tup (pv 2)) (blkOk_by (N := ["_law_table", "_law_many", "_law_told", "_law_width", "_law_row", "_law_line", "_law_one", "_law_other"]) (sc := defScope sKernelRightL) (by decide +kernel)) (fun _ _ _ _ _ => pg_name (i := 4) scKernelRightL.nd rfl (Or.inl rfl)) (fun _ _ _ _ _ => (pts_one (pt_cmpR op_ne (pe_callB (cr_lenK (K := K) rfl) rfl T.f_len (by decide +kernel) (pa_cons (pv 4) pa_nil)) (pv 3) (nomark _)))) (fun _ _ _ _ _ => (pv 4))) (pe_lst pa_nil) (nomark _)))))) (pss_one (ps_ret pe_bl)) pss_nil)
      (pss_cons (ps_for PassesOwn.never rfl (pi_tup (pv 2)) (pg_name (i := 4) scKernelRightL.nd rfl (Or.inr rfl))
        (pss_one (ps_if (pt_cmpR (op_neD hr.hu) (pe_lc (own := [("_law_line", 5)]) (g := gName 5) rfl scKernelRightL.nd (pi_tup (pv 0)) (blkOk_by (N := ["_law_table", "_law_many", "_law_told", "_law_width", "_law_row", "_law_line", "_law_one", "_law_other"]) (sc := defScope sKernelRightL) (by decide +kernel)) (fun _ _ _ _ _ => pg_name (i := 5) scKernelRightL.nd rfl (Or.inl rfl)) (fun _ _ _ _ _ => (pts_one (pt_cmpR op_ne (pe_callB (show CallR _ (.builtin "sum") (rSum K) from cr_sum rfl) rfl T.f_sum (by decide +kernel) (pa_cons (pe_lc (own := [("_law_one", 6), ("_law_other", 7)]) (g := gTup K 2 (gCons (gName 6) (gCons (gName 7) gNil))) (tt := tYes) rfl scKernelRightL.nd (show PI _ _ _ (RZ.iZipA K _) from (RZ.pi_zipA rfl T.f_zip (pa_cons (pv 4) (pa_cons (pv 5) pa_nil)))) (blkOk_by (N := ["_law_table", "_law_many", "_law_told", "_law_width", "_law_row", "_law_line", "_law_one", "_law_other"]) (sc := _) (by kernel_rfl)) (fun _ _ _ _ _ => (show PG _ _ (gTup K 2 (gCons (gName 6) (gCons (gName 7) gNil))) from pg_tup rfl (pgs_cons (pg_name (i := 6) scKernelRightL.nd rfl (Or.inl rfl)) (pgs_cons (pg_name (i := 7) scKernelRightL.nd rfl (Or.inl rfl)) pgs_nil)))) (fun _ _ _ _ _ => pts_nil) (fun _ _ _ _ _ => (pe_op op_mulW (pv 6) (pv 7)))) pa_nil)) pe_int (nomark _)))) (fun _ _ _ _ _ => pe_int)) (pe_lst pa_nil) (nomark _)) (pss_one (ps_ret pe_bl)) pss_nil)))
      (pss_one (ps_ret (pe_d DIsEchelonL (hr1.le (by decide)) pass0 (pa_cons (pv 2) pa_nil))))))), ?_⟩
    obtain ⟨gd, six, big⟩ := id sm
    have lu := tR.len
    have rc := gd.rect
    have r1 := gd.r1
    have c60 := gd.m2
    refine ⟨_, rfl, a, us, R, c, rfl, S, tR, sm, fun H1 t ws W cs ord sn X s1 St tW st ker => ?_⟩
    have st2 : DT.St (mat (revR R)) (revR R).length c c ord cs X sn := by rw [revR_len]; exact st
    have lc := shr_rank (shr_revR rc sh) st2
    have nd : cs.Nodup := st.up.imp fun h => Nat.ne_of_lt h
    obtain ⟨⟨ls, ec⟩, lW, rows⟩ := ech_of rc c60 nd st.below ker
    replace S := same_sqt s1 S
    replace tR := tR.same s1
    obtain ⟨u0, hu0, b0, rfl, S0⟩ := paired_get tR (row_get (i := 0) (by omega))
    have l0 := rect_get rc (i := 0) (by omega)
    refine ⟨_, rfl, a, _, _, .ref b0, rfl, rfl, S, atI_nat (j := 0) hu0, b0, _, rfl, .inr S0, ?_⟩
    rw [List.length_map, l0]
    refine ⟨by show 2 ≤ sizeLine; decide, fun T nT => ?_⟩
    have sT := same_new (o := .tup [.ref t, .int (c : Int)]) nT
    have hT : (upd H1 T (.tup [.ref t, .int (c : Int)])) T = some (.tup [.ref t, .int (c : Int)]) := upd_same
    replace S := same_sqt sT S
    replace tR := tR.same sT
    replace St := same_sqt sT St
    replace tW := tW.same sT
    have s2 := s1.trans sT
    generalize upd H1 T _ = H2 at hT S tR St tW s2 ⊢
    have lWs := tW.len
    refine ⟨T, _, rfl, .inl (.inl hT), rfl, _, _, rfl, ?_⟩
    refine ⟨_, _, rfl, rfl, ?_⟩
    try dsimp only [gName]
    refine seq_rest (fun σ H3 => Same H2 H3 ∧ ∃ y4 y5 y6 y7, σ = [some (.ref a), some (.int (n : Int)), some (.ref t), some (.int (c : Int)), y4, y5, y6, y7]) ?_ ?_
    rotate_left
    · intro N hN
      refine ⟨_, rfl, _, .tup, rfl, .tup St, _, rfl, ?_⟩
      refine ifF rfl ?_
      refine ⟨_, rfl, t, _, rfl, .inr St, _, rfl, _, rfl, _, _, rfl, rfl, rfl, _, rfl, ?_⟩
      refine ifF (by show (!decide (V.int (ws.length : Int) = V.int ((c : Int) - (n : Int)))) = false; rw [decide_eq_true (congrArg V.int (by omega))]; rfl) ?_
      refine ⟨_, rfl, t, rfl, ⟨_, St⟩, fun D1 n1 => ?_⟩
      refine lc_tup (K := K) (a := t) (xs := ws) (Pv := fun i H' => Same H2 H' ∧ H' D1 = some (.lst [])) ⟨same_new n1, upd_same⟩ (fun i H' _ e => same_sqt e.1 St) ?_ ?_
      · rintro i v H' hv ⟨s3, h1⟩
        obtain ⟨row, hrow, b, rfl, Sb⟩ := paired_at tW hv
        have lr := (rows row (List.mem_of_getElem? hrow)).1
        refine ⟨wipe_one, ?_⟩
        refine ⟨_, rfl, b, _, rfl, .inr (same_sqt s3 Sb), _, rfl, rfl, _, rfl, ?_⟩
        refine ifF (by show (!decide (V.int ((row.map V.int).length : Int) = V.int (c : Int))) = false; rw [List.length_map, lr, decide_eq_true rfl]; rfl) ?_
        exact ⟨s3, h1⟩
      · rintro H3 ⟨s3, h1⟩
        refine ⟨by decide, fun D2 n2 => ?_⟩
        have s4 := same_new (o := .lst []) n2
        refine emptyNe (s4 _ _ h1) upd_same ?_
        refine ⟨_, rfl, ?_⟩
        refine ifF rfl ?_
        exact hN _ _ ⟨s3.trans s4, _, _, _, _, rfl⟩
    · rintro σ H3 ⟨s3, y4, y5, y6, y7, rfl⟩
      replace S := same_sqt s3 S
      replace tR := tR.same s3
      replace St := same_sqt s3 St
      replace tW := tW.same s3
      replace s2 := s2.trans s3
      refine ⟨_, rfl, t, rfl, ⟨_, St⟩, for_tup (K := K) (a := t) (xs := ws) (fun i σ H' => Same H3 H' ∧ ∃ y4 y5 y6 y7, σ = [some (.ref a), some (.int (n : Int)), some (.ref t), some (.int (c : Int)), y4, y5, y6, y7]) ⟨Same.refl _, _, _, _, _, rfl⟩ (fun i σ H' _ e => same_sqt e.1 St) ?_ ?_⟩
      · rintro i v σ H4 hv ⟨s4, z4, z5, z6, z7, rfl⟩
        obtain ⟨row, hrow, b, rfl, Sb⟩ := paired_at tW hv
        obtain ⟨lr, dz⟩ := rows row (List.mem_of_getElem? hrow)
        have bigr := (ec.small row (List.mem_of_getElem? hrow)).2
        refine ⟨_, rfl, a, rfl, ⟨_, same_sqt s4 S⟩, fun D1 n1 => ?_⟩
        refine lc_tup (K := K) (a := a) (xs := us) (Pv := fun i H' => Same H4 H' ∧ H' D1 = some (.lst [])) ⟨same_new n1, upd_same⟩ (fun i H' _ e => same_sqt (s4.trans e.1) S) ?_ ?_
        · rintro j v H5 hv ⟨s5, h1⟩
          obtain ⟨line, hline, e, rfl, Se⟩ := paired_at tR hv
          have lj := (List.getElem?_eq_some_iff.mp hline).1
          have ll : line.length = c := rc line (List.mem_of_getElem? hline)
          have z := dz j lj
          rw [show R.getD j [] = line by rw [List.getD, hline]; rfl] at z
          refine ⟨wipe_one, ?_⟩
          have S1 := same_sqt (s4.trans s5) Sb
          have S2 := same_sqt (s4.trans s5) Se
          have bl : ∀ x ∈ line, x.natAbs < 2 ^ 8000 := fun x hx => Nat.lt_trans (big line (List.mem_of_getElem? hline) x hx) (Nat.pow_lt_pow_right (by decide) (by decide))
          refine ⟨_, rfl, _, rfl, b, e, _, _, rfl, .inr ⟨S1, S2, fun D3 n3 => ?_⟩⟩
          refine lc_zipT2 (n := min (row.map V.int).length (line.map V.int).length) rfl (fun i H' => Same H5 H' ∧ H' D3 = some (.lst ((List.zipWith (· * ·) (row.take i) (line.take i)).map V.int))) ⟨same_new n3, upd_same⟩ (fun i H' _ e => ⟨same_sqt e.1 S1, same_sqt e.1 S2⟩) ?_ ?_
          · rintro k x' y' H6 T' hx' hy' ⟨s6, hD⟩ fT
            obtain ⟨xi, hxi, rfl⟩ := map_int hx'
            obtain ⟨yi, hyi, rfl⟩ := map_int hy'
            have DT : D3 ≠ T' := ne_of_none hD fT
            have lx := (List.getElem?_eq_some_iff.mp hxi).1
            have ly := (List.getElem?_eq_some_iff.mp hyi).1
            have s7 := s6.trans (same_new fT (o := .tup [.int xi, .int yi]))
            have hD7 := (upd_ne (o := .tup [.int xi, .int yi]) DT).trans hD
            refine ⟨T', _, rfl, .inl (.inl upd_same), rfl, _, _, rfl, ?_⟩
            refine ⟨_, _, rfl, rfl, rfl, ?_⟩
            generalize upd H6 T' _ = H7 at s7 hD7 ⊢
            refine yes_ ?_
            refine ⟨_, rfl, _, rfl, xi, yi, rfl, rfl, mulB (by decide) (bigr _ (List.mem_of_getElem? hxi)) (bl _ (List.mem_of_getElem? hyi)), ?_⟩
            refine ⟨_, hD7, ?_, ?_, ?_⟩
            · rw [List.length_map, List.length_zipWith, List.length_take, sizeLine_eq]
              omega
            · intro k o e
              rw [upd_ne (ne_of_none e n3)]
              exact s7 _ _ e
            · rw [upd_same, List.take_add_one, hxi, List.take_add_one, hyi, List.zipWith_append (by rw [List.length_take, List.length_take]; omega), List.map_append]
              rfl
          · rintro H6 ⟨s6, hD⟩
            rw [List.length_map, List.length_map, lr, ll, Nat.min_self, List.take_of_length_le (by omega), List.take_of_length_le (by omega)] at hD
            refine ⟨D3, _, rfl, .inl (.inl hD), rfl, _, rfl, ?_⟩
            have z2 : (List.zipWith (fun x1 x2 => x1 * x2) row line).sum = 0 := z
            refine ifF (by show (!decide (V.int (List.zipWith (fun x1 x2 => x1 * x2) row line).sum = V.int 0)) = false; rw [z2, decide_eq_true rfl]; rfl) ?_
            exact ⟨s5.trans s6, s6 _ _ h1⟩
        · rintro H5 ⟨s5, h1⟩
          refine ⟨by decide, fun D2 n2 => ?_⟩
          have s6 := same_new (o := .lst []) n2
          refine emptyNe (s6 _ _ h1) upd_same ?_
          refine ⟨_, rfl, ?_⟩
          refine ifF rfl ?_
          exact ⟨(s4.trans s5).trans s6, _, _, _, _, rfl⟩
      · rintro σ H4 ⟨s4, z4, z5, z6, z7, rfl⟩
        refine ⟨_, rfl, t, ws, W, ls, rfl, same_sqt s4 St, tW.same s4, ec, fun H5 s5 => ?_⟩
        exact q _ ((s2.trans s4).trans s5)
end
end K02


set_option linter.all false
namespace K02
open PySem PySem.Spec PyProof.Rows L2 MM
theorem shr_minor {R : List (List Int)} {c k n : Nat} {D : Nat → Nat} (h : Shr R c D n) (hk : k ≤ n) : ∃ Ro C : Nat → Nat, (∀ a, a < k → Ro a < R.length) ∧ (∀ a, a < k → C a < c) ∧ DT.det k (fun a b => mat R (Ro a) (C b)) ≠ 0 := by
  refine Classical.byContradiction fun none => ?_
  have p : DT.P 0 R.length c k (mat R) ((D k + 1 : Nat) : Int) := by
    intro j jn Ro C hR hC
    by_cases e : j = k
    · subst e
      have : DT.det j (fun a b => mat R (Ro a) (C b)) = 0 := Classical.byContradiction fun z => none ⟨Ro, C, hR, hC, z⟩
      rw [this, Int.mul_zero]
      exact Int.dvd_zero _
    · rw [Int.zero_pow (by omega), Int.zero_mul]
      exact Int.dvd_zero _
  have := Nat.le_of_dvd (h.pos k hk) ((h.ch k hk _).mp p)
  omega
theorem shr_bound {R : List (List Int)} {c k n : Nat} {D : Nat → Nat} (h : Shr R c D n) (rc : Rect R c) (big : Big R (2 ^ 47)) (hk : k ≤ n) (k4 : k ≤ 4) : D k ≤ 2 ^ 200 := by
  obtain ⟨Ro, C, hR, hC, ne⟩ := shr_minor h hk
  have d := DT.Ch_minor (h.ch k hk) hR hC
  have b := DT.det_bound (e := 47) (k := k) (A := fun a b => mat R (Ro a) (C b)) (by omega) fun a b ha hb => big_get big rc (hR a ha) (hC b hb)
  have l := Nat.le_of_dvd (by omega) (Int.ofNat_dvd_left.mp d)
  exact Nat.le_trans l (Nat.le_trans b (Nat.pow_le_pow_right (by decide) (by omega)))
theorem full_iff {Y : List (List Int)} {cs : List Nat} {ord : Nat → Nat} {X : DT.M} {sn : Int} (st : DT.St (mat Y) Y.length Y.length Y.length ord cs X sn) : cs.length = Y.length ↔ DT.det Y.length (mat Y) ≠ 0 := by
  constructor
  · intro e z
    have p : DT.P 0 Y.length Y.length Y.length (mat Y) 0 := DT.P_asc fun l m hl hm => by
      have il := DT.asc_id l 0 hl.2.1 fun x hx => ⟨Nat.zero_le _, by have := hl.2.2 x hx; have := hl.1; omega⟩
      have im := DT.asc_id m 0 hm.2.1 fun x hx => ⟨Nat.zero_le _, by have := hm.2.2 x hx; have := hm.1; omega⟩
      have : (DT.det Y.length fun a b => mat Y (l.getD a 0) (m.getD b 0)) = DT.det Y.length (mat Y) := DT.det_congr fun a b ha hb => by
        rw [il a (by have := hl.1; omega), im b (by have := hm.1; omega), Nat.zero_add, Nat.zero_add]
      rw [this, z]
      exact Int.dvd_refl _
    have d := p Y.length (Nat.le_refl _) ord (fun a => cs.getD a 0) (fun a ha => st.into a ha) (fun a ha => st.below _ (by rw [List.getD, List.getElem?_eq_getElem (by omega)]; exact List.getElem_mem _))
    rw [Nat.sub_self, Int.pow_zero, Int.one_mul] at d
    have l := st.led Y.length (by omega)
    exact l (Int.zero_dvd.mp d)
  · intro ne
    refine Classical.byContradiction fun e => ne ?_
    have few := st.few
    exact st.none_ (R := id) (C := id) (by omega) (fun a ha => ha) (fun a ha => ha)
end K02

set_option Elab.async false
set_option linter.all false
set_option maxRecDepth 100000
set_option maxHeartbeats 8000000
namespace K02
open LS LT
open PySem PySem.Spec PyProof.Rows L2 MM
/-! own words for the readings: a step, its side -/
local macro_rules | `(tactic| walk_at "side") => `(tactic| first
  | omega
  | exact ⟨by omega, by omega⟩
  | exact Or.inl ⟨by omega, by omega⟩
  | exact Or.inr ⟨by omega, by omega⟩
  | (show CPw _ _; decide +kernel)
  | (show (0 : Int) < _; decide +kernel)
  | (show CDivW _ _; first | assumption | exact ⟨by decide, by decide +kernel⟩))
local macro_rules | `(tactic| walk_at "here") => `(tactic| first
  | assumption
  | exact upd_same
  | exact Or.inl (Or.inl upd_same)
  | exact Or.inl upd_same)
local macro_rules | `(tactic| walk_at "one") => `(tactic| first
  | refine ⟨_, rfl, ?_⟩
  | refine Or.inl ⟨_, rfl, ?_⟩
  | refine Or.inr ⟨_, rfl, ?_⟩
  | refine ⟨_, _, rfl, rfl, (by walk_at "side"), ?_⟩
  | refine ⟨_, _, rfl, rfl, ?_⟩
  | refine ⟨_, _, rfl, Or.inl (by walk_at "here"), ?_⟩
  | refine ⟨_, _, rfl, Or.inr (by walk_at "here"), ?_⟩
  | refine ⟨_, _, rfl, (by walk_at "here"), ?_⟩
  | refine ⟨_, _, _, _, rfl, rfl, (by walk_at "here"), rfl, ?_⟩
  | refine ⟨_, _, rfl, ?_⟩
  | refine ifT (by rfl) ?_
  | refine ifF (by rfl) ?_
  | refine ifT (decide_eq_true (by omega)) ?_
  | refine ifF (decide_eq_false (by omega)) ?_)
local macro_rules | `(tactic| walk_at "st") => `(tactic| repeat (walk_at "one"))

section
variable {P : Program} {w : World} {K : PySem.W.Frag} {mg : Str → Option Value} {base : Heap}
theorem eqv_self : ∀ ns : List Int, PyData.eqvAll (ns.map .int) (ns.map .int) = true
  | [] => rfl
  | n :: r => by
    show (PyData.eqv (.int n) (.int n) && PyData.eqvAll (r.map .int) (r.map .int)) = true
    rw [eqv_self r, show PyData.eqv (.int n) (.int n) = decide (n = n) from rfl, decide_eq_true rfl]
    rfl
theorem eqvs_self : ∀ R : List (List Int), PyData.eqvAll (R.map fun r => PyData.tuple (r.map .int)) (R.map fun r => PyData.tuple (r.map .int)) = true
  | [] => rfl
  | r :: R => by
    show (PyData.eqvAll (r.map .int) (r.map .int) && PyData.eqvAll (R.map fun r => PyData.tuple (r.map .int)) (R.map fun r => PyData.tuple (r.map .int))) = true
    rw [eqv_self r, eqvs_self R]
    rfl
theorem lays : ∀ R : List (List Int), PyData.canLayAll0 (R.map fun r => PyData.tuple (r.map .int)) = true
  | [] => rfl
  | r :: R => by
    show (PyData.canLay0 (.tuple (r.map .int)) && PyData.canLayAll0 (R.map fun r => PyData.tuple (r.map .int))) = true
    rw [lays R, show PyData.canLay0 (.tuple (r.map .int)) = true from lay_ints _]
    rfl
theorem deps : ∀ R : List (List Int), PyData.depthAll (R.map fun r => PyData.tuple (r.map .int)) ≤ 3
  | [] => by decide
  | r :: R => by
    have := deps R
    have h := dep_ints r
    have h2 : PyData.depth (.tuple (r.map .int)) ≤ 2 := by
      simp only [PyData.depth]
      omega
    simp only [List.map_cons, PyData.depthAll]
    omega
theorem shapeds (R : List (List Int)) : SeqAt.shaped (.tuple (R.map fun r => PyData.tuple (r.map .int))) = true := by
  unfold SeqAt.shaped
  have h := deps R
  rw [show PyData.canLay0 (.tuple (R.map fun r => PyData.tuple (r.map .int))) = true from lays R, Bool.true_and]
  refine decide_eq_true ?_
  simp only [PyData.depth]
  omega
theorem shapedN (ns : List Int) : SeqAt.shaped (.tuple (ns.map .int)) = true := by
  unfold SeqAt.shaped
  have h := dep_ints ns
  rw [show PyData.canLay0 (.tuple (ns.map .int)) = true from lay_ints ns, Bool.true_and]
  refine decide_eq_true ?_
  simp only [PyData.depth]
  omega
theorem dp_TR {H : Hp} {us : List V} {R : List (List Int)} (h : TR K H us R) : DpAll K H us (R.map fun r => PyData.tuple (r.map .int)) := by
  induction h with
  | nil => exact .nil
  | cons r _ ih =>
    obtain ⟨b, rfl, S⟩ := r
    exact .cons (.tup S (dp_ints _)) ih
theorem neTR {H : Hp} {a b : Addr} {us ws : List V} {R : List (List Int)} {Q : VK} (S : SqT K H a us) (r : TR K H us R) (S2 : SqT K H b ws) (r2 : TR K H ws R) (q : Q (.bl false) H) : rNeD K (.ref a) (.ref b) H Q :=
  ⟨_, _, .tup S (dp_TR r), .tup S2 (dp_TR r2), shapeds R, shapeds R, by
    rw [show PyData.eqv (.tuple (R.map fun r => PyData.tuple (r.map .int))) (.tuple (R.map fun r => PyData.tuple (r.map .int))) = true from eqvs_self R]
    exact q⟩
theorem neNv {H : Hp} {a b : Addr} {l : List Nat} {Q : VK} (S : SqT K H a (nv l)) (S2 : SqT K H b (nv l)) (q : Q (.bl false) H) : rNeD K (.ref a) (.ref b) H Q := by
  have e1 : nv l = (l.map fun n : Nat => (n : Int)).map V.int := by
    unfold nv
    rw [List.map_map]
    rfl
  rw [e1] at S S2
  refine ⟨_, _, .tup S (dp_ints _), .tup S2 (dp_ints _), shapedN _, shapedN _, ?_⟩
  rw [show PyData.eqv (.tuple ((l.map fun n : Nat => (n : Int)).map .int)) (.tuple ((l.map fun n : Nat => (n : Int)).map .int)) = true from eqv_self _]
  exact q
theorem sqt_sb {H H' : Hp} {a p : Addr} {xs : List V} (s : Sb p H H') (b : IsBag p H) (h : SqT K H a xs) : SqT K H' a xs := by
  obtain ⟨g, m, c, e⟩ := b
  rcases h with (h | ⟨o, h⟩) | h
  · exact .inl (.inl (s _ _ h fun z => by rw [z, e] at h; cases h))
  · exact .inl (.inr ⟨o, s _ _ h fun z => by rw [z, e] at h; cases h⟩)
  · exact .inr h
theorem tr_sb {H H' : Hp} {p : Addr} {us : List V} {R : List (List Int)} (s : Sb p H H') (b : IsBag p H) (h : TR K H us R) : TR K H' us R := Paired.mapP h fun _ _ ⟨a, e, hb⟩ => ⟨a, e, sqt_sb s b hb⟩
def spRight (K : PySem.W.Frag) : Sp := fun vs H Q _ => ∃ p : Addr, vs = [.ref p] ∧ IsBag p H ∧ ∀ H', Sb p H H' → IsBag p H' → Q (.bl true) H'
theorem scRightL : FnScope ["_law_bag_here", "_law_rows", "_law_columns", "_law_table", "_law_shares", "_law_due", "_law_at", "_law_share", "_law_other", "_law_square", "_law_place", "_law_row"] ["_law_bag_here"] (defScope sRightL) :=
  ⟨rfl, rfl, rfl, by decide +kernel, rfl, by decide +kernel, by decide +kernel⟩
theorem dRightL (T : Tx K mg) (DGrabL : Def P w K mg base CX0 1 "_law_grab" ["_law_bag_here", "_law_total"] spGrab) (DTbDrawnL : Def P w K mg base CX0 3 "_law_tb_drawn" ["_law_bag_here", "_law_rows", "_law_columns"] (spDrawn K)) (DTbSharesL : Def P w K mg base CX0 2 "_law_tb_shares" ["_law_table"] (spShares K)) (DKernelRightL : Def P w K mg base CX0 7 "_law_kernel_right" ["_law_table", "_law_many"] (spKerR K)) (DElementaryDivisors : Def P w K mg base CX0 8 "elementary_divisors" ["table"] (spElem K)) (DRank : Def P w K mg base CX0 6 "rank" ["table"] (spRank K)) (DTableProduct : Def P w K mg base CX0 6 "table_product" ["one", "other"] (spProd K)) (DTbProductL : Def P w K mg base CX0 1 "_law_tb_product" ["_law_one", "_law_other"] (spProd K)) (DDeterminant : Def P w K mg base CX0 6 "determinant" ["table"] (spDet K)) (DTbDeterminantL : Def P w K mg base CX0 1 "_law_tb_determinant" ["_law_rows"] (spDetT K)) : Def P w K mg base CX0 9 "_law_right" ["_law_bag_here"] (spRight K) := by
  refine T.t_law_right.def_ (N := ["_law_bag_here", "_law_rows", "_law_columns", "_law_table", "_law_shares", "_law_due", "_law_at", "_law_share", "_law_other", "_law_square", "_law_place", "_law_row"]) scRightL (fun _ _ _ _ _ _ us hl => match us, hl with | [_], _ => rfl) ?_ ?_
  · intro vs H Q E h
    obtain ⟨p, rfl, _⟩ := h
    rfl
  · intro f cd A out s H vs Q E hr h
    have hr1 : Rm 8 _ := hr.le (by decide)
    obtain ⟨p, rfl, ⟨g0, m0, c0, hp⟩, q⟩ := h
    refine ⟨_, (pss_cons (ps_par (i := 1) (j := 2) rfl scRightL.nd rfl rfl (by decide) rfl rfl (pa_cons (pe_op op_add pe_int (pe_d DGrabL (hr1.le (by decide)) pass0 (pa_cons (pv 0) (pa_cons pe_int pa_nil)))) (pa_cons (pe_op op_add pe_int (pe_d DGrabL (hr1.le (by decide)) pass0 (pa_cons (pv 0) (pa_cons pe_int pa_nil)))) pa_nil)) (by rfl))
      (pss_cons (ps_set (i := 3) scRightL.nd rfl (Or.inl rfl) (pe_d DTbDrawnL (hr1.le (by decide)) pass0 (pa_cons (pv 0) (pa_cons (pv 1) (pa_cons (pv 2) pa_nil)))))
      (pss_cons (ps_set (i := 4) scRightL.nd rfl (Or.inr rfl) (pe_d DTbSharesL (hr1.le (by decide)) pass0 (pa_cons (pv 3) pa_nil)))
      (pss_cons (ps_set (i := 5) scRightL.nd rfl (Or.inl rfl) (pe_callTy call_tuple_of rfl T.f_tuple (by decide +kernel) (pa_cons (pe_lc (own := [("_law_at", 6), ("_law_share", 7)]) (g := gTup K 2 (gCons (gName 6) (gCons (gName 7) gNil))) (tt := tYes) rfl scRightL.nd (pi_enum rfl T.f_enumerate (pa_cons (pv 4) pa_nil)) (blkOk_by (N := ["_law_bag_here", "_law_rows", "_law_columns", "_law_table", "_law_shares", "_law_due", "_law_at", "_law_share", "_law_other", "_law_square", "_law_place", "_law_row"]) (sc := defScope sRightL) (by decide +kernel)) (fun _ _ _ _ _ => (show PG _ _ (gTup K 2 (gCons (gName 6) (gCons (gName 7) gNil))) from pg_tup rfl (pgs_cons (pg_name (i := 6) scRightL.nd rfl (Or.inl rfl)) (pgs_cons (pg_name (i := 7) scRightL.nd rfl (Or.inl rfl)) pgs_nil)))) (fun _ _ _ _ _ => pts_nil) (fun _ _ _ _ _ => (pe_op op_fdivW (pv 7) (pe_ifExp (pt_cmpR op_gt (pv 6) pe_int (nomark _)) (pe_ix (show IxR _ (rIxL K) from ix_list) (pv 4) (pe_op op_sub (pv 6) pe_int) (fun _ _ => rfl)) pe_int)))) pa_nil)))
      (pss_cons (ps_if (PW.pt (pw_or (pt_cmpR op_ne (pe_d DRank (hr1.le (by decide)) pass0 (pa_cons (pv 3) pa_nil)) (pe_callB call_len_seq rfl T.f_len (by decide +kernel) (pa_cons (pv 4) pa_nil)) (nomark _)) (pw_or (pt_cmpR (op_neD hr.hu) (pe_d DElementaryDivisors (hr1.le (by decide)) pass0 (pa_cons (pv 3) pa_nil)) (pv 5) (nomark _)) (pw_or1 (pt_not (pt_val (pe_d DKernelRightL (hr1.le (by decide)) pass0 (pa_cons (pv 3) (pa_cons (pe_callB call_len_seq rfl T.f_len (by decide +kernel) (pa_cons (pv 4) pa_nil)) pa_nil))))))))) (pss_one (ps_ret pe_bl)) pss_nil)
      (pss_cons (ps_set (i := 8) scRightL.nd rfl (Or.inl rfl) (pe_d DTbDrawnL (hr1.le (by decide)) pass0 (pa_cons (pv 0) (pa_cons (pv 2) (pa_cons (pe_op op_add pe_int (pe_d DGrabL (hr1.le (by decide)) pass0 (pa_cons (pv 0) (pa_cons pe_int pa_nil)))) pa_nil)))))
      (pss_cons (ps_if (pt_cmpR (op_neD hr.hu) (pe_d DTableProduct (hr1.le (by decide)) pass0 (pa_cons (pv 3) (pa_cons (pv 8) pa_nil))) (pe_d DTbProductL (hr1.le (by decide)) pass0 (pa_cons (pv 3) (pa_cons (pv 8) pa_nil))) (nomark _)) (pss_one (ps_ret pe_bl)) pss_nil)
      (pss_cons (ps_set (i := 9) scRightL.nd rfl (Or.inr rfl) (pe_d DTbDrawnL (hr1.le (by decide)) pass0 (pa_cons (pv 0) (pa_cons (pe_op op_add pe_int (pe_d DGrabL (hr1.le (by decide)) pass0 (pa_cons (pv 0) (pa_cons pe_int pa_nil)))) (pa_cons pe_int pa_nil)))))
      (pss_cons (ps_set (i := 9) scRightL.nd rfl (Or.inr rfl) (pe_callTy call_tuple_of rfl T.f_tuple (by decide +kernel) (pa_cons (pe_lc (own := [("_law_row", 11)]) (g := gName 11) (tt := tYes) rfl scRightL.nd (pi_tup (pv 9)) (blkOk_by (N := ["_law_bag_here", "_law_rows", "_law_columns", "_law_table", "_law_shares", "_law_due", "_law_at", "_law_share", "_law_other", "_law_square", "_law_place", "_law_row"]) (sc := defScope sRightL) (by decide +kernel)) (fun _ _ _ _ _ => pg_name (i := 11) scRightL.nd rfl (Or.inl rfl)) (fun _ _ _ _ _ => pts_nil) (fun _ _ _ _ _ => (pe_callTy (show CallR _ _ (rTupOf K) from call_tuple_of) rfl T.f_tuple (by decide +kernel) (pa_cons (pe_lc (own := [("_law_place", 10)]) (g := gName 10) (tt := tYes) rfl scRightL.nd (show PI _ _ _ (iTup K _) from pi_tup (pv 9)) (blkOk_by (N := ["_law_bag_here", "_law_rows", "_law_columns", "_law_table", "_law_shares", "_law_due", "_law_at", "_law_share", "_law_other", "_law_square", "_law_place", "_law_row"]) (sc := _) (by kernel_rfl)) (fun _ _ _ _ _ => pg_name (i := 10) scRightL.nd rfl (Or.inl rfl)) (fun _ _ _ _ _ => pts_nil) (fun _ _ _ _ _ => (pe_op op_sub (pe_d DGrabL (hr1.le (by decide)) pass0 (pa_cons (pv 0) (pa_cons pe_int pa_nil))) pe_int))) pa_nil)))) pa_nil)))
      (pss_one (ps_ret (pe_and (pe_cmpR op_eq (pe_d DDeterminant (hr1.le (by decide)) pass0 (pa_cons (pv 9) pa_nil)) (pe_d DTbDeterminantL (hr1.le (by decide)) pass0 (pa_cons (pv 9) pa_nil)) (nomark _)) (pe_one (pe_cmpR op_eq (pe_cmpR op_eq (pe_d DRank (hr1.le (by decide)) pass0 (pa_cons (pv 9) pa_nil)) (pe_callB call_len_seq rfl T.f_len (by decide +kernel) (pa_cons (pv 9) pa_nil)) (nomark _)) (pe_cmpR op_ne (pe_d DTbDeterminantL (hr1.le (by decide)) pass0 (pa_cons (pv 9) pa_nil)) pe_int (nomark _)) (nomark _))))))))))))))), ?_⟩
    have nat_of : ∀ {y : Int}, 0 ≤ y → ∃ n : Nat, y = (n : Int) := fun {y} h => ⟨y.toNat, by omega⟩
    refine ⟨_, rfl, p, 4, g0, m0, c0, rfl, hp, div_small (n := 4) (by decide) (by decide), fun y1 g1 m1 c1 a1 a2 => ?_⟩
    have s1 : Sb p H (upd H p (.lst [.int g1, .int m1, .int c1])) := fun b o e n => (upd_ne n).trans e
    have e1 : (upd H p (.lst [.int g1, .int m1, .int c1])) p = some (.lst [.int g1, .int m1, .int c1]) := upd_same
    generalize upd H p _ = H1 at s1 e1 ⊢
    refine ⟨_, _, rfl, rfl, ?_⟩
    refine ⟨_, rfl, p, 4, g1, m1, c1, rfl, e1, div_small (n := 4) (by decide) (by decide), fun y2 g2 m2 c2 b1 b2 => ?_⟩
    have s2 : Sb p H (upd H1 p (.lst [.int g2, .int m2, .int c2])) := fun b o e n => (upd_ne n).trans (s1 b o e n)
    have e2 : IsBag p (upd H1 p (.lst [.int g2, .int m2, .int c2])) := ⟨_, _, _, upd_same⟩
    generalize upd H1 p _ = H2 at s2 e2 ⊢
    refine ⟨_, _, rfl, rfl, ?_⟩
    obtain ⟨n1, rfl⟩ := nat_of a1
    obtain ⟨n2, rfl⟩ := nat_of b1
    refine ⟨_, _, rfl, ?_⟩
    refine ⟨_, rfl, _, rfl, _, rfl, p, 1 + n1, 1 + n2, by rw [Int.natCast_add, Int.natCast_add]; rfl, e2, by omega, by omega, by omega, by omega, fun H3 t ws R s3 e3 St tR lR rc bg => ?_⟩
    obtain ⟨c, hc⟩ : ∃ c, c = 1 + n2 := ⟨_, rfl⟩
    rw [← hc] at rc
    have s3' : Sb p H H3 := fun b o e n => s3 _ _ (s2 b o e n) n
    refine ⟨_, rfl, t, ws, R, c, rfl, St, tR, rc, by omega, by omega, by omega, by omega, bg, fun H4 sA D n s4 hs sh => ?_⟩
    have most := sh.most
    have bd := fun k (hk : k ≤ n) => shr_bound sh rc bg hk (by omega)
    replace St := same_sqt s4 St
    replace tR := tR.same s4
    refine ⟨_, rfl, sA, _, rfl, .inl (.inl hs), fun E' nE => ?_⟩
    have ln : (nv ((List.range n).map fun k => D (k + 1))).length = n := by rw [nv_len, List.length_map, List.length_range]
    have gD : ∀ k, k < n → ((List.range n).map fun k => D (k + 1)).getD k 0 = D (k + 1) := fun k hk => by
      rw [List.getD, List.getElem?_map, List.getElem?_range hk]
      rfl
    refine lc_enumL (K := K) (a := sA) (xs := nv ((List.range n).map fun k => D (k + 1))) (Pv := fun i H' => Same H4 H' ∧ H' E' = some (.lst (nv ((elemD D n).take i)))) ⟨same_new nE, upd_same⟩ (fun i H' _ e => .inl (.inl (e.1 _ _ hs))) ?_ ?_
    · rintro i v H5 T hv ⟨s5, hE⟩ fT
      have li := (List.getElem?_eq_some_iff.mp hv).1
      rw [ln] at li
      rw [nv_at (by rw [List.length_map, List.length_range]; exact li), gD i li] at hv
      cases hv
      have DT' : E' ≠ T := ne_of_none hE fT
      have s6 := s5.trans (same_new fT (o := .tup [.int (i : Int), .int (D (i + 1) : Int)]))
      have hE6 := (upd_ne (o := .tup [.int (i : Int), .int (D (i + 1) : Int)]) DT').trans hE
      refine ⟨T, _, rfl, .inl (.inl upd_same), rfl, _, _, rfl, ?_⟩
      refine ⟨_, _, rfl, rfl, rfl, ?_⟩
      generalize upd H5 T _ = H6 at s6 hE6 ⊢
      refine yes_ ?_
      have fin : ∀ q : Int, q = ((D (i + 1) / D i : Nat) : Int) → ∃ acc, H6 E' = some (.lst acc) ∧ acc.length < sizeLine ∧ Same H4 (upd H6 E' (.lst (acc ++ [.int q]))) ∧ upd H6 E' (.lst (acc ++ [.int q])) E' = some (.lst (nv ((elemD D n).take (i + 1)))) := fun q hq => by
        refine ⟨_, hE6, ?_, ?_, ?_⟩
        · rw [nv_len, List.length_take, sizeLine_eq]
          omega
        · intro k o e
          rw [upd_ne (ne_of_none e nE)]
          exact s6 _ _ e
        · rw [upd_same, List.take_add_one, show (elemD D n)[i]? = some (D (i + 1) / D i) by unfold elemD; rw [List.getElem?_map, List.getElem?_range li]; rfl, hq]
          unfold nv
          rw [List.map_append]
          rfl
      have pi := sh.pos i (by omega)
      have cd : CDivW (D (i + 1) : Int) (D i : Int) := ⟨by omega, by
        rw [Int.natAbs_natCast]
        exact Nat.lt_of_le_of_lt (show (D i).log2 ≤ 200 from by
          refine Classical.byContradiction fun z => ?_
          have := bd i (by omega)
          have h2 := Nat.log2_self_le (n := D i) (by omega)
          have h3 : 2 ^ 201 ≤ 2 ^ (D i).log2 := Nat.pow_le_pow_right (by decide) (by omega)
          have h4 : (2 : Nat) ^ 201 = 2 * 2 ^ 200 := by rw [Nat.pow_succ, Nat.mul_comm]
          have h5 : 0 < (2 : Nat) ^ 200 := Nat.pow_pos (by decide)
          omega) (by decide)⟩
      refine ⟨_, rfl, _, rfl, _, _, rfl, rfl, _, rfl, ?_⟩
      by_cases i0 : 0 < i
      · refine ifT (decide_eq_true (by omega)) ?_
        obtain ⟨m, rfl⟩ : ∃ m, i = m + 1 := ⟨i - 1, by omega⟩
        have am : atI (nv ((List.range n).map fun k => D (k + 1))) (((m + 1 : Nat) : Int) - 1) = some (.int ((D (m + 1) : Nat) : Int)) := by
          rw [show ((m + 1 : Nat) : Int) - 1 = (m : Int) by omega, ← gD m (by omega)]
          exact atI_nat (nv_at (by rw [List.length_map, List.length_range]; omega))
        refine ⟨_, rfl, _, rfl, _, _, rfl, rfl, sA, _, _, _, rfl, rfl, .inl (.inl (s6 _ _ hs)), am, _, _, rfl, rfl, cd, ?_⟩
        exact fin _ (by rw [Int.natCast_ediv])
      · refine ifF (decide_eq_false (by omega)) ?_
        obtain rfl : i = 0 := by omega
        rw [sh.zero] at cd
        refine ⟨_, _, rfl, rfl, cd, ?_⟩
        exact fin _ (by rw [Int.natCast_ediv, sh.zero]; rfl)
    rintro H5 ⟨s5, hE⟩
    rw [ln, List.take_of_length_le (by unfold elemD; rw [List.length_map, List.length_range]; exact Nat.le_refl _)] at hE
    refine ⟨E', _, rfl, .inl ⟨.inl (.inl hE), fun due nd => ?_⟩⟩
    have s6 := s5.trans (same_new (o := .tup (nv (elemD D n))) nd)
    have hdue : SqT K (upd H5 due (.tup (nv (elemD D n)))) due (nv (elemD D n)) := .inl (.inl upd_same)
    have hs6 := s6 _ _ hs
    generalize upd H5 due _ = H6 at s6 hdue hs6 ⊢
    replace St := same_sqt s6 St
    replace tR := tR.same s6
    have bag6 : IsBag p H6 := by
      obtain ⟨g, m, cc, e⟩ := e3
      exact ⟨g, m, cc, s6 _ _ (s4 _ _ e)⟩
    have sb6 : Sb p H H6 := fun b o e n => s6 _ _ (s4 _ _ (s3' b o e n))
    have good : Good R c := ⟨rc, by omega, by omega, by omega, by omega, bg.mono (by decide)⟩
    have sm : Sml R c := ⟨good, by omega, bg⟩
    try dsimp only [gName]
    refine seq_rest (fun σ H7 => Same H6 H7 ∧ ∃ y6 y7 y8 y9 y10 y11, σ = [some (.ref p), some (.int (1 + (n1 : Int))), some (.int (1 + (n2 : Int))), some (.ref t), some (.ref sA), some (.ref due), y6, y7, y8, y9, y10, y11]) ?_ ?_
    rotate_left
    · intro N hN
      refine ⟨_, rfl, t, ws, R, c, rfl, St, tR, sm, fun H7 cs ord sn X s7 st => ?_⟩
      have lc := shr_rank sh st
      refine ⟨_, rfl, sA, _, rfl, .inl (.inl (.inl (s7 _ _ hs6))), rfl, _, rfl, ?_⟩
      refine ifF (by show (!decide (V.int (cs.length : Int) = V.int ((nv ((List.range n).map fun k => D (k + 1))).length : Int))) = false; rw [ln, lc, decide_eq_true rfl]; rfl) ?_
      refine ⟨_, rfl, t, ws, R, c, D, n, rfl, same_sqt s7 St, tR.same s7, sm, sh, fun H8 tt s8 Stt => ?_⟩
      have s78 := s7.trans s8
      refine ⟨_, rfl, ?_⟩
      refine neNv Stt (same_sqt s78 hdue) ?_
      refine ⟨_, rfl, ?_⟩
      refine ifF rfl ?_
      refine ⟨_, rfl, _, rfl, sA, _, rfl, .inl (.inl (.inl (s78 _ _ hs6))), ?_⟩
      rw [ln]
      refine ⟨t, ws, R, c, n, D, rfl, same_sqt s78 St, tR.same s78, sm, sh, fun H9 s9 => ?_⟩
      refine ⟨_, rfl, ?_⟩
      refine ifF rfl ?_
      exact hN _ _ ⟨s78.trans s9, _, _, _, _, _, _, rfl⟩
    · rintro σ H7 ⟨s7, y6, y7, y8, y9, y10, y11, rfl⟩
      replace St := same_sqt s7 St
      replace tR := tR.same s7
      have bag7 : IsBag p H7 := by
        obtain ⟨g, m, cc, e⟩ := bag6
        exact ⟨g, m, cc, s7 _ _ e⟩
      have sb7 : Sb p H H7 := fun b o e n => s7 _ _ (sb6 b o e n)
      obtain ⟨g3, m3, c3, e7⟩ := id bag7
      refine ⟨_, rfl, _, rfl, _, rfl, p, 4, g3, m3, c3, rfl, e7, div_small (n := 4) (by decide) (by decide), fun y3 g4 m4 c4 d1 d2 => ?_⟩
      have s8 : Sb p H7 (upd H7 p (.lst [.int g4, .int m4, .int c4])) := fun b o e n => (upd_ne n).trans e
      have bag8 : IsBag p (upd H7 p (.lst [.int g4, .int m4, .int c4])) := ⟨_, _, _, upd_same⟩
      generalize upd H7 p _ = H8 at s8 bag8 ⊢
      obtain ⟨n3, rfl⟩ := nat_of d1
      refine ⟨_, _, rfl, rfl, ?_⟩
      refine ⟨p, c, 1 + n3, by rw [hc, Int.natCast_add, Int.natCast_add]; rfl, bag8, by omega, by omega, by omega, by omega, fun H9 t2 ws2 W s9 bag9 St2 tW lW rcW bgW => ?_⟩
      have s79 : Sb p H7 H9 := fun b o e n => s9 _ _ (s8 b o e n) n
      replace St := sqt_sb s79 bag7 St
      replace tR := tr_sb s79 bag7 tR
      have goodW : Good W (1 + n3) := ⟨rcW, by omega, by omega, by omega, by omega, bgW.mono (by decide)⟩
      refine ⟨_, rfl, _, rfl, t, t2, ws, ws2, R, W, c, 1 + n3, rfl, St, tR, good, St2, tW, goodW, lW, fun H10 pa va s10 Spa tpa => ?_⟩
      refine ⟨_, rfl, _, rfl, t, t2, ws, ws2, R, W, c, 1 + n3, rfl, same_sqt s10 St, tR.same s10, good, same_sqt s10 St2, tW.same s10, goodW, lW, fun H11 pb vb s11 Spb tpb => ?_⟩
      refine neTR (same_sqt s11 Spa) (tpa.same s11) Spb tpb ?_
      refine ⟨_, rfl, ?_⟩
      refine ifF rfl ?_
      have s9b : Same H9 H11 := s10.trans s11
      have bag11 : IsBag p H11 := by
        obtain ⟨g, m, cc, e⟩ := bag9
        exact ⟨g, m, cc, s9b _ _ e⟩
      have sb11 : Sb p H H11 := fun b o e n => s9b _ _ (s79 _ _ (sb7 b o e n) n)
      clear Spa tpa Spb tpb
      obtain ⟨g5, m5, c5, e11⟩ := id bag11
      refine ⟨_, rfl, _, rfl, p, 6, g5, m5, c5, rfl, e11, div_small (n := 6) (by decide) (by decide), fun y4 g6 m6 c6 d3 d4 => ?_⟩
      have s12 : Sb p H11 (upd H11 p (.lst [.int g6, .int m6, .int c6])) := fun b o e n => (upd_ne n).trans e
      have bag12 : IsBag p (upd H11 p (.lst [.int g6, .int m6, .int c6])) := ⟨_, _, _, upd_same⟩
      generalize upd H11 p _ = H12 at s12 bag12 ⊢
      obtain ⟨n4, rfl⟩ := nat_of d3
      refine ⟨_, _, rfl, rfl, ?_⟩
      obtain ⟨z, hz⟩ : ∃ z, z = 1 + n4 := ⟨_, rfl⟩
      refine ⟨p, z, 1, by rw [hz, Int.natCast_add]; rfl, bag12, by omega, by omega, by omega, by omega, fun H13 t3 ws3 X s13 bag13 St3 tX lX rcX bgX => ?_⟩
      have sb13 : Sb p H H13 := fun b o e n => s13 _ _ (s12 _ _ (sb11 b o e n) n) n
      have lX3 := tX.len
      refine ⟨_, rfl, t3, rfl, ⟨_, St3⟩, fun D1 n1' => ?_⟩
      have D1p : D1 ≠ p := fun e => by
        obtain ⟨g, m, cc, e2⟩ := bag13
        rw [← e, n1'] at e2
        cases e2
      refine lc_tup (K := K) (a := t3) (xs := ws3) (Pv := fun i H' => Sb p H13 H' ∧ IsBag p H' ∧ ∃ rs Y, H' D1 = some (.lst rs) ∧ TR K H' rs Y ∧ Y.length = i ∧ Rect Y z ∧ Big Y (2 ^ 47))
        ⟨fun b o e n => by rw [upd_ne (ne_of_none e n1')]; exact e, by obtain ⟨g, m, cc, e⟩ := bag13; exact ⟨g, m, cc, by rw [upd_ne D1p.symm]; exact e⟩, [], [], upd_same, .nil, rfl, (fun _ h => by cases h), (fun _ h => by cases h)⟩ (fun i H' _ e => sqt_sb e.1 bag13 St3) ?_ ?_
      · rintro i v H14 hv ⟨s14, bag14, rs, Y, hD1, tY, lY, rY, bY⟩
        have li := (List.getElem?_eq_some_iff.mp hv).1
        have lrs := tY.len
        refine ⟨wipe_one, yes_ ?_⟩
        have St14 := sqt_sb s14 bag13 St3
        refine ⟨_, rfl, t3, rfl, ⟨_, St14⟩, fun E2 n2' => ?_⟩
        have E2p : E2 ≠ p := fun e => by
          obtain ⟨g, m, cc, e2⟩ := bag14
          rw [← e, n2'] at e2
          cases e2
        refine lc_tup (K := K) (a := t3) (xs := ws3) (Pv := fun j H' => Sb p H14 H' ∧ IsBag p H' ∧ ∃ xs : List Int, H' E2 = some (.lst (xs.map V.int)) ∧ xs.length = j ∧ ∀ x ∈ xs, x.natAbs < 2 ^ 47)
          ⟨fun b o e n => by rw [upd_ne (ne_of_none e n2')]; exact e, by obtain ⟨g, m, cc, e⟩ := bag14; exact ⟨g, m, cc, by rw [upd_ne E2p.symm]; exact e⟩, [], upd_same, rfl, (fun _ h => by cases h)⟩ (fun j H' _ e => sqt_sb e.1 bag14 St14) ?_ ?_
        · rintro j v H15 hv ⟨s15, ⟨g7, m7, c7, e15⟩, xs, hE2, lx, bx⟩
          have lj := (List.getElem?_eq_some_iff.mp hv).1
          refine ⟨wipe_one, yes_ ?_⟩
          refine ⟨_, rfl, p, 19, g7, m7, c7, rfl, e15, div_small (n := 19) (by decide) (by decide), fun y5 g8 m8 c8 f1 f2 => ?_⟩
          refine ⟨_, _, rfl, rfl, ?_⟩
          refine ⟨_, (upd_ne E2p).trans hE2, by rw [List.length_map, lx, sizeLine_eq]; omega, ?_, ?_, xs ++ [y5 - 9], ?_, by rw [List.length_append, lx]; rfl, fun x hx => ?_⟩
          · intro b o e n
            rw [upd_ne (ne_of_none e n2'), upd_ne n]
            exact s15 b o e n
          · exact ⟨g8, m8, c8, by rw [upd_ne E2p.symm, upd_same]⟩
          · rw [upd_same, List.map_append]
            rfl
          · rcases List.mem_append.mp hx with hx | hx
            · exact bx x hx
            · rw [List.mem_singleton.mp hx]
              omega
        rintro H15 ⟨s15, bag15, xs, hE2, lx, bx⟩
        have xz : xs.length = z := by omega
        refine ⟨E2, _, rfl, .inl ⟨.inl (.inl hE2), fun l nl => ?_⟩⟩
        have s16 := same_new (o := .tup (xs.map V.int)) nl
        have hD15 := s15 _ _ hD1 D1p
        have hD16 := s16 _ _ hD15
        have lD1 : l ≠ D1 := (ne_of_none hD15 nl).symm
        refine ⟨rs, hD16, by rw [lrs, lY, sizeLine_eq]; omega, ?_, ?_, rs ++ [.ref l], Y ++ [xs], upd_same, ?_, by rw [List.length_append, lY]; rfl, ?_, ?_⟩
        · intro b o e n
          rw [upd_ne (ne_of_none e n1')]
          exact s16 _ _ (s15 _ _ (s14 b o e n) n)
        · obtain ⟨g, m, cc, e⟩ := bag15
          exact ⟨g, m, cc, by rw [upd_ne D1p.symm]; exact s16 _ _ e⟩
        · exact paired_snoc ⟨l, rfl, sqt_lst (tup_sqt upd_same) hD16⟩ (((tr_sb s15 bag14 tY).same s16).put hD16)
        · intro row hr
          rcases List.mem_append.mp hr with hr | hr
          · exact rY row hr
          · rw [List.mem_singleton.mp hr]
            exact xz
        · intro row hr
          rcases List.mem_append.mp hr with hr | hr
          · exact bY row hr
          · rw [List.mem_singleton.mp hr]
            exact bx
      rintro H14 ⟨s14, bag14, rs, Y, hD1, tY, lY, rY, bY⟩
      refine ⟨D1, _, rfl, .inl ⟨.inl (.inl hD1), fun sq nq => ?_⟩⟩
      have s15 := same_new (o := .tup rs) nq
      have Ssq : SqT K (upd H14 sq (.tup rs)) sq rs := .inl (.inl upd_same)
      replace tY := tY.same s15
      have bag15 : IsBag p (upd H14 sq (.tup rs)) := by
        obtain ⟨g, m, cc, e⟩ := bag14
        exact ⟨g, m, cc, s15 _ _ e⟩
      have sb15 : Sb p H (upd H14 sq (.tup rs)) := fun b o e n => s15 _ _ (s14 _ _ (sb13 b o e n) n)
      generalize upd H14 sq _ = H15 at s15 Ssq tY bag15 sb15 ⊢
      have lYz : Y.length = z := by omega
      rw [← lYz] at rY
      have smY : Sml Y Y.length := ⟨⟨rY, by omega, by omega, by omega, by omega, bY.mono (by decide)⟩, by omega, bY⟩
      refine ⟨_, rfl, sq, rs, Y, rfl, Ssq, tY, smY, fun H16 s16 => ?_⟩
      replace Ssq := same_sqt s16 Ssq
      replace tY := tY.same s16
      refine ⟨_, rfl, sq, rs, Y, rfl, Ssq, tY, rY, by omega, by omega, bY, fun H17 s17 => ?_⟩
      replace Ssq := same_sqt s17 Ssq
      replace tY := tY.same s17
      refine ⟨rfl, _, rfl, ?_⟩
      refine ifT (decide_eq_true rfl) ?_
      refine ⟨_, rfl, sq, rs, Y, Y.length, rfl, Ssq, tY, smY, fun H18 cs ord sn X s18 st => ?_⟩
      replace Ssq := same_sqt s18 Ssq
      replace tY := tY.same s18
      refine ⟨_, rfl, sq, _, rfl, .inr Ssq, rfl, ?_⟩
      refine ⟨_, rfl, sq, rs, Y, rfl, Ssq, tY, rY, by omega, by omega, bY, fun H19 s19 => ?_⟩
      refine ⟨rfl, rfl, ?_⟩
      have iff := full_iff st
      have ers : rs.length = Y.length := tY.len
      have eq : decide (V.bl (decide (V.int (cs.length : Int) = V.int (rs.length : Int))) = V.bl (!decide (V.int (DT.det Y.length (mat Y)) = V.int 0))) = true := by
        rw [ers]
        by_cases d0 : DT.det Y.length (mat Y) = 0
        · have nl : ¬ cs.length = Y.length := fun h => iff.mp h d0
          have e1 : decide (V.int (cs.length : Int) = V.int (Y.length : Int)) = false := decide_eq_false fun h => nl (by have := V.int.inj h; omega)
          have e2 : decide (V.int (DT.det Y.length (mat Y)) = V.int 0) = true := decide_eq_true (congrArg V.int d0)
          rw [e1, e2]
          rfl
        · have nl := iff.mpr d0
          have e1 : decide (V.int (cs.length : Int) = V.int (Y.length : Int)) = true := decide_eq_true (congrArg (fun n : Nat => V.int (n : Int)) nl)
          have e2 : decide (V.int (DT.det Y.length (mat Y)) = V.int 0) = false := decide_eq_false fun h => d0 (V.int.inj h)
          rw [e1, e2]
          rfl
      have s1519 := ((s16.trans s17).trans s18).trans s19
      have fin := q H19 (fun b o e n => s1519 _ _ (sb15 b o e n)) (by obtain ⟨g, m, cc, e⟩ := bag15; exact ⟨g, m, cc, s1519 _ _ e⟩)
      rw [← eq] at fin
      exact fin
end
end K02


set_option Elab.async false
set_option linter.all false
set_option maxRecDepth 100000
set_option maxHeartbeats 8000000
namespace K02
open LS LT
open PySem PySem.Spec PyProof.Rows L2 MM
/-- a relation between heaps and values that later heaps keep -/
structure Rl where
  r : Hp → V → Prop
  m : ∀ {H H' : Hp} {v : V}, Same H H' → r H v → r H' v
theorem h_name {i : Nat} {v : V} {σ : L2.St} {H : Hp} {Q : L2.St → Hp → Prop} (h : Q (σ.set i (some v)) H) : gName i v σ H Q := h
theorem h_seq {t u : TS} {D : Ends} {σ : L2.St} {H : Hp} (h : t { D with nx := u D } σ H) : tSeq t u D σ H := h
theorem h_asg {te : TE} {g : TG} {D : Ends} {σ : L2.St} {H : Hp} (h : te σ H fun v H1 => g v σ H1 D.nx) : tAsg te g D σ H := h
def MkE (C : Hp → Prop) (te : TE) (σ : L2.St) (R : Rl) : Prop := ∀ H Q, C H → (∀ v H', Same H H' → R.r H' v → Q v H') → te σ H Q
def MkA (C : Hp → Prop) (ta : TA) (σ : L2.St) (Rs : List Rl) : Prop := ∀ H Q, C H → (∀ vs H', Same H H' → Paired (fun v (R : Rl) => R.r H' v) vs Rs → Q vs H') → ta σ H Q
section
variable {K : PySem.W.Frag} {σ : L2.St} {C : Hp → Prop} {ta : TA} {te tf : TE} {R : Rl} {Rs : List Rl}
def kd (K : PySem.W.Frag) (x : V) : Rl := ⟨fun H v => v = x ∧ ∃ n, Kd K H x n, fun s ⟨e, n, h⟩ => ⟨e, n, h.same s⟩⟩
def rv (K : PySem.W.Frag) (o : Option (List V)) : Rl := ⟨fun H v => Rv K H v o, fun s h => h.same s⟩
def tv (K : PySem.W.Frag) (b : Bool) : Rl := ⟨fun H v => ∃ t, Tv K H v t ∧ isTab t = b, fun s ⟨t, h, e⟩ => ⟨t, h.same s, e⟩⟩
theorem mk_nil : MkA C tNil σ [] := fun H Q _ q => q [] H (Same.refl H) .nil
theorem mk_cons (mC : ∀ {H H' : Hp}, Same H H' → C H → C H') (h : MkE C te σ R) (t : MkA C ta σ Rs) : MkA C (tCons te ta) σ (R :: Rs) := fun H Q c q => h H _ c fun v H1 s1 r1 => t H1 _ (mC s1 c) fun vs H2 s2 r2 => q (v :: vs) H2 (s1.trans s2) (.cons (R.m s2 r1) r2)
theorem mk_int {i : Int} : MkE C (tC (.int i)) σ (kd K (.int i)) := fun H Q _ q => q _ H (Same.refl H) ⟨rfl, _, .int i⟩
theorem mk_bl {i : Bool} : MkE C (tC (.bl i)) σ (kd K (.bl i)) := fun H Q _ q => q _ H (Same.refl H) ⟨rfl, _, .bl i⟩
theorem mk_str {i : Str} : MkE C (tC (.str i)) σ (kd K (.str i)) := fun H Q _ q => q _ H (Same.refl H) ⟨rfl, _, .str i⟩
theorem mk_pw {i j : Int} (h : CPw i j) : MkE C (tOp (rI CPw fun i j => .int (i ^ j.toNat)) (tC (.int i)) (tC (.int j))) σ (kd K (.int (i ^ j.toNat))) := fun H Q _ q => ⟨i, j, rfl, rfl, h, q _ H (Same.refl H) ⟨rfl, _, .int _⟩⟩
theorem mk_pw1 {i j k : Int} (h : CPw i j) : MkE C (tOp (rI0 fun i j => .int (i - j)) (tOp (rI CPw fun i j => .int (i ^ j.toNat)) (tC (.int i)) (tC (.int j))) (tC (.int k))) σ (kd K (.int (i ^ j.toNat - k))) := fun H Q _ q => ⟨i, j, rfl, rfl, h, _, _, rfl, rfl, q _ H (Same.refl H) ⟨rfl, _, .int _⟩⟩
theorem pr_len {α β : Type} {R : α → β → Prop} {us : List α} {os : List β} (p : Paired R us os) : us.length = os.length := paired_len p
theorem pr_m {H H' : Hp} {vs : List V} (s : Same H H') (p : Paired (fun v (R : Rl) => R.r H v) vs Rs) : Paired (fun v (R : Rl) => R.r H' v) vs Rs := Paired.mapP p fun _ R r => R.m s r
theorem kds {H : Hp} : ∀ {xs vs : List V}, Paired (fun v (R : Rl) => R.r H v) vs (xs.map (kd K)) → vs = xs ∧ ∀ y ∈ xs, ∃ n, Kd K H y n
  | [], _, .nil => ⟨rfl, fun _ h => by cases h⟩
  | x :: xs, _, .cons ⟨e, n, h⟩ t => by
    obtain ⟨e2, m⟩ := kds t
    subst e e2
    refine ⟨rfl, fun y hy => ?_⟩
    rcases List.mem_cons.mp hy with rfl | hy
    · exact ⟨n, h⟩
    · exact m y hy
theorem rvs {H : Hp} : ∀ {os : List (Option (List V))} {vs : List V}, Paired (fun v (R : Rl) => R.r H v) vs (os.map (rv K)) → Paired (fun u o => Rv K H u o) vs os
  | [], _, .nil => .nil
  | _ :: _, _, .cons h t => .cons h (rvs t)
theorem mk_row (xs : List V) (h : MkA C ta σ (xs.map (kd K))) (l : xs.length ≤ sizeLine := by decide) : MkE C (tTup ta) σ (rv K (some xs)) := fun H Q c q => h H _ c fun vs H1 s1 p => by
  obtain ⟨e, m⟩ := kds p
  subst e
  exact ⟨l, fun a na => q _ _ (s1.trans (same_new na)) (.yes (.inl (.inl upd_same)) fun y hy => let ⟨n, k⟩ := m y hy; ⟨n, k.same (same_new na)⟩)⟩
theorem mk_lrow (h : MkA C ta σ Rs) (l : Rs.length ≤ sizeLine := by simp only [List.length_cons, List.length_nil, List.length_replicate]; decide) : MkE C (tLst ta) σ (rv K none) := fun H Q c q => h H _ c fun vs H1 s1 p =>
  ⟨by rw [pr_len p]; exact l, fun a na => q _ _ (s1.trans (same_new na)) (.no (.lst (.inl (.inl upd_same))) rfl)⟩
theorem mk_nrow : MkE C (tC .non) σ (rv K none) := fun H Q _ q => q _ H (Same.refl H) (.no .non rfl)
theorem mk_tab (os : List (Option (List V))) {b : Bool} (h : MkA C ta σ (os.map (rv K))) (e : isTab (some os) = b := by decide +kernel) (l : os.length ≤ sizeLine := by decide) : MkE C (tTup ta) σ (tv K b) := fun H Q c q => h H _ c fun vs H1 s1 p =>
  ⟨by rw [pr_len p, List.length_map]; exact l, fun a na => q _ _ (s1.trans (same_new na)) ⟨_, .yes (.inl (.inl upd_same)) (rvs (pr_m (same_new na) p)), e⟩⟩
theorem mk_rep {k : Int} {xs : List V} (h : MkE C te σ (rv K (some xs))) (ne : xs ≠ [] := by decide) (k2 : 2 ≤ k := by decide) (k3 : k ≤ 1000 := by decide) (l : xs.length ≤ 1000 := by decide) :
    MkE C (tOp (rRepT K) te (tC (.int k))) σ (rv K (some (List.replicate k.toNat xs).flatten)) := fun H Q c q => h H _ c fun v H1 s1 r => by
  obtain ⟨S, m⟩ | ⟨S, m⟩ := r
  refine ⟨_, k, xs, rfl, rfl, S, ne, k2, k3, l, fun a na => q _ _ (s1.trans (same_new na)) (.yes (.inl (.inl upd_same)) fun y hy => ?_)⟩
  obtain ⟨ys, h1, h2⟩ := List.mem_flatten.mp hy
  rw [List.eq_of_mem_replicate h1] at h2
  obtain ⟨n, hk⟩ := m y h2
  exact ⟨n, hk.same (same_new na)⟩
theorem pr_rep {H : Hp} {us : List V} {os : List (Option (List V))} (p : Paired (fun u o => Rv K H u o) us os) : ∀ n, Paired (fun u o => Rv K H u o) (List.replicate n us).flatten (List.replicate n os).flatten
  | 0 => .nil
  | n + 1 => by
    rw [List.replicate_succ, List.replicate_succ, List.flatten_cons, List.flatten_cons]
    exact paired_app p (pr_rep p n)
theorem mk_trep {k : Int} (o : Option (List V)) {b : Bool} (h : MkE C te σ (rv K o)) (e : isTab (some (List.replicate k.toNat [o]).flatten) = b := by decide +kernel) (k2 : 2 ≤ k := by decide) (k3 : k ≤ 1000 := by decide) :
    MkE C (tOp (rRepT K) (tTup (tCons te tNil)) (tC (.int k))) σ (tv K b) := fun H Q c q => h H _ c fun v H1 s1 r => by
  refine ⟨by show 1 ≤ sizeLine; decide, fun t nt => ?_⟩
  have s2 := same_new (o := .tup [v]) nt
  refine ⟨_, k, [v], rfl, rfl, .inl (.inl upd_same), (by intro z; cases z), k2, k3, (by show 1 ≤ 1000; decide), fun a na => ?_⟩
  have s3 := same_new (o := .tup (List.replicate k.toNat [v]).flatten) na
  exact q _ _ ((s1.trans s2).trans s3) ⟨_, .yes (.inl (.inl upd_same)) (pr_rep (.cons (Rv.same r (s2.trans s3)) .nil) _), e⟩
theorem mk_tnon : MkE C (tC .non) σ (tv K false) := fun H Q _ q => q _ H (Same.refl H) ⟨none, .no .non rfl, rfl⟩
theorem mk_tint {i : Int} : MkE C (tC (.int i)) σ (tv K false) := fun H Q _ q => q _ H (Same.refl H) ⟨none, .no (.int i) rfl, rfl⟩
theorem mk_tstr {i : Str} : MkE C (tC (.str i)) σ (tv K false) := fun H Q _ q => q _ H (Same.refl H) ⟨none, .no (.str i) rfl, rfl⟩
theorem mk_tdct : MkE C tDNewK σ (tv K false) := fun H Q _ q a na => q _ _ (same_new na) ⟨none, .no (.dct upd_same) rfl, rfl⟩
theorem mk_tlst (h : MkA C ta σ Rs) (l : Rs.length ≤ sizeLine := by simp only [List.length_cons, List.length_nil, List.length_replicate]; decide) : MkE C (tLst ta) σ (tv K false) := fun H Q c q => h H _ c fun vs H1 s1 p =>
  ⟨by rw [pr_len p]; exact l, fun a na => q _ _ (s1.trans (same_new na)) ⟨none, .no (.lst (.inl (.inl upd_same))) rfl, rfl⟩⟩
theorem tab_bad {os : List (Option (List V))} {o : Option (List V)} (h : o ∈ os) (e : isLine o = false) : isTab (some os) = false := by
  cases os with
  | nil => rfl
  | cons p os =>
    have : (p :: os).all isLine = false := by
      cases z : (p :: os).all isLine with
      | false => rfl
      | true => rw [List.all_eq_true.mp z o h] at e; cases e
    show (decide _ && ((p :: os).all isLine && _)) = false
    rw [this, Bool.false_and, Bool.and_false]
theorem tab_wide {o p : Option (List V)} {os : List (Option (List V))} (h : p ∈ o :: os) (e : ¬ wid p = wid o) : isTab (some (o :: os)) = false := by
  have : ((o :: os).all fun p => decide (wid p = wid o)) = false := by
    cases z : (o :: os).all fun p => decide (wid p = wid o) with
    | false => rfl
    | true => exact absurd (of_decide_eq_true (List.all_eq_true.mp z p h)) e
  show (decide _ && (_ && (o :: os).all fun p => decide (wid p = wid o))) = false
  rw [this, Bool.and_false, Bool.and_false]
theorem mk_list {H : Hp} {Q : VK} (h : MkA C ta σ Rs) (c : C H) (q : ∀ a vs H', Same H H' → H' a = some (.lst vs) → Paired (fun v (R : Rl) => R.r H' v) vs Rs → Q (.ref a) H') (l : Rs.length ≤ sizeLine := by simp only [List.length_cons, List.length_nil, List.length_replicate]; decide) : tLst ta σ H Q := h H _ c fun vs H1 s1 p =>
  ⟨by rw [pr_len p]; exact l, fun a na => q a vs _ (s1.trans (same_new na)) upd_same (pr_m (same_new na) p)⟩
theorem lc_none {tt : TT} {te : TE} {v : Nat} {σ : L2.St} {H1 : Hp} {D a : Addr} {Qd : Hp → Prop} {b : Bool} {vs : List V} (h : H1 a = some (.lst vs)) (p : Paired (fun v (R : Rl) => R.r H1 v) vs (List.replicate vs.length (tv K b))) (nD : H1 D = none)
    (hs : ∀ x t H, Same H1 H → Tv K H x t → isTab t = b → ∀ N : Hp → Prop, (∀ H', Same H H' → N H') → gName v x (wipe σ [v]) H fun σ2 H2 => wipe σ2 [v] = wipe σ [v] ∧ tt σ2 H2 fun b H3 => if b = true then te σ2 H3 fun y H4 => ∃ acc, H4 D = some (.lst acc) ∧ acc.length < sizeLine ∧ N (upd H4 D (.lst (acc ++ [y]))) else N H3)
    (hd : ∀ H, Same H1 H → H D = some (.lst []) → Qd H) : LcW (Itl K a) (gName v) tt te [v] σ H1 D Qd := by
  refine lc_list (K := K) (a := a) (xs := vs) (Pv := fun i H => Same H1 H ∧ H D = some (.lst [])) ⟨same_new nD, upd_same⟩ (fun i H _ e => .inl (.inl (e.1 _ _ h))) ?_ (fun H e => hd H e.1 e.2)
  rintro i x H hx ⟨s, hD⟩
  obtain ⟨R, hR, r⟩ := paired_at p hx
  have eR : R = tv K b := List.eq_of_mem_replicate (List.mem_of_getElem? hR)
  subst eR
  obtain ⟨t, ht, e⟩ := r
  exact hs x t H s (ht.same s) e _ fun H' s' => ⟨s.trans s', s' _ _ hD⟩
end
/-! own words for the readings: a step, its side -/
local macro_rules | `(tactic| walk_at "side") => `(tactic| first
  | omega
  | exact ⟨by omega, by omega⟩
  | exact Or.inl ⟨by omega, by omega⟩
  | exact Or.inr ⟨by omega, by omega⟩
  | (show CPw _ _; decide +kernel)
  | (show (0 : Int) < _; decide +kernel)
  | (show CDivW _ _; first | assumption | exact ⟨by decide, by decide +kernel⟩))
local macro_rules | `(tactic| walk_at "here") => `(tactic| first
  | assumption
  | exact upd_same
  | exact Or.inl (Or.inl upd_same)
  | exact Or.inl upd_same)
local macro_rules | `(tactic| walk_at "one") => `(tactic| first
  | refine ⟨_, rfl, ?_⟩
  | refine Or.inl ⟨_, rfl, ?_⟩
  | refine Or.inr ⟨_, rfl, ?_⟩
  | refine ⟨_, _, rfl, rfl, (by walk_at "side"), ?_⟩
  | refine ⟨_, _, rfl, rfl, ?_⟩
  | refine ⟨_, _, rfl, Or.inl (by walk_at "here"), ?_⟩
  | refine ⟨_, _, rfl, Or.inr (by walk_at "here"), ?_⟩
  | refine ⟨_, _, rfl, (by walk_at "here"), ?_⟩
  | refine ⟨_, _, _, _, rfl, rfl, (by walk_at "here"), rfl, ?_⟩
  | refine ⟨_, _, rfl, ?_⟩
  | refine ifT (by rfl) ?_
  | refine ifF (by rfl) ?_
  | refine ifT (decide_eq_true (by omega)) ?_
  | refine ifF (decide_eq_false (by omega)) ?_)
local macro_rules | `(tactic| walk_at "st") => `(tactic| repeat (walk_at "one"))

section
variable {P : Program} {w : World} {K : PySem.W.Frag} {mg : Str → Option Value} {base : Heap}
def spJudged (K : PySem.W.Frag) : Sp := fun vs H Q _ => ∃ p : Addr, vs = [.ref p] ∧ IsBag p H ∧ ∀ H', Sb p H H' → IsBag p H' → Q (.bl true) H'
theorem scJudgedRightL : FnScope ["_law_bag_here", "_law_table", "_law_good", "_law_odd", "_law_value"] ["_law_bag_here"] (defScope sJudgedRightL) :=
  ⟨rfl, rfl, rfl, by decide +kernel, rfl, by decide +kernel, by decide +kernel⟩
theorem dJudgedRightL (T : Tx K mg) (DTbDrawnL : Def P w K mg base CX0 3 "_law_tb_drawn" ["_law_bag_here", "_law_rows", "_law_columns"] (spDrawn K)) (DGrabL : Def P w K mg base CX0 1 "_law_grab" ["_law_bag_here", "_law_total"] spGrab) (DIsTable : Def P w K mg base CX0 4 "is_table" ["value"] (spIsTable K)) : Def P w K mg base CX0 6 "_law_judged_right" ["_law_bag_here"] (spJudged K) := by
  refine T.t_law_judged_right.def_ (N := ["_law_bag_here", "_law_table", "_law_good", "_law_odd", "_law_value"]) scJudgedRightL (fun _ _ _ _ _ _ us hl => match us, hl with | [_], _ => rfl) ?_ ?_
  · intro vs H Q E h
    obtain ⟨p, rfl, _⟩ := h
    rfl
  · intro f cd A out s H vs Q E hr h
    have hr1 : Rm 4 _ := hr.le (by decide)
    obtain ⟨p, rfl, ⟨g0, m0, c0, hp⟩, q⟩ := h
    refine ⟨_, (pss_cons (ps_set (i := 1) scJudgedRightL.nd rfl (Or.inl rfl) (pe_d DTbDrawnL (hr1.le (by decide)) pass0 (pa_cons (pv 0) (pa_cons (pe_op op_add pe_int (pe_d DGrabL (hr1.le (by decide)) pass0 (pa_cons (pv 0) (pa_cons pe_int pa_nil)))) (pa_cons (pe_op op_add pe_int (pe_d DGrabL (hr1.le (by decide)) pass0 (pa_cons (pv 0) (pa_cons pe_int pa_nil)))) pa_nil)))))
      (pss_cons (ps_set (i := 2) scJudgedRightL.nd rfl (Or.inl rfl) (pe_lst (pa_cons (pv 1) (pa_cons (pe_slice sl_tupA (pv 1) po_none (po_some pe_int)) (pa_cons (pe_tup (pa_cons (pe_tup (pa_cons pe_int pa_nil)) pa_nil)) (pa_cons (pe_op op_repT (pe_tup (pa_cons (pe_op op_repT (pe_tup (pa_cons pe_int pa_nil)) pe_int) pa_nil)) pe_int) (pa_cons (pe_tup (pa_cons (pe_tup (pa_cons (pe_op op_sub (pe_op op_pw pe_int pe_int) pe_int) pa_nil)) pa_nil)) pa_nil)))))))
      (pss_cons (ps_set (i := 3) scJudgedRightL.nd rfl (Or.inl rfl) (pe_lst (pa_cons pe_non (pa_cons pe_int (pa_cons (pe_tup pa_nil) (pa_cons (pe_tup (pa_cons (pe_tup pa_nil) pa_nil)) (pa_cons (pe_lst (pa_cons (pe_lst (pa_cons pe_int pa_nil)) pa_nil)) (pa_cons (pe_callTy call_list_of rfl T.f_list (by decide +kernel) (pa_cons (pv 1) pa_nil)) (pa_cons (pe_tup (pa_cons (pe_tup (pa_cons pe_int (pa_cons pe_int pa_nil))) (pa_cons (pe_tup (pa_cons pe_int pa_nil)) pa_nil))) (pa_cons (pe_tup (pa_cons (pe_tup (pa_cons pe_bl pa_nil)) pa_nil)) (pa_cons (pe_tup (pa_cons (pe_tup (pa_cons pe_str pa_nil)) pa_nil)) (pa_cons (pe_tup (pa_cons (pe_tup (pa_cons pe_int pa_nil)) (pa_cons (pe_lst (pa_cons pe_int pa_nil)) pa_nil))) (pa_cons (pe_tup (pa_cons (pe_tup (pa_cons (pe_op op_pw pe_int pe_int) pa_nil)) pa_nil)) (pa_cons (pe_tup (pa_cons (pe_op op_repT (pe_tup (pa_cons pe_int pa_nil)) pe_int) pa_nil)) (pa_cons (pe_op op_repT (pe_tup (pa_cons (pe_tup (pa_cons pe_int pa_nil)) pa_nil)) pe_int) (pa_cons pe_dnewK (pa_cons pe_str pa_nil)))))))))))))))))
      (pss_cons (ps_set (i := 3) scJudgedRightL.nd rfl (Or.inl rfl) (pe_op op_cat (pv 3) (pe_lst (pa_cons (pe_op op_catA (pv 1) (pe_tup (pa_cons pe_non pa_nil))) (pa_cons (pe_op op_catA (pv 1) (pe_tup (pa_cons (pe_op op_catA (pe_ix ix_tup (pv 1) pe_int (fun _ _ => rfl)) (pe_tup (pa_cons pe_int pa_nil))) pa_nil))) (pa_cons (pe_tup (pa_cons (pv 1) pa_nil)) pa_nil))))))
      (pss_one (ps_ret (pe_cmpR (op_eqD hr.hu) (pe_op op_cat (pe_lc (own := [("_law_value", 4)]) (g := gName 4) rfl scJudgedRightL.nd (pi_list (pv 2)) (blkOk_by (N := ["_law_bag_here", "_law_table", "_law_good", "_law_odd", "_law_value"]) (sc := defScope sJudgedRightL) (by decide +kernel)) (fun _ _ _ _ _ => pg_name (i := 4) scJudgedRightL.nd rfl (Or.inl rfl)) (fun _ _ _ _ _ => (pts_one (pt_cmpR op_notBl (pe_d DIsTable (hr1.le (by decide)) pass0 (pa_cons (pv 4) pa_nil)) pe_bl (nomark _)))) (fun _ _ _ _ _ => (pv 4))) (pe_lc (own := [("_law_value", 4)]) (g := gName 4) rfl scJudgedRightL.nd (pi_list (pv 3)) (blkOk_by (N := ["_law_bag_here", "_law_table", "_law_good", "_law_odd", "_law_value"]) (sc := defScope sJudgedRightL) (by decide +kernel)) (fun _ _ _ _ _ => pg_name (i := 4) scJudgedRightL.nd rfl (Or.inl rfl)) (fun _ _ _ _ _ => (pts_one (pt_cmpR op_notBl (pe_d DIsTable (hr1.le (by decide)) pass0 (pa_cons (pv 4) pa_nil)) pe_bl (nomark _)))) (fun _ _ _ _ _ => (pv 4)))) (pe_lst pa_nil) (nomark _)))))))), ?_⟩
    have nat_of : ∀ {y : Int}, 0 ≤ y → ∃ n : Nat, y = (n : Int) := fun {y} h => ⟨y.toNat, by omega⟩
    refine ⟨_, rfl, _, rfl, p, 4, g0, m0, c0, rfl, hp, div_small (n := 4) (by decide) (by decide), fun y1 g1 m1 c1 a1 a2 => ?_⟩
    have s1 : Sb p H (upd H p (.lst [.int g1, .int m1, .int c1])) := fun b o e n => (upd_ne n).trans e
    have e1 : (upd H p (.lst [.int g1, .int m1, .int c1])) p = some (.lst [.int g1, .int m1, .int c1]) := upd_same
    generalize upd H p _ = H1 at s1 e1 ⊢
    refine ⟨_, _, rfl, rfl, ?_⟩
    refine ⟨_, rfl, p, 4, g1, m1, c1, rfl, e1, div_small (n := 4) (by decide) (by decide), fun y2 g2 m2 c2 b1 b2 => ?_⟩
    have s2 : Sb p H (upd H1 p (.lst [.int g2, .int m2, .int c2])) := fun b o e n => (upd_ne n).trans (s1 b o e n)
    have e2 : IsBag p (upd H1 p (.lst [.int g2, .int m2, .int c2])) := ⟨_, _, _, upd_same⟩
    generalize upd H1 p _ = H2 at s2 e2 ⊢
    refine ⟨_, _, rfl, rfl, ?_⟩
    obtain ⟨n1, rfl⟩ := nat_of a1
    obtain ⟨n2, rfl⟩ := nat_of b1
    refine ⟨p, 1 + n1, 1 + n2, by rw [Int.natCast_add, Int.natCast_add]; rfl, e2, by omega, by omega, by omega, by omega, fun H3 t ws R s3 e3 St tR lR rc bg => ?_⟩
    have s3' : Sb p H H3 := fun b o e n => s3 _ _ (s2 b o e n) n
    have good : Good R (1 + n2) := ⟨rc, by omega, by omega, by omega, by omega, bg.mono (by decide)⟩
    have lw := tR.len
    obtain ⟨C, hC⟩ : ∃ C : Hp → Prop, C = fun H => SqT K H t ws ∧ TR K H ws R := ⟨_, rfl⟩
    have mC : ∀ {H H' : Hp}, Same H H' → C H → C H' := fun {H H'} s c => by
      rw [hC] at c ⊢
      exact ⟨same_sqt s c.1, c.2.same s⟩
    have cH : C H3 := by rw [hC]; exact ⟨St, tR⟩
    have unC : ∀ {H}, C H → SqT K H t ws ∧ TR K H ws R := fun {H} c => by rw [hC] at c; exact c
    clear hC
    show gName 1 _ _ _ _
    refine h_name ?_
    try dsimp only
    show tSeq _ _ _ _ _
    refine h_seq ?_
    try dsimp only
    show tAsg _ _ _ _ _
    refine h_asg ?_
    try dsimp only
    show tLst _ _ _ _
    refine mk_list (C := C) (Rs := List.replicate 5 (tv K true)) ?_ cH ?_
    · refine mk_cons mC ?_ (mk_cons mC ?_ (mk_cons mC (mk_tab [some [.int 0]] (mk_cons mC (mk_row [.int 0] (mk_cons mC mk_int mk_nil)) mk_nil)) (mk_cons mC (mk_trep (some (List.replicate 60 (.int 1))) (mk_rep (xs := [.int 1]) (mk_row [.int 1] (mk_cons mC mk_int mk_nil)))) (mk_cons mC (mk_tab [some [.int (10 ^ 60 - 1)]] (mk_cons mC (mk_row [.int (10 ^ 60 - 1)] (mk_cons mC (mk_pw1 (by decide +kernel)) mk_nil)) mk_nil)) mk_nil))))
      · intro H Q c q
        exact ⟨_, rfl, q _ H (Same.refl H) ⟨_, tab_tv (unC c).1 (unC c).2, good_tab good⟩⟩
      · intro H Q c q
        have S := (unC c).1
        have T := (unC c).2
        refine ⟨_, rfl, 1, rfl, t, ws, rfl, S, fun _ => q _ H (Same.refl H) ⟨_, tab_tv S T, good_tab good⟩, fun _ a na => ?_⟩
        refine q _ _ (same_new na) ⟨tabV (R.take 1), tab_tv (us := ws.take 1) (.inl (.inl ?_)) (TR.same (paired_take T 1) (same_new na)), good_tab (m := 1 + n2) ⟨fun row hr => rc row (List.mem_of_mem_take hr), ?_, ?_, by omega, by omega, fun row hr => good.big row (List.mem_of_mem_take hr)⟩⟩
        · rw [upd_same]
          rw [show (cutV ws none (some 1)) = ws.take 1 from cut_upto ws 1]
        · rw [List.length_take]
          omega
        · rw [List.length_take]
          omega
    intro g gs H4 s4 hg pg
    show gName 2 _ _ _ _
    refine h_name ?_
    try dsimp only
    show tSeq _ _ _ _ _
    refine h_seq ?_
    try dsimp only
    show tAsg _ _ _ _ _
    refine h_asg ?_
    try dsimp only
    show tLst _ _ _ _
    refine mk_list (C := C) (Rs := List.replicate 15 (tv K false)) ?_ (mC s4 cH) ?_
    · refine mk_cons mC mk_tnon (mk_cons mC mk_tint (mk_cons mC (mk_tab [] mk_nil) (mk_cons mC (mk_tab [some []] (mk_cons mC (mk_row [] mk_nil) mk_nil)) (mk_cons mC (mk_tlst (Rs := [rv K none]) (mk_cons mC (mk_lrow (Rs := [kd K (.int 1)]) (mk_cons mC mk_int mk_nil)) mk_nil)) (mk_cons mC ?_ (mk_cons mC (mk_tab [some [.int 1, .int 2], some [.int 3]] (mk_cons mC (mk_row [.int 1, .int 2] (mk_cons mC mk_int (mk_cons mC mk_int mk_nil))) (mk_cons mC (mk_row [.int 3] (mk_cons mC mk_int mk_nil)) mk_nil))) (mk_cons mC (mk_tab [some [.bl true]] (mk_cons mC (mk_row [.bl true] (mk_cons mC mk_bl mk_nil)) mk_nil)) (mk_cons mC (mk_tab [some [.str _]] (mk_cons mC (mk_row [.str _] (mk_cons mC mk_str mk_nil)) mk_nil)) (mk_cons mC (mk_tab [some [.int 1], none] (mk_cons mC (mk_row [.int 1] (mk_cons mC mk_int mk_nil)) (mk_cons mC (mk_lrow (Rs := [kd K (.int 1)]) (mk_cons mC mk_int mk_nil)) mk_nil))) (mk_cons mC (mk_tab [some [.int (10 ^ 60)]] (mk_cons mC (mk_row [.int (10 ^ 60)] (mk_cons mC (mk_pw (by decide +kernel)) mk_nil)) mk_nil)) (mk_cons mC (mk_tab [some (List.replicate 61 (.int 1))] (mk_cons mC (mk_rep (xs := [.int 1]) (mk_row [.int 1] (mk_cons mC mk_int mk_nil))) mk_nil)) (mk_cons mC (mk_trep (some [.int 1]) (mk_row [.int 1] (mk_cons mC mk_int mk_nil))) (mk_cons mC mk_tdct (mk_cons mC mk_tstr mk_nil))))))))))))))
      · intro H Q c q
        exact ⟨_, rfl, t, ws, rfl, .inr (unC c).1, fun l nl => q _ _ (same_new nl) ⟨none, .no (.lst (.inl (.inl upd_same))) rfl, rfl⟩⟩
    intro o os H5 s5 ho po
    refine ⟨_, rfl, ?_⟩
    try dsimp only
    show tLst _ _ _ _
    refine mk_list (C := C) (Rs := List.replicate 3 (tv K false)) ?_ (mC (s4.trans s5) cH) ?_
    · refine mk_cons mC ?_ (mk_cons mC ?_ (mk_cons mC ?_ mk_nil))
      · intro H Q c q
        have S := (unC c).1
        have T := (unC c).2
        refine ⟨_, rfl, by show 1 ≤ sizeLine; decide, fun a na => ?_⟩
        have z1 := same_new (o := .tup [.non]) na
        refine ⟨t, a, ws, [.non], rfl, rfl, same_sqt z1 S, .inl (.inl upd_same), by rw [sizeLine_eq]; show ws.length + 1 ≤ _; omega, fun e => ?_, (fun _ e => by cases e), fun _ _ b nb => ?_⟩
        · rw [e] at lw
          have : ([] : List V).length = 0 := rfl
          omega
        have z2 := z1.trans (same_new (o := .tup (ws ++ [.non])) nb)
        exact q _ _ z2 ⟨some (R.map (fun row => some (row.map V.int)) ++ [none]), .yes (.inl (.inl upd_same)) (paired_app (tab_pair (T.same z2)) (.cons (.no .non rfl) .nil)), tab_bad (List.mem_append_right _ List.mem_cons_self) rfl⟩
      · intro H Q c q
        have S := (unC c).1
        have T := (unC c).2
        obtain ⟨u0, hu0, b0, rfl, S0⟩ := paired_get T (row_get (i := 0) (by omega))
        refine ⟨_, rfl, _, rfl, t, ws, _, .ref b0, rfl, rfl, S, atI_nat (j := 0) hu0, ?_⟩
        refine ⟨by show 1 ≤ sizeLine; decide, fun a na => ?_⟩
        have z1 := same_new (o := .tup [.int 1]) na
        have l0 := rect_get rc (i := 0) (by omega)
        refine ⟨b0, a, _, [.int 1], rfl, rfl, same_sqt z1 S0, .inl (.inl upd_same), by rw [List.length_map, l0, sizeLine_eq]; show 1 + n2 + 1 ≤ _; omega, fun e => ?_, (fun _ e => by cases e), fun _ _ b nb => ?_⟩
        · have := congrArg List.length e
          rw [List.length_map, l0] at this
          have : ([] : List V).length = 0 := rfl
          omega
        have z2 := z1.trans (same_new (o := .tup ((R.getD 0 []).map V.int ++ [.int 1])) nb)
        have hb : (upd (upd H a (.tup [.int 1])) b (.tup ((R.getD 0 []).map V.int ++ [.int 1]))) b = some (.tup ((R.getD 0 []).map V.int ++ [.int 1])) := upd_same
        generalize upd (upd H a _) b _ = H' at z2 hb ⊢
        refine ⟨by show 1 ≤ sizeLine; decide, fun d nd => ?_⟩
        have z3 := same_new (o := .tup [.ref b]) nd
        refine ⟨t, d, ws, [.ref b], rfl, rfl, same_sqt (z2.trans z3) S, .inl (.inl upd_same), by rw [sizeLine_eq]; show ws.length + 1 ≤ _; omega, fun e => ?_, (fun _ e => by cases e), fun _ _ e ne => ?_⟩
        · rw [e] at lw
          have : ([] : List V).length = 0 := rfl
          omega
        have z4 := z3.trans (same_new (o := .tup (ws ++ [.ref b])) ne)
        refine q _ _ (z2.trans z4) ⟨some (R.map (fun row => some (row.map V.int)) ++ [some ((R.getD 0 []).map V.int ++ [.int 1])]), .yes (.inl (.inl upd_same)) (paired_app (tab_pair (T.same (z2.trans z4))) (.cons (.yes (.inl (.inl (z4 _ _ hb))) fun y hy => ?_) .nil)), ?_⟩
        · rcases List.mem_append.mp hy with hy | hy
          · obtain ⟨n, _, rfl⟩ := List.mem_map.mp hy
            exact ⟨_, .int n⟩
          · rw [List.mem_singleton.mp hy]
            exact ⟨_, .int 1⟩
        · cases R with
          | nil => exact absurd lR (by show ¬ 0 = 1 + n1; omega)
          | cons r0 R =>
            refine tab_wide (p := some (r0.map V.int ++ [V.int 1])) (List.mem_cons_of_mem _ (List.mem_append_right _ List.mem_cons_self)) ?_
            show ¬ (r0.map V.int ++ [V.int 1]).length = (r0.map V.int).length
            rw [List.length_append]
            show ¬ _ + 1 = _
            omega
      · intro H Q c q
        have S := (unC c).1
        have T := (unC c).2
        refine ⟨_, rfl, by show 1 ≤ sizeLine; decide, fun a na => ?_⟩
        have z1 := same_new (o := .tup [.ref t]) na
        refine q _ _ z1 ⟨some [some ws], .yes (.inl (.inl upd_same)) (.cons (.yes (same_sqt z1 S) fun y hy => ?_) .nil), tab_bad List.mem_cons_self ?_⟩
        · obtain ⟨i, hi, e⟩ := List.mem_iff_getElem.mp hy
          obtain ⟨row, _, b, e2, Sb⟩ := paired_at T (List.getElem?_eq_getElem hi)
          rw [← e, e2]
          exact ⟨_, .tup (same_sqt z1 Sb)⟩
        · obtain ⟨u0, hu0, b0, rfl, S0⟩ := paired_get T (row_get (i := 0) (by omega))
          cases ws with
          | nil => cases hu0
          | cons u ws =>
            cases hu0
            show (decide (1 ≤ (V.ref b0 :: ws).length) && (decide ((V.ref b0 :: ws).length ≤ 60) && (V.ref b0 :: ws).all isI)) = false
            rw [List.all_cons, show isI (.ref b0) = false from rfl, Bool.false_and, Bool.and_false, Bool.and_false]
    intro d ds H6 s6 hd pd
    have lo : os.length = 15 := (pr_len po).trans List.length_replicate
    have ld : ds.length = 3 := (pr_len pd).trans List.length_replicate
    have lg : gs.length = 5 := (pr_len pg).trans List.length_replicate
    refine ⟨o, d, os, ds, rfl, rfl, s6 _ _ ho, hd, by rw [lo, ld]; decide, fun u nu => ?_⟩
    have s7 := same_new (o := .lst (os ++ ds)) nu
    have hu : (upd H6 u (.lst (os ++ ds))) u = some (.lst (os ++ ds)) := upd_same
    have pu : Paired (fun v (R : Rl) => R.r (upd H6 u (.lst (os ++ ds))) v) (os ++ ds) (List.replicate (os ++ ds).length (tv K false)) := by
      rw [List.length_append, lo, ld]
      exact paired_app (pr_m (s6.trans s7) po) (pr_m s7 pd)
    have s57 := (s5.trans s6).trans s7
    have hg7 := s57 _ _ hg
    have pg7 : Paired (fun v (R : Rl) => R.r (upd H6 u (.lst (os ++ ds))) v) gs (List.replicate gs.length (tv K true)) := by
      rw [lg]
      exact pr_m s57 pg
    have s37 : Same H3 (upd H6 u (.lst (os ++ ds))) := s4.trans s57
    generalize upd H6 u _ = H7 at hu pu hg7 pg7 s37 ⊢
    clear pg po pd ho hd hg s57 s7 cH
    refine ⟨_, rfl, g, rfl, ⟨_, .inl (.inl hg7)⟩, fun D1 n1' => ?_⟩
    refine lc_none hg7 pg7 n1' ?_ ?_
    · intro x tt H s ht e N hN
      refine ⟨wipe_one, ?_⟩
      refine ⟨_, rfl, x, tt, rfl, ht, fun H' s' => ?_⟩
      refine ⟨_, _, rfl, rfl, ?_⟩
      rw [e]
      refine ⟨_, rfl, ?_⟩
      refine ifF rfl ?_
      exact hN _ s'
    intro H8 s8 hD1
    refine ⟨_, rfl, u, rfl, ⟨_, .inl (.inl (s8 _ _ hu))⟩, fun D2 n2' => ?_⟩
    refine lc_none (s8 _ _ hu) (pr_m s8 pu) n2' ?_ ?_
    · intro x tt H s ht e N hN
      refine ⟨wipe_one, ?_⟩
      refine ⟨_, rfl, x, tt, rfl, ht, fun H' s' => ?_⟩
      refine ⟨_, _, rfl, rfl, ?_⟩
      rw [e]
      refine ⟨_, rfl, ?_⟩
      refine ifF rfl ?_
      exact hN _ s'
    intro H9 s9 hD2
    refine ⟨D1, D2, [], [], rfl, rfl, s9 _ _ hD1, hD2, by decide, fun D3 n3 => ?_⟩
    have s10 := same_new (o := .lst ([] ++ [])) n3
    have h3 : (upd H9 D3 (.lst ([] ++ []))) D3 = some (.lst []) := upd_same
    generalize upd H9 D3 _ = H10 at s10 h3 ⊢
    refine ⟨by decide, fun D4 n4 => ?_⟩
    have s11 := same_new (o := .lst []) n4
    have sf := (((s37.trans s8).trans s9).trans s10).trans s11
    refine ⟨.list [], .list [], .lst (.inl (.inl (s11 _ _ h3))) .nil, .lst (.inl (.inl upd_same)) .nil, shaped_ints [], shaped_ints [], ?_⟩
    exact q _ (fun b o e n => sf _ _ (s3' b o e n)) (by obtain ⟨g, m, cc, e⟩ := e3; exact ⟨g, m, cc, sf _ _ e⟩)
end
end K02


set_option linter.all false
set_option maxRecDepth 100000
namespace K02
open LS LT
open PySem PySem.Spec PyProof.Rows L2 MM
/-- all minors of size k, by ascending rows and columns -/
def mins (R : List (List Int)) (c k : Nat) : List Int := (chs R.length k).flatMap fun l => (chs c k).map fun m => DT.det k fun a b => mat R (l.getD a 0) (m.getD b 0)
theorem ch_mins (R : List (List Int)) (c k : Nat) : DT.Ch 0 R.length c k (mat R) (gcdI (mins R c k)) := DT.Ch_asc fun g => by
  rw [gcdI_dvd]
  constructor
  · intro h l m al am
    have := h (DT.det k fun a b => mat R (l.getD a 0) (m.getD b 0)) (List.mem_flatMap.mpr ⟨l, chs_asc.mpr al, List.mem_map.mpr ⟨m, chs_asc.mpr am, rfl⟩⟩)
    exact Int.ofNat_dvd_left.mpr this
  · intro h x hx
    obtain ⟨l, hl, hx⟩ := List.mem_flatMap.mp hx
    obtain ⟨m, hm, rfl⟩ := List.mem_map.mp hx
    exact Int.ofNat_dvd_left.mp (h l m (chs_asc.mp hl) (chs_asc.mp hm))
theorem shr_of (R : List (List Int)) (c n : Nat) (h : ((gcdI (mins R c 0) = 1 ∧ ∀ k, k ≤ n → 0 < gcdI (mins R c k)) ∧ n ≤ min R.length c) ∧ (n = min R.length c ∨ gcdI (mins R c (n + 1)) = 0)) : Shr R c (fun k => gcdI (mins R c k)) n :=
  ⟨h.1.1.1, fun k _ => ch_mins R c k, h.1.1.2, h.1.2, h.2.imp id fun e => by rw [← e]; exact ch_mins R c (n + 1)⟩
theorem shr_a : Shr [[2, 0], [0, 3]] 2 (fun k => gcdI (mins [[2, 0], [0, 3]] 2 k)) 2 := shr_of _ _ _ (by decide +kernel)
theorem shr_b : Shr [[2, 4], [4, 8]] 2 (fun k => gcdI (mins [[2, 4], [4, 8]] 2 k)) 1 := shr_of _ _ _ (by decide +kernel)
theorem shr_c : Shr [[0, 0]] 2 (fun k => gcdI (mins [[0, 0]] 2 k)) 0 := shr_of _ _ _ (by decide +kernel)
theorem shr_d : Shr [[1, 2, 3], [4, 5, 6]] 3 (fun k => gcdI (mins [[1, 2, 3], [4, 5, 6]] 3 k)) 2 := shr_of _ _ _ (by decide +kernel)
theorem shr_e : Shr [[1, 0], [0, 1]] 2 (fun k => gcdI (mins [[1, 0], [0, 1]] 2 k)) 2 := shr_of _ _ _ (by decide +kernel)
theorem shr_f : Shr [[1, 2], [2, 4]] 2 (fun k => gcdI (mins [[1, 2], [2, 4]] 2 k)) 1 := shr_of _ _ _ (by decide +kernel)
theorem shr_g : Shr [[0]] 1 (fun k => gcdI (mins [[0]] 1 k)) 0 := shr_of _ _ _ (by decide +kernel)
theorem el_a : elemD (fun k => gcdI (mins [[2, 0], [0, 3]] 2 k)) 2 = [1, 6] := by decide +kernel
theorem el_b : elemD (fun k => gcdI (mins [[2, 4], [4, 8]] 2 k)) 1 = [2] := by decide +kernel
theorem det_a : DT.det 2 (mat [[1, 2], [3, 4]]) = -2 := by decide +kernel
section
variable {R W : List (List Int)} {c n : Nat} {D : Nat → Nat} {ord : Nat → Nat} {cs : List Nat} {X : DT.M} {sn : Int}
theorem cs_len (rc : Rect R c) (sh : Shr R c D n) (st : DT.St (mat (revR R)) R.length c c ord cs X sn) : cs.length = n := by
  have s2 : DT.St (mat (revR R)) (revR R).length c c ord cs X sn := by rw [revR_len]; exact st
  exact shr_rank (shr_revR rc sh) s2
theorem fr_len (rc : Rect R c) (sh : Shr R c D n) (st : DT.St (mat (revR R)) R.length c c ord cs X sn) (k : Ker R c cs W) : W.length + n = c ∧ (frees c cs c).length = W.length := by
  have l := cs_len rc sh st
  have nd : cs.Nodup := st.up.imp fun h => by omega
  have := frees_len nd st.below
  have e := paired_len k
  exact ⟨by omega, e⟩
end
theorem ker_d {W : List (List Int)} {ord : Nat → Nat} {cs : List Nat} {X : DT.M} {sn : Int} (st : DT.St (mat (revR [[1, 2, 3], [4, 5, 6]])) 2 3 3 ord cs X sn) (k : Ker [[1, 2, 3], [4, 5, 6]] 3 cs W) : W = [[1, -2, 1]] := by
  have rc : Rect [[1, 2, 3], [4, 5, 6]] 3 := by unfold Rect; decide
  obtain ⟨l, l2⟩ := fr_len rc shr_d st k
  clear l2
  unfold Ker at k
  generalize frees 3 cs 3 = fs at k
  cases k with
  | nil => simp at l
  | cons r t =>
    cases t with
    | cons _ _ => simp at l
    | nil =>
      obtain ⟨fc, nf, len, lead, before, one, bg, fr, zero⟩ := krow rc r
      clear bg fr
      rename_i f row
      match row, len with
      | [x, y, z], _ =>
        have z0 := zero 0 (by decide)
        have z1 := zero 1 (by decide)
        simp only [dot, List.getD_cons_zero, List.getD_cons_succ, List.zipWith, List.sum_cons, List.sum_nil] at z0 z1
        have ex : x = z := by omega
        have ey : y = -2 * z := by omega
        subst ex ey
        have zp : 0 < x := by
          rcases (by omega : f = 0 ∨ f = 1 ∨ f = 2) with rfl | rfl | rfl
          · have b := before 0 (by decide)
            simp only [List.getD_cons_zero] at b
            simp [List.getD] at lead
            omega
          · have b := before 0 (by decide)
            simp only [List.getD_cons_zero] at b
            simp [List.getD] at lead
            omega
          · simp [List.getD] at lead
            exact lead
        have d : x.natAbs ∣ gcdI [x, -2 * x, x] := gcdI_dvd.mpr fun y hy => by
          simp only [List.mem_cons, List.not_mem_nil, or_false] at hy
          rcases hy with rfl | rfl | rfl
          · exact Nat.dvd_refl _
          · rw [Int.natAbs_mul]
            exact Nat.dvd_mul_left _ _
          · exact Nat.dvd_refl _
        rw [one] at d
        have := Nat.le_of_dvd (by decide) d
        have : x = 1 := by omega
        subst this
        rfl
theorem ker_e {W : List (List Int)} {ord : Nat → Nat} {cs : List Nat} {X : DT.M} {sn : Int} (st : DT.St (mat (revR [[1, 0], [0, 1]])) 2 2 2 ord cs X sn) (k : Ker [[1, 0], [0, 1]] 2 cs W) : W = [] := by
  have rc : Rect [[1, 0], [0, 1]] 2 := by unfold Rect; decide
  obtain ⟨l, l2⟩ := fr_len rc shr_e st k
  exact List.eq_nil_of_length_eq_zero (by omega)
theorem ker_c {W : List (List Int)} {ord : Nat → Nat} {cs : List Nat} {X : DT.M} {sn : Int} (st : DT.St (mat (revR [[0, 0]])) 1 2 2 ord cs X sn) (k : Ker [[0, 0]] 2 cs W) : W = [[1, 0], [0, 1]] := by
  have rc : Rect [[0, 0]] 2 := by unfold Rect; decide
  have lc := cs_len rc shr_c st
  have e0 : cs = [] := List.eq_nil_of_length_eq_zero lc
  subst e0
  unfold Ker at k
  rw [show frees 2 [] 2 = [1, 0] by decide] at k
  cases k with
  | cons r t =>
    cases t with
    | cons r2 t =>
      cases t with
      | nil =>
        obtain ⟨fc, nf, len, lead, before, one, bg, free, zz⟩ := krow rc r
        obtain ⟨fc2, nf2, len2, lead2, before2, one2, bg2, free2, zz2⟩ := krow rc r2
        clear bg bg2 fc nf fc2 nf2 zz zz2
        rename_i row row2
        match row, len, row2, len2 with
        | [x, y], _, [x2, y2], _ =>
          have f := free 0 (by decide) (by decide) (by simp)
          have b := before2 0 (by decide)
          simp [List.getD] at f b lead lead2
          subst f b
          have d : ∀ {z : Int} {l : List Int}, 0 < z → gcdI l = 1 → (∀ y ∈ l, y = z ∨ y = 0) → z = 1 := fun {z l} zp o h => by
            have d : z.natAbs ∣ gcdI l := gcdI_dvd.mpr fun y hy => by
              rcases h y hy with rfl | rfl
              · exact Nat.dvd_refl _
              · exact Nat.dvd_zero _
            rw [o] at d
            have := Nat.le_of_dvd (by decide) d
            omega
          have e1 := d lead one fun y hy => by simpa using hy
          have e2 := d lead2 one2 fun y hy => by simp at hy; exact hy.symm
          rw [e1, e2]
end K02

set_option Elab.async false
set_option linter.all false
set_option maxRecDepth 100000
set_option maxHeartbeats 8000000
namespace K02
open LS LT
open PySem PySem.Spec PyProof.Rows L2 MM
theorem h_next {D : Ends} {σ : L2.St} {H : Hp} (h : D.nx σ H) : tNext D σ H := h
theorem h_ret {te : TE} {D : Ends} {σ : L2.St} {H : Hp} (h : te σ H D.rt) : tRet te D σ H := h
theorem h_op {r : R2} {ta tb : TE} {σ : L2.St} {H : Hp} {Q : VK} (h : ta σ H fun x H1 => tb σ H1 fun y H2 => r x y H2 Q) : tOp r ta tb σ H Q := h
section
variable {K : PySem.W.Frag}
mutual
theorem Dp.mono {H H' : Hp} (s : Same H H') : ∀ (d : PyData) (v : V), Dp K H v d → Dp K H' v d
  | .none, _, h => by cases h; exact .non
  | .bool _, _, h => by cases h; exact .bl _
  | .int _, _, h => by cases h; exact .int _
  | .str _, _, h => by cases h; exact .str _
  | .list ds, _, h => by
    cases h with
    | lst S a => exact .lst (s.seq S) (DpAll.mono s ds _ a)
  | .tuple ds, _, h => by
    cases h with
    | tup S a => exact .tup (same_sqt s S) (DpAll.mono s ds _ a)
  | .dict _, _, h => by cases h
theorem DpAll.mono {H H' : Hp} (s : Same H H') : ∀ (ds : List PyData) (vs : List V), DpAll K H vs ds → DpAll K H' vs ds
  | [], _, h => by cases h; exact .nil
  | d :: ds, _, h => by
    cases h with
    | cons a b => exact .cons (Dp.mono s d _ a) (DpAll.mono s ds _ b)
end
def dpR (K : PySem.W.Frag) (d : PyData) : Rl := ⟨fun H v => Dp K H v d, fun s h => Dp.mono s d _ h⟩
def rowR (K : PySem.W.Frag) (row : List Int) : Rl := ⟨fun H v => ∃ b, v = .ref b ∧ SqT K H b (row.map V.int), fun s ⟨b, e, h⟩ => ⟨b, e, same_sqt s h⟩⟩
def tabR (K : PySem.W.Frag) (R : List (List Int)) : Rl := ⟨fun H v => ∃ a us, v = .ref a ∧ SqT K H a us ∧ TR K H us R, fun s ⟨a, us, e, h, t⟩ => ⟨a, us, e, same_sqt s h, t.same s⟩⟩
def intR (i : Int) : Rl := ⟨fun _ v => v = .int i, fun _ e => e⟩
abbrev CT : Hp → Prop := fun _ => True
theorem mCT {H H' : Hp} : Same H H' → CT H → CT H' := fun _ _ => trivial
variable {σ : L2.St} {ta : TA} {te tf : TE}
theorem i_int {i : Int} : MkE CT (tC (.int i)) σ (intR i) := fun H Q _ q => q _ H (Same.refl H) rfl
theorem i_neg {i : Int} : MkE CT (tUn (rU fun i => .int (-i)) (tC (.int i))) σ (intR (-i)) := fun H Q _ q => ⟨i, rfl, q _ H (Same.refl H) rfl⟩
theorem ints_of {H : Hp} : ∀ {row : List Int} {vs : List V}, Paired (fun v (R : Rl) => R.r H v) vs (row.map intR) → vs = row.map V.int
  | [], _, .nil => rfl
  | _ :: _, _, .cons e t => by rw [ints_of t, show _ = V.int _ from e]; rfl
theorem rows_of {H : Hp} : ∀ {R : List (List Int)} {vs : List V}, Paired (fun v (R : Rl) => R.r H v) vs (R.map (rowR K)) → TR K H vs R
  | [], _, .nil => .nil
  | _ :: _, _, .cons e t => .cons e (rows_of t)
theorem dps_of {H : Hp} : ∀ {ds : List PyData} {vs : List V}, Paired (fun v (R : Rl) => R.r H v) vs (ds.map (dpR K)) → DpAll K H vs ds
  | [], _, .nil => .nil
  | _ :: _, _, .cons e t => .cons e (dps_of t)
theorem i_row (row : List Int) (h : MkA CT ta σ (row.map intR)) (l : row.length ≤ sizeLine := by decide) : MkE CT (tTup ta) σ (rowR K row) := fun H Q c q => h H _ c fun vs H1 s1 p =>
  ⟨by rw [pr_len p, List.length_map]; exact l, fun a na => q _ _ (s1.trans (same_new na)) ⟨a, rfl, .inl (.inl (by rw [upd_same, ints_of p]))⟩⟩
theorem i_tab (R : List (List Int)) (h : MkA CT ta σ (R.map (rowR K))) (l : R.length ≤ sizeLine := by decide) : MkE CT (tTup ta) σ (tabR K R) := fun H Q c q => h H _ c fun vs H1 s1 p =>
  ⟨by rw [pr_len p, List.length_map]; exact l, fun a na => q _ _ (s1.trans (same_new na)) ⟨a, vs, rfl, .inl (.inl upd_same), (rows_of p).same (same_new na)⟩⟩
theorem d_int {i : Int} : MkE CT (tC (.int i)) σ (dpR K (.int i)) := fun H Q _ q => q _ H (Same.refl H) (.int i)
theorem d_neg {i : Int} : MkE CT (tUn (rU fun i => .int (-i)) (tC (.int i))) σ (dpR K (.int (-i))) := fun H Q _ q => ⟨i, rfl, q _ H (Same.refl H) (.int _)⟩
theorem d_tup (ds : List PyData) (h : MkA CT ta σ (ds.map (dpR K))) (l : ds.length ≤ sizeLine := by decide) : MkE CT (tTup ta) σ (dpR K (.tuple ds)) := fun H Q c q => h H _ c fun vs H1 s1 p =>
  ⟨by rw [pr_len p, List.length_map]; exact l, fun a na => q _ _ (s1.trans (same_new na)) (.tup (.inl (.inl upd_same)) (DpAll.mono (same_new na) ds _ (dps_of p)))⟩
theorem d_lst (ds : List PyData) (h : MkA CT ta σ (ds.map (dpR K))) (l : ds.length ≤ sizeLine := by decide) : MkE CT (tLst ta) σ (dpR K (.list ds)) := fun H Q c q => h H _ c fun vs H1 s1 p =>
  ⟨by rw [pr_len p, List.length_map]; exact l, fun a na => q _ _ (s1.trans (same_new na)) (.lst (.inl (.inl upd_same)) (DpAll.mono (same_new na) ds _ (dps_of p)))⟩
theorem use_ {Rr : Rl} {H : Hp} {Q : VK} (h : MkE CT te σ Rr) (q : ∀ v H', Same H H' → Rr.r H' v → Q v H') : te σ H Q := h H Q trivial q
def rowsD (R : List (List Int)) : PyData := .tuple (R.map fun r => .tuple (r.map .int))
theorem dp_tab {H : Hp} {a : Addr} {us : List V} {R : List (List Int)} (S : SqT K H a us) (t : TR K H us R) : Dp K H (.ref a) (rowsD R) := .tup S (dp_TR t)
theorem d_elem {E : XK} (R : List (List Int)) (c : Nat) {D : Nat → Nat} {n : Nat} (sh : Shr R c D n) (sm : Sml R c) (h : MkE CT te σ (tabR K R)) : MkE CT (tD (spElem K) E (tCons te tNil)) σ (dpR K (.tuple ((elemD D n).map fun n : Nat => .int (n : Int)))) := fun H Q c0 q => h H _ c0 fun v H1 s1 r => by
  obtain ⟨a, us, rfl, S, t⟩ := r
  refine ⟨a, us, R, c, D, n, rfl, S, t, sm, sh, fun H' tt s' St => ?_⟩
  have e1 : nv (elemD D n) = ((elemD D n).map fun n : Nat => (n : Int)).map V.int := by
    unfold nv
    rw [List.map_map]
    rfl
  rw [e1] at St
  have := Dp.tup St (dp_ints ((elemD D n).map fun n : Nat => (n : Int)))
  rw [List.map_map] at this
  exact q _ _ (s1.trans s') this
theorem d_det {E : XK} (R : List (List Int)) {k : Int} (sm : Sml R R.length) (e : DT.det R.length (mat R) = k) (h : MkE CT te σ (tabR K R)) : MkE CT (tD (spDet K) E (tCons te tNil)) σ (dpR K (.int k)) := fun H Q c0 q => h H _ c0 fun v H1 s1 r => by
  obtain ⟨a, us, rfl, S, t⟩ := r
  refine ⟨a, us, R, rfl, S, t, sm, fun H' s' => ?_⟩
  rw [e]
  exact q _ _ (s1.trans s') (.int k)
theorem d_rank {E : XK} (R : List (List Int)) (c : Nat) {D : Nat → Nat} {n : Nat} (sh : Shr R c D n) (sm : Sml R c) (h : MkE CT te σ (tabR K R)) : MkE CT (tD (spRank K) E (tCons te tNil)) σ (dpR K (.int (n : Int))) := fun H Q c0 q => h H _ c0 fun v H1 s1 r => by
  obtain ⟨a, us, rfl, S, t⟩ := r
  refine ⟨a, us, R, c, rfl, S, t, sm, fun H' cs ord sn X s' st => ?_⟩
  rw [shr_rank sh st]
  exact q _ _ (s1.trans s') (.int _)
theorem d_ker {E : XK} (R : List (List Int)) (c : Nat) {W0 : List (List Int)} (sm : Sml R c) (hW : ∀ {W : List (List Int)} {ord : Nat → Nat} {cs : List Nat} {X : DT.M} {sn : Int}, DT.St (mat (revR R)) R.length c c ord cs X sn → Ker R c cs W → W = W0)
    (h : MkE CT te σ (tabR K R)) : MkE CT (tD (spKernel K) E (tCons te tNil)) σ (dpR K (rowsD W0)) := fun H Q c0 q => h H _ c0 fun v H1 s1 r => by
  obtain ⟨a, us, rfl, S, t⟩ := r
  refine ⟨a, us, R, c, rfl, S, t, sm, fun H' r ws W cs ord sn X s' Sr tW st ker => ?_⟩
  have e := hW st ker
  subst e
  exact q _ _ (s1.trans s') (dp_tab Sr tW)
theorem d_prod {E : XK} (R W : List (List Int)) (m n : Nat) (gR : Good R m) (gW : Good W n) (l : W.length = m) (h : MkE CT te σ (tabR K R)) (h2 : MkE CT tf σ (tabR K W)) : MkE CT (tD (spProd K) E (tCons te (tCons tf tNil))) σ (dpR K (rowsD (prod R W n))) := fun H Q c0 q => h H _ c0 fun v H1 s1 r => h2 H1 _ trivial fun v2 H2 s2 r2 => by
  obtain ⟨a, us, rfl, S, t⟩ := r
  obtain ⟨b, ws, rfl, S2, t2⟩ := r2
  refine ⟨a, b, us, ws, R, W, m, n, rfl, same_sqt s2 S, t.same s2, gR, S2, t2, gW, l, fun H' p vs s' Sp tp => ?_⟩
  exact q _ _ ((s1.trans s2).trans s') (dp_tab Sp tp)
theorem sml_of {R : List (List Int)} {c : Nat} (h : (((∀ row ∈ R, row.length = c) ∧ 1 ≤ R.length) ∧ (R.length ≤ 6 ∧ 1 ≤ c)) ∧ c ≤ 6 ∧ ∀ row ∈ R, ∀ x ∈ row, x.natAbs < 2 ^ 47) : Sml R c :=
  have b : Big R (2 ^ 47) := h.2.2
  ⟨⟨h.1.1.1, h.1.1.2, by omega, h.1.2.2, by omega, b.mono (by decide)⟩, by omega, b⟩
end
/-! own words for the readings: a step, its side -/
local macro_rules | `(tactic| walk_at "side") => `(tactic| first
  | omega
  | exact ⟨by omega, by omega⟩
  | exact Or.inl ⟨by omega, by omega⟩
  | exact Or.inr ⟨by omega, by omega⟩
  | (show CPw _ _; decide +kernel)
  | (show (0 : Int) < _; decide +kernel)
  | (show CDivW _ _; first | assumption | exact ⟨by decide, by decide +kernel⟩))
local macro_rules | `(tactic| walk_at "here") => `(tactic| first
  | assumption
  | exact upd_same
  | exact Or.inl (Or.inl upd_same)
  | exact Or.inl upd_same)
local macro_rules | `(tactic| walk_at "one") => `(tactic| first
  | refine ⟨_, rfl, ?_⟩
  | refine Or.inl ⟨_, rfl, ?_⟩
  | refine Or.inr ⟨_, rfl, ?_⟩
  | refine ⟨_, _, rfl, rfl, (by walk_at "side"), ?_⟩
  | refine ⟨_, _, rfl, rfl, ?_⟩
  | refine ⟨_, _, rfl, Or.inl (by walk_at "here"), ?_⟩
  | refine ⟨_, _, rfl, Or.inr (by walk_at "here"), ?_⟩
  | refine ⟨_, _, rfl, (by walk_at "here"), ?_⟩
  | refine ⟨_, _, _, _, rfl, rfl, (by walk_at "here"), rfl, ?_⟩
  | refine ⟨_, _, rfl, ?_⟩
  | refine ifT (by rfl) ?_
  | refine ifF (by rfl) ?_
  | refine ifT (decide_eq_true (by omega)) ?_
  | refine ifF (decide_eq_false (by omega)) ?_)
local macro_rules | `(tactic| walk_at "st") => `(tactic| repeat (walk_at "one"))

section
variable {P : Program} {w : World} {K : PySem.W.Frag} {mg : Str → Option Value} {base : Heap}
def spLaw (K : PySem.W.Frag) : Sp := fun vs H Q _ => ∃ (a : Addr) (ns : List Int), vs = [.ref a] ∧ SqL K H a (ns.map V.int) ∧ ns.length ≤ 1000 ∧ ∀ H', Q (.bl true) H'
theorem scLaw : FnScope ["_law_script", "_law_spot", "_law_bag_here", "_law_told"] ["_law_script"] (defScope sLaw) :=
  ⟨rfl, rfl, rfl, by decide +kernel, rfl, by decide +kernel, by decide +kernel⟩
theorem dLaw (T : Tx K mg) (DBagL : Def P w K mg base CX0 1 "_law_bag" ["_law_script", "_law_spot"] (spBag K)) (DRightL : Def P w K mg base CX0 9 "_law_right" ["_law_bag_here"] (spRight K)) (DJudgedRightL : Def P w K mg base CX0 6 "_law_judged_right" ["_law_bag_here"] (spJudged K)) (DDeterminant : Def P w K mg base CX0 6 "determinant" ["table"] (spDet K)) (DElementaryDivisors : Def P w K mg base CX0 8 "elementary_divisors" ["table"] (spElem K)) (DKernel : Def P w K mg base CX0 6 "kernel" ["table"] (spKernel K)) (DTableProduct : Def P w K mg base CX0 6 "table_product" ["one", "other"] (spProd K)) (DRank : Def P w K mg base CX0 6 "rank" ["table"] (spRank K)) : Def P w K mg base CX0 10 "law" ["_law_script"] (spLaw K) := by
  refine T.t_law.def_ (N := ["_law_script", "_law_spot", "_law_bag_here", "_law_told"]) scLaw (fun _ _ _ _ _ _ us hl => match us, hl with | [_], _ => rfl) ?_ ?_
  · intro vs H Q E h
    obtain ⟨a, ns, rfl, _⟩ := h
    rfl
  · intro f cd A out s H vs Q E hr h
    have hr1 : Rm 9 _ := hr.le (by decide)
    obtain ⟨a, ns, rfl, hS, hl, q⟩ := h
    refine ⟨_, (pss_cons (ps_for PassesOwn.never rfl (pi_range1 rfl T.f_range (pa_cons (pe_callB (call_max2 rfl) rfl T.f_max (by decide +kernel) (pa_cons pe_int (pa_cons (pe_callB (call_min2 rfl) rfl T.f_min (by decide +kernel) (pa_cons pe_int (pa_cons (pe_callB call_len_seq rfl T.f_len (by decide +kernel) (pa_cons (pv 0) pa_nil)) pa_nil))) pa_nil))) pa_nil)) (pg_name (i := 1) scLaw.nd rfl (Or.inl rfl))
        (pss_cons (ps_set (i := 2) scLaw.nd rfl (Or.inl rfl) (pe_d DBagL (hr1.le (by decide)) pass0 (pa_cons (pv 0) (pa_cons (pv 1) pa_nil))))
        (pss_one (ps_if (PW.pt (pw_or (pt_not (pt_val (pe_d DJudgedRightL (hr1.le (by decide)) pass0 (pa_cons (pv 2) pa_nil)))) (pw_or (pt_not (pt_val (pe_d DRightL (hr1.le (by decide)) pass0 (pa_cons (pv 2) pa_nil)))) (pw_or1 (pt_not (pt_val (pe_d DRightL (hr1.le (by decide)) pass0 (pa_cons (pv 2) pa_nil)))))))) (pss_one (ps_ret pe_bl)) pss_nil))))
      (pss_cons (ps_set (i := 3) scLaw.nd rfl (Or.inl rfl) (pe_lst (pa_cons (pe_d DElementaryDivisors (hr1.le (by decide)) pass0 (pa_cons (pe_tup (pa_cons (pe_tup (pa_cons pe_int (pa_cons pe_int pa_nil))) (pa_cons (pe_tup (pa_cons pe_int (pa_cons pe_int pa_nil))) pa_nil))) pa_nil)) (pa_cons (pe_d DElementaryDivisors (hr1.le (by decide)) pass0 (pa_cons (pe_tup (pa_cons (pe_tup (pa_cons pe_int (pa_cons pe_int pa_nil))) (pa_cons (pe_tup (pa_cons pe_int (pa_cons pe_int pa_nil))) pa_nil))) pa_nil)) (pa_cons (pe_d DElementaryDivisors (hr1.le (by decide)) pass0 (pa_cons (pe_tup (pa_cons (pe_tup (pa_cons pe_int (pa_cons pe_int pa_nil))) pa_nil)) pa_nil)) (pa_cons (pe_d DDeterminant (hr1.le (by decide)) pass0 (pa_cons (pe_tup (pa_cons (pe_tup (pa_cons pe_int (pa_cons pe_int pa_nil))) (pa_cons (pe_tup (pa_cons pe_int (pa_cons pe_int pa_nil))) pa_nil))) pa_nil)) pa_nil))))))
      (pss_cons (ps_if (PW.pt (pw_or (pt_cmpR (op_neD hr.hu) (pv 3) (pe_lst (pa_cons (pe_tup (pa_cons pe_int (pa_cons pe_int pa_nil))) (pa_cons (pe_tup (pa_cons pe_int pa_nil)) (pa_cons (pe_tup pa_nil) (pa_cons (pe_un un_neg pe_int) pa_nil))))) (nomark _)) (pw_or (pt_cmpR (op_neD hr.hu) (pe_d DKernel (hr1.le (by decide)) pass0 (pa_cons (pe_tup (pa_cons (pe_tup (pa_cons pe_int (pa_cons pe_int (pa_cons pe_int pa_nil)))) (pa_cons (pe_tup (pa_cons pe_int (pa_cons pe_int (pa_cons pe_int pa_nil)))) pa_nil))) pa_nil)) (pe_tup (pa_cons (pe_tup (pa_cons pe_int (pa_cons (pe_un un_neg pe_int) (pa_cons pe_int pa_nil)))) pa_nil)) (nomark _)) (pw_or1 (pt_cmpR (op_neD hr.hu) (pe_d DKernel (hr1.le (by decide)) pass0 (pa_cons (pe_tup (pa_cons (pe_tup (pa_cons pe_int (pa_cons pe_int pa_nil))) (pa_cons (pe_tup (pa_cons pe_int (pa_cons pe_int pa_nil))) pa_nil))) pa_nil)) (pe_tup pa_nil) (nomark _)))))) (pss_one (ps_ret pe_bl)) pss_nil)
      (pss_one (ps_ret (pe_cmpR (op_eqD hr.hu) (pe_lst (pa_cons (pe_d DRank (hr1.le (by decide)) pass0 (pa_cons (pe_tup (pa_cons (pe_tup (pa_cons pe_int (pa_cons pe_int pa_nil))) (pa_cons (pe_tup (pa_cons pe_int (pa_cons pe_int pa_nil))) pa_nil))) pa_nil)) (pa_cons (pe_d DRank (hr1.le (by decide)) pass0 (pa_cons (pe_tup (pa_cons (pe_tup (pa_cons pe_int pa_nil)) pa_nil)) pa_nil)) (pa_cons (pe_d DTableProduct (hr1.le (by decide)) pass0 (pa_cons (pe_tup (pa_cons (pe_tup (pa_cons pe_int (pa_cons pe_int pa_nil))) pa_nil)) (pa_cons (pe_tup (pa_cons (pe_tup (pa_cons pe_int pa_nil)) (pa_cons (pe_tup (pa_cons pe_int pa_nil)) pa_nil))) pa_nil))) (pa_cons (pe_d DKernel (hr1.le (by decide)) pass0 (pa_cons (pe_tup (pa_cons (pe_tup (pa_cons pe_int (pa_cons pe_int pa_nil))) pa_nil)) pa_nil)) pa_nil))))) (pe_lst (pa_cons pe_int (pa_cons pe_int (pa_cons (pe_tup (pa_cons (pe_tup (pa_cons pe_int pa_nil)) pa_nil)) (pa_cons (pe_tup (pa_cons (pe_tup (pa_cons pe_int (pa_cons pe_int pa_nil))) (pa_cons (pe_tup (pa_cons pe_int (pa_cons pe_int pa_nil))) pa_nil))) pa_nil))))) (nomark _))))))), ?_⟩
    refine ⟨_, rfl, a, _, rfl, .inl hS, _, _, rfl, _, _, rfl, ?_⟩
    obtain ⟨j, ej, j1, j2⟩ : ∃ j : Int, j = (if (if ((ns.map V.int).length : Int) < 3 then ((ns.map V.int).length : Int) else 3) > 1 then (if ((ns.map V.int).length : Int) < 3 then ((ns.map V.int).length : Int) else 3) else 1) ∧ 1 ≤ j ∧ j ≤ 3 := by
      refine ⟨_, rfl, ?_, ?_⟩
      all_goals
        split
        · split <;> omega
        · omega
    refine ⟨j, by rw [ej], by omega, by omega, for_range (fun i σ H' => SqL K H' a (ns.map V.int) ∧ ∃ y z, σ = [some (.ref a), y, z, none]) ⟨hS, none, none, rfl⟩ ?_ ?_⟩
    · rintro i σ H' hi ⟨hS, y, z, rfl⟩
      refine ⟨_, rfl, _, rfl, a, i, ns, ?_, hS, by omega, fun H1 p sm np hb => ?_⟩
      · show [V.ref a, V.int (0 + (i : Int))] = _
        rw [Int.zero_add]
      have ks : ∀ {H2 : Hp}, Sb p H1 H2 → SqL K H2 a (ns.map V.int) := fun {H2} up => by
        rcases hS with (h | ⟨o, h⟩) | h
        · exact .inl (.inl (up a _ (sm _ _ h) (ne_of_none h np)))
        · exact .inl (.inr ⟨o, up a _ (sm _ _ h) (ne_of_none h np)⟩)
        · exact .inr h
      refine ⟨_, rfl, p, rfl, hb, fun H2 up2 b2 => ?_⟩
      refine ⟨_, rfl, ?_⟩
      refine ⟨_, rfl, p, rfl, b2, fun H3 up3 b3 => ?_⟩
      refine ⟨_, rfl, ?_⟩
      refine ⟨_, rfl, p, rfl, b3, fun H4 up4 b4 => ?_⟩
      refine ⟨_, rfl, ?_⟩
      exact ⟨ks fun b o e n => up4 _ _ (up3 _ _ (up2 b o e n) n) n, _, _, rfl⟩
    · rintro σ H' ⟨hS, y, z, rfl⟩
      clear hS
      try dsimp only
      show tSeq _ _ _ _ _
      refine h_seq ?_
      try dsimp only
      show tAsg _ _ _ _ _
      refine h_asg ?_
      try dsimp only
      show tLst _ _ _ _
      refine use_ (d_lst (K := K) [.tuple [.int 1, .int 6], .tuple [.int 2], .tuple [], .int (-2)] (mk_cons mCT ?_ (mk_cons mCT ?_ (mk_cons mCT ?_ (mk_cons mCT (d_det [[1, 2], [3, 4]] (sml_of (by decide +kernel)) det_a (i_tab _ (mk_cons mCT (i_row _ (mk_cons mCT i_int (mk_cons mCT i_int mk_nil))) (mk_cons mCT (i_row _ (mk_cons mCT i_int (mk_cons mCT i_int mk_nil))) mk_nil)))) mk_nil))))) ?_
      · have := d_elem (K := K) (E := fun _ _ _ => False) (σ := [some (.ref a), y, z, none]) [[2, 0], [0, 3]] 2 shr_a (sml_of (by decide +kernel)) (i_tab _ (mk_cons mCT (i_row _ (mk_cons mCT i_int (mk_cons mCT i_int mk_nil))) (mk_cons mCT (i_row _ (mk_cons mCT i_int (mk_cons mCT i_int mk_nil))) mk_nil)))
        rw [el_a] at this
        exact this
      · have := d_elem (K := K) (E := fun _ _ _ => False) (σ := [some (.ref a), y, z, none]) [[2, 4], [4, 8]] 2 shr_b (sml_of (by decide +kernel)) (i_tab _ (mk_cons mCT (i_row _ (mk_cons mCT i_int (mk_cons mCT i_int mk_nil))) (mk_cons mCT (i_row _ (mk_cons mCT i_int (mk_cons mCT i_int mk_nil))) mk_nil)))
        rw [el_b] at this
        exact this
      · exact d_elem (K := K) [[0, 0]] 2 shr_c (sml_of (by decide +kernel)) (i_tab _ (mk_cons mCT (i_row _ (mk_cons mCT i_int (mk_cons mCT i_int mk_nil))) mk_nil))
      intro told H1 s1 d1
      refine ⟨_, rfl, ?_⟩
      try dsimp only
      show tLst _ _ _ _
      refine use_ (d_lst (K := K) [.tuple [.int 1, .int 6], .tuple [.int 2], .tuple [], .int (-2)] (mk_cons mCT (d_tup [.int 1, .int 6] (mk_cons mCT d_int (mk_cons mCT d_int mk_nil))) (mk_cons mCT (d_tup [.int 2] (mk_cons mCT d_int mk_nil)) (mk_cons mCT (d_tup [] mk_nil) (mk_cons mCT d_neg mk_nil))))) ?_
      intro due H2 s2 d2
      refine ⟨_, _, Dp.mono s2 _ _ d1, d2, by decide +kernel, by decide +kernel, ?_⟩
      refine ⟨_, rfl, ?_⟩
      refine ifF (by decide +kernel) ?_
      try dsimp only
      show tD _ _ _ _ _ _
      refine use_ (d_ker (K := K) [[1, 2, 3], [4, 5, 6]] 3 (sml_of (by decide +kernel)) ker_d (i_tab _ (mk_cons mCT (i_row _ (mk_cons mCT i_int (mk_cons mCT i_int (mk_cons mCT i_int mk_nil)))) (mk_cons mCT (i_row _ (mk_cons mCT i_int (mk_cons mCT i_int (mk_cons mCT i_int mk_nil)))) mk_nil)))) ?_
      intro k1 H3 s3 d3
      try dsimp only
      show tTup _ _ _ _
      refine use_ (d_tup (K := K) [.tuple [.int 1, .int (-2), .int 1]] (mk_cons mCT (d_tup [.int 1, .int (-2), .int 1] (mk_cons mCT d_int (mk_cons mCT d_neg (mk_cons mCT d_int mk_nil)))) mk_nil)) ?_
      intro k2 H4 s4 d4
      refine ⟨_, _, Dp.mono s4 _ _ d3, d4, by decide +kernel, by decide +kernel, ?_⟩
      refine ⟨_, rfl, ?_⟩
      refine ifF (by decide +kernel) ?_
      try dsimp only
      show tD _ _ _ _ _ _
      refine use_ (d_ker (K := K) [[1, 0], [0, 1]] 2 (sml_of (by decide +kernel)) ker_e (i_tab _ (mk_cons mCT (i_row _ (mk_cons mCT i_int (mk_cons mCT i_int mk_nil))) (mk_cons mCT (i_row _ (mk_cons mCT i_int (mk_cons mCT i_int mk_nil))) mk_nil)))) ?_
      intro k3 H5 s5 d5
      try dsimp only
      show tTup _ _ _ _
      refine use_ (d_tup (K := K) [] mk_nil) ?_
      intro k4 H6 s6 d6
      refine ⟨_, _, Dp.mono s6 _ _ d5, d6, by decide +kernel, by decide +kernel, ?_⟩
      refine ⟨_, rfl, ?_⟩
      refine ifF (by decide +kernel) ?_
      try dsimp only
      show tNext _ _ _
      refine h_next ?_
      try dsimp only
      show tRet _ _ _ _
      refine h_ret ?_
      try dsimp only
      show tOp _ _ _ _ _ _
      refine h_op ?_
      try dsimp only
      show tLst _ _ _ _
      refine use_ (d_lst (K := K) [.int 1, .int 0, .tuple [.tuple [.int 11]], .tuple [.tuple [.int 1, .int 0], .tuple [.int 0, .int 1]]] (mk_cons mCT (d_rank [[1, 2], [2, 4]] 2 shr_f (sml_of (by decide +kernel)) (i_tab _ (mk_cons mCT (i_row _ (mk_cons mCT i_int (mk_cons mCT i_int mk_nil))) (mk_cons mCT (i_row _ (mk_cons mCT i_int (mk_cons mCT i_int mk_nil))) mk_nil))))
        (mk_cons mCT (d_rank [[0]] 1 shr_g (sml_of (by decide +kernel)) (i_tab _ (mk_cons mCT (i_row _ (mk_cons mCT i_int mk_nil)) mk_nil)))
        (mk_cons mCT (d_prod [[1, 2]] [[3], [4]] 2 1 (sml_of (by decide +kernel)).1 (sml_of (by decide +kernel)).1 rfl (i_tab _ (mk_cons mCT (i_row _ (mk_cons mCT i_int (mk_cons mCT i_int mk_nil))) mk_nil)) (i_tab _ (mk_cons mCT (i_row _ (mk_cons mCT i_int mk_nil)) (mk_cons mCT (i_row _ (mk_cons mCT i_int mk_nil)) mk_nil))))
        (mk_cons mCT (d_ker [[0, 0]] 2 (sml_of (by decide +kernel)) ker_c (i_tab _ (mk_cons mCT (i_row _ (mk_cons mCT i_int (mk_cons mCT i_int mk_nil))) mk_nil))) mk_nil))))) ?_
      intro l1 H7 s7 d7
      try dsimp only
      show tLst _ _ _ _
      refine use_ (d_lst (K := K) [.int 1, .int 0, .tuple [.tuple [.int 11]], .tuple [.tuple [.int 1, .int 0], .tuple [.int 0, .int 1]]] (mk_cons mCT d_int (mk_cons mCT d_int (mk_cons mCT (d_tup [.tuple [.int 11]] (mk_cons mCT (d_tup [.int 11] (mk_cons mCT d_int mk_nil)) mk_nil))
        (mk_cons mCT (d_tup [.tuple [.int 1, .int 0], .tuple [.int 0, .int 1]] (mk_cons mCT (d_tup [.int 1, .int 0] (mk_cons mCT d_int (mk_cons mCT d_int mk_nil))) (mk_cons mCT (d_tup [.int 0, .int 1] (mk_cons mCT d_int (mk_cons mCT d_int mk_nil))) mk_nil))) mk_nil))))) ?_
      intro l2 H8 s8 d8
      refine ⟨_, _, Dp.mono s8 _ _ d7, d8, by decide +kernel, by decide +kernel, ?_⟩
      exact q _
end
end K02


set_option Elab.async false
set_option linter.all false
set_option maxRecDepth 100000
set_option maxHeartbeats 8000000
namespace K02
open LS
open PySem PySem.Spec PyProof.Rows L2 MM
/-! own words for the readings: a step, its side -/
local macro_rules | `(tactic| walk_at "side") => `(tactic| first
  | omega
  | exact ⟨by omega, by omega⟩
  | exact Or.inl ⟨by omega, by omega⟩
  | exact Or.inr ⟨by omega, by omega⟩
  | (show CPw _ _; decide +kernel)
  | (show (0 : Int) < _; decide +kernel)
  | (show CDivW _ _; first | assumption | exact ⟨by decide, by decide +kernel⟩))
local macro_rules | `(tactic| walk_at "here") => `(tactic| first
  | assumption
  | exact upd_same
  | exact Or.inl (Or.inl upd_same)
  | exact Or.inl upd_same)
local macro_rules | `(tactic| walk_at "one") => `(tactic| first
  | refine ⟨_, rfl, ?_⟩
  | refine Or.inl ⟨_, rfl, ?_⟩
  | refine Or.inr ⟨_, rfl, ?_⟩
  | refine ⟨_, _, rfl, rfl, (by walk_at "side"), ?_⟩
  | refine ⟨_, _, rfl, rfl, ?_⟩
  | refine ⟨_, _, rfl, Or.inl (by walk_at "here"), ?_⟩
  | refine ⟨_, _, rfl, Or.inr (by walk_at "here"), ?_⟩
  | refine ⟨_, _, rfl, (by walk_at "here"), ?_⟩
  | refine ⟨_, _, _, _, rfl, rfl, (by walk_at "here"), rfl, ?_⟩
  | refine ⟨_, _, rfl, ?_⟩
  | refine ifT (by rfl) ?_
  | refine ifF (by rfl) ?_
  | refine ifT (decide_eq_true (by omega)) ?_
  | refine ifF (decide_eq_false (by omega)) ?_)
local macro_rules | `(tactic| walk_at "st") => `(tactic| repeat (walk_at "one"))

section
variable {P : Program} {w : World} {K : PySem.W.Frag} {mg : Str → Option Value} {base : Heap}
theorem scIsEchelonL : FnScope ["_law_rows", "_law_leads", "_law_row", "_law_share", "_law_number", "_law_places", "_law_at", "_law_place", "_law_lead"] ["_law_rows"] (defScope sIsEchelonL) :=
  ⟨rfl, rfl, rfl, by decide +kernel, rfl, by decide +kernel, by decide +kernel⟩
theorem dIsEchelonL (T : Tx K mg) (DTbDivisorL : Def P w K mg base CX0 1 "_law_tb_divisor" ["_law_one", "_law_other"] spGcd) : Def P w K mg base CX0 2 "_law_is_echelon" ["_law_rows"] (spEch K) := by
  refine T.t_law_is_echelon.def_ (N := ["_law_rows", "_law_leads", "_law_row", "_law_share", "_law_number", "_law_places", "_law_at", "_law_place", "_law_lead"]) scIsEchelonL (fun _ _ _ _ _ _ us hl => match us, hl with | [_], _ => rfl) ?_ ?_
  · intro vs H Q E h
    obtain ⟨a, us, W, ls, rfl, _⟩ := h
    rfl
  · intro f cd A out s H vs Q E hr h
    have hr1 : Rm 1 _ := hr.le (by decide)
    obtain ⟨a, us, W, ls, rfl, S, tR, ec, q⟩ := h
    refine ⟨_, (pss_cons (ps_set (i := 1) scIsEchelonL.nd rfl (Or.inl rfl) (pe_lst pa_nil))
      (pss_cons (ps_for PassesOwn.never rfl (pi_tup (pv 0)) (pg_name (i := 2) scIsEchelonL.nd rfl (Or.inr rfl))
        (pss_cons (ps_set (i := 3) scIsEchelonL.nd rfl (Or.inl rfl) pe_int)
        (pss_cons (ps_for PassesOwn.never rfl (pi_tup (pv 2)) (pg_name (i := 4) scIsEchelonL.nd rfl (Or.inl rfl))
          (pss_one (ps_set (i := 3) scIsEchelonL.nd rfl (Or.inl rfl) (pe_d DTbDivisorL (hr1.le (by decide)) pass0 (pa_cons (pv 3) (pa_cons (pv 4) pa_nil))))))
        (pss_cons (ps_setLc (i := 5) (own := [("_law_at", 6), ("_law_number", 4)]) (g := gTup K 2 (gCons (gName 6) (gCons (gName 4) gNil))) rfl scIsEchelonL.nd rfl rfl (sw_true rfl rfl rfl rfl) (pi_enumT rfl T.f_enumerate (pa_cons (pv 2) pa_nil)) (blkOk_by (N := ["_law_rows", "_law_leads", "_law_row", "_law_share", "_law_number", "_law_places", "_law_at", "_law_place", "_law_lead"]) (sc := defScope sIsEchelonL) (by decide +kernel)) (fun _ _ _ _ _ => (show PG _ _ (gTup K 2 (gCons (gName 6) (gCons (gName 4) gNil))) from pg_tup rfl (pgs_cons (pg_name (i := 6) scIsEchelonL.nd rfl (Or.inl rfl)) (pgs_cons (pg_name (i := 4) scIsEchelonL.nd rfl (Or.inl rfl)) pgs_nil)))) (fun _ _ _ _ _ => (pts_one (pt_cmpR op_ne (pv 4) pe_int (nomark _)))) (fun _ _ _ _ _ => (pv 6)))
        (pss_cons (ps_if (PW.pt (pw_or (pt_cmpR op_ne (pv 3) pe_int (nomark _)) (pw_or1 (pt_cmpR op_lt (pe_ix ix_tup (pv 2) (pe_ix ix_list (pv 5) pe_int (fun _ _ => rfl)) (fun _ _ => rfl)) pe_int (nomark _))))) (pss_one (ps_ret pe_bl)) pss_nil)
        (pss_one (ps_expr (pe_bm PySem.F.plainAttrs_list PySem.F.slot_list_append PySem.F.type_list_append mt_append (pv 1) (pa_cons (pe_ix ix_list (pv 5) pe_int (fun _ _ => rfl)) pa_nil)))))))))
      (pss_cons (ps_if (pt_cmpR (op_neD hr.hu) (pv 1) (pe_callB (cr_sortedSW (w := w) rfl rfl) rfl T.f_sorted (by decide +kernel) (pa_cons (pe_callTy (cr_setLW (K := K) (w := w) rfl rfl rfl) rfl T.f_set (by decide +kernel) (pa_cons (pv 1) pa_nil)) pa_nil)) (nomark _)) (pss_one (ps_ret pe_bl)) pss_nil)
      (pss_cons (ps_for PassesOwn.never rfl (pi_enumT rfl T.f_enumerate (pa_cons (pv 0) pa_nil)) (pg_tup rfl (pgs_cons (pg_name (i := 6) scIsEchelonL.nd rfl (Or.inr rfl)) (pgs_cons (pg_name (i := 2) scIsEchelonL.nd rfl (Or.inr rfl)) pgs_nil)))
        (pss_one (ps_if (pt_cmpR (op_neD hr.hu) (pe_lc (own := [("_law_place", 7), ("_law_lead", 8)]) (g := gTup K 2 (gCons (gName 7) (gCons (gName 8) gNil))) rfl scIsEchelonL.nd (pi_enum rfl T.f_enumerate (pa_cons (pv 1) pa_nil)) (blkOk_by (N := ["_law_rows", "_law_leads", "_law_row", "_law_share", "_law_number", "_law_places", "_law_at", "_law_place", "_law_lead"]) (sc := defScope sIsEchelonL) (by decide +kernel)) (fun _ _ _ _ _ => (show PG _ _ (gTup K 2 (gCons (gName 7) (gCons (gName 8) gNil))) from pg_tup rfl (pgs_cons (pg_name (i := 7) scIsEchelonL.nd rfl (Or.inl rfl)) (pgs_cons (pg_name (i := 8) scIsEchelonL.nd rfl (Or.inl rfl)) pgs_nil)))) (fun _ _ _ _ _ => (pts_one (PW.pt (pw_and (pt_cmpR op_ne (pv 7) (pv 6) (nomark _)) (pw_and1 (pt_cmpR op_ne (pe_ix (show IxR _ (rIxT K) from ix_tup) (pv 2) (pv 8) (fun _ _ => rfl)) pe_int (nomark _))))))) (fun _ _ _ _ _ => pe_int)) (pe_lst pa_nil) (nomark _)) (pss_one (ps_ret pe_bl)) pss_nil)))
      (pss_one (ps_ret pe_bl)))))), ?_⟩
    have lu := tR.len
    have few := ec.few
    refine ⟨by decide, fun D nD => ?_⟩
    have s1 := same_new (o := .lst []) nD
    have hD : (upd H D (.lst [])) D = some (.lst []) := upd_same
    generalize upd H D (.lst []) = H1 at s1 hD ⊢
    have keep : ∀ {H3 : Hp} {o : HO}, Same H H3 → Same H (upd H3 D o) := fun {H3 o} s b x e => by
      rw [upd_ne (ne_of_none e nD)]
      exact s _ _ e
    refine ⟨_, rfl, a, rfl, ⟨_, same_sqt s1 S⟩, for_tup (K := K) (a := a) (xs := us) (fun i σ H' => Same H H' ∧ H' D = some (.lst (nv (ls.take i))) ∧ ∃ y2 y3 y4 y5 y6 y7 y8, σ = [some (.ref a), some (.ref D), y2, y3, y4, y5, y6, y7, y8]) ⟨s1, hD, _, _, _, _, _, _, _, rfl⟩ (fun i σ H' _ e => same_sqt e.1 S) ?_ ?_⟩
    · rintro i v σ H2 hv ⟨s2, hD2, y2, y3, y4, y5, y6, y7, y8, rfl⟩
      obtain ⟨row, hrow, b, rfl, Sb⟩ := paired_at tR hv
      have li := (List.getElem?_eq_some_iff.mp hrow).1
      have hr := List.mem_of_getElem? hrow
      have er : W.getD i [] = row := by rw [List.getD, hrow]; rfl
      obtain ⟨r60, bigr⟩ := ec.small row hr
      have lin := ec.into i li
      have lpos := ec.lead i li
      have bef := ec.before i li
      have one := ec.one row hr
      rw [er] at lin
      unfold mat at lpos bef
      rw [er] at lpos bef
      obtain ⟨l, hl⟩ : ∃ l, l = ls.getD i 0 := ⟨_, rfl⟩
      rw [← hl] at lin lpos bef
      have Sb2 := same_sqt s2 Sb
      refine ⟨_, rfl, b, rfl, ⟨_, Sb2⟩, for_tup (K := K) (a := b) (xs := row.map V.int) (fun k σ H' => H' = H2 ∧ ∃ y4, σ = [some (.ref a), some (.ref D), some (.ref b), some (.int (((row.take k).foldl (fun g x => Nat.gcd g x.natAbs) 0 : Nat) : Int)), y4, y5, y6, y7, y8]) ⟨rfl, _, rfl⟩ (fun k σ H' _ e => by rw [e.1]; exact Sb2) ?_ ?_⟩
      · rintro k v σ H3 hv ⟨rfl, y4, rfl⟩
        obtain ⟨n, hn, rfl⟩ := map_int hv
        refine ⟨_, rfl, _, rfl, _, _, rfl, ?_⟩
        refine ⟨rfl, some (.int n), ?_⟩
        rw [List.take_add_one, hn, List.foldl_append, Int.natAbs_natCast]
        rfl
      rintro σ H3 ⟨rfl, y4, rfl⟩
      rw [List.length_map, List.take_length, show row.foldl (fun g x => Nat.gcd g x.natAbs) 0 = 1 from one]
      refine ⟨_, rfl, b, _, rfl, Sb2, fun E' nE => ?_⟩
      have ED : E' ≠ D := (ne_of_none hD2 nE).symm
      refine lc_enumT (K := K) (a := b) (xs := row.map V.int) (Pv := fun k H' => Same H3 H' ∧ ∃ zs : List Nat, H' E' = some (.lst (nv zs)) ∧ zs.length ≤ k ∧ (k ≤ l → zs = []) ∧ (l < k → zs[0]? = some l)) ⟨same_new nE, [], upd_same, Nat.le_refl _, fun _ => rfl, fun h => by omega⟩ (fun k H' _ e => same_sqt e.1 Sb2) ?_ ?_
      · rintro k v H4 T hv ⟨s4, zs, hE, lz, z1, z2⟩ fT
        obtain ⟨n, hn, rfl⟩ := map_int hv
        have lk := (List.getElem?_eq_some_iff.mp hn).1
        have en : row.getD k 0 = n := by rw [List.getD, hn]; rfl
        have s5 := s4.trans (same_new fT (o := .tup [.int (k : Int), .int n]))
        have hE5 := (upd_ne (o := .tup [.int (k : Int), .int n]) (ne_of_none hE fT)).trans hE
        refine ⟨T, _, rfl, .inl (.inl upd_same), rfl, _, _, rfl, ?_⟩
        refine ⟨_, _, rfl, rfl, rfl, ?_⟩
        generalize upd H4 T _ = H5 at s5 hE5 ⊢
        refine ⟨_, rfl, rfl, _, rfl, ?_⟩
        by_cases n0 : n = 0
        · refine ifF (by show (!decide (V.int n = V.int 0)) = false; rw [decide_eq_true (congrArg V.int n0)]; rfl) ?_
          refine ⟨s5, zs, hE5, by omega, fun h => z1 (by omega), fun h => ?_⟩
          by_cases c : k = l
          · rw [c] at en
            omega
          · exact z2 (by omega)
        · refine ifT (by show (!decide (V.int n = V.int 0)) = true; rw [decide_eq_false fun h => n0 (V.int.inj h)]; rfl) ?_
          have kl : l ≤ k := Classical.byContradiction fun h => n0 (by rw [← en]; exact bef k (by omega))
          refine ⟨_, rfl, nv zs, hE5, by rw [nv_len, sizeLine_eq]; omega, ?_, zs ++ [k], ?_, by rw [List.length_append]; show zs.length + 1 ≤ _; omega, fun h => by omega, fun h => ?_⟩
          · intro x o e
            rw [upd_ne (ne_of_none e nE)]
            exact s5 _ _ e
          · rw [upd_same]
            unfold nv
            rw [List.map_append]
            rfl
          · by_cases c : k = l
            · rw [z1 (by omega), c]
              rfl
            · rw [List.getElem?_append_left (by have := z2 (by omega); exact (List.getElem?_eq_some_iff.mp this).1)]
              exact z2 (by omega)
      rintro H4 ⟨s4, zs, hE, lz, z1, z2⟩
      rw [List.length_map] at z2
      have z0 := z2 lin
      have at0 : atI (nv zs) 0 = some (.int (l : Int)) := atI_nat (j := 0) (by unfold nv; rw [List.getElem?_map, z0]; rfl)
      have Sb4 := same_sqt s4 Sb2
      have hD4 := s4 _ _ hD2
      try dsimp only [gName]
      refine ⟨_, rfl, rfl, _, rfl, ?_⟩
      refine ifF (by show (!decide (V.int ((1 : Nat) : Int) = V.int 1)) = false; rfl) ?_
      refine ⟨_, rfl, _, rfl, E', nv zs, _, .int (l : Int), rfl, rfl, .inl (.inl hE), at0, b, _, _, .int (row.getD l 0), rfl, rfl, Sb4, atI_nat (intsAt lin), _, _, rfl, rfl, _, rfl, ?_⟩
      refine ifF (decide_eq_false (by omega)) ?_
      refine ⟨_, rfl, .inl ⟨rfl, _, .inl (.inl hD4)⟩, _, rfl, E', nv zs, _, .int (l : Int), rfl, rfl, .inl (.inl hE), at0, D, _, _, rfl, rfl, hD4, by rw [nv_len, List.length_take, sizeLine_eq]; omega, ?_⟩
      refine ⟨keep (s2.trans s4), ?_, _, _, _, _, _, _, _, rfl⟩
      rw [upd_same, List.take_add_one, show ls[i]? = some l by rw [hl, List.getD, List.getElem?_eq_getElem (by rw [← ec.len]; exact li)]; rfl]
      unfold nv
      rw [List.map_append]
      rfl
    · rintro σ H2 ⟨s2, hD2, y2, y3, y4, y5, y6, y7, y8, rfl⟩
      rw [List.take_of_length_le (by rw [lu, ec.len]; exact Nat.le_refl _)] at hD2
      have eI : nv ls = (ls.map fun n : Nat => (n : Int)).map V.int := by
        unfold nv
        rw [List.map_map]
        rfl
      have upI : (ls.map fun n : Nat => (n : Int)).Pairwise (· < ·) := by
        rw [List.pairwise_map]
        exact ec.up.imp fun h => by omega
      refine ⟨_, rfl, _, rfl, D, ls.map (fun n : Nat => (n : Int)), rfl, .inl (.inl (by rw [← eI]; exact hD2)), by rw [List.length_map, ← ec.len]; omega, fun t n nt le => ?_⟩
      rw [List.length_map, ← ec.len] at le
      have s3 := same_new (o := SetO w t (fun j => decide (j ∈ ls.map fun n : Nat => (n : Int))) n) nt
      refine ⟨t, _, n, rfl, upd_same, by omega, fun ms p up mem len np => ?_⟩
      have s4 := s3.trans (same_new (o := .lst (ms.map V.int)) np)
      have same : ms = ls.map fun n : Nat => (n : Int) := by
        have pm : ms.Perm (ls.map fun n : Nat => (n : Int)) := (List.perm_ext_iff_of_nodup (up.imp fun h => Int.ne_of_lt h) (upI.imp fun h => Int.ne_of_lt h)).mpr fun k => by rw [mem k]; exact decide_eq_true_iff
        exact List.Perm.eq_of_pairwise (fun a b _ _ h1 h2 => by omega) up upI pm
      have hD4 := s4 _ _ hD2
      have hp4 : (upd (upd H2 t (SetO w t (fun j => decide (j ∈ ls.map fun n : Nat => (n : Int))) n)) p (.lst (ms.map V.int))) p = some (.lst (ms.map V.int)) := upd_same
      have hD4m := hD4.trans (show some (HO.lst (nv ls)) = some (HO.lst (ms.map V.int)) by rw [eI, ← same])
      refine ⟨.list (ms.map .int), .list (ms.map .int), .lst (.inl (.inl hD4m)) (dp_ints _), .lst (.inl (.inl hp4)) (dp_ints _), shaped_ints _, shaped_ints _, ?_⟩
      rw [show PyData.eqv (.list (ms.map .int)) (.list (ms.map .int)) = PyData.eqvAll (ms.map .int) (ms.map .int) from rfl, eqvAll_ints, decide_eq_true rfl]
      refine ⟨_, rfl, ?_⟩
      refine ifF rfl ?_
      clear hD4m hp4
      have s2p := s2.trans s4
      generalize upd (upd H2 t _) p _ = H4 at s2p hD4 ⊢
      have Sa := same_sqt s2p S
      refine ⟨_, rfl, a, us, rfl, Sa, for_enumT (K := K) (a := a) (xs := us) (fun i σ H' => Same H4 H' ∧ ∃ y2 y3 y4 y5 y6 y7 y8, σ = [some (.ref a), some (.ref D), y2, y3, y4, y5, y6, y7, y8]) ⟨Same.refl _, _, _, _, _, _, _, _, rfl⟩ (fun i σ H' _ e => same_sqt e.1 Sa) ?_ ?_⟩
      · rintro i v σ H5 T hv ⟨s5, z2, z3, z4, z5, z6, z7, z8, rfl⟩ nT
        obtain ⟨row, hrow, b, rfl, Sb⟩ := paired_at tR hv
        have li := (List.getElem?_eq_some_iff.mp hrow).1
        have er : W.getD i [] = row := by rw [List.getD, hrow]; rfl
        have s6 := s5.trans (same_new (o := .tup [.int (i : Int), .ref b]) nT)
        refine ⟨T, _, rfl, .inl (.inl upd_same), rfl, _, _, rfl, ?_⟩
        refine ⟨_, _, rfl, rfl, ?_⟩
        generalize upd H5 T _ = H6 at s6 ⊢
        have hD6 := s6 _ _ hD4
        have Sb6 := same_sqt (s2p.trans s6) Sb
        refine ⟨_, rfl, D, _, rfl, .inl (.inl hD6), fun E' nE => ?_⟩
        refine lc_enumL (K := K) (a := D) (xs := nv ls) (Pv := fun k H' => Same H6 H' ∧ H' E' = some (.lst [])) ⟨same_new nE, upd_same⟩ (fun k H' _ e => .inl (.inl (e.1 _ _ hD6))) ?_ ?_
        · rintro k v H7 U hv ⟨s7, hE⟩ fU
          have lk := (List.getElem?_eq_some_iff.mp hv).1
          rw [nv_len] at lk
          rw [nv_at lk] at hv
          cases hv
          have s8 := s7.trans (same_new fU (o := .tup [.int (k : Int), .int ((ls.getD k 0 : Nat) : Int)]))
          have hE8 := (upd_ne (o := .tup [.int (k : Int), .int ((ls.getD k 0 : Nat) : Int)]) (ne_of_none hE fU)).trans hE
          refine ⟨U, _, rfl, .inl (.inl upd_same), rfl, _, _, rfl, ?_⟩
          refine ⟨_, _, rfl, rfl, rfl, ?_⟩
          generalize upd H7 U _ = H8 at s8 hE8 ⊢
          refine ⟨_, rfl, _, rfl, rfl, _, rfl, ?_⟩
          by_cases ki : k = i
          · refine ifF (by show (!decide (V.int (k : Int) = V.int (i : Int))) = false; rw [ki, decide_eq_true rfl]; rfl) ?_
            refine ifF rfl ?_
            exact ⟨s8, hE8⟩
          · refine ifT (by show (!decide (V.int (k : Int) = V.int (i : Int))) = true; rw [decide_eq_false fun h => ki (by have := V.int.inj h; omega)]; rfl) ?_
            obtain ⟨o1, o2⟩ := ec.other i li k (by rw [ec.len]; exact lk) ki
            unfold mat at o2
            rw [er] at o1 o2
            refine ⟨_, rfl, _, rfl, b, _, _, .int (row.getD (ls.getD k 0) 0), rfl, rfl, same_sqt s8 Sb6, atI_nat (intsAt o1), rfl, _, rfl, ?_⟩
            refine ifF (by show (!decide (V.int (row.getD (ls.getD k 0) 0) = V.int 0)) = false; rw [o2, decide_eq_true rfl]; rfl) ?_
            exact ⟨s8, hE8⟩
        rintro H7 ⟨s7, hE⟩
        refine ⟨by decide, fun D2 n2 => ?_⟩
        have s8 := same_new (o := .lst []) n2
        refine ⟨.list [], .list [], .lst (.inl (.inl (s8 _ _ hE))) .nil, .lst (.inl (.inl upd_same)) .nil, shaped_ints [], shaped_ints [], ?_⟩
        refine ⟨_, rfl, ?_⟩
        refine ifF rfl ?_
        exact ⟨(s6.trans s7).trans s8, _, _, _, _, _, _, _, rfl⟩
      · rintro σ H5 ⟨s5, z2, z3, z4, z5, z6, z7, z8, rfl⟩
        exact q H5 (s2p.trans s5)
end
end K02


set_option Elab.async false
set_option linter.all false
set_option maxRecDepth 100000
set_option maxHeartbeats 4000000
namespace K02
open PySem PySem.Spec PyProof.Rows L2 MM
/-! own words for the readings: a step, its side -/
local macro_rules | `(tactic| walk_at "side") => `(tactic| first
  | omega
  | exact ⟨by omega, by omega⟩
  | exact Or.inl ⟨by omega, by omega⟩
  | exact Or.inr ⟨by omega, by omega⟩
  | (show CPw _ _; decide +kernel)
  | (show (0 : Int) < _; decide +kernel)
  | (show CDivW _ _; first | assumption | exact ⟨by decide, by decide +kernel⟩))
local macro_rules | `(tactic| walk_at "here") => `(tactic| first
  | assumption
  | exact upd_same
  | exact Or.inl (Or.inl upd_same)
  | exact Or.inl upd_same)
local macro_rules | `(tactic| walk_at "one") => `(tactic| first
  | refine ⟨_, rfl, ?_⟩
  | refine Or.inl ⟨_, rfl, ?_⟩
  | refine Or.inr ⟨_, rfl, ?_⟩
  | refine ⟨_, _, rfl, rfl, (by walk_at "side"), ?_⟩
  | refine ⟨_, _, rfl, rfl, ?_⟩
  | refine ⟨_, _, rfl, Or.inl (by walk_at "here"), ?_⟩
  | refine ⟨_, _, rfl, Or.inr (by walk_at "here"), ?_⟩
  | refine ⟨_, _, rfl, (by walk_at "here"), ?_⟩
  | refine ⟨_, _, _, _, rfl, rfl, (by walk_at "here"), rfl, ?_⟩
  | refine ⟨_, _, rfl, ?_⟩
  | refine ifT (by rfl) ?_
  | refine ifF (by rfl) ?_
  | refine ifT (decide_eq_true (by omega)) ?_
  | refine ifF (decide_eq_false (by omega)) ?_)
local macro_rules | `(tactic| walk_at "st") => `(tactic| repeat (walk_at "one"))

section
variable {P : Program} {w : World} {K : PySem.W.Frag} {mg : Str → Option Value} {base : Heap}
theorem scTbProductL : FnScope ["_law_one", "_law_other", "_law_columns", "_law_row", "_law_place", "_law_here", "_law_there", "_law_column"] ["_law_one", "_law_other"] (defScope sTbProductL) :=
  ⟨rfl, rfl, rfl, by decide +kernel, rfl, by decide +kernel, by decide +kernel⟩
theorem dTbProductL (T : Tx K mg) : Def P w K mg base CX0 1 "_law_tb_product" ["_law_one", "_law_other"] (spProd K) := by
  refine T.t_law_tb_product.def_ (N := ["_law_one", "_law_other", "_law_columns", "_law_row", "_law_place", "_law_here", "_law_there", "_law_column"]) scTbProductL (fun _ _ _ _ _ _ us hl => match us, hl with | [_, _], _ => rfl) ?_ ?_
  · intro vs H Q E h
    obtain ⟨a, b, us, ws, R, W, m, n, rfl, _⟩ := h
    rfl
  · intro f cd A out s H vs Q E hr h
    obtain ⟨a, b, us, ws, R, W, m, n, rfl, Sa, tR, gR, Sb, tW, gW, lW, q⟩ := h
    refine ⟨_, (pss_cons (ps_set (i := 2) scTbProductL.nd rfl (Or.inr rfl) (pe_lc (own := [("_law_place", 4)]) (g := gName 4) (tt := tYes) rfl scTbProductL.nd (pi_range1 rfl T.f_range (pa_cons (pe_callB call_len_seq rfl T.f_len (by decide +kernel) (pa_cons (pe_ix ix_tup (pv 1) pe_int (fun _ _ => rfl)) pa_nil)) pa_nil)) (blkOk_by (N := ["_law_one", "_law_other", "_law_columns", "_law_row", "_law_place", "_law_here", "_law_there", "_law_column"]) (sc := defScope sTbProductL) (by decide +kernel)) (fun _ _ _ _ _ => pg_name (i := 4) scTbProductL.nd rfl (Or.inr rfl)) (fun _ _ _ _ _ => pts_nil) (fun _ _ _ _ _ => (pe_lc (own := [("_law_row", 3)]) (g := gName 3) (tt := tYes) rfl scTbProductL.nd (show PI _ _ _ (iTup K _) from pi_tup (pv 1)) (blkOk_by (N := ["_law_one", "_law_other", "_law_columns", "_law_row", "_law_place", "_law_here", "_law_there", "_law_column"]) (sc := _) (by kernel_rfl)) (fun _ _ _ _ _ => pg_name (i := 3) scTbProductL.nd rfl (Or.inl rfl)) (fun _ _ _ _ _ => pts_nil) (fun _ _ _ _ _ => (pe_ix (show IxR _ (rIxT K) from ix_tup) (pv 3) (pv 4) (fun _ _ => rfl)))))))
      (pss_one (ps_ret (pe_callTy call_tuple_of rfl T.f_tuple (by decide +kernel) (pa_cons (pe_lc (own := [("_law_row", 3)]) (g := gName 3) (tt := tYes) rfl scTbProductL.nd (pi_tup (pv 0)) (blkOk_by (N := ["_law_one", "_law_other", "_law_columns", "_law_row", "_law_place", "_law_here", "_law_there", "_law_column"]) (sc := defScope sTbProductL) (by decide +kernel)) (fun _ _ _ _ _ => pg_name (i := 3) scTbProductL.nd rfl (Or.inr rfl)) (fun _ _ _ _ _ => pts_nil) (fun _ _ _ _ _ => (pe_callTy (show CallR _ _ (rTupOf K) from call_tuple_of) rfl T.f_tuple (by decide +kernel) (pa_cons (pe_lc (own := [("_law_column", 7)]) (g := gName 7) (tt := tYes) rfl scTbProductL.nd (show PI _ _ _ (iList K _) from pi_list (pv 2)) (blkOk_by (N := ["_law_one", "_law_other", "_law_columns", "_law_row", "_law_place", "_law_here", "_law_there", "_law_column"]) (sc := _) (by kernel_rfl)) (fun _ _ _ _ _ => pg_name (i := 7) scTbProductL.nd rfl (Or.inl rfl)) (fun _ _ _ _ _ => pts_nil) (fun _ _ _ _ _ => (pe_callB (show CallR _ (.builtin "sum") (rSum K) from cr_sum rfl) rfl T.f_sum (by decide +kernel) (pa_cons (pe_lc (own := [("_law_here", 5), ("_law_there", 6)]) (g := gTup K 2 (gCons (gName 5) (gCons (gName 6) gNil))) (tt := tYes) rfl scTbProductL.nd (show PI _ _ _ (iZipM K _) from (pi_zipM rfl T.f_zip (pa_cons (pv 3) (pa_cons (pv 7) pa_nil)))) (blkOk_by (N := ["_law_one", "_law_other", "_law_columns", "_law_row", "_law_place", "_law_here", "_law_there", "_law_column"]) (sc := _) (by kernel_rfl)) (fun _ _ _ _ _ => (show PG _ _ (gTup K 2 (gCons (gName 5) (gCons (gName 6) gNil))) from pg_tup rfl (pgs_cons (pg_name (i := 5) scTbProductL.nd rfl (Or.inl rfl)) (pgs_cons (pg_name (i := 6) scTbProductL.nd rfl (Or.inl rfl)) pgs_nil)))) (fun _ _ _ _ _ => pts_nil) (fun _ _ _ _ _ => (pe_op op_mulW (pv 5) (pv 6)))) pa_nil)))) pa_nil)))) pa_nil))))), ?_⟩
    have b60 : ∀ {x : Int}, x.natAbs < 10 ^ 60 → x.natAbs < 2 ^ 8000 := fun h => Nat.lt_trans h (by decide +kernel)
    obtain ⟨r1, r2, r3, r4, r5, r6⟩ := gR
    obtain ⟨w1, w2, w3, w4, w5, w6⟩ := gW
    obtain ⟨u0, hu0, b0, rfl, S0⟩ := paired_get tW (row_get (i := 0) (by omega))
    have l0 := w1 _ (row_mem (R := W) (i := 0) (by omega))
    have lus := tR.len
    have lws := tW.len
    refine ⟨_, rfl, b, _, _, .ref b0, rfl, rfl, Sb, atI_nat (j := 0) hu0, b0, _, rfl, .inr S0, ?_⟩
    rw [List.length_map, l0]
    refine ⟨(n : Int), rfl, by omega, by omega, fun C nC => ?_⟩
    refine lc_range (Pv := fun i H' => Same H H' ∧ ∃ cs : List V, H' C = some (.lst cs) ∧ LLa C H' cs (cols W i)) ⟨same_new nC, [], upd_same, .nil⟩ ?_ ?_
    · rintro i H1 hi ⟨s1, cs, hD, hc⟩
      have hi' : i < n := by omega
      have lc := hc.len
      refine ⟨wipe_one, yes_ ?_⟩
      refine ⟨_, rfl, b, rfl, ⟨_, same_sqt s1 Sb⟩, fun D2 nD2 => ?_⟩
      have DD : D2 ≠ C := (ne_of_none hD nD2).symm
      refine lc_tup (K := K) (a := b) (xs := ws) (Pv := fun j H' => Same H1 H' ∧ H' D2 = some (.lst (((W.take j).map fun row => row.getD i 0).map V.int))) ⟨same_new nD2, upd_same⟩ (fun j H' _ e => same_sqt (s1.trans e.1) Sb) ?_ ?_
      · rintro j x H2 hx ⟨s2, hD2⟩
        obtain ⟨row, hrow, rb, rfl, Sr⟩ := paired_at tW hx
        have lj : j < ws.length := (List.getElem?_eq_some_iff.mp hx).1
        have lr := w1 row (List.mem_of_getElem? hrow)
        refine ⟨wipe_one, yes_ ?_⟩
        refine ⟨_, rfl, _, rfl, rb, _, _, .int (row.getD i 0), rfl, rfl, same_sqt (s1.trans s2) Sr, ?_, ?_⟩
        · rw [Int.zero_add]
          exact atI_nat (intsAt (by omega))
        refine ⟨_, hD2, ?_, ?_, ?_⟩
        · rw [List.length_map, List.length_map, List.length_take, sizeLine_eq]
          omega
        · intro c o e
          rw [upd_ne (ne_of_none e nD2)]
          exact s2 _ _ e
        · rw [upd_same, List.take_add_one, hrow, List.map_append, List.map_append]
          rfl
      rintro H2 ⟨s2, hD2⟩
      rw [lws, List.take_length] at hD2
      refine ⟨cs, s2 _ _ hD, ?_, ?_, cs ++ [.ref D2], upd_same, ?_⟩
      · rw [lc, sizeLine_eq]
        unfold cols
        rw [List.length_map, List.length_range]
        omega
      · intro c o e
        rw [upd_ne (ne_of_none e nC)]
        exact s2 _ _ (s1 _ _ e)
      · rw [cols_succ]
        exact paired_snoc ⟨D2, rfl, DD, (upd_ne DD).trans hD2⟩ (hc.same s2).put
    rintro H3 ⟨s, cs, eC, lCa⟩
    rw [show ((n : Int)).toNat = n from Int.toNat_natCast n] at lCa
    have lC := lCa.ll
    replace Sa := same_sqt s Sa
    replace tR := tR.same s
    clear hu0 S0 Sb tW lCa
    have lcs := lC.len
    have lcl : (cols W n).length = n := by unfold cols; rw [List.length_map, List.length_range]
    have bcol : ∀ col ∈ cols W n, ∀ x ∈ col, x.natAbs < 2 ^ 8000 := by
      intro col hc x hx
      obtain ⟨j, hj, rfl⟩ := List.mem_map.mp hc
      obtain ⟨row, hr, rfl⟩ := List.mem_map.mp hx
      have lr := w1 row hr
      exact b60 (w6 row hr _ (mem_mem (by rw [lr]; exact List.mem_range.mp hj)))
    refine ⟨_, rfl, a, rfl, ⟨_, Sa⟩, fun D nD => ?_⟩
    refine lc_tup (K := K) (a := a) (xs := us) (Pv := fun i H' => Same H3 H' ∧ ∃ vs, H' D = some (.lst vs) ∧ TR K H' vs ((prod R W n).take i)) ⟨same_new nD, [], upd_same, .nil⟩ (fun i H' _ e => same_sqt e.1 Sa) ?_ ?_
    · rintro i x H4 hx ⟨s4, vs, hD, tv⟩
      obtain ⟨row, hrow, rb, rfl, Sr⟩ := paired_at tR hx
      have li := (List.getElem?_eq_some_iff.mp hx).1
      have lr := r1 row (List.mem_of_getElem? hrow)
      have brow : ∀ x ∈ row, x.natAbs < 2 ^ 8000 := fun x hx => b60 (r6 row (List.mem_of_getElem? hrow) x hx)
      have lv := tv.len
      refine ⟨wipe_one, yes_ ?_⟩
      refine ⟨_, rfl, C, rfl, ⟨_, .inl (.inl (s4 _ _ eC))⟩, fun D2 nD2 => ?_⟩
      refine lc_list (K := K) (a := C) (xs := cs) (Pv := fun j H' => Same H4 H' ∧ H' D2 = some (.lst ((((cols W n).take j).map fun col => dot row col).map V.int))) ⟨same_new nD2, upd_same⟩ (fun j H' _ e => .inl (.inl (e.1 _ _ (s4 _ _ eC)))) ?_ ?_
      · rintro j y H5 hy ⟨s5, hD2⟩
        obtain ⟨col, hcol, cb, rfl, ecb⟩ := paired_at lC hy
        have lj := (List.getElem?_eq_some_iff.mp hy).1
        refine ⟨wipe_one, yes_ ?_⟩
        have bc := bcol col (List.mem_of_getElem? hcol)
        have Sr5 := same_sqt (s4.trans s5) Sr
        have Sc5 : SqL K H5 cb (col.map V.int) := .inl (.inl (s5 _ _ (s4 _ _ ecb)))
        refine ⟨_, rfl, _, rfl, rb, cb, _, _, rfl, Sr5, Sc5, fun D3 nD3 => ?_⟩
        refine lc_zipM (n := min (row.map V.int).length (col.map V.int).length) rfl (fun i H' => Same H5 H' ∧ H' D3 = some (.lst ((List.zipWith (· * ·) (row.take i) (col.take i)).map V.int))) ⟨same_new nD3, upd_same⟩ (fun i H' _ e => ⟨same_sqt e.1 Sr5, same_sql e.1 Sc5⟩) ?_ ?_
        · rintro k x y H6 T hx hy ⟨s6, hD3⟩ fT
          obtain ⟨xi, hxi, rfl⟩ := map_int hx
          obtain ⟨yi, hyi, rfl⟩ := map_int hy
          have DT : D3 ≠ T := ne_of_none hD3 fT
          have li := (List.getElem?_eq_some_iff.mp hxi).1
          have li2 := (List.getElem?_eq_some_iff.mp hyi).1
          have s7 := s6.trans (same_new fT (o := .tup [.int xi, .int yi]))
          have hD7 := (upd_ne (o := .tup [.int xi, .int yi]) DT).trans hD3
          refine ⟨T, _, rfl, .inl (.inl upd_same), rfl, _, _, rfl, ?_⟩
          refine ⟨_, _, rfl, rfl, rfl, ?_⟩
          generalize upd H6 T _ = H7 at s7 hD7 ⊢
          refine yes_ ?_
          refine ⟨_, rfl, _, rfl, xi, yi, rfl, rfl, mulB (by decide) (brow _ (List.mem_of_getElem? hxi)) (bc _ (List.mem_of_getElem? hyi)), ?_⟩
          refine ⟨_, hD7, ?_, ?_, ?_⟩
          · rw [List.length_map, List.length_zipWith, List.length_take, sizeLine_eq]
            omega
          · intro c o e
            rw [upd_ne (ne_of_none e nD3)]
            exact s7 _ _ e
          · rw [upd_same, List.take_add_one, hxi, List.take_add_one, hyi, List.zipWith_append (by rw [List.length_take, List.length_take]; omega), List.map_append]
            rfl
        rintro H6 ⟨s6, hD3⟩
        refine ⟨D3, _, rfl, .inl (.inl hD3), ?_⟩
        have e : List.zipWith (· * ·) (row.take (min (row.map V.int).length (col.map V.int).length)) (col.take (min (row.map V.int).length (col.map V.int).length)) = List.zipWith (· * ·) row col := by
          rw [List.length_map, List.length_map, ← List.take_zipWith, List.take_of_length_le (by rw [List.length_zipWith]; exact Nat.le_refl _)]
        rw [e]
        refine ⟨_, s6 _ _ hD2, ?_, ?_, ?_⟩
        · rw [List.length_map, List.length_map, List.length_take, sizeLine_eq]
          omega
        · intro c o e
          rw [upd_ne (ne_of_none e nD2)]
          exact s6 _ _ (s5 _ _ e)
        · rw [upd_same, List.take_add_one, hcol, List.map_append, List.map_append]
          rfl
      rintro H5 ⟨s5, hD2⟩
      rw [lcs, List.take_length] at hD2
      refine ⟨D2, _, rfl, .inl ⟨.inl (.inl hD2), fun t ft => ?_⟩⟩
      have St : SqT K (upd H5 t (.tup (((cols W n).map fun col => dot row col).map V.int))) t (((cols W n).map fun col => dot row col).map V.int) := .inl (.inl upd_same)
      have st := same_new (o := .tup (((cols W n).map fun col => dot row col).map V.int)) ft
      have hD5 := st _ _ (s5 _ _ hD)
      replace tv := (tv.same s5).same st
      have s6 := s4.trans (s5.trans st)
      generalize upd H5 t _ = H6 at St hD5 tv s6 ⊢
      refine ⟨vs, hD5, ?_, ?_, vs ++ [.ref t], upd_same, ?_⟩
      · rw [lv, List.length_take, sizeLine_eq]
        omega
      · intro c o e
        rw [upd_ne (ne_of_none e nD)]
        exact s6 _ _ e
      · have e : (prod R W n).take (i + 1) = (prod R W n).take i ++ [(cols W n).map fun col => dot row col] := by
          unfold prod
          rw [List.take_add_one, List.getElem?_map, hrow]
          rfl
        rw [e]
        exact paired_snoc ⟨t, rfl, sqt_lst St hD5⟩ (tv.put hD5)
    · rintro H4 ⟨s4, vs, hD, tv⟩
      have e : (prod R W n).take us.length = prod R W n := by
        unfold prod
        rw [List.take_of_length_le (by rw [List.length_map]; omega)]
      rw [e] at tv
      refine ⟨D, _, rfl, .inl ⟨.inl (.inl hD), fun t ft => ?_⟩⟩
      have st := same_new (o := .tup vs) ft
      exact q _ t vs (s.trans (s4.trans st)) (.inl (.inl upd_same)) (tv.same st)
end
end K02


set_option Elab.async false
set_option linter.all false
set_option maxRecDepth 100000
set_option maxHeartbeats 0
namespace K02
open LS LT
open PySem PySem.Spec PyProof.Rows L2 MM
theorem law_def {P : Program} {w : World} {K : PySem.W.Frag} {mg : Str → Option Value} {base : Heap} (T : Tx K mg) : Def P w K mg base CX0 10 "law" ["_law_script"] (spLaw K) := by
  have E0 : Def P w K mg base CX0 1 "_law_bag" ["_law_script", "_law_spot"] (spBag K) := dBagL (P := P) (w := w) (base := base) T 
  have E1 : Def P w K mg base CX0 1 "_law_grab" ["_law_bag_here", "_law_total"] spGrab := dGrabL (P := P) (w := w) (base := base) T 
  have E2 : Def P w K mg base CX0 2 "_law_one_of" ["_law_bag_here", "_law_items"] (spOneOf K) := dOneOfL (P := P) (w := w) (base := base) T E1
  have E3 : Def P w K mg base CX0 3 "_law_tb_drawn" ["_law_bag_here", "_law_rows", "_law_columns"] (spDrawn K) := dTbDrawnL (P := P) (w := w) (base := base) T E2 E1
  have E4 : Def P w K mg base CX0 1 "_law_tb_choices" ["_law_size", "_law_many"] (spChoices K) := dTbChoicesL (P := P) (w := w) (base := base) T 
  have E5 : Def P w K mg base CX0 1 "_law_tb_divisor" ["_law_one", "_law_other"] spGcd := dTbDivisorL (P := P) (w := w) (base := base) T 
  have E6 : Def P w K mg base CX0 1 "_law_tb_determinant" ["_law_rows"] (spDetL K) := dTbDeterminantL (P := P) (w := w) (base := base) T 
  have E7 : Def P w K mg base CX0 2 "_law_tb_shares" ["_law_table"] (spShares K) := dTbSharesL (P := P) (w := w) (base := base) T E4 E5 E6
  have E8 : Def P w K mg base CX0 1 "is_whole" ["value"] (spIsWhole K) := dIsWhole (P := P) (w := w) (base := base) T 
  have E9 : Def P w K mg base CX0 2 "is_integer" ["value"] (spIsInteger K) := dIsInteger (P := P) (w := w) (base := base) T E8
  have E10 : Def P w K mg base CX0 3 "_is_line" ["value"] (spIsLine K) := dIsLine (P := P) (w := w) (base := base) T E9
  have E11 : Def P w K mg base CX0 4 "is_table" ["value"] (spIsTable K) := dIsTable (P := P) (w := w) (base := base) T E10
  have E12 : Def P w K mg base CX0 5 "_need_table" ["table"] (spNeedTable K) := dNeedTable (P := P) (w := w) (base := base) T E11
  have E13 : Def P w K mg base CX0 1 "_lead_row" ["rows", "start", "column"] spLead := dLeadRow (P := P) (w := w) (base := base) T 
  have E14 : Def P w K mg base CX0 1 "_stepped" ["row", "top", "column", "last"] (spStep K) := dStepped (P := P) (w := w) (base := base) T 
  have E15 : Def P w K mg base CX0 2 "_stairs" ["table"] (spStairsL K) := LS.dStairs (P := P) (w := w) (base := base) T E13 E14
  have E16 : Def P w K mg base CX0 1 "_line_product" ["one", "other"] spLineL := LS.dLineProduct (P := P) (w := w) (base := base) T 
  have E17 : Def P w K mg base CX0 2 "_kernel_row" ["rows", "begun", "free", "width"] (spKrow K) := dKernelRow (P := P) (w := w) (base := base) T E16
  have E18 : Def P w K mg base CX0 1 "_without_divisor" ["row", "lead"] (spWd K) := dWithoutDivisor (P := P) (w := w) (base := base) T 
  have E19 : Def P w K mg base CX0 6 "kernel" ["table"] (spKernel K) := dKernel (P := P) (w := w) (base := base) T E12 E15 E17 E18
  have E20 : Def P w K mg base CX0 2 "_law_is_echelon" ["_law_rows"] (spEch K) := dIsEchelonL (P := P) (w := w) (base := base) T E5
  have E21 : Def P w K mg base CX0 7 "_law_kernel_right" ["_law_table", "_law_many"] (spKerR K) := dKernelRightL (P := P) (w := w) (base := base) T E19 E20
  have E22 : Def P w K mg base CX0 2 "_stairs" ["table"] (spStairs K) := dStairs (P := P) (w := w) (base := base) T E13 E14
  have E23 : Def P w K mg base CX0 2 "_stairs" ["table"] (spStairsU K) := def_or E22 E15
  have E24 : Def P w K mg base CX0 1 "_begun_with" ["rows", "begun"] (spBegun K) := dBegunWith (P := P) (w := w) (base := base) T 
  have E25 : Def P w K mg base CX0 1 "_as_chain" ["numbers"] (spChain K) := dAsChain (P := P) (w := w) (base := base) T 
  have E26 : Def P w K mg base CX0 1 "_lead_place" ["rows"] spPlace := dLeadPlace (P := P) (w := w) (base := base) T 
  have E27 : Def P w K mg base CX0 1 "mixed" ["one", "one_times", "other", "other_times", "bound"] spMix := dMixed (P := P) (w := w) (base := base) T 
  have E28 : Def P w K mg base CX0 1 "bezout" ["one", "other"] spBez := dBezout (P := P) (w := w) (base := base) T 
  have E29 : Def P w K mg base CX0 3 "_column_cleared" ["rows", "bound"] (spColC K) := dColumnCleared (P := P) (w := w) (base := base) T E27 E28
  have E30 : Def P w K mg base CX0 1 "_columns" ["rows"] spColsL := LS.dColumns (P := P) (w := w) (base := base) T 
  have E31 : Def P w K mg base CX0 4 "_corner_cleared" ["rows", "bound"] (spCorner K) := dCornerCleared (P := P) (w := w) (base := base) T E29 E30
  have E32 : Def P w K mg base CX0 5 "_diagonal" ["rows", "bound"] (spDiag K) := dDiagonal (P := P) (w := w) (base := base) T E26 E31
  have E33 : Def P w K mg base CX0 6 "_divisors_within" ["table", "bound"] (spWithin K) := dDivisorsWithin (P := P) (w := w) (base := base) T E25 E32
  have E34 : Def P w K mg base CX0 7 "_square_divisors" ["table", "pivots"] (spSquare K) := dSquareDivisors (P := P) (w := w) (base := base) T E33
  have E35 : Def P w K mg base CX0 8 "elementary_divisors" ["table"] (spElem K) := dElementaryDivisors (P := P) (w := w) (base := base) T E12 E23 E24 E34 E33
  have E36 : Def P w K mg base CX0 6 "rank" ["table"] (spRank K) := dRank (P := P) (w := w) (base := base) T E12 E22
  have E37 : Def P w K mg base CX0 1 "_columns" ["rows"] (spCols K) := dColumns (P := P) (w := w) (base := base) T 
  have E38 : Def P w K mg base CX0 1 "_line_product" ["one", "other"] (spLine K) := dLineProduct (P := P) (w := w) (base := base) T 
  have E39 : Def P w K mg base CX0 6 "table_product" ["one", "other"] (spProd K) := dTableProduct (P := P) (w := w) (base := base) T E12 E37 E38
  have E40 : Def P w K mg base CX0 1 "_law_tb_product" ["_law_one", "_law_other"] (spProd K) := dTbProductL (P := P) (w := w) (base := base) T 
  have E41 : Def P w K mg base CX0 6 "determinant" ["table"] (spDet K) := dDeterminant (P := P) (w := w) (base := base) T E12 E22
  have E42 : Def P w K mg base CX0 1 "_law_tb_determinant" ["_law_rows"] (spDetT K) := LT.dTbDeterminantL (P := P) (w := w) (base := base) T 
  have E43 : Def P w K mg base CX0 9 "_law_right" ["_law_bag_here"] (spRight K) := dRightL (P := P) (w := w) (base := base) T E1 E3 E7 E21 E35 E36 E39 E40 E41 E42
  have E44 : Def P w K mg base CX0 6 "_law_judged_right" ["_law_bag_here"] (spJudged K) := dJudgedRightL (P := P) (w := w) (base := base) T E3 E1 E11
  have E45 : Def P w K mg base CX0 10 "law" ["_law_script"] (spLaw K) := dLaw (P := P) (w := w) (base := base) T E0 E43 E44 E41 E35 E19 E39 E36
  exact E45
def dd (x : Str) (st : Stmt) : He.DefD := ⟨(x, none), x, x, defArgs st, defBody st, defScope st, [], []⟩
def fn : List He.DefD := [dd "is_whole" sIsWhole, dd "is_integer" sIsInteger, dd "_is_line" sIsLine, dd "is_table" sIsTable, dd "_need_table" sNeedTable, dd "_columns" sColumns, dd "table_product" sTableProduct, dd "_line_product" sLineProduct, dd "_lead_row" sLeadRow, dd "_stepped" sStepped, dd "_stairs" sStairs, dd "_begun_with" sBegunWith, dd "determinant" sDeterminant, dd "rank" sRank, dd "_kernel_row" sKernelRow, dd "_without_divisor" sWithoutDivisor, dd "kernel" sKernel, dd "bezout" sBezout, dd "mixed" sMixed, dd "_column_cleared" sColumnCleared, dd "_corner_cleared" sCornerCleared, dd "_lead_place" sLeadPlace, dd "_diagonal" sDiagonal, dd "_as_chain" sAsChain, dd "_divisors_within" sDivisorsWithin, dd "_square_divisors" sSquareDivisors, dd "elementary_divisors" sElementaryDivisors, dd "_law_bag" sBagL, dd "_law_grab" sGrabL, dd "_law_one_of" sOneOfL, dd "_law_tb_divisor" sTbDivisorL, dd "_law_tb_determinant" sTbDeterminantL, dd "_law_tb_choices" sTbChoicesL, dd "_law_tb_shares" sTbSharesL, dd "_law_tb_product" sTbProductL, dd "_law_tb_drawn" sTbDrawnL, dd "_law_is_echelon" sIsEchelonL, dd "_law_kernel_right" sKernelRightL, dd "_law_right" sRightL, dd "_law_judged_right" sJudgedRightL, dd "law" sLaw]
def fa : List He.Fa := [.glo "is_whole", .glo "is_integer", .glo "_is_line", .glo "is_table", .glo "_need_table", .glo "_columns", .glo "table_product", .glo "_line_product", .glo "_lead_row", .glo "_stepped", .glo "_stairs", .glo "_begun_with", .glo "determinant", .glo "rank", .glo "_kernel_row", .glo "_without_divisor", .glo "kernel", .glo "bezout", .glo "mixed", .glo "_column_cleared", .glo "_corner_cleared", .glo "_lead_place", .glo "_diagonal", .glo "_as_chain", .glo "_divisors_within", .glo "_square_divisors", .glo "elementary_divisors", .glo "_law_bag", .glo "_law_grab", .glo "_law_one_of", .glo "_law_tb_divisor", .glo "_law_tb_determinant", .glo "_law_tb_choices", .glo "_law_tb_shares", .glo "_law_tb_product", .glo "_law_tb_drawn", .glo "_law_is_echelon", .glo "_law_kernel_right", .glo "_law_right", .glo "_law_judged_right", .glo "law", .free "abs", .free "all", .free "any", .free "bool", .free "enumerate", .free "int", .free "isinstance", .free "len", .free "list", .free "max", .free "min", .free "range", .free "set", .free "sorted", .free "sum", .free "tuple", .free "zip", .int "_TOO_LONG" (10 ^ 60), .int "MAX_SIZE" (60)]
def ex (K : PySem.W.Frag) : Bool := He.eqO (PySem.W.nsIn K mainGlobals "gcd") (some (some (.builtin "math.gcd"))) && He.eqO (PySem.W.nsIn K mainGlobals "lcm") (some (some (.builtin "math.lcm")))
theorem tx {K : PySem.W.Frag} {h : Heap} {mg : Str → Option Value} (X : K.In h) (G : h.Ns mainGlobals mg) (c : He.SaysD fa fn K) (e : ex K = true) : Tx K mg := by
  obtain ⟨e0, e1⟩ := He.ba e
  exact {
    t_is_whole := ⟨c.def_ 0 rfl, He.glo_ok X G (c.fact 0 rfl)⟩
    t_is_integer := ⟨c.def_ 1 rfl, He.glo_ok X G (c.fact 1 rfl)⟩
    t_is_line := ⟨c.def_ 2 rfl, He.glo_ok X G (c.fact 2 rfl)⟩
    t_is_table := ⟨c.def_ 3 rfl, He.glo_ok X G (c.fact 3 rfl)⟩
    t_need_table := ⟨c.def_ 4 rfl, He.glo_ok X G (c.fact 4 rfl)⟩
    t_columns := ⟨c.def_ 5 rfl, He.glo_ok X G (c.fact 5 rfl)⟩
    t_table_product := ⟨c.def_ 6 rfl, He.glo_ok X G (c.fact 6 rfl)⟩
    t_line_product := ⟨c.def_ 7 rfl, He.glo_ok X G (c.fact 7 rfl)⟩
    t_lead_row := ⟨c.def_ 8 rfl, He.glo_ok X G (c.fact 8 rfl)⟩
    t_stepped := ⟨c.def_ 9 rfl, He.glo_ok X G (c.fact 9 rfl)⟩
    t_stairs := ⟨c.def_ 10 rfl, He.glo_ok X G (c.fact 10 rfl)⟩
    t_begun_with := ⟨c.def_ 11 rfl, He.glo_ok X G (c.fact 11 rfl)⟩
    t_determinant := ⟨c.def_ 12 rfl, He.glo_ok X G (c.fact 12 rfl)⟩
    t_rank := ⟨c.def_ 13 rfl, He.glo_ok X G (c.fact 13 rfl)⟩
    t_kernel_row := ⟨c.def_ 14 rfl, He.glo_ok X G (c.fact 14 rfl)⟩
    t_without_divisor := ⟨c.def_ 15 rfl, He.glo_ok X G (c.fact 15 rfl)⟩
    t_kernel := ⟨c.def_ 16 rfl, He.glo_ok X G (c.fact 16 rfl)⟩
    t_bezout := ⟨c.def_ 17 rfl, He.glo_ok X G (c.fact 17 rfl)⟩
    t_mixed := ⟨c.def_ 18 rfl, He.glo_ok X G (c.fact 18 rfl)⟩
    t_column_cleared := ⟨c.def_ 19 rfl, He.glo_ok X G (c.fact 19 rfl)⟩
    t_corner_cleared := ⟨c.def_ 20 rfl, He.glo_ok X G (c.fact 20 rfl)⟩
    t_lead_place := ⟨c.def_ 21 rfl, He.glo_ok X G (c.fact 21 rfl)⟩
    t_diagonal := ⟨c.def_ 22 rfl, He.glo_ok X G (c.fact 22 rfl)⟩
    t_as_chain := ⟨c.def_ 23 rfl, He.glo_ok X G (c.fact 23 rfl)⟩
    t_divisors_within := ⟨c.def_ 24 rfl, He.glo_ok X G (c.fact 24 rfl)⟩
    t_square_divisors := ⟨c.def_ 25 rfl, He.glo_ok X G (c.fact 25 rfl)⟩
    t_elementary_divisors := ⟨c.def_ 26 rfl, He.glo_ok X G (c.fact 26 rfl)⟩
    t_law_bag := ⟨c.def_ 27 rfl, He.glo_ok X G (c.fact 27 rfl)⟩
    t_law_grab := ⟨c.def_ 28 rfl, He.glo_ok X G (c.fact 28 rfl)⟩
    t_law_one_of := ⟨c.def_ 29 rfl, He.glo_ok X G (c.fact 29 rfl)⟩
    t_law_tb_divisor := ⟨c.def_ 30 rfl, He.glo_ok X G (c.fact 30 rfl)⟩
    t_law_tb_determinant := ⟨c.def_ 31 rfl, He.glo_ok X G (c.fact 31 rfl)⟩
    t_law_tb_choices := ⟨c.def_ 32 rfl, He.glo_ok X G (c.fact 32 rfl)⟩
    t_law_tb_shares := ⟨c.def_ 33 rfl, He.glo_ok X G (c.fact 33 rfl)⟩
    t_law_tb_product := ⟨c.def_ 34 rfl, He.glo_ok X G (c.fact 34 rfl)⟩
    t_law_tb_drawn := ⟨c.def_ 35 rfl, He.glo_ok X G (c.fact 35 rfl)⟩
    t_law_is_echelon := ⟨c.def_ 36 rfl, He.glo_ok X G (c.fact 36 rfl)⟩
    t_law_kernel_right := ⟨c.def_ 37 rfl, He.glo_ok X G (c.fact 37 rfl)⟩
    t_law_right := ⟨c.def_ 38 rfl, He.glo_ok X G (c.fact 38 rfl)⟩
    t_law_judged_right := ⟨c.def_ 39 rfl, He.glo_ok X G (c.fact 39 rfl)⟩
    t_law := ⟨c.def_ 40 rfl, He.glo_ok X G (c.fact 40 rfl)⟩
    f_abs := He.free_ok X G (c.fact 41 rfl)
    f_all := He.free_ok X G (c.fact 42 rfl)
    f_any := He.free_ok X G (c.fact 43 rfl)
    f_bool := He.free_ok X G (c.fact 44 rfl)
    f_enumerate := He.free_ok X G (c.fact 45 rfl)
    f_int := He.free_ok X G (c.fact 46 rfl)
    f_isinstance := He.free_ok X G (c.fact 47 rfl)
    f_len := He.free_ok X G (c.fact 48 rfl)
    f_list := He.free_ok X G (c.fact 49 rfl)
    f_max := He.free_ok X G (c.fact 50 rfl)
    f_min := He.free_ok X G (c.fact 51 rfl)
    f_range := He.free_ok X G (c.fact 52 rfl)
    f_set := He.free_ok X G (c.fact 53 rfl)
    f_sorted := He.free_ok X G (c.fact 54 rfl)
    f_sum := He.free_ok X G (c.fact 55 rfl)
    f_tuple := He.free_ok X G (c.fact 56 rfl)
    f_zip := He.free_ok X G (c.fact 57 rfl)
    c_TOO_LONG := by
      obtain ⟨t, e⟩ := He.int_ok X G (c.fact 58 rfl)
      exact ⟨_, e, t, rfl⟩
    c_MAX_SIZE := by
      obtain ⟨t, e⟩ := He.int_ok X G (c.fact 59 rfl)
      exact ⟨_, e, t, rfl⟩
    b_gcd := PySem.W.mg_of X G (He.eqO_ok e0)
    b_lcm := PySem.W.mg_of X G (He.eqO_ok e1)
    }
abbrev R : PySem.W.OpenRow := PySem.W.OpenLaw.row PySem.Challenge.rw_movemarks_k02_whole_tables
theorem law_ends {P : Program} {w : World} {K : PySem.W.Frag} {h : Heap} {mg : Str → Option Value} {f : Addr} (X : K.In h) (G : h.Ns mainGlobals mg) (hfa : mg ("law" : Str) = some (.ref f)) (c : He.SaysD fa fn K) (e : ex K = true) :
    ∃ fd : FuncData, (∀ (s : Shared) (v : Value), BindsTo s fd ⟨[v], []⟩ [("_law_script", v)]) ∧ ∀ base : Heap, K.In base → base.Ns mainGlobals mg → FnG P w K mg base CX0 10 f fd ["_law_script"] (spLaw K) := by
  have T : Tx K mg := tx X G c e
  obtain ⟨fd, F⟩ := T.t_law.fn
  have b := FunD.bindsA (ps := ["_law_script"]) F fun _ _ _ _ _ _ us hl => match us, hl with | [_], _ => rfl
  refine ⟨fd, fun s v => b s [v] rfl, fun base _ _ => ?_⟩
  obtain ⟨oc, od, _, _, _, _, _, _, _, osl, _, lk, _⟩ := F.ex
  obtain ⟨f2, fd2, F2, hm, _, _, oc2, od2, sl2, lk2⟩ := law_def (P := P) (w := w) (base := base) T
  have e1 : f2 = f := by
    rw [hfa] at hm
    injection hm with hm
    injection hm with hm
    exact hm.symm
  have e2 : He.ga K "law" = f := by
    have g := T.t_law.glo
    rw [hfa] at g
    injection g with g
    injection g with g
    exact g.symm
  subst e1
  rw [e2] at lk
  rw [lk] at lk2
  injection lk2 with lk2
  injection lk2 with z1 z2 z3 z4
  injection z3 with z3
  subst z3
  exact F2
abbrev hk : PySem.W.Hook := He.hookX 4 fa fn [] [] ex
def ob (s : PySem.W.SharedT) : He.AlX := He.obsX 4 fa fn [] [] ex (HandSHeadRun.getT s)
theorem ob_eq (s : PySem.W.SharedT) : ob s = hk.obs s.abs := He.obsX_eq (HandSHeadRun.getT_eq s)
def names : List PySem.Str := (["MarkError", "InvalidTable", "InvalidOperation", "_TOO_LONG", "is_whole", "is_integer", "MAX_SIZE", "_is_line", "is_table", "_need_table", "_columns", "table_product", "_line_product", "_lead_row", "_stepped", "_stairs", "_begun_with", "determinant", "rank", "_kernel_row", "_without_divisor", "kernel", "bezout", "mixed", "_column_cleared", "_corner_cleared", "_lead_place", "_diagonal", "_as_chain", "_divisors_within", "_square_divisors", "elementary_divisors", "_law_bag", "_law_grab", "_law_one_of", "_law_tb_divisor", "_law_tb_determinant", "_law_tb_choices", "_law_tb_shares", "_law_tb_product", "_law_tb_drawn", "_law_is_echelon", "_law_kernel_right", "_law_right", "_law_judged_right"] : List String).map PySem.Str.ofString
end K02

set_option Elab.async false
set_option linter.all false
set_option maxRecDepth 100000
set_option maxHeartbeats 0
namespace K02
open PySem PySem.Spec PyProof.Rows L2 MM
theorem run (w : World) : HandSHeadRun.RunEqI R (PySem.W.view R.prog [0, 50]) hk ob 3000 names w := by
  unfold HandSHeadRun.RunEqI
  kernel_rfl
end K02
open PySem PySem.W PySem.Calls PyProof.Rows
theorem PySem.Challenge.cw_movemarks_k02_whole_tables_holds : PySem.Challenge.rw_movemarks_k02_whole_tables.Holds := by
  w_on; o_law
  refine HandSHeadRun.head_imp (r := OpenLaw.row PySem.Challenge.rw_movemarks_k02_whole_tables) (q := view (OpenLaw.row PySem.Challenge.rw_movemarks_k02_whole_tables).prog [0, 50]) (H := K02.hk) (ob := K02.ob) (M := 3000) (loose := K02.names)
    (d := HandSHeadRun.topDef (OpenLaw.row PySem.Challenge.rw_movemarks_k02_whole_tables).prog 50) (kwd := []) K02.ob_eq K02.run (by kernel_rfl) (by kernel_rfl) (by kernel_rfl) (by rfl) (by first | assumption | decide +kernel) (by decide +kernel) ⟨rfl, rfl, rfl, rfl, rfl, by decide +kernel⟩ ?hw ?hc
  case hw => w_witness2
  case hc =>
    refine MM.walk_g (l := PySem.Challenge.rw_movemarks_k02_whole_tables) (n := 63) (k := 10) (x := "_law_script") (CX := L2.CX0) rfl (by decide) (by kernel_rfl) ⟨⟨rfl, by decide, by decide⟩, rfl⟩ ?F (fun _ _ _ _ z => z)
    intro w mg fa h Y G hmg0
    obtain ⟨K, KX, c⟩ := Y
    have hmg : mg ("law" : PySem.Str) = some (.ref fa) := by
      have e : (HandSHeadRun.topDef (OpenLaw.row PySem.Challenge.rw_movemarks_k02_whole_tables).prog 50).name = ("law" : PySem.Str) := by kernel_rfl
      rw [← e]
      exact hmg0
    obtain ⟨fd, hb, hF⟩ := K02.law_ends (P := (PySem.Challenge.rw_movemarks_k02_whole_tables).prog) (w := w) KX G hmg c.t.d c.more
    exact ⟨K, fd, K02.spLaw K, KX, hb, fun H a ns hl hS => ⟨a, ns, rfl, hS, by omega, fun _ => rfl⟩, hF⟩
