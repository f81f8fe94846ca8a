import PyProof.Rows.All
import Wide.All
import OpenK.AllK
import Wide.FinOn
import HandS.ForMost
import HandS.Exc
import HandS.Defaults
import HandS.More
import HandS.Flow
import HandS.Wide
import HandS.IsInst
import HandS.Codes
import HandS.Conv
import HandS.SortInts
import HandS.TupAny
import HandS.TupMul
import HandS.DictComp
import HandS.Style
import HandS.Small
import PyProof.ReprRoads
import HandS.HeadHook1
import HandS.HeadHook2
import HandS.HeadHook3
import HandS.HeadHook4
import HandS.Gcd
import PyProof.Rows.RuleB_pow
import KE.GoesEnum
import HandS.Iter
import HandS.Set
import HandS.SetFor
import HandS.Strs
import KE.SortKeyHeap
import HandS.SortKw
import HandS.Zip
import HandS.TryOnly
import HandS.Head0
import HandS.Head1
import HandS.Head2
import HandS.Head3
import HandS.Head4
import HandS.HeadEnd
import KE.KStateDown
import PySem.Challenge.RW_movemarks_k05_whole_turned_moves
set_option Elab.async false
set_option maxRecDepth 100000
set_option maxHeartbeats 2000000
set_option linter.all false
namespace MM
open PySem PySem.Spec PyProof.Rows L2

/-! room, with nothing under way that is being shown -/
structure Rm (k : Nat) (A : Around) : Prop where
  room : Room k A
  still : A.guards = some []
theorem Rm.le {j k : Nat} {A : Around} (h : Rm k A) (le : j ≤ k) : Rm j A := ⟨h.room.mono le, h.still⟩
theorem Rm.down {k : Nat} {A : Around} {v : Env} (h : Rm (k + 1) A) : Rm k (A.deeper v) := ⟨h.room.deeper v, h.still⟩
theorem Rm.hu {k : Nat} {A : Around} (h : Rm k A) : A.units + 64 < cLine := h.room.units
theorem Rm.hu66 {k : Nat} {A : Around} (h : Rm k A) : A.units + 66 < cLine := by have := h.room.un; omega
theorem Rm.hu1 {k : Nat} {A : Around} (h : Rm k A) : A.units + 1 < cLine := by have := h.room.un; omega

/-- a def keeps its promise wherever nothing is being shown -/
structure FnG (P : Program) (w : World) (K : PySem.W.Frag) (mg : Str → Option Value) (base : Heap)
    (CX : CXT) (k : Nat) (f : Addr) (fd : FuncData) (ps : List Str) (sp : Sp) : Prop where
  arity : ∀ {vs H Q E}, sp vs H Q E → vs.length = ps.length
  runs : ∀ {A : Around} {out : List Env} {s : Shared} {H : Hp} {ar : Args} {us : List Value} {vs : List V} {Q : VK} {E : XK},
    Rm k A → Env0 P w K mg base A out s H → BindsTo s fd ar (ps.zip us) → Vals vs us → sp vs H Q E →
      codeAny (model P w) A (.call (.ref f) ar) (CR CX out P w H s Q E) s

section
variable {P : Program} {w : World} {K : PySem.W.Frag} {mg : Str → Option Value} {base : Heap} {CX : CXT}
  {j k : Nat} {f : Addr} {fd : FuncData} {ps : List Str} {sp : Sp}
theorem FnG.le (F : FnG P w K mg base CX j f fd ps sp) (h : j ≤ k) : FnG P w K mg base CX k f fd ps sp :=
  ⟨F.arity, fun r => F.runs (r.le h)⟩
theorem FnG.of (F : FnOk P w K mg base CX k f fd ps sp) : FnG P w K mg base CX k f fd ps sp :=
  ⟨fun h => F.len _ _ _ _ h, fun r e b v h => F.run _ _ _ _ _ _ _ _ _ r.room e b v h⟩

/-- by its body -/
theorem FnG.body {x qual : Str} {pa : Arguments} {bd : List Stmt} {sc : Scope} {N : List Str}
    (F : FunD K x qual pa bd sc [] [] f fd) (S : FnScope N ps sc)
    (arity : ∀ vs H Q E, sp vs H Q E → vs.length = ps.length)
    (hb : ∀ (cd : Value) (A : Around) (out : List Env) (s : Shared) (H : Hp) (vs : List V) (Q : VK) (E : XK),
      Rm k (A.deeper (envOfC qual sc s.heap.objs.size f cd)) → sp vs H Q E →
      ∃ t, PSs (cxOf CX P w K mg base N qual sc f cd A out s H E) bd t ∧
        t { nx := fun _ H' => Q .non H', rt := Q } (start N vs) H) :
    FnG P w K mg base CX (k + 1) f fd ps sp := by
  obtain ⟨oc, od, dV, kV, doc, pm, an, cd, ct, osl, rfl, lk, hcd, _, _⟩ := F.ex
  refine ⟨fun h => arity _ _ _ _ h, ?_⟩
  intro A out s H ar us vs Q E hr e0 hbd hv h
  have nv := arity _ _ _ _ h
  have inK : K.In s.heap := e0.mod.kin.keeps (fun b o e => (e0.bs b o e).1)
  have nl : s.heap.NoLimit := e0.mod.nolimit.keeps (fun b o e => (e0.bs b o e).1)
  have kd : ∀ y ∈ ps.zip us, sc.names.lookup y.1 = some .local ∨
      (sc.names.lookup y.1 = some .cell ∧ ((cellsFrom (s.heap.objs.size + 1) sc.names []).lookup y.1).isSome = true) := by
    rintro ⟨n, v⟩ hy
    cases S.par n (List.of_mem_zip hy).1 with
    | inl q => exact .inl q
    | inr q => exact .inr ⟨q, PySem.W.cellsFrom_some _ _ _ (.inl q)⟩
  refine codeAny_call_function hr.room.depth (inK _ _ lk) rfl S.co S.gen rfl (PySem.W.codeRec_of inK hcd) (hbd _ _ _ _ ?_)
  refine wpAny_newFunctionEnv_cells S.kind kd (fun env he s1 xc => ?_)
  subst he
  refine ⟨nl.keeps xc.toInCall.keep, codeAny_func ?_⟩
  obtain ⟨t, ht, hq⟩ := hb cd A out s H vs Q E hr.down h
  have I := inv_start (CX := CX) (P := P) (w := w) (qual := qual) (cd := cd) (f := f) (E := E) S hr.room.hd e0 nv hv xc
  refine wpAny_mono (ht.run [] s1 (start N vs) H _ I hq) (fun fl s' hs => ?_) (fun e s' hs => hs)
  cases fl with
  | ret u =>
    obtain ⟨v, σ', H', J, rv, q⟩ := hs
    exact ⟨v, H', J.os, J.bare, J.base, J.hok, rv, q⟩
  | next =>
    obtain ⟨σ', H', J, q⟩ := hs
    exact ⟨.non, H', J.os, J.bare, J.base, J.hok, rfl, q⟩
  | brk =>
    obtain ⟨_, _, _, q⟩ := hs
    exact q.elim
  | cont =>
    obtain ⟨_, _, _, q⟩ := hs
    exact q.elim
end

section
variable {X : Cx} {CX : CXT} {k : Nat} {f : Addr} {fd : FuncData} {ps : List Str} {sp : Sp} {E : XK}
  {x : Str} {p pos : Pos} {e : Expr} {es : List Expr} {t : TA}
theorem call_g {pins : List (Addr × Obj)} {σ : L2.St} {H : Hp} {s : Shared} {Q : VK} {us : List Value} {vs : List V}
    (F : FnG X.prog X.w X.K X.mg X.base CX k f fd ps sp) (hr : Rm k X.A) (hb : Binds X.K fd ps [])
    (hx : Passes CX X E) (I : Inv X pins σ H s) (r : Vals vs us) (h : sp vs H Q E) :
    wpAny (model X.prog X.w) X.A (call (.ref f) us) (EP X pins σ Q) X.xe s := by
  have nl : (us ++ []).length = ps.length := by
    rw [List.append_nil, ← r.length]
    exact F.arity h
  have bd := hb s us I.kIn nl
  rw [List.append_nil] at bd
  refine wpAny_call (codeAny_mono (F.runs hr I.env0 bd r h) ?_)
  intro res s' hq
  cases res with
  | error e => exact hx pins σ H s e s' I hq
  | ok fl =>
    cases fl with
    | ret u => exact I.after hq
    | next => exact hq.elim
    | brk => exact hq.elim
    | cont => exact hq.elim
/-- f(e, ..), f a def of the text -/
theorem pe_g (F : FnG X.prog X.w X.K X.mg X.base CX k f fd ps sp) (hr : Rm k X.A) (hm : X.mg x = some (.ref f))
    (hk : PySem.W.keepIn X.K (.ref f) = true) (hb : Binds X.K fd ps []) (hx : Passes CX X E) (ha : PA X (e :: es) t) (hg : Gl X x := by rfl)
    (hdb : (x == ("__debug__" : Str)) = false := by decide)
    (he : starEach (e :: es) X.env = (false, eval e X.env) :: starEach es X.env := by rfl)
    (hpl : (backTo pos (starEach es X.env)).any (·.1) = false := by rfl) :
    PE X (.Call (.Name x p) (e :: es) [] pos) (fun σ H Q => t σ H fun vs H1 => sp vs H1 Q E) := by
  constructor
  intro pins s σ H Q I h
  refine wpAny_Call_Name_kw (ld_glob I hg hm ?_ hdb)
  refine PySem.W.callWith_K (h₀ := X.base) I.ok.mod.kin hk ?_ he hpl
  exact thn (ha.run pos pins s σ H _ I h) fun us s1 ⟨vs, H1, I1, r, q⟩ => ⟨I1.kIn, call_g F hr hb hx I1 r q⟩
end

/-! the law's own end: its def is called where nothing is under way -/
section
variable {P : Program} {w : World} {K : PySem.W.Frag} {mg mb : Str → Option Value} {CX : CXT} {k : Nat} {fa a : Addr}
  {fd : FuncData} {x : Str} {sp : Sp} {s : Shared} {vs : List Value} {ns : List Int}
/-- the goal behind the call -/
def LawEnd (s : Shared) (r : Result) (t : Shared) : Prop :=
  r = .ok (.ret (.bool true)) ∧ OldK s.heap t.heap ∧ t.os = s.os ∧ AllBare t.gens
theorem law_core {H : Hp}
    (KX : K.In s.heap) (hns : s.heap.Ns mainGlobals mg) (hb : s.heap.Ns builtinsNs mb)
    (hbb : ∀ y : Str, y ≠ "__name__" → mb y = bootBuiltins y) (nl : s.heap.NoLimit) (hg : s.gens = #[])
    (ha : s.heap.get? a = some { cls := .type "list", data := .seq vs.toArray }) (hr : Rm k callerA)
    (F : ∀ base : Heap, K.In base → base.Ns mainGlobals mg → FnG P w K mg base CX k fa fd [x] sp)
    (hbind : ∀ (s : Shared) (u : Value), BindsTo s fd ⟨[u], []⟩ [(x, u)])
    (hsp : sp [.ref a] H (fun v _ => v = .bl true) fun _ _ _ => False)
    (hCX : ∀ e s', CX [] H s (fun _ _ _ => False) e s' → False)
    (only : Only H) (ok : HOk P w H s.heap) (at_a : ∀ b, H b ≠ none → b = a) (out : H a ≠ none → K.lookup a = none) :
    codeAny (model P w) callerA (.call (.ref fa) ⟨[.ref a], []⟩) (LawEnd s) s := by
  have ne_a : ∀ {b : Addr} {o : Obj}, s.heap.get? b = some o → (∀ y n, o.data ≠ .seq y n) → H b = none := by
    intro b o e no
    by_cases hb : H b = none
    · exact hb
    · rw [at_a b hb, ha] at e
      exact absurd (congrArg Obj.data (Option.some.inj e)).symm (no _ _)
  have sees : ∀ {b : Addr} {m : Str → Option Value}, s.heap.Ns b m → (hidT s.heap H).Ns b m := by
    rintro b m ⟨o, es, ep, e, d, r⟩
    refine ⟨o, es, ep, hidT_get e (ne_a e ?_), d, r⟩
    intro y n z
    rw [d] at z
    cases z
  have inB : K.In (hidT s.heap H) := by
    intro b o e
    refine hidT_get (KX b o e) ?_
    by_cases hb : H b = none
    · exact hb
    · have eb := at_a b hb
      subst eb
      rw [out hb] at e
      cases e
  obtain ⟨mc, l1, l2⟩ := nl
  have md : Mod K mg (hidT s.heap H) := ⟨inB, sees hns, ⟨mb, sees hb, hbb⟩, ⟨mc, sees l1, l2⟩⟩
  have e0 : Env0 P w K mg (hidT s.heap H) callerA [] s H := by
    refine ⟨rfl, md, fun b o e => of_hidT e, Nat.le_of_eq (hidT_size _ _), trivial, ?_, ok, .of_eq hg⟩
    intro b z
    cases z
  have vv : Vals [V.ref a] [Value.ref a] := .cons rfl .nil
  refine codeAny_mono ((F _ inB (sees hns)).runs (us := [.ref a]) hr e0 (hbind s (.ref a)) vv hsp) ?_
  intro r t h
  cases r with
  | error e => exact (hCX e t h).elim
  | ok fl =>
    cases fl with
    | next => exact h.elim
    | brk => exact h.elim
    | cont => exact h.elim
    | ret u =>
      obtain ⟨v, H', os, bare, un, ok', rv, q⟩ := h
      have q2 : v = .bl true := q
      subst q2
      have eu : u = Value.bool true := rv
      subst eu
      refine ⟨rfl, OldK.of_keep ?_, os, bare⟩
      intro b o e
      cases hb : H b with
      | none => exact un.keep b o e hb (by intro z; cases z) (by intro z; cases z)
      | some y =>
        cases only b with
        | inl z => exact absurd (hb.symm.trans z) (by intro z; cases z)
        | inr z =>
          obtain ⟨ob, xs, z⟩ := z
          have e1 := (ok b _ z).1
          have e2 := (ok' b _ (un.frzs b ob _ z)).1
          rw [e] at e1
          cases e1
          exact e2
theorem law_g
    (KX : K.In s.heap) (hns : s.heap.Ns mainGlobals mg) (hb : s.heap.Ns builtinsNs mb)
    (hbb : ∀ y : Str, y ≠ "__name__" → mb y = bootBuiltins y) (nl : s.heap.NoLimit) (hg : s.gens = #[])
    (ha : s.heap.get? a = some { cls := .type "list", data := .seq vs.toArray }) (hi : IntsAre vs ns) (hl : ns.length ≤ sizeLine)
    (hr : Rm k callerA)
    (F : ∀ base : Heap, K.In base → base.Ns mainGlobals mg → FnG P w K mg base CX k fa fd [x] sp)
    (hbind : ∀ (s : Shared) (u : Value), BindsTo s fd ⟨[u], []⟩ [(x, u)])
    (hsp : ∀ H : Hp, Only H → SqL K H a (ns.map V.int) → sp [.ref a] H (fun v _ => v = .bl true) fun _ _ _ => False)
    (hCX : ∀ H e s', CX [] H s (fun _ _ _ => False) e s' → False) :
    codeAny (model P w) callerA (.call (.ref fa) ⟨[.ref a], []⟩) (LawEnd s) s := by
  have rv := vals_ints hi
  have nv := hi.length
  cases free : K.lookup a with
  | some o =>
    have e := KX a o free
    rw [ha] at e
    cases e
    have only : Only (fun _ => none) := fun _ => .inl rfl
    refine law_core KX hns hb hbb nl hg ha hr F hbind (hsp _ only (.inr ⟨_, vs.toArray, _, free, rfl, rfl, rfl, ?_, by simpa using rv⟩))
      (hCX _) only (fun b u z => nomatch (show (none : Option HO) = some u from z)) (fun b z => absurd rfl z) (fun z => absurd rfl z)
    rw [List.size_toArray, nv]
    exact hl
  | none =>
    have only : Only (fun b => if b = a then some (.frz { cls := .type "list", data := .seq vs.toArray } (.lst (ns.map V.int))) else none) := by
      intro b
      by_cases e : b = a
      · exact .inr ⟨_, _, if_pos e⟩
      · exact .inl (if_neg e)
    refine law_core KX hns hb hbb nl hg ha hr F hbind (hsp _ only (.inl (.inr ⟨_, if_pos rfl⟩))) (hCX _) only ?_ ?_ (fun _ => free)
    · intro b u z
      by_cases e : b = a
      · have z1 := (if_pos e).symm.trans z
        cases z1
        subst e
        refine ⟨ha, ?_, vs, _, rv, ha⟩
        rw [List.length_map]
        exact hl
      · have z1 := (if_neg e).symm.trans z
        cases z1
    · intro b z
      by_cases e : b = a
      · exact e
      · exact absurd (if_neg e) z
end
/-- the head's end: what is known behind the top gives the law's promise -/
theorem walk_g {l : PySem.W.OpenLaw} {n k : Nat} {q : Program} {loose : List Str} {XP : (Str → Option Value) → Heap → Prop}
    {YP : World → Heap → Prop} {d : DefRec} {CX : CXT} {x : Str}
    (hn : l.most = some n) (hn2 : n ≤ sizeLine) (hdf : d.params.defaults = []) (hr : Rm k callerA)
    (F : ∀ (w : World) (mg : Str → Option Value) (fa : Addr) (h : Heap), YP w h → h.Ns mainGlobals mg → mg d.name = some (.ref fa) →
      ∃ (K : PySem.W.Frag) (fd : FuncData) (sp : Sp), K.In h ∧ (∀ (s : Shared) (u : Value), BindsTo s fd ⟨[u], []⟩ [(x, u)]) ∧
        (∀ (H : Hp) (a : Addr) (ns : List Int), ns.length ≤ n → SqL K H a (ns.map V.int) →
          sp [.ref a] H (fun v _ => v = .bl true) fun _ _ _ => False) ∧
        ∀ base : Heap, K.In base → base.Ns mainGlobals mg → FnG l.prog w K mg base CX k fa fd [x] sp)
    (hCX : ∀ (H : Hp) (s : Shared) (e : Value) (s' : Shared), CX [] H s (fun _ _ _ => False) e s' → False) :
    PySem.W.WalkO q loose XP YP l.row.toRowW d [] (fun f vs => PySem.call f vs) := by
  refine Att.attach_call hn hdf ?_
  intro w s0 s1 mg mb fa o pm cd doc a vs ns G Y ho hd hcd hmg hobj hints hlen hg
  obtain ⟨K, fd, sp, KX, hb, hsp, hF⟩ := F w mg fa _ Y G.T.g hmg
  exact law_g KX G.T.g G.T.b G.T.builtins G.T.nolimit hg hobj hints (Nat.le_trans hlen hn2) hr hF hb
    (fun H _ hS => hsp H a ns hlen hS) (fun H e s' => hCX H s1 e s')
end MM

set_option Elab.async false
set_option maxRecDepth 100000
set_option maxHeartbeats 2000000
set_option linter.all false
namespace MM
open PySem PySem.Spec PyProof.Rows L2

/-! a def of the text under its name -/
def Def (P : Program) (w : World) (K : PySem.W.Frag) (mg : Str → Option Value) (base : Heap) (CX : CXT) (k : Nat) (x : Str) (ps : List Str) (sp : Sp) : Prop :=
  ∃ f fd, FnG P w K mg base CX k f fd ps sp ∧ mg x = some (.ref f) ∧ PySem.W.keepIn K (.ref f) = true ∧ L2.Binds K fd ps [] ∧ ∃ oc od sl, K.lookup f = some ⟨oc, od, .func fd, sl⟩
/-- a def of the text as it stands behind the top -/
structure At (K : PySem.W.Frag) (mg : Str → Option Value) (x : Str) (st : Stmt) : Prop where
  fn : ∃ fd, FunD K x x (defArgs st) (defBody st) (defScope st) [] [] (He.ga K x) fd
  glo : mg x = some (.ref (He.ga K x))
section
variable {P : Program} {w : World} {K : PySem.W.Frag} {mg : Str → Option Value} {base : Heap} {CX : CXT} {j k : Nat} {x : Str} {ps : List Str} {sp : Sp} {st : Stmt}
theorem Def.le (D : Def P w K mg base CX j x ps sp) (h : j ≤ k) : Def P w K mg base CX k x ps sp :=
  let ⟨f, fd, F, r⟩ := D
  ⟨f, fd, F.le h, r⟩
theorem At.defX {N : List Str} (T : At K mg x st) (S : FnScope N ps (defScope st))
    (hb : ∀ (kV doc pm : Value) (an : Option Addr) (cd ct : Value) (us : List Value), us.length = ps.length →
      bindArgs (PySem.W.fnOf x x (defArgs st) (defBody st) (defScope st) .none kV doc pm an cd ct) ⟨us, []⟩ = pure (ps.zip us))
    (arity : ∀ vs H Q E, sp vs H Q E → vs.length = ps.length)
    (body : ∀ (f : Addr) (cd : Value) (A : Around) (out : List Env) (s : Shared) (H : Hp) (vs : List V) (Q : VK) (E : XK),
      Rm k (A.deeper (envOfC x (defScope st) s.heap.objs.size f cd)) → sp vs H Q E →
      ∃ t, PSs (cxOf CX P w K mg base N x (defScope st) f cd A out s H E) (defBody st) t ∧
        t { nx := fun _ H' => Q .non H', rt := Q } (start N vs) H) : Def P w K mg base CX (k + 1) x ps sp := by
  obtain ⟨fd, F⟩ := T.fn
  obtain ⟨oc, od, _, _, _, _, _, _, _, osl, _, lk, _⟩ := F.ex
  exact ⟨_, fd, FnG.body F S arity (body _), T.glo, F.kp, F.bindsN hb, oc, od, osl, lk⟩
/-- the same for a def that nothing leaves -/
theorem At.def_ {N : List Str} (T : At K mg x st) (S : FnScope N ps (defScope st))
    (hb : ∀ (kV doc pm : Value) (an : Option Addr) (cd ct : Value) (us : List Value), us.length = ps.length →
      bindArgs (PySem.W.fnOf x x (defArgs st) (defBody st) (defScope st) .none kV doc pm an cd ct) ⟨us, []⟩ = pure (ps.zip us))
    (arity : ∀ vs H Q E, sp vs H Q E → vs.length = ps.length)
    (body : ∀ (f : Addr) (cd : Value) (A : Around) (out : List Env) (s : Shared) (H : Hp) (vs : List V) (Q : VK) (E : XK),
      Rm k (A.deeper (envOfC x (defScope st) s.heap.objs.size f cd)) → sp vs H Q E →
      ∃ t, PSs (cxOf CX P w K mg base N x (defScope st) f cd A out s H E).nox (defBody st) t ∧
        t { nx := fun _ H' => Q .non H', rt := Q } (start N vs) H) : Def P w K mg base CX (k + 1) x ps sp := by
  refine T.defX S hb arity (fun f cd A out s H vs Q E hr h => ?_)
  obtain ⟨t, d, q⟩ := body f cd A out s H vs Q E hr h
  exact ⟨t, d.nox, q⟩
end
section
variable {X : Cx} {CX : CXT} {k : Nat} {ps : List Str} {sp : Sp} {E : XK} {x : Str} {p pos : Pos} {e : Expr} {es : List Expr} {t : TA}
/-- f(e, ..) -/
def tD (sp : Sp) (E : XK) (t : TA) : TE := fun σ H Q => t σ H fun vs H1 => sp vs H1 Q E
theorem pe_d (D : Def X.prog X.w X.K X.mg X.base CX k x ps sp) (hr : Rm k X.A) (hx : Passes CX X E) (ha : PA X (e :: es) t) (hg : Gl X x := by rfl)
    (hdb : (x == ("__debug__" : Str)) = false := by decide)
    (he : starEach (e :: es) X.env = (false, eval e X.env) :: starEach es X.env := by rfl)
    (hpl : (backTo pos (starEach es X.env)).any (·.1) = false := by rfl) : PE X (.Call (.Name x p) (e :: es) [] pos) (tD sp E t) := by
  obtain ⟨f, fd, F, hm, hk, hb, _⟩ := D
  exact pe_g F hr hm hk hb hx ha hg hdb he hpl
end

/-! tests whose answer is known -/
theorem ifT {c : Bool} {A B : Prop} (h : c = true) (a : A) : if c = true then A else B := by
  rw [if_pos h]
  exact a
theorem ifF {c : Bool} {A B : Prop} (h : c = false) (b : B) : if c = true then A else B := by
  rw [h, if_neg Bool.false_ne_true]
  exact b
theorem dInt (a b : Int) : decide (V.int a = V.int b) = decide (a = b) := by
  by_cases e : a = b
  · rw [e, decide_eq_true rfl, decide_eq_true rfl]
  · rw [decide_eq_false e, decide_eq_false (fun z => e (V.int.inj z))]
/-! more rules by values -/
section
variable {X : Cx}
/-- ** of great numbers -/
def CPw (i j : Int) : Prop := 0 ≤ j ∧ (Builtin.Int.intBits i : Int) * j ≤ 2 ^ 27
instance (i j : Int) : Decidable (CPw i j) := inferInstanceAs (Decidable (_ ∧ _))
instance (i j : Int) : Decidable (CDivW i j) := inferInstanceAs (Decidable (_ ∧ _))
theorem op_pw : OpR X (binaryOp .Pow) (rI CPw fun i j => .int (i ^ j.toNat)) := opI fun _ _ _ _ _ _ _ hc q => pow_int hc.1 hc.2 q
/-- repr of data -/
def rRepr (K : PySem.W.Frag) : List V → Hp → VK → Prop := fun xs H Q =>
  ∃ x d, xs = [x] ∧ Dp K H x d ∧ SeqAt.shaped d = true ∧ d.showable = true ∧ d.shown.length ≤ sizeLine ∧ Q (.str d.shown) H
theorem cr_repr (hg : X.A.guards = some []) (hu : X.A.units + 66 < cLine) : CallR X (.builtin "repr") (rRepr X.K) := by
  intro pins s σ H xs us Q I r h
  obtain ⟨x, d, rfl, hd, hs, hw, hz, q⟩ := h
  obtain ⟨u, rfl, ru⟩ := vals1 r
  have hdep := SeqAt.depth_of_shaped hs
  have hno := PyData.hasDict_of_canLay d (SeqAt.canLay_of_shaped hs)
  obtain ⟨as, rd⟩ := Dp.reads I d x u hd ru
  have fin : ∀ (h' : Heap) (z : Tok) (tk : Nat), (∀ b o, s.heap.get? b = some o → h'.get? b = some o) →
      EP X pins σ Q (.str d.shown z) { s with heap := h', toks := tk } := fun h' z tk hk => ⟨.str _, H, I.kept hk, ⟨_, rfl⟩, q⟩
  cases hd with
  | non =>
    cases ru
    exact PySem.P.repr_of_none (fin s.heap _ _ fun _ _ e => e)
  | bl b =>
    cases ru
    exact PySem.P.repr_of_bool (fin s.heap _ _ fun _ _ e => e)
  | int i =>
    obtain ⟨t, rfl⟩ := ru
    exact PySem.P.repr_of_int (of_decide_eq_true hw) (fin s.heap _ _ fun _ _ e => e)
  | str z =>
    obtain ⟨t, rfl⟩ := ru
    exact PySem.P.repr_of_str (fin s.heap _ _ fun _ _ e => e) hz
  | lst h1 h2 =>
    cases ru
    exact repr_of_reads' rd hw (PyData.noDict_hsm hno) hg (by omega) (fun _ _ e => e) (fun h' z tk hk => fin h' z tk hk) hz
  | tup h1 h2 =>
    cases ru
    exact repr_of_reads' rd hw (PyData.noDict_hsm hno) hg (by omega) (fun _ _ e => e) (fun h' z tk hk => fin h' z tk hk) hz
end
end MM

set_option Elab.async false
set_option maxRecDepth 100000
set_option maxHeartbeats 2000000
set_option linter.all false
namespace MM
open PySem PySem.Spec PyProof.Rows L2
/-! what kind a value is of -/
inductive Kn where
  | non | bl | int | str | lst | tup | dct
def Kn.name : Kn → String
  | .non => "NoneType"
  | .bl => "bool"
  | .int => "int"
  | .str => "str"
  | .lst => "list"
  | .tup => "tuple"
  | .dct => "dict"
def Kn.isa : Kn → Kn → Bool
  | .bl, .int => true
  | .non, .non => true
  | .bl, .bl => true
  | .int, .int => true
  | .str, .str => true
  | .lst, .lst => true
  | .tup, .tup => true
  | .dct, .dct => true
  | _, _ => false
theorem Kn.isa_ok (n m : Kn) : kitB n.name m.name = some (n.isa m) := by cases n <;> cases m <;> decide +kernel
inductive Kd (K : PySem.W.Frag) (H : Hp) : V → Kn → Prop where
  | non : Kd K H .non .non
  | bl (b : Bool) : Kd K H (.bl b) .bl
  | int (i : Int) : Kd K H (.int i) .int
  | str (z : Str) : Kd K H (.str z) .str
  | lst {a : Addr} {xs : List V} (h : SqL K H a xs) : Kd K H (.ref a) .lst
  | tup {a : Addr} {xs : List V} (h : SqT K H a xs) : Kd K H (.ref a) .tup
  | dct {a : Addr} {kvs : List (Key × V)} (h : H a = some (.dK kvs)) : Kd K H (.ref a) .dct
theorem Kd.ty {K : PySem.W.Frag} {H : Hp} {x : V} {n : Kn} (h : Kd K H x n) : TyX K H x (.type n.name) := by
  cases h with
  | non => exact .base .non
  | bl b => exact .base (.bl b)
  | int i => exact .base (.int i)
  | str z => exact .base (.str z)
  | lst h =>
    rcases h with (h | ⟨o, h⟩) | ⟨o, its, k, h, c, _⟩
    · exact .base (.lst h)
    · exact .base (.frz h)
    · exact .kList h c
  | tup h =>
    rcases h with h | h
    · rcases h with h | ⟨o, h⟩
      · exact .base (.tup h)
      · exact .fTuple h
    · obtain ⟨o, its, k, h, c, _⟩ := h
      exact .kTuple h c
  | dct h => exact .base (.dK h)
/-- an int, and no bool -/
def isW : V → Bool
  | .int _ => true
  | _ => false
section
variable {X : Cx}
def rIs (K : PySem.W.Frag) (m : Kn) : List V → Hp → VK → Prop := fun xs H Q => ∃ x n, xs = [x, .ty m.name] ∧ Kd K H x n ∧ Q (.bl (n.isa m)) H
theorem cr_is (m : Kn) : CallR X (.builtin "isinstance") (rIs X.K m) := by
  intro pins s σ H xs us Q I r h
  obtain ⟨x, n, rfl, hk, q⟩ := h
  exact call_isi pins s σ H _ us Q I r ⟨x, .ty m.name, .type n.name, .type m.name, n.isa m, rfl, .ty _, hk.ty, kit_ty (n.isa_ok m), q⟩
/-- a built-in class by its name -/
theorem pe_ty (m : Kn) {x : Str} {pos : Pos} (hm : X.mg x = none) (hv : bootBuiltins x = some (.type m.name)) (hg : Gl X x := by rfl) (hn : x ≠ "__name__" := by decide)
    (hdb : (x == ("__debug__" : Str)) = false := by decide) : PE X (.Name x pos) (tC (.ty m.name)) := pe_bltn hg hm hv rfl hn hdb
end
/-! heaps -/
theorem same_new {H : Hp} {p : Addr} {o : HO} (h : H p = none) : Same H (upd H p o) := fun b x e => by
  rw [upd_ne (ne_of_none e h)]
  exact e
theorem sql_new {K : PySem.W.Frag} {H : Hp} {p l : Addr} {xs : List V} {o : HO} (h : SqL K H l xs) (n : H p = none) : SqL K (upd H p o) l xs := (same_new n).seq h
theorem same_sqt {K : PySem.W.Frag} {H H' : Hp} {a : Addr} {xs : List V} (e : Same H H') (h : SqT K H a xs) : SqT K H' a xs := by
  rcases h with (h | ⟨o, h⟩) | h
  · exact .inl (.inl (e _ _ h))
  · exact .inl (.inr ⟨o, e _ _ h⟩)
  · exact .inr h
theorem sqt_new {K : PySem.W.Frag} {H : Hp} {p l : Addr} {xs : List V} {o : HO} (h : SqT K H l xs) (n : H p = none) : SqT K (upd H p o) l xs := same_sqt (same_new n) h
theorem sql_upd {K : PySem.W.Frag} {H : Hp} {p l : Addr} {xs : List V} {o : HO} (h : SqL K H l xs) (ne : l ≠ p) : SqL K (upd H p o) l xs := by
  rcases h with (h | ⟨u, h⟩) | h
  · exact .inl (.inl (by rw [upd_ne ne]; exact h))
  · exact .inl (.inr ⟨u, by rw [upd_ne ne]; exact h⟩)
  · exact .inr h
theorem sqt_upd {K : PySem.W.Frag} {H : Hp} {p l : Addr} {xs : List V} {o : HO} (h : SqT K H l xs) (ne : l ≠ p) : SqT K (upd H p o) l xs := by
  rcases h with (h | ⟨u, h⟩) | h
  · exact .inl (.inl (by rw [upd_ne ne]; exact h))
  · exact .inl (.inr ⟨u, by rw [upd_ne ne]; exact h⟩)
  · exact .inr h
theorem Kd.same {K : PySem.W.Frag} {H H' : Hp} {x : V} {n : Kn} (e : Same H H') (h : Kd K H x n) : Kd K H' x n := by
  cases h with
  | non => exact .non
  | bl b => exact .bl b
  | int i => exact .int i
  | str z => exact .str z
  | lst h => exact .lst (e.seq h)
  | tup h => exact .tup (same_sqt e h)
  | dct h => exact .dct (e _ _ h)
/-! a list comprehension whose elements are reckoned without a new object -/
section
variable {K : PySem.W.Frag} {v : Nat} {te : TE} {σ : L2.St} {H1 : Hp} {D : Addr} {Qd : Hp → Prop} {n : Nat}
/-- what tLc asks of its walk -/
def LcW (J : It) (g : TG) (tt : TT) (te : TE) (vs : List Nat) (σ : L2.St) (H1 : Hp) (D : Addr) (Qd : Hp → Prop) : Prop :=
  ∃ W : Nat → Nat → Hp → Prop, (∃ m, W 0 m (upd H1 D (.lst []))) ∧ ∀ i m H, W i m H →
    (J.stop i H ∧ Qd H) ∨ (J.go i H ∧ ∃ Nx : Hp → Prop, (∀ H', Nx H' → ∃ m', m' < m ∧ W (i + 1) m' H') ∧
      ∀ x H', J.yld i H x H' → g x (wipe σ vs) H' fun σ2 H2 => wipe σ2 vs = wipe σ vs ∧ tt σ2 H2 fun b H3 =>
        if b = true then te σ2 H3 fun y H4 => ∃ acc, H4 D = some (.lst acc) ∧ acc.length < sizeLine ∧ Nx (upd H4 D (.lst (acc ++ [y]))) else Nx H3)
theorem yes_ {H : Hp} {A B : Hp → Prop} (h : A H) : tYes σ H fun b H3 => if b = true then A H3 else B H3 := by
  show (if true = true then A H else B H)
  rw [if_pos rfl]
  exact h
theorem wipe_one {x : Option V} : wipe ((wipe σ [v]).set v x) [v] = wipe σ [v] := by
  show ((σ.set v none).set v x).set v none = σ.set v none
  rw [List.set_set, List.set_set]
theorem lc_rng {lo : Int} (f : Nat → V) (hn : n ≤ sizeLine)
    (hs : ∀ i acc, i < n → ∀ Q : VK, Q (f i) (upd H1 D (.lst acc)) → te ((wipe σ [v]).set v (some (.int (lo + i)))) (upd H1 D (.lst acc)) Q)
    (hd : Qd (upd H1 D (.lst ((List.range n).map f)))) : LcW (Itr lo n) (gName v) tYes te [v] σ H1 D Qd := by
  refine lc_range (Pv := fun i H => H = upd H1 D (.lst ((List.range i).map f))) rfl ?_ (fun H e => by rw [e]; exact hd)
  intro i H hi e
  subst e
  refine ⟨wipe_one, yes_ ?_⟩
  refine hs i _ hi _ ⟨_, upd_same, ?_, ?_⟩
  · rw [List.length_map, List.length_range]
    exact Nat.lt_of_lt_of_le hi hn
  · rw [upd_upd, List.range_succ, List.map_append]
    rfl
theorem lc_seq {a : Addr} {xs : List V} (f : V → V) (hx : SqL K H1 a xs) (nD : H1 D = none) (hn : xs.length ≤ sizeLine)
    (hs : ∀ x acc, x ∈ xs → ∀ Q : VK, Q (f x) (upd H1 D (.lst acc)) → te ((wipe σ [v]).set v (some x)) (upd H1 D (.lst acc)) Q)
    (hd : Qd (upd H1 D (.lst (xs.map f)))) : LcW (Itl K a) (gName v) tYes te [v] σ H1 D Qd := by
  refine lc_list (xs := xs) (Pv := fun i H => H = upd H1 D (.lst ((xs.take i).map f))) rfl (fun i H _ e => by rw [e]; exact sql_new hx nD) ?_ (fun H e => by rw [e, List.take_length]; exact hd)
  intro i x H hi e
  subst e
  have lt : i < xs.length := (List.getElem?_eq_some_iff.mp hi).1
  refine ⟨wipe_one, yes_ ?_⟩
  refine hs x _ (List.mem_of_getElem? hi) _ ⟨_, upd_same, ?_, ?_⟩
  · rw [List.length_map, List.length_take]
    omega
  · rw [upd_upd, List.take_add_one, hi, List.map_append]
    rfl
theorem lc_tpl {a : Addr} {xs : List V} (f : V → V) (hx : SqT K H1 a xs) (nD : H1 D = none) (hn : xs.length ≤ sizeLine)
    (hs : ∀ x acc, x ∈ xs → ∀ Q : VK, Q (f x) (upd H1 D (.lst acc)) → te ((wipe σ [v]).set v (some x)) (upd H1 D (.lst acc)) Q)
    (hd : Qd (upd H1 D (.lst (xs.map f)))) : LcW (Itt K a) (gName v) tYes te [v] σ H1 D Qd := by
  refine lc_tup (xs := xs) (Pv := fun i H => H = upd H1 D (.lst ((xs.take i).map f))) rfl (fun i H _ e => by rw [e]; exact sqt_new hx nD) ?_ (fun H e => by rw [e, List.take_length]; exact hd)
  intro i x H hi e
  subst e
  have lt : i < xs.length := (List.getElem?_eq_some_iff.mp hi).1
  refine ⟨wipe_one, yes_ ?_⟩
  refine hs x _ (List.mem_of_getElem? hi) _ ⟨_, upd_same, ?_, ?_⟩
  · rw [List.length_map, List.length_take]
    omega
  · rw [upd_upd, List.take_add_one, hi, List.map_append]
    rfl
/-- with a test -/
theorem lc_rngF {tt : TT} {lo : Int} (p : Nat → Bool) (f : Nat → V) (hn : n ≤ sizeLine)
    (ht : ∀ i acc, i < n → ∀ Q : Bool → Hp → Prop, Q (p i) (upd H1 D (.lst acc)) → tt ((wipe σ [v]).set v (some (.int (lo + i)))) (upd H1 D (.lst acc)) Q)
    (hs : ∀ i acc, i < n → p i = true → ∀ Q : VK, Q (f i) (upd H1 D (.lst acc)) → te ((wipe σ [v]).set v (some (.int (lo + i)))) (upd H1 D (.lst acc)) Q)
    (hd : Qd (upd H1 D (.lst (((List.range n).filter p).map f)))) : LcW (Itr lo n) (gName v) tt te [v] σ H1 D Qd := by
  refine lc_range (Pv := fun i H => H = upd H1 D (.lst (((List.range i).filter p).map f))) rfl ?_ (fun H e => by rw [e]; exact hd)
  intro i H hi e
  subst e
  have le : (((List.range i).filter p).map f).length ≤ i := by
    rw [List.length_map]
    exact Nat.le_trans (List.length_filter_le _ _) (Nat.le_of_eq List.length_range)
  refine ⟨wipe_one, ht i _ hi _ ?_⟩
  cases e : p i with
  | true =>
    rw [if_pos rfl]
    refine hs i _ hi e _ ⟨_, upd_same, Nat.lt_of_le_of_lt le (Nat.lt_of_lt_of_le hi hn), ?_⟩
    rw [upd_upd, List.range_succ, List.filter_append, List.map_append]
    simp [e]
  | false =>
    rw [if_neg Bool.false_ne_true, List.range_succ, List.filter_append, List.map_append]
    simp [e]
end
/-! data: ints and bools in lists and tuples -/
section
variable {K : PySem.W.Frag} {H : Hp}
theorem dp_ints : ∀ ns : List Int, DpAll K H (ns.map V.int) (ns.map PyData.int)
  | [] => .nil
  | n :: r => .cons (.int n) (dp_ints r)
theorem dp_bools : ∀ bs : List Bool, DpAll K H (bs.map V.bl) (bs.map PyData.bool)
  | [] => .nil
  | b :: r => .cons (.bl b) (dp_bools r)
end
theorem lay_ints : ∀ ns : List Int, PyData.canLayAll0 (ns.map PyData.int) = true
  | [] => rfl
  | n :: r => by
    show (PyData.canLay0 (.int n) && PyData.canLayAll0 (r.map PyData.int)) = true
    rw [lay_ints r]
    rfl
theorem dep_ints : ∀ ns : List Int, PyData.depthAll (ns.map PyData.int) ≤ 1
  | [] => by decide
  | n :: r => by
    have := dep_ints r
    simp only [List.map_cons, PyData.depthAll, PyData.depth]
    omega
theorem shaped_ints (ns : List Int) : SeqAt.shaped (.list (ns.map PyData.int)) = true := by
  unfold SeqAt.shaped
  have h := dep_ints ns
  rw [show PyData.canLay0 (.list (ns.map PyData.int)) = true from lay_ints ns, Bool.true_and]
  refine decide_eq_true ?_
  simp only [PyData.depth]
  omega
theorem lay_bools : ∀ bs : List Bool, PyData.canLayAll0 (bs.map PyData.bool) = true
  | [] => rfl
  | b :: r => by
    show (PyData.canLay0 (.bool b) && PyData.canLayAll0 (r.map PyData.bool)) = true
    rw [lay_bools r]
    rfl
theorem dep_bools : ∀ bs : List Bool, PyData.depthAll (bs.map PyData.bool) ≤ 1
  | [] => by decide
  | n :: r => by
    have := dep_bools r
    simp only [List.map_cons, PyData.depthAll, PyData.depth]
    omega
theorem shaped_bools (bs : List Bool) : SeqAt.shaped (.list (bs.map PyData.bool)) = true := by
  unfold SeqAt.shaped
  have h := dep_bools bs
  rw [show PyData.canLay0 (.list (bs.map PyData.bool)) = true from lay_bools bs, Bool.true_and]
  refine decide_eq_true ?_
  simp only [PyData.depth]
  omega
theorem shapedT_ints (ns : List Int) : SeqAt.shaped (.tuple (ns.map PyData.int)) = true := by
  unfold SeqAt.shaped
  have h := dep_ints ns
  rw [show PyData.canLay0 (.tuple (ns.map PyData.int)) = true from lay_ints ns, Bool.true_and]
  refine decide_eq_true ?_
  simp only [PyData.depth]
  omega
theorem eqvAll_ints : ∀ ns ms : List Int, PyData.eqvAll (ns.map PyData.int) (ms.map PyData.int) = decide (ns = ms)
  | [], [] => rfl
  | [], _ :: _ => rfl
  | _ :: _, [] => rfl
  | n :: r, m :: q => by
    show (PyData.eqv (.int n) (.int m) && PyData.eqvAll (r.map PyData.int) (q.map PyData.int)) = _
    rw [eqvAll_ints r q]
    show ((n == m) && decide (r = q)) = _
    by_cases e : n = m
    · subst e
      by_cases f : r = q
      · subst f
        simp
      · simp [f]
    · simp [e]
end MM

set_option Elab.async false
set_option linter.all false
set_option maxRecDepth 100000
set_option maxHeartbeats 2000000
/-! enumerate over a tuple -/
namespace MM
open PySem PySem.Spec PyProof.Rows L2
theorem made_enum {v : Value} {o : Obj} {G : Heap → Prop} (B : Begins v o G) :
    Meets (Builtin.«enumerate.__new__» ⟨[.type "enumerate", v], []⟩) (fun _ R t => G t.heap ∧
      R (.ok (.ret (.ref (t.heap.push o).objs.size))) { t with heap := (t.heap.push o).push { cls := .type "enumerate", data := .fields #[.none, .bool false, .ref t.heap.objs.size, rawInt 0, .none, .none] } }) :=
  .of_wp fun prog w A R t both => by
    obtain ⟨h0, g0, d0, k0, o0⟩ := t
    obtain ⟨at_v, out⟩ := both
    have sub := sub_enumerate
    have road : ∀ {A' : Around} {E : Value → Shared → Prop} {Q : Value → Shared → Prop}, Q (.ref h0.objs.size) ⟨h0.push o, g0, d0, k0, o0⟩ → wpAny (model prog w) A' (pyIter v) Q E ⟨h0, g0, d0, k0, o0⟩ :=
      fun q => B.iter prog w _ _ ⟨h0, g0, d0, k0, o0⟩ _ at_v q
    wp_walk using road
    refine wpAny_stack_any fun st => wpAny_pure ?_
    split
    · rename_i c _ _ _ _ _
      cases (c == Value.type "enumerate")
      all_goals
        wp_walk using road
        exact ⟨_, rfl, out⟩
    · wp_walk using road
      exact ⟨_, rfl, out⟩
theorem call_enumT {prog : Program} {w : World} {A : Around} {E : Value → Shared → Prop} {s : Shared} {a : Addr} {its : Array Value} {Q : Value → Shared → Prop} (ht : s.heap.IsTuple a its)
    (q : ∀ h', IsEnum h' (s.heap.objs.size + 1) s.heap.objs.size 0 .none → h'.IsTupleIter s.heap.objs.size a 0 → (∀ b o, s.heap.get? b = some o → h'.get? b = some o) →
      Q (.ref (s.heap.objs.size + 1)) { s with heap := h' }) : wpAny (model prog w) A (call (.type "enumerate") [.ref a]) Q E s := by
  have B := begins_tuple a its
  refine callType_new F.called_enumerate (by decide) (F.typeCall_enumerate_1 _) (F.newCall_enumerate_1 _) (fun obj => F.args_object_init_2 obj _) F.entry_enumerate_new (made_enum B) ⟨ht, ?_⟩
  have z : (s.heap.push { cls := .type "tuple_iterator", data := .fields #[.ref a, .int 0 0] }).objs.size = s.heap.objs.size + 1 := Heap.size_push ..
  show _ ∧ _
  rw [z]
  have at_e : IsEnum ((s.heap.push { cls := .type "tuple_iterator", data := .fields #[.ref a, .int 0 0] }).push { cls := .type "enumerate", data := .fields #[.none, .bool false, .ref s.heap.objs.size, rawInt 0, .none, .none] }) (s.heap.objs.size + 1) s.heap.objs.size 0 .none := by
    rw [← z]
    exact Heap.get?_push_size _ rfl
  exact ⟨⟨_, at_e, rfl⟩, q _ at_e ⟨_, Heap.get?_push_of_some _ (Heap.get?_push_size _ rfl), rfl, rfl⟩ fun b o k => Heap.get?_push_of_some _ (Heap.get?_push_of_some _ k)⟩
/-- the tuple at a, each item in a new pair -/
def Itu (K : PySem.W.Frag) (a : Addr) : It :=
  ⟨fun i H => ∃ xs x, SqT K H a xs ∧ xs[i]? = some x, fun i H v H' => ∃ T x, v = .ref T ∧ H T = none ∧ H' = upd H T (.tup [.int (i : Nat), x]) ∧ ∀ xs, SqT K H a xs → xs[i]? = some x, fun i H => ∃ xs, SqT K H a xs ∧ xs.length ≤ i⟩
theorem turn_enumT {P : Program} {w : World} {K : PySem.W.Frag} {elts : List Expr} {kk : Nat} {tpos : Pos} (a e it : Addr) :
    Turn P w K (.Tuple elts kk tpos) (Itu K a) [e, it] e (fun i h => (∃ old, IsEnum h e it ((i : Nat) : Int) old) ∧ h.IsTupleIter it a i ∧ e ≠ it) where
  mem := by simp
  obj := fun i h st b hb => by
    obtain ⟨⟨old, he⟩, ⟨o, ho, hc, hd⟩, _⟩ := st
    have two : b = e ∨ b = it := by simpa using hb
    rcases two with z | z
    · subst z
      exact ⟨_, he, fun v q => nomatch q⟩
    · subst z
      exact ⟨o, ho, fun v q => by rw [hd] at q; cases q⟩
  keep := fun i h h' st k => let ⟨⟨old, he⟩, hi, hne⟩ := st; ⟨⟨old, k e (by simp) _ he⟩, hi.at fun o q => k it (by simp) o q, hne⟩
  item := by
    intro X hP hw hK hc i pins s σ H E I hf st hg
    subst hP hw hK
    obtain ⟨⟨old, he⟩, hit, hne⟩ := st
    obtain ⟨xs, x, hq, hx⟩ := hg
    obtain ⟨its, rv, p, hz⟩ := I.tuple hq
    obtain ⟨u, hu, ru⟩ := rv.get hx
    have el : e < s.heap.objs.size := Heap.lt_size he
    have il : it < s.heap.objs.size := by obtain ⟨_, q, _⟩ := hit; exact Heap.lt_size q
    have pt : s.heap.IsTuple a its.toArray := p
    have ait : a ≠ it := fun z => by
      obtain ⟨o1, g1, c1, _⟩ := id pt
      obtain ⟨o2, g2, c2, _⟩ := id hit
      rw [z, g2] at g1
      cases g1
      rw [c2] at c1
      exact absurd (Value.type.inj c1) (by decide)
    have ae : a ≠ e := fun z => by
      obtain ⟨o1, g1, c1, _⟩ := id pt
      rw [z, show s.heap.get? e = some _ from he] at g1
      cases g1
      exact absurd (Value.type.inj c1) (by decide)
    have D := Draws.tuple (prog := X.prog) (w := X.w) (A := X.A.in1) (I.ok.hd hc) it a ait its.toArray
    have lt : i < its.toArray.size := by
      have := (List.getElem?_eq_some_iff.mp hu).1
      rw [List.size_toArray]
      exact this
    refine wpAny_pyNext_enum_itemC D he ⟨hit, pt⟩ lt hne (by simp [hne, ae.symm]) fun y h' tk hy ho st' hT hsz hk => ?_
    have ey : y = u := by
      have hy' : its.toArray[i]? = some y := hy
      rw [List.getElem?_toArray, hu] at hy'
      exact (Option.some.inj hy').symm
    subst ey
    refine ⟨_, rfl, wpAny_letOwnedTupleGo_enum (s := { s with heap := h', toks := tk + 1 }) ho fun h'' he' sb => ?_⟩
    have hT2 : h''.get? s.heap.objs.size = some { cls := .type "tuple", data := .seq #[.int i tk, y] } := (sb.2 _ (Nat.ne_of_gt el)).trans hT
    have new : ObjOk X.prog X.w (upd H s.heap.objs.size (.tup [.int (i : Nat), x])) h'' s.heap.objs.size (.tup [.int (i : Nat), x]) :=
      ⟨(by decide : 2 ≤ sizeLine), [.int i tk, y], .cons ⟨_, rfl⟩ (.cons ru .nil), ⟨_, hT2, rfl, _, rfl⟩⟩
    have I1 : Inv X pins σ (upd H s.heap.objs.size (.tup [.int (i : Nat), x])) { s with heap := h'', toks := tk + 1 } :=
      I.turnedNew (ch := [e, it]) (fun b ob hb q => (sb.2 b fun z => hb (by simp [z])).trans (hk b ob (fun z => hb (by simp [z])) (fun z => hb (by simp [z])) q)) hf (Nat.le_refl _) new
    have it2 : h''.IsTupleIter it a (i + 1) := st'.1.at fun o q => (sb.2 it (Ne.symm hne)).trans q
    refine ⟨.ref s.heap.objs.size, _, I1, rfl, ⟨_, x, rfl, I.hok.fresh (Nat.le_refl _), rfl, fun ys hy => by rw [I.tuple_inj hy hq]; exact hx⟩, ⟨⟨y, he'⟩, it2, hne⟩, fun b hb => ?_⟩
    have bl : b < s.heap.objs.size := by
      have two : b = e ∨ b = it := by simpa using hb
      rcases two with z | z <;> subst z <;> assumption
    rw [upd_ne (Nat.ne_of_lt bl)]
    exact (hf b hb).1
  done := by
    intro X hP hw hK hc i pins s σ H E I hf st hg
    subst hP hw hK
    obtain ⟨⟨old, he⟩, hit, hne⟩ := st
    obtain ⟨xs, hq, hx⟩ := hg
    obtain ⟨its, rv, p, hz⟩ := I.tuple hq
    have pt : s.heap.IsTuple a its.toArray := p
    obtain ⟨f0, f1, f2, f3, f4, f5⟩ := hf it (by simp)
    have over : its.toArray[i]? = none := by
      have := rv.length
      rw [List.getElem?_toArray]
      exact List.getElem?_eq_none (by omega)
    have D : Draws X.prog X.w X.A.in1 it [it, a] i (fun _ _ => True) (fun j h => j = i ∧ h.IsTupleIter it a j ∧ h.IsTuple a its.toArray) :=
      { live := fun _ _ st => let ⟨o, ho, _⟩ := st.2.1; ⟨o, ho⟩
        frame := fun _ _ _ st k => ⟨st.1, st.2.1.at fun o e => k it (by simp) o e, st.2.2.at fun o e => k a (by simp) o e⟩
        item := fun j s Q E lt st _ => absurd st.1 (Nat.ne_of_lt lt)
        done := fun s Q E st out => wpAny_nextOf_tuple_end (I.ok.hd hc) st.2.1 st.2.2 (by rw [st.1]; exact over) out }
    exact wpAny_pyNext_enum_endD D he ⟨rfl, hit, pt⟩ fun h' eb => ⟨rfl, I.turned (t' := s.toks) (fun b o hb q => eb b o hb q) f0 f1 f3 f4 f5⟩
  self := fun A i s Q E st h => let ⟨⟨_, he⟩, _⟩ := st; wpAny_pyIter_enum he h
def iEnumT (K : PySem.W.Frag) (ta : TA) : TI := fun σ H R => ta σ H fun vs H1 => ∃ a xs, vs = [.ref a] ∧ SqT K H1 a xs ∧ R (Itu K a) H1
theorem pi_enumT {X : Cx} {e : Expr} {ta : TA} {p pos tpos : Pos} {elts : List Expr} {kk : Nat} (hg : Gl X "enumerate") (hm : X.mg "enumerate" = none) (ha : PA X [e] ta)
    (hs : starEach [e] X.env = [(false, eval e X.env)] := by rfl) : PI X (.Tuple elts kk tpos) (.Call (.Name "enumerate" p) [e] [] pos) (iEnumT X.K ta) := by
  refine ⟨fun pins s σ H R I h => ?_⟩
  refine Call_ (ld_blt I hg hm boot_enumerate (PyProof.Rows.callWith_type1 (thn (ha.run pos pins s σ H _ I h) fun us s1 ⟨vs, H1, I1, r1, a, xs, ex, hq, q⟩ => ?_) hs rfl))
  subst ex
  obtain ⟨u, rfl, ru⟩ := vals1 r1
  cases ru
  obtain ⟨its, rv, p', hz⟩ := I1.tuple hq
  refine call_enumT (its := its.toArray) p' fun h' he hit hk => wpAny_pyIter_enum he ?_
  refine ⟨s1.heap.objs.size + 1, [s1.heap.objs.size + 1, s1.heap.objs.size], _, _, H1, rfl, I1.kept (t' := s1.toks) hk, turn_enumT a (s1.heap.objs.size + 1) s1.heap.objs.size, ⟨⟨.none, he⟩, hit, Nat.succ_ne_self _⟩, fun b hb => ?_, q⟩
  have two : b = s1.heap.objs.size + 1 ∨ b = s1.heap.objs.size := by simpa using hb
  have le : s1.heap.objs.size ≤ b := by
    rcases two with z | z <;> rw [z]
    · exact Nat.le_add_right _ _
    · exact Nat.le_refl _
  exact I1.fpOk le (I1.hok.fresh le)
section
variable {K : PySem.W.Frag} {a : Addr} {xs : List V} {g : TG} {tb : TS} {D : Ends} {σ : L2.St} {H : Hp}
/-- what a for asks of its walk -/
def ForW (J : It) (g : TG) (tb : TS) (D : Ends) (σ : L2.St) (H : Hp) : Prop :=
  ∃ W : Nat → Nat → L2.St → Hp → Prop, (∃ m, W 0 m σ H) ∧ ∀ i m σ H, W i m σ H →
    (J.stop i H ∧ D.nx σ H) ∨ (J.go i H ∧ ∃ N : L2.St → Hp → Prop, (∀ σ' H', N σ' H' → ∃ m', m' < m ∧ W (i + 1) m' σ' H') ∧
      ∀ x H', J.yld i H x H' → g x σ H' fun σ2 H2 => tb { D with nx := N, ct := N, bk := D.nx } σ2 H2)
theorem for_enumT (Pv : Nat → L2.St → Hp → Prop) (h0 : Pv 0 σ H) (at_a : ∀ i σ H, i ≤ xs.length → Pv i σ H → SqT K H a xs)
    (turn : ∀ i x σ H T, xs[i]? = some x → Pv i σ H → H T = none → g (.ref T) σ (upd H T (.tup [.int (i : Nat), x])) fun σ2 H2 => tb { D with nx := Pv (i + 1), ct := Pv (i + 1), bk := D.nx } σ2 H2)
    (fin : ∀ σ H, Pv xs.length σ H → D.nx σ H) : ForW (Itu K a) g tb D σ H := by
  refine ⟨fun i m σ H => m = xs.length - i ∧ i ≤ xs.length ∧ Pv i σ H, ⟨_, rfl, Nat.zero_le _, h0⟩, ?_⟩
  rintro i m σ H ⟨rfl, le, p⟩
  by_cases lt : i < xs.length
  · have ex := List.getElem?_eq_getElem lt
    refine .inr ⟨⟨xs, _, at_a i σ H le p, ex⟩, Pv (i + 1), fun σ' H' p' => ⟨_, by omega, rfl, lt, p'⟩, ?_⟩
    rintro v H' ⟨T, x, rfl, free, rfl, all⟩
    exact turn i x σ H T (all xs (at_a i σ H le p)) p free
  · have e : i = xs.length := by omega
    subst e
    exact .inl ⟨⟨xs, at_a _ σ H le p, Nat.le_refl _⟩, fin σ H p⟩
theorem for_enumL (Pv : Nat → L2.St → Hp → Prop) (h0 : Pv 0 σ H) (at_a : ∀ i σ H, i ≤ xs.length → Pv i σ H → SqL K H a xs)
    (turn : ∀ i x σ H T, xs[i]? = some x → Pv i σ H → H T = none → g (.ref T) σ (upd H T (.tup [.int (i : Nat), x])) fun σ2 H2 => tb { D with nx := Pv (i + 1), ct := Pv (i + 1), bk := D.nx } σ2 H2)
    (fin : ∀ σ H, Pv xs.length σ H → D.nx σ H) : ForW (Ite K a) g tb D σ H := by
  refine ⟨fun i m σ H => m = xs.length - i ∧ i ≤ xs.length ∧ Pv i σ H, ⟨_, rfl, Nat.zero_le _, h0⟩, ?_⟩
  rintro i m σ H ⟨rfl, le, p⟩
  by_cases lt : i < xs.length
  · have ex := List.getElem?_eq_getElem lt
    refine .inr ⟨⟨xs, _, at_a i σ H le p, ex⟩, Pv (i + 1), fun σ' H' p' => ⟨_, by omega, rfl, lt, p'⟩, ?_⟩
    rintro v H' ⟨T, x, rfl, free, rfl, all⟩
    exact turn i x σ H T (all xs (at_a i σ H le p)) p free
  · have e : i = xs.length := by omega
    subst e
    exact .inl ⟨⟨xs, at_a _ σ H le p, Nat.le_refl _⟩, fin σ H p⟩
end
end MM

set_option Elab.async false
set_option linter.all false
set_option maxRecDepth 100000
set_option maxHeartbeats 2000000
/-! set(t) of a tuple of ints; its length -/
namespace MM
open PySem PySem.Spec PyProof.Rows L2
theorem count_keys {ks ns : List Int} (nk : ks.Nodup) (mem : ∀ k, k ∈ ns ↔ k ∈ ks) : ks.length = ns.length ↔ ns.Nodup := by
  constructor
  · intro e
    by_cases h : ns.Nodup
    · exact h
    · exfalso
      rw [List.nodup_iff_count] at h
      obtain ⟨a, ha⟩ := Classical.not_forall.mp h
      have am : a ∈ ns := List.count_pos_iff.mp (by omega)
      have sub : ks ⊆ ns.erase a := by
        intro b hb
        by_cases z : b = a
        · subst z
          refine List.count_pos_iff.mp ?_
          rw [List.count_erase_self]
          omega
        · exact (List.mem_erase_of_ne z).mpr ((mem b).mpr hb)
      have le := List.Nodup.length_le_of_subset nk sub
      rw [List.length_erase_of_mem am] at le
      have pos : 0 < ns.length := List.length_pos_of_mem am
      omega
  · intro nn
    exact ((List.perm_ext_iff_of_nodup nk nn).mpr fun a => (mem a).symm).length_eq
section
variable {X : Cx}
def rSetI (K : PySem.W.Frag) : List V → Hp → VK → Prop := fun xs H Q => ∃ (p : Addr) (ns : List Int), xs = [.ref p] ∧ SqT K H p (ns.map V.int) ∧ ns.length ≤ 1000 ∧
  ∀ t n, H t = none → (n = ns.length ↔ ns.Nodup) → n ≤ ns.length → Q (.ref t) (upd H t (.set (fun j => decide (j ∈ ns)) n))
theorem ints_of : ∀ {ns : List Int} {its : List Value}, Vals (ns.map V.int) its → IntsAre its ns
  | [], _, r => by
    cases r
    exact .nil
  | n :: _, _, r => by
    cases r with
    | cons h t =>
      obtain ⟨k, rfl⟩ := h
      exact .cons n k (ints_of t)
theorem cr_setI (hc : X.calm = true) : CallR X (.type "set") (rSetI X.K) := by
  intro pins s σ H xs us Q I r h
  obtain ⟨p, ns, rfl, hp, hl, q⟩ := h
  obtain ⟨u, rfl, ru⟩ := vals1 r
  cases ru
  obtain ⟨its, rv, ht, hz⟩ := I.tuple hp
  have pt : s.heap.IsTuple p its.toArray := ht
  refine call_set_tupI (P := X.prog) ns (I.ok.hd hc) pt (by simpa using ints_of rv) (by show ns.length + 1 < 4096; omega) fun h' tk c R le keep => ?_
  have cnt : c = ns.length ↔ ns.Nodup := by
    obtain ⟨o, es, ep, t, ho, hx, hd, g, nd, hm, hb, hf, hn, _⟩ := R
    rw [← hn]
    have := count_keys (ks := es.toList.map keyOf) (ns := ns) nd fun k => by
      rw [← hm k]
      exact decide_eq_true_iff.symm
    rw [List.length_map, Array.length_toList] at this
    exact this
  refine ⟨.ref _, _, I.laid (t' := tk) (o := .set (fun j => decide (j ∈ ns)) c) keep (Nat.le_refl _) ?_, rfl, q _ c (I.hok.fresh (Nat.le_refl _)) cnt le⟩
  exact R.setOf
theorem cr_lenSet : CallR X (.builtin "len") (fun xs H Q => ∃ a S n, xs = [V.ref a] ∧ H a = some (.set S n) ∧ Q (.int (n : Nat)) H) := by
  intro pins s σ H xs us Q I r h
  obtain ⟨a, S, n, rfl, ha, q⟩ := h
  obtain ⟨u, rfl, ru⟩ := vals1 r
  cases ru
  obtain ⟨o, es, ep, t, ho, hx, hd, _, _, hb, hf, hn⟩ := (show s.heap.SetOf (intKind X.prog X.w) a S n from I.hok a _ ha)
  subst hn
  have small : es.size < 4096 := hb
  exact PySem.call_len_set ho hx hd hf (by omega) ⟨.int _, H, I.tok _, ⟨_, rfl⟩, q⟩
def rLenK (K : PySem.W.Frag) : List V → Hp → VK → Prop := fun xs H Q => ∃ p ys, xs = [.ref p] ∧ (SqL K H p ys ∨ SqT K H p ys) ∧ Q (.int ys.length) H
theorem cr_lenK {K : PySem.W.Frag} (e : X.K = K) : CallR X (.builtin "len") (rLenK K) := by
  subst e
  exact call_len_seq
end
end MM

set_option Elab.async false
set_option linter.all false
set_option maxRecDepth 100000
set_option maxHeartbeats 2000000
/-! sets of ints that grow: the rules with the world by its name -/
namespace MM
open PySem PySem.Spec PyProof.Rows L2
section
variable {X : Cx} {w : World}
theorem cr_set0W (e : X.w = w) : CallR X (.type "set") (rSet0 w) := by
  subst e
  exact cr_set0
theorem or_sinW (e : X.w = w) : OpR X (compareOp .In) (rSIn w) := by
  subst e
  exact or_sin
theorem or_snotinW (e : X.w = w) : OpR X (compareOp .NotIn) (rSNotIn w) := by
  subst e
  exact or_snotin
variable {o e : Expr} {es : List Expr} {to : TE} {t : TA} {apos cpos : Pos}
theorem pe_saddW (ew : X.w = w) (ho : PE X o to) (ha : PA X (e :: es) t)
    (hbase : attributeBase o "add" X.env (eval o X.env) = eval o X.env := by rfl)
    (hfew : ((backTo cpos (starEach (e :: es) X.env)).all (fun x => !x.1) && (backToKw cpos (keywordEach [] X.env)).all (fun x => x.1.isSome)
      && decide ((e :: es).length + ([] : List Keyword).length + (if ([] : List Keyword).isEmpty then 0 else 1) < 30)) = true := by rfl)
    (hline : (apos.endLine == cpos.line) = true := by rfl) (hs : starEach (e :: es) X.env = (false, eval e X.env) :: starEach es X.env := by rfl) (hplain : (backTo cpos (starEach es X.env)).any (·.1) = false := by rfl) :
    PE X (.Call (.Attribute o "add" apos) (e :: es) [] cpos) (tSAdd w to t) := by
  subst ew
  exact pe_sadd ho ha hbase hfew hline hs hplain
end
end MM

set_option Elab.async false
set_option linter.all false
set_option maxRecDepth 100000
set_option maxHeartbeats 2000000
namespace MM
open PySem PySem.Spec PyProof.Rows L2
/-! math.lcm -/
section
variable {X : Cx}
def rLcm : List V → Hp → VK → Prop := fun vs H Q => ∃ a b : Int, vs = [.int a, .int b] ∧ a.natAbs < 2 ^ 13000 ∧ b.natAbs < 2 ^ 13000 ∧ Q (.int ((Nat.lcm a.natAbs b.natAbs : Nat) : Int)) H
theorem log_ok {n : Nat} (h : n < 2 ^ 13000) : ¬ n.log2 / 30 + 1 > 450 := by
  have := PySem.W.mg_log (n := n) (k := 12999) h
  omega
theorem lcm_ok {a b : Nat} (ha : a < 2 ^ 13000) (hb : b < 2 ^ 13000) : (Nat.lcm a b).log2 < bitsLine := by
  have h1 : Nat.lcm a b ≤ a * b := Nat.div_le_self _ _
  have h2 : a * b < 2 ^ 26000 := by
    rw [show (26000 : Nat) = 13000 + 13000 from rfl, Nat.pow_add]
    exact Nat.mul_lt_mul'' ha hb
  have h3 := PySem.W.mg_log (n := Nat.lcm a b) (k := 25999) (Nat.lt_of_le_of_lt h1 h2)
  exact Nat.lt_of_le_of_lt h3 (by decide +kernel)
theorem cr_lcm : CallR X (.builtin "math.lcm") rLcm := by
  intro pins s σ H vs us Q I r h
  obtain ⟨a, b, rfl, ha, hb, q⟩ := h
  obtain ⟨t, u, rfl⟩ := Vals.int2 r
  have e : (Nat.lcm 1 a.natAbs).lcm b.natAbs = Nat.lcm a.natAbs b.natAbs := by rw [Nat.lcm_one_left]
  refine PySem.call_function_meets PySem.W.MGF.kind_lcm PySem.W.MGF.plain_lcm PySem.W.MGF.entry_lcm (PySem.W.MGF.args_lcm _ _) (PySem.W.mg_run_lcm a t b u (log_ok ?_) (log_ok ?_) ?_).meets ?_
  · exact Nat.max_lt.mpr ⟨by exact Nat.one_lt_two_pow (by decide), ha⟩
  · exact Nat.max_lt.mpr ⟨ha, hb⟩
  · rw [e, Int.natAbs_natCast]
    exact lcm_ok ha hb
  · rw [e]
    exact ⟨.int _, H, I.tok _, ⟨_, rfl⟩, q⟩
/-- // by a divisor that is not 0 -/
def CDivG (_ j : Int) : Prop := j ≠ 0 ∧ j.natAbs.log2 < 9000
theorem op_fdivG : OpR X (binaryOp .FloorDiv) (rI CDivG fun i j => .int (i.fdiv j)) := opI fun i j _ _ _ _ _ hc q =>
  floordiv_int hc.1 q (.inl (PyProof.noPylong_of_log2 hc.2))
theorem divG {i j : Int} (h0 : j ≠ 0) (h : j.natAbs < 2 ^ 8999) : CDivG i j := ⟨h0, Nat.lt_of_lt_of_le (PySem.Flt.log2_lt_of (by decide) h) (by decide)⟩
end
end MM

set_option Elab.async false
set_option linter.all false
set_option maxRecDepth 100000
set_option maxHeartbeats 2000000
/-! more comprehensions: over enumerate, with a test -/
namespace MM
open PySem PySem.Spec PyProof.Rows L2
section
variable {K : PySem.W.Frag} {v : Nat} {g : TG} {tt : TT} {te : TE} {vs : List Nat} {σ : L2.St} {H1 : Hp} {D : Addr} {Qd : Hp → Prop} {n : Nat} {a : Addr} {xs : List V}
/-- what a comprehension asks of a turn with the item x -/
def LcT (g : TG) (tt : TT) (te : TE) (vs : List Nat) (σ : L2.St) (D : Addr) (Nx : Hp → Prop) (x : V) (H : Hp) : Prop :=
  g x (wipe σ vs) H fun σ2 H2 => wipe σ2 vs = wipe σ vs ∧ tt σ2 H2 fun b H3 =>
    if b = true then te σ2 H3 fun y H4 => ∃ acc, H4 D = some (.lst acc) ∧ acc.length < sizeLine ∧ Nx (upd H4 D (.lst (acc ++ [y]))) else Nx H3
theorem lc_enumT (Pv : Nat → Hp → Prop) (h0 : Pv 0 (upd H1 D (.lst []))) (at_a : ∀ i H, i ≤ xs.length → Pv i H → SqT K H a xs)
    (hs : ∀ i x H T, xs[i]? = some x → Pv i H → H T = none → LcT g tt te vs σ D (Pv (i + 1)) (.ref T) (upd H T (.tup [.int (i : Nat), x])))
    (hd : ∀ H, Pv xs.length H → Qd H) : LcW (Itu K a) g tt te vs σ H1 D Qd := by
  refine ⟨fun i m H => m = xs.length - i ∧ i ≤ xs.length ∧ Pv i H, ⟨_, rfl, Nat.zero_le _, h0⟩, ?_⟩
  rintro i m H ⟨rfl, le, p⟩
  by_cases lt : i < xs.length
  · have ex := List.getElem?_eq_getElem lt
    refine .inr ⟨⟨xs, _, at_a i H le p, ex⟩, Pv (i + 1), fun H' p' => ⟨_, by omega, rfl, lt, p'⟩, ?_⟩
    rintro v H' ⟨T, x, rfl, free, rfl, all⟩
    exact hs i x H T (all xs (at_a i H le p)) p free
  · have e : i = xs.length := by omega
    subst e
    exact .inl ⟨⟨xs, at_a _ H le p, Nat.le_refl _⟩, hd H p⟩
theorem lc_enumL (Pv : Nat → Hp → Prop) (h0 : Pv 0 (upd H1 D (.lst []))) (at_a : ∀ i H, i ≤ xs.length → Pv i H → SqL K H a xs)
    (hs : ∀ i x H T, xs[i]? = some x → Pv i H → H T = none → LcT g tt te vs σ D (Pv (i + 1)) (.ref T) (upd H T (.tup [.int (i : Nat), x])))
    (hd : ∀ H, Pv xs.length H → Qd H) : LcW (Ite K a) g tt te vs σ H1 D Qd := by
  refine ⟨fun i m H => m = xs.length - i ∧ i ≤ xs.length ∧ Pv i H, ⟨_, rfl, Nat.zero_le _, h0⟩, ?_⟩
  rintro i m H ⟨rfl, le, p⟩
  by_cases lt : i < xs.length
  · have ex := List.getElem?_eq_getElem lt
    refine .inr ⟨⟨xs, _, at_a i H le p, ex⟩, Pv (i + 1), fun H' p' => ⟨_, by omega, rfl, lt, p'⟩, ?_⟩
    rintro v H' ⟨T, x, rfl, free, rfl, all⟩
    exact hs i x H T (all xs (at_a i H le p)) p free
  · have e : i = xs.length := by omega
    subst e
    exact .inl ⟨⟨xs, at_a _ H le p, Nat.le_refl _⟩, hd H p⟩
theorem filt_step {xs : List V} {i : Nat} {x : V} (hi : xs[i]? = some x) (p : V → Bool) (f : V → V) :
    ((xs.take (i + 1)).filter p).map f = ((xs.take i).filter p).map f ++ (if p x = true then [f x] else []) := by
  rw [List.take_add_one, hi, List.filter_append, List.map_append]
  cases e : p x <;> simp [e]
/-- with a test -/
theorem lc_seqF (p : V → Bool) (f : V → V) (hx : SqL K H1 a xs) (nD : H1 D = none) (hn : xs.length ≤ sizeLine)
    (ht : ∀ x acc, x ∈ xs → ∀ Q : Bool → Hp → Prop, Q (p x) (upd H1 D (.lst acc)) → tt ((wipe σ [v]).set v (some x)) (upd H1 D (.lst acc)) Q)
    (hs : ∀ x acc, x ∈ xs → p x = true → ∀ Q : VK, Q (f x) (upd H1 D (.lst acc)) → te ((wipe σ [v]).set v (some x)) (upd H1 D (.lst acc)) Q)
    (hd : Qd (upd H1 D (.lst ((xs.filter p).map f)))) : LcW (Itl K a) (gName v) tt te [v] σ H1 D Qd := by
  refine lc_list (xs := xs) (Pv := fun i H => H = upd H1 D (.lst (((xs.take i).filter p).map f))) rfl (fun i H _ e => by rw [e]; exact sql_new hx nD) ?_ (fun H e => by rw [e, List.take_length]; exact hd)
  intro i x H hi e
  subst e
  have lt : i < xs.length := (List.getElem?_eq_some_iff.mp hi).1
  have le : (((xs.take i).filter p).map f).length ≤ i := by
    rw [List.length_map]
    exact Nat.le_trans (List.length_filter_le _ _) (by rw [List.length_take]; omega)
  refine ⟨wipe_one, ht x _ (List.mem_of_getElem? hi) _ ?_⟩
  have st := filt_step hi p f
  cases e : p x with
  | true =>
    rw [if_pos rfl]
    refine hs x _ (List.mem_of_getElem? hi) e _ ⟨_, upd_same, Nat.lt_of_le_of_lt le (Nat.lt_of_lt_of_le lt hn), ?_⟩
    rw [upd_upd, st, if_pos e]
  | false =>
    rw [if_neg Bool.false_ne_true, st, if_neg (by rw [e]; exact Bool.false_ne_true), List.append_nil]
theorem lc_tplF (p : V → Bool) (f : V → V) (hx : SqT K H1 a xs) (nD : H1 D = none) (hn : xs.length ≤ sizeLine)
    (ht : ∀ x acc, x ∈ xs → ∀ Q : Bool → Hp → Prop, Q (p x) (upd H1 D (.lst acc)) → tt ((wipe σ [v]).set v (some x)) (upd H1 D (.lst acc)) Q)
    (hs : ∀ x acc, x ∈ xs → p x = true → ∀ Q : VK, Q (f x) (upd H1 D (.lst acc)) → te ((wipe σ [v]).set v (some x)) (upd H1 D (.lst acc)) Q)
    (hd : Qd (upd H1 D (.lst ((xs.filter p).map f)))) : LcW (Itt K a) (gName v) tt te [v] σ H1 D Qd := by
  refine lc_tup (xs := xs) (Pv := fun i H => H = upd H1 D (.lst (((xs.take i).filter p).map f))) rfl (fun i H _ e => by rw [e]; exact sqt_new hx nD) ?_ (fun H e => by rw [e, List.take_length]; exact hd)
  intro i x H hi e
  subst e
  have lt : i < xs.length := (List.getElem?_eq_some_iff.mp hi).1
  have le : (((xs.take i).filter p).map f).length ≤ i := by
    rw [List.length_map]
    exact Nat.le_trans (List.length_filter_le _ _) (by rw [List.length_take]; omega)
  refine ⟨wipe_one, ht x _ (List.mem_of_getElem? hi) _ ?_⟩
  have st := filt_step hi p f
  cases e : p x with
  | true =>
    rw [if_pos rfl]
    refine hs x _ (List.mem_of_getElem? hi) e _ ⟨_, upd_same, Nat.lt_of_le_of_lt le (Nat.lt_of_lt_of_le lt hn), ?_⟩
    rw [upd_upd, st, if_pos e]
  | false =>
    rw [if_neg Bool.false_ne_true, st, if_neg (by rw [e]; exact Bool.false_ne_true), List.append_nil]
end
end MM
namespace MM
open PySem PySem.Spec PyProof.Rows L2
section
variable {K : PySem.W.Frag} {H : Hp} {Q : VK}
theorem slA {a : Addr} {xs : List V} {lo hi : Option Int} (S : SqT K H a xs) (q : ∀ H' t, Same H H' → SqT K H' t (cutV xs lo hi) → Q (.ref t) H') : rSlA K (.ref a) lo hi H Q := by
  refine ⟨a, xs, rfl, S, fun h => ?_, fun _ p np => q _ p (same_new np) (.inl (.inl upd_same))⟩
  refine q H a (Same.refl H) ?_
  have : cutV xs lo hi = xs := by
    unfold cutV
    rw [h.1, h.2, List.drop_zero, Nat.sub_zero, List.take_length]
  rw [this]
  exact S
theorem catA {a b : Addr} {xs ys : List V} (S : SqT K H a xs) (S2 : SqT K H b ys) (z : xs.length + ys.length ≤ sizeLine) (q : ∀ H' t, Same H H' → SqT K H' t (xs ++ ys) → Q (.ref t) H') : rCatA K (.ref a) (.ref b) H Q := by
  refine ⟨a, b, xs, ys, rfl, rfl, S, S2, z, fun h => ?_, fun _ h => ?_, fun _ _ p np => q _ p (same_new np) (.inl (.inl upd_same))⟩
  · exact q H b (Same.refl H) (by rw [h]; exact S2)
  · exact q H a (Same.refl H) (by rw [h, List.append_nil]; exact S)
end
end MM
namespace MM
open PySem PySem.Spec PyProof.Rows L2
def rTupOf (K : PySem.W.Frag) : List V → Hp → VK → Prop := fun xs H Q => ∃ p ys, xs = [V.ref p] ∧ ((SqL K H p ys ∧ ∀ (l : Addr), H l = none → Q (.ref l) (upd H l (.tup ys))) ∨ SqT K H p ys ∧ Q (.ref p) H)
end MM

set_option Elab.async false
set_option linter.all false
set_option maxRecDepth 100000
set_option maxHeartbeats 2000000
/-! sorted of tuples of ints, of lists of lists of ints, of tuples of tuples by their lengths; walks over two at once -/
namespace MM
open PySem PySem.Spec PyProof.Rows L2 PySem.Calls PySem.W
section
variable {prog : Program} {w : World} {A : Around} {E : Value → Shared → Prop} {s : Shared}
theorem collect_tuple {l : Addr} {vs : List Value} {Q : List Value → Shared → Prop} (hl : s.heap.IsTuple l vs.toArray)
    (h : Q vs { s with heap := (s.heap.push (seqObj "list" #[] 0)).update s.heap.objs.size (Obj.mapSeq (· ++ vs.toArray)) }) (hsz : vs.length ≤ sizeLine) :
    wpAny (model prog w) A (collect (.ref l)) Q E s := by
  obtain ⟨o, ho, hc, n, hd⟩ := id hl
  unfold collect
  refine wpAny_bind (wpAny_runValue (codeAny_builtin entry_proto_collect' ?_))
  show wpAny _ _ (do again (.builtin "list.__iadd__" ⟨[← newList [], .ref l], []⟩)) _ _ s
  refine wpAny_bind (wpAny_newList (wpAny_pure ⟨Code.quiet_builtin _ (by decide +kernel), codeAny_builtin entry_list_iadd' ?_⟩))
  show wpAny _ _ (Builtin.List.listExtendWith (.ref s.heap.objs.size) (.ref l) (.ref s.heap.objs.size)) _ _ { s with heap := s.heap.push (seqObj "list" #[] 0) }
  unfold Builtin.List.listExtendWith
  have ho' : (s.heap.push (seqObj "list" #[] 0)).get? l = some o := Heap.get?_push_of_some _ ho
  refine wpAny_bind (wpAny_typeOf (T := "tuple") ⟨o, ho', hc⟩ ?_)
  have ht : (Value.type "tuple" == Value.type "tuple") = true := by rfl
  rw [if_pos (by rw [ht]; simp)]
  refine wpAny_bind (listItems_at ho' hd ?_)
  refine wpAny_bind (listItems_at (xs := #[]) (n := 0) (Heap.get?_push_size _ rfl) rfl ?_)
  rw [if_neg (by simp)]
  refine wpAny_bind (listUpdate_at (xs := #[]) (n := 0) (Heap.get?_push_size _ rfl) rfl ?_ (Nat.zero_le _) (by show (#[] ++ vs.toArray).size ≤ sizeLine + 1; simp only [Array.size_append, List.size_toArray, List.length_nil]; omega))
  refine wpAny_pure ?_
  show wpAny (model prog w) A (do
      let o ← load s.heap.objs.size
      match o.data with
      | .seq xs _ => pure xs.toList
      | _ => unsupported "internal:collect") Q E { s with heap := (s.heap.push (seqObj "list" #[] 0)).update s.heap.objs.size (Obj.mapSeq (· ++ vs.toArray)) }
  refine wpAny_bind (wpAny_load (get?_update_seq (Heap.get?_push_size _ rfl) _) ?_)
  show wpAny _ _ (pure ((#[] : Array Value) ++ vs.toArray).toList) Q E _
  rw [show ((#[] : Array Value) ++ vs.toArray).toList = vs by simp]
  exact wpAny_pure h
theorem sorted_of_tup {l : Addr} {vs : List Value} {kw : List (Str × Value)} {Q : Value → Shared → Prop} (hl : s.heap.IsTuple l vs.toArray) (hL : vs.length ≤ sizeLine) (ha1 : argsOk "sorted" ⟨[.ref l], kw⟩) (ha2 : ∀ x, argsOk "list.sort" ⟨[.ref x], kw⟩)
    (body : ∀ E' : Value → Shared → Prop, wpAny (model prog w) A.in1.in1 (Builtin.«list.sort» ⟨[.ref (s.heap.objs.size + 1)], kw⟩) (fun f s' => f = .done (.ret .none) ∧ Q (.ref (s.heap.objs.size + 1)) s') E' { s with heap := copyHeap s.heap vs }) :
    wpAny (model prog w) A (call (.builtin "sorted") [.ref l] kw) Q E s := by
  refine call_function_entry_kw kind_sorted plain_sorted entry_sorted ha1 ?_
  unfold Builtin.«sorted»
  refine wpAny_bind (m := checkCount "sorted" 1 1 _) (wpAny_pure ?_)
  refine wpAny_bind (collect_tuple hl ?_ hL)
  refine wpAny_bind (wpAny_newList ?_ hL)
  have hsz : ((s.heap.push (seqObj "list" #[] 0)).update s.heap.objs.size (Obj.mapSeq (· ++ vs.toArray))).objs.size = s.heap.objs.size + 1 := by
    rw [Heap.size_update, size_push']
  show wpAny _ _ _ _ _ { s with heap := copyHeap s.heap vs }
  rw [hsz]
  refine wpAny_bind (wpAny_holding (wpAny_call_entry_kw slot_list_sort ⟨_, copyHeap_at s.heap vs, rfl⟩ entry_list_sort ?body (ha2 _)))
  case body =>
    show wpAny (model prog w) A.in1.in1 (Builtin.«list.sort» ⟨[.ref (s.heap.objs.size + 1)], kw⟩) _ _ _
    refine wpAny_mono (body _) (fun f s' hf => ?_) fun _ _ e => e
    obtain ⟨rfl, hq⟩ := hf
    exact ⟨_, rfl, wpAny_pure ⟨_, rfl, hq⟩⟩
variable {β : Type} {vs : List Value} {bs : List β} {enc : β → PyData} {R : Value → β → Prop}
theorem sorted_tup_data {l : Addr} {Q : Value → Shared → Prop} (hl : s.heap.IsTuple l vs.toArray) (e : EachIs R vs bs) (er : EachIs (fun v b => ∃ as, Reads s.heap v (enc b) as) vs bs) (hal : AllAlike (bs.map enc)) (hk : Sortable (bs.map enc)) (hL : bs.length ≤ sizeLine)
    (hu : ∀ b, b ∈ bs → A.units + 2 + (enc b).depth < cLine) (h : ∀ out, out.length = bs.length → EachIs R out (bs.mergeSort (dataLe false enc)) → Q (.ref (s.heap.objs.size + 1)) { s with heap := sortedAll s.heap vs (List.toArray out) }) :
    wpAny (model prog w) A (call (.builtin "sorted") [.ref l]) Q E s := by
  have er' : EachIs (fun v b => ∃ as, Reads (sortingHeap (copyHeap s.heap vs) (s.heap.objs.size + 1) vs) v (enc b) as) vs bs := er.mono fun _ _ ⟨as, r⟩ => ⟨as, PyProof.Rows.Reads.keeps (fun _ _ => sorting_copy_old) r⟩
  have hL' : vs.length ≤ sizeLine := by rw [e.length]; exact hL
  exact sorted_of_tup hl hL' (args_sorted1 _) (fun _ => args_list_sort _) fun _ => list_sort_vals (s := { s with heap := copyHeap s.heap vs }) (copyHeap_at s.heap vs)
    (SortsAt.data (s := { s with heap := sortingHeap (copyHeap s.heap vs) (s.heap.objs.size + 1) vs }) (each_map (R := fun v d => ∃ as, Reads (sortingHeap (copyHeap s.heap vs) (s.heap.objs.size + 1) vs) v d as) enc er') hal hk (bound_map hu)) hL' ⟨rfl, h _ (by rw [sortVals_length false rfl]; exact e.length) (sortVals_data false e er' hal)⟩
theorem sorted_tup_key {l : Addr} {f : Value} {kw : List (Str × Value)} {b : Bool} {Q : Value → Shared → Prop} (k : β → PyData) (hl : s.heap.IsTuple l vs.toArray) (e : EachIs R vs bs) (hal : AllAlike (bs.map k)) (hk : Sortable (bs.map k)) (hL : bs.length ≤ sizeLine)
    (hu : ∀ x, x ∈ bs → A.units + 2 + (k x).depth < cLine) (ha1 : argsOk "sorted" ⟨[.ref l], kw⟩) (ha2 : ∀ x, argsOk "list.sort" ⟨[.ref x], kw⟩) (ht : ∀ x, Builtin.«list.sort» ⟨[.ref x], kw⟩ = ksk_tree x f b)
    (turn : ∀ (v : Value) (x : β), R v x → x ∈ bs → ∀ (h : Heap) (tk : Nat), (∀ b o, s.heap.get? b = some o → h.get? b = some o) →
      wpAny (model prog w) A.in1.in1 (call f [v]) (KeyPure (k x) { s with heap := h, toks := tk }) (fun _ _ => False) { s with heap := h, toks := tk })
    (h : ∀ out c h' tk, (∀ b o, s.heap.get? b = some o → h'.get? b = some o) → s.heap.get? (s.heap.objs.size + 1) = none → h'.get? (s.heap.objs.size + 1) = some (seqObj "list" (List.toArray out) c) → out.length = bs.length → EachIs R out (bs.mergeSort (dataLe b k)) →
      Q (.ref (s.heap.objs.size + 1)) { s with heap := h', toks := tk }) :
    wpAny (model prog w) A (call (.builtin "sorted") [.ref l] kw) Q E s := by
  have fresh : s.heap.get? (s.heap.objs.size + 1) = none := Heap.get?_none_of_le (Nat.le_succ _)
  have up : ∀ {g : Heap}, KeepsBut (s.heap.objs.size + 1) (copyHeap s.heap vs) g → ∀ b o, s.heap.get? b = some o → g.get? b = some o := fun {g} kp b o q =>
    kp b o (Nat.ne_of_lt (Nat.lt_succ_of_lt (Heap.lt_size q))) (copyHeap_old q)
  refine sorted_of_tup hl (by rw [e.length]; exact hL) ha1 ha2 fun E' => ?_
  rw [ht]
  refine keyH_tree (kz := bs.map k) (s := { s with heap := copyHeap s.heap vs }) (copyHeap_at s.heap vs) (by rw [List.length_map]; exact e.length.symm) (by rw [e.length]; exact hL) hal hk (bound_map (A := A.in1.in1) hu)
    (keyH_turns (s := { s with heap := copyHeap s.heap vs }) e fun v x hR hx h tk kp => turn v x hR hx h tk (up kp)) fun h' tk out c kp hD ko => ⟨rfl, ?_⟩
  exact h out c h' tk (up kp) fresh hD ((ko.length (by rw [List.length_map]; exact e.length.symm)).trans e.length) (keyedOut_each k ko e)
end
/-! by values -/
section
variable {X : Cx}
theorem each_of {R : V → Value → Prop} : ∀ {xs : List V} {us : List Value}, Paired R xs us → ∀ {β : Type} {bs : List (V × β)}, xs = bs.map Prod.fst → EachIs (fun v b => R b.1 v) us bs
  | _, _, .nil, _, [], _ => .nil
  | _, _, .nil, _, _ :: _, e => by cases e
  | _, _, .cons _ _, _, [], e => by cases e
  | _, _, .cons r t, _, b :: bs, e => by
    rw [List.map_cons] at e
    obtain ⟨e1, e2⟩ := List.cons.inj e
    subst e1
    exact .cons r (each_of t e2)
theorem vals_of_each {β : Type} : ∀ {us : List Value} {bs : List (V × β)}, EachIs (fun v b => RelV b.1 v) us bs → Vals (bs.map Prod.fst) us
  | _, _, .nil => .nil
  | _, _, .cons h t => .cons h (vals_of_each t)
theorem each_and {α β : Type} {R S : α → β → Prop} : ∀ {us : List α} {bs : List β}, EachIs R us bs → (∀ u b, R u b → b ∈ bs → S u b) → EachIs S us bs
  | _, _, .nil, _ => .nil
  | _, _, .cons h t, f => .cons (f _ _ h (by simp)) (each_and t fun u b r m => f u b r (by simp [m]))
/-- sorted(xs), xs a list of lists of ints -/
def rSortedLI (K : PySem.W.Frag) : List V → Hp → VK → Prop := fun vs H Q => ∃ (a : Addr) (bs : List (V × List Int)), vs = [.ref a] ∧ SqL K H a (bs.map Prod.fst) ∧ bs.length ≤ 1000 ∧ (∀ b ∈ bs, ∃ t, b.1 = .ref t ∧ SqL K H t (b.2.map V.int)) ∧
  ∀ (zs : List (V × List Int)) (p : Addr), zs.Perm bs → zs.Pairwise (fun x y => x.2 ≤ y.2) → H p = none → Q (.ref p) (upd H p (.lst (zs.map Prod.fst)))
theorem cr_sortedLI (hu : X.A.units + 64 < cLine) : CallR X (.builtin "sorted") (rSortedLI X.K) := by
  intro pins s σ H vs us Q I r h
  obtain ⟨a, bs, rfl, hs, hl, hb, q⟩ := h
  obtain ⟨its, rv, pl, hz⟩ := I.list hs
  rw [Vals.ref1 r]
  have e := each_of rv rfl
  have sml : ∀ n, n ≤ 1000 → n ≤ sizeLine := fun n h => Nat.le_of_lt (Nat.lt_of_le_of_lt h (by decide))
  refine sorted_data (enc := fun b : V × List Int => .list (b.2.map .int)) pl.isList e (each_and e fun u b ru hm => ?_) (AllAlike.of fun b b' => by rw [alike]; exact alike_ints _ _) (Sortable.others fun b => ⟨by simp, by simp⟩) (sml _ hl) (fun b _ => ?_) fun out lo eo => ?_
  · obtain ⟨t, et, St⟩ := hb b hm
    rw [et] at ru
    obtain ⟨as, rd⟩ := Dp.reads I (.list (b.2.map .int)) (.ref t) u (.lst St (dp_ints _)) ru
    exact ⟨as, rd⟩
  · have := depth_ints b.2
    simp only [PyData.depth]
    omega
  obtain ⟨ep, he'⟩ := PyProof.Rows.sortedAll_at s.heap its out.toArray
  rw [dataLe_rows (fun b : V × List Int => b.2)] at eo
  have pm := List.mergeSort_perm bs (fun p q : V × List Int => decide (p.2 ≤ q.2))
  have pw := List.pairwise_mergeSort (le := fun p q : V × List Int => decide (p.2 ≤ q.2)) (fun a b c h1 h2 => decide_eq_true (List.le_trans (of_decide_eq_true h1) (of_decide_eq_true h2)))
    (fun a b => by
      rcases List.le_total a.2 b.2 with h | h
      · simp [h]
      · simp [h]) bs
  have hlen : ((bs.mergeSort fun p q => decide (p.2 ≤ q.2)).map Prod.fst).length ≤ sizeLine := by
    rw [List.length_map, pm.length_eq]
    exact sml _ hl
  exact ⟨.ref _, upd H (s.heap.objs.size + 1) (.lst ((bs.mergeSort fun p q => decide (p.2 ≤ q.2)).map Prod.fst)), I.laid (t' := s.toks) (fun _ _ => PyProof.Rows.sortedAll_old) (Nat.le_succ _) ⟨hlen, out, ep, vals_of_each eo, he'⟩, rfl,
    q _ _ pm (pw.imp fun h => of_decide_eq_true h) (I.hok.fresh (Nat.le_succ _))⟩
/-- sorted(t), t a tuple of ints -/
def rSortedIT (K : PySem.W.Frag) : List V → Hp → VK → Prop := fun vs H Q => ∃ (a : Addr) (ns : List Int), vs = [.ref a] ∧ SqT K H a (ns.map V.int) ∧ ns.length ≤ 1000 ∧
  ∀ (zs : List Int) (p : Addr), zs.Perm ns → zs.Pairwise (· ≤ ·) → H p = none → Q (.ref p) (upd H p (.lst (zs.map V.int)))
theorem each_ints : ∀ {us : List Value} {ns : List Int}, Vals (ns.map V.int) us → EachIs (fun v n => RelV (.int n) v) us ns
  | _, [], r => by
    cases r
    exact .nil
  | _, n :: ns, r => by
    cases r with
    | cons h t => exact .cons h (each_ints t)
theorem vals_each_ints : ∀ {us : List Value} {ns : List Int}, EachIs (fun v n => RelV (.int n) v) us ns → Vals (ns.map V.int) us
  | _, _, .nil => .nil
  | _, _, .cons h t => .cons h (vals_each_ints t)
theorem cr_sortedIT (hu : X.A.units + 64 < cLine) : CallR X (.builtin "sorted") (rSortedIT X.K) := by
  intro pins s σ H vs us Q I r h
  obtain ⟨a, ns, rfl, hs, hl, q⟩ := h
  obtain ⟨its, rv, pl, hz⟩ := I.tuple hs
  rw [Vals.ref1 r]
  have e := each_ints rv
  have sml : ∀ n, n ≤ 1000 → n ≤ sizeLine := fun n h => Nat.le_of_lt (Nat.lt_of_le_of_lt h (by decide))
  refine sorted_tup_data (enc := fun n : Int => .int n) pl e (each_and e fun u b ru hm => ?_) (AllAlike.of fun b b' => by simp [alike]) (Sortable.others fun b => ⟨by simp, by simp⟩) (sml _ hl) (fun b _ => ?_) fun out lo eo => ?_
  · obtain ⟨t, rfl⟩ := ru
    exact ⟨_, Reads.int b t⟩
  · simp only [PyData.depth]
    omega
  obtain ⟨ep, he'⟩ := PyProof.Rows.sortedAll_at s.heap its out.toArray
  rw [dataLe_int (fun b : Int => b)] at eo
  have pm := List.mergeSort_perm ns (fun p q : Int => decide (p ≤ q))
  have pw := List.pairwise_mergeSort (le := fun p q : Int => decide (p ≤ q)) (fun a b c h1 h2 => decide_eq_true (Int.le_trans (of_decide_eq_true h1) (of_decide_eq_true h2)))
    (fun a b => by
      rcases Int.le_total a b with h | h
      · simp [h]
      · simp [h]) ns
  have hlen : ((ns.mergeSort fun p q => decide (p ≤ q)).map V.int).length ≤ sizeLine := by
    rw [List.length_map, pm.length_eq]
    exact sml _ hl
  exact ⟨.ref _, upd H (s.heap.objs.size + 1) (.lst ((ns.mergeSort fun p q => decide (p ≤ q)).map V.int)), I.laid (t' := s.toks) (fun _ _ => PyProof.Rows.sortedAll_old) (Nat.le_succ _) ⟨hlen, out, ep, vals_each_ints eo, he'⟩, rfl,
    q _ _ pm (pw.imp fun h => of_decide_eq_true h) (I.hok.fresh (Nat.le_succ _))⟩
/-- sorted(t, key=len), t a tuple of tuples -/
def rSortLen (K : PySem.W.Frag) : List V → Hp → VK → Prop := fun vs H Q => ∃ (β : Type) (n : β → Nat) (a : Addr) (bs : List (V × β)), vs = [.ref a] ∧ SqT K H a (bs.map Prod.fst) ∧ bs.length ≤ 1000 ∧ (∀ b ∈ bs, ∃ t ys, b.1 = .ref t ∧ SqT K H t ys ∧ ys.length = n b.2) ∧
  ∀ (zs : List (V × β)) (p : Addr), zs.Perm bs → zs.Pairwise (fun x y => n x.2 ≤ n y.2) → H p = none → Q (.ref p) (upd H p (.lst (zs.map Prod.fst)))
theorem run_sortLen (hu : X.A.units + 64 < cLine) {pins : List (Addr × Obj)} {s : Shared} {σ : L2.St} {H : Hp} {vs : List V} {us : List Value} {Q : VK} (I : Inv X pins σ H s) (r : Vals vs us) (h : rSortLen X.K vs H Q) :
    wpAny (model X.prog X.w) X.A (call (.builtin "sorted") us [(Str.ofString "key", .builtin "len")]) (EP X pins σ Q) X.xe s := by
  obtain ⟨β, n, a, bs, rfl, hs, hl, hb, q⟩ := h
  obtain ⟨its, rv, pl, hz⟩ := I.tuple hs
  rw [Vals.ref1 r]
  have e := each_of rv rfl
  have sml : ∀ n, n ≤ 1000 → n ≤ sizeLine := fun n h => Nat.le_of_lt (Nat.lt_of_le_of_lt h (by decide))
  refine sorted_tup_key (b := false) (fun b : V × β => .int (n b.2 : Int)) pl e (AllAlike.of fun b b' => by simp [alike]) (Sortable.others fun b => ⟨by simp, by simp⟩) (sml _ hl) (fun b _ => ?_) (ksk_s1 _ _) (fun _ => ksk_l1 _ _) (fun _ => ksk_t4 _ _) (fun v x rx hx h tk kp => ?_) fun out c h' tk kp fr hD lo eo => ?_
  · simp only [PyData.depth]
    omega
  · obtain ⟨t, ys, et, St, el⟩ := hb x hx
    rw [et] at rx
    cases rx
    obtain ⟨its2, rv2, p2, hz2⟩ := I.tuple St
    have hlen := rv2.length
    have p3 : h.IsTuple t its2.toArray := by
      obtain ⟨o, ho, hc, hd⟩ := p2
      exact ⟨o, kp _ _ ho, hc, hd⟩
    have hn := line63
    refine len_tuple (s := { s with heap := h, toks := tk }) p3 (by simp only [List.size_toArray] <;> omega) ⟨h, tk + 1 + 1, rfl, fun b o e => e, ?_⟩
    rw [List.size_toArray, ← hlen, el]
    exact Reads.int _ _
  rw [dataLe_int (fun b : V × β => (n b.2 : Int))] at eo
  have pm := List.mergeSort_perm bs (fun p q : V × β => decide ((n p.2 : Int) ≤ (n q.2 : Int)))
  have pw := List.pairwise_mergeSort (le := fun p q : V × β => decide ((n p.2 : Int) ≤ (n q.2 : Int))) (fun a b c h1 h2 => decide_eq_true (Int.le_trans (of_decide_eq_true h1) (of_decide_eq_true h2)))
    (fun a b => by
      rcases Int.le_total (n a.2 : Int) (n b.2 : Int) with h | h
      · simp [h]
      · simp [h]) bs
  have hlen : ((bs.mergeSort fun p q => decide ((n p.2 : Int) ≤ (n q.2 : Int))).map Prod.fst).length ≤ sizeLine := by
    rw [List.length_map, pm.length_eq]
    exact sml _ hl
  exact ⟨.ref _, upd H (s.heap.objs.size + 1) (.lst ((bs.mergeSort fun p q => decide ((n p.2 : Int) ≤ (n q.2 : Int))).map Prod.fst)), I.laid (t' := tk) kp (Nat.le_succ _) ⟨hlen, out, c, vals_of_each eo, hD⟩, rfl,
    q _ _ pm (pw.imp fun h => by have := of_decide_eq_true h; omega) (I.hok.fresh (Nat.le_succ _))⟩
theorem pe_sortLen {e : Expr} {t : TA} {p p2 kpos pos : Pos} (hu : X.A.units + 64 < cLine) (hg : Gl X "sorted") (hm : X.mg "sorted" = none) (hg2 : Gl X "len") (hm2 : X.mg "len" = none) (ha : PA X [e] t)
    (he : backTo pos (starEach [e] X.env) = (false, eval e X.env) :: backTo pos (starEach [] X.env) := by rfl) (hpl : (backTo pos (starEach [e] X.env)).any (·.1) = false := by rfl)
    (hall : (backToKw pos (keywordEach [⟨some (Str.ofString "key"), .Name "len" p2, kpos⟩] X.env)).all (·.1.isSome) = true := by rfl) (hnone : (backToKw pos (keywordEach [⟨some (Str.ofString "key"), .Name "len" p2, kpos⟩] X.env)).any (·.1.isNone) = false := by rfl)
    (hks : (backToKw pos (keywordEach [⟨some (Str.ofString "key"), .Name "len" p2, kpos⟩] X.env)).filterMap (·.1) = [Str.ofString "key"] := by rfl) :
    PE X (.Call (.Name "sorted" p) [e] [⟨some (Str.ofString "key"), .Name "len" p2, kpos⟩] pos) (tCB (rSortLen X.K) t) := by
  refine ⟨fun pins s σ H Q I h => ?_⟩
  refine wpAny_Call_Name_kw (ld_blt I hg hm (u := .builtin "sorted") (by decide +kernel) ?_ (by decide) (by decide))
  refine PyProof.Rows.callWith_kw (thn (ha.run pos pins s σ H _ I h) fun us s1 ⟨vs, H1, I1, r1, q1⟩ => ?_) he hpl hall hnone
  show wpAny _ _ (evalAll [do let v ← eval (.Name "len" p2) X.env; standAt pos; pure v]) _ _ s1
  refine wpAny_evalAll_cons (wpAny_bind (ld_blt I1 hg2 hm2 (u := .builtin "len") (by decide +kernel) (wpAny_bind (wpAny_standAt (wpAny_pure (wpAny_evalAll_nil ?_)))) (by decide) (by decide)))
  rw [hks]
  exact run_sortLen hu I1 r1 q1
end
end MM
namespace MM
open PySem PySem.Spec PyProof.Rows L2
section
variable {K : PySem.W.Frag} {a b : Addr} {xs ys : List V} {g : TG} {tb : TS} {D : Ends} {σ : L2.St} {H : Hp}
theorem for_zipM (Pv : Nat → L2.St → Hp → Prop) (h0 : Pv 0 σ H) (hq : ∀ i σ H, Pv i σ H → SqL K H a xs ∧ SqL K H b ys)
    (hs : ∀ (i : Nat) (x y : V) (T : Addr) (σ : L2.St) (H : Hp), xs[i]? = some x → ys[i]? = some y → Pv i σ H → H T = none → g (.ref T) σ (upd H T (.tup [x, y])) fun σ2 H2 => tb { D with nx := Pv (i + 1), ct := Pv (i + 1), bk := D.nx } σ2 H2)
    (hd : ∀ σ H, Pv (min xs.length ys.length) σ H → D.nx σ H) : ForW (Itz K a b) g tb D σ H := by
  refine ⟨fun i m σ H => m = min xs.length ys.length - i ∧ i ≤ min xs.length ys.length ∧ Pv i σ H, ⟨_, rfl, Nat.zero_le _, h0⟩, ?_⟩
  rintro i m σ H ⟨rfl, le, p⟩
  obtain ⟨q1, q2⟩ := hq i σ H p
  by_cases lt : i < min xs.length ys.length
  · have e1 : xs[i]? = some (xs[i]'(by omega)) := List.getElem?_eq_getElem (by omega)
    have e2 : ys[i]? = some (ys[i]'(by omega)) := List.getElem?_eq_getElem (by omega)
    refine .inr ⟨⟨xs, ys, _, _, q1, q2, e1, e2⟩, Pv (i + 1), fun σ' H' p' => ⟨_, by omega, rfl, lt, p'⟩, ?_⟩
    rintro v H' ⟨T, x, y, rfl, free, rfl, h1, h2⟩
    exact hs i x y T σ H (h1 xs q1) (h2 ys q2) p free
  · have e : i = min xs.length ys.length := by omega
    subst e
    exact .inl ⟨⟨xs, ys, q1, q2, by omega⟩, hd σ H p⟩
end
end MM

set_option Elab.async false
set_option linter.all false
set_option maxRecDepth 100000
set_option maxHeartbeats 2000000
namespace K05
open PySem PySem.Spec PyProof.Rows L2 MM
def topS (i : Nat) : Stmt := PySem.Challenge.pw_movemarks_k05_whole_turned_moves.main.body.getD i (.Pass ⟨0, 0, 0, 0⟩)
/-! own words for the readings: a step, its side -/
local macro_rules | `(tactic| walk_at "side") => `(tactic| first
  | omega
  | exact ⟨by omega, by omega⟩
  | exact Or.inl ⟨by omega, by omega⟩
  | exact Or.inr ⟨by omega, by omega⟩
  | (show CPw _ _; decide +kernel)
  | (show (0 : Int) < _; decide +kernel)
  | (show CDivW _ _; first | assumption | exact ⟨by decide, by decide +kernel⟩))
local macro_rules | `(tactic| walk_at "here") => `(tactic| first
  | assumption
  | exact upd_same
  | exact Or.inl (Or.inl upd_same)
  | exact Or.inl upd_same)
local macro_rules | `(tactic| walk_at "one") => `(tactic| first
  | refine ⟨_, rfl, ?_⟩
  | refine Or.inl ⟨_, rfl, ?_⟩
  | refine Or.inr ⟨_, rfl, ?_⟩
  | refine ⟨_, _, rfl, rfl, (by walk_at "side"), ?_⟩
  | refine ⟨_, _, rfl, rfl, ?_⟩
  | refine ⟨_, _, rfl, Or.inl (by walk_at "here"), ?_⟩
  | refine ⟨_, _, rfl, Or.inr (by walk_at "here"), ?_⟩
  | refine ⟨_, _, rfl, (by walk_at "here"), ?_⟩
  | refine ⟨_, _, _, _, rfl, rfl, (by walk_at "here"), rfl, ?_⟩
  | refine ⟨_, _, rfl, ?_⟩
  | refine ifT (by rfl) ?_
  | refine ifF (by rfl) ?_
  | refine ifT (decide_eq_true (by omega)) ?_
  | refine ifF (decide_eq_false (by omega)) ?_)
local macro_rules | `(tactic| walk_at "st") => `(tactic| repeat (walk_at "one"))

abbrev sIsWhole : Stmt := topS 7
abbrev sIsBetween : Stmt := topS 8
abbrev sNeedBetween : Stmt := topS 9
abbrev sIsArrangement : Stmt := topS 13
abbrev sNeedMove : Stmt := topS 14
abbrev sNeedPair : Stmt := topS 15
abbrev sFollowed : Stmt := topS 16
abbrev sTurnedBack : Stmt := topS 17
abbrev sCycles : Stmt := topS 18
abbrev sPowerOf : Stmt := topS 19
abbrev sOrderOf : Stmt := topS 20
abbrev sTurned : Stmt := topS 21
abbrev sTurnedMove : Stmt := topS 22
abbrev sTurningMove : Stmt := topS 23
abbrev sIsTurningMove : Stmt := topS 24
abbrev sBagL : Stmt := topS 26
abbrev sGrabL : Stmt := topS 27
abbrev sOneOfL : Stmt := topS 28
abbrev sMixedL : Stmt := topS 29
abbrev sLotTimesL : Stmt := topS 30
abbrev sLotUndoneL : Stmt := topS 31
abbrev sOwnRingsL : Stmt := topS 32
abbrev sOwnTurnedL : Stmt := topS 33
abbrev sLengthsL : Stmt := topS 34
abbrev sIsTurningL : Stmt := topS 35
abbrev sTurnsRightL : Stmt := topS 36
abbrev sChainRightL : Stmt := topS 37
abbrev sLaw : Stmt := topS 38
structure Tx (K : PySem.W.Frag) (mg : Str → Option Value) : Prop where
  t_is_whole : At K mg "is_whole" sIsWhole
  t_is_between : At K mg "is_between" sIsBetween
  t_need_between : At K mg "need_between" sNeedBetween
  t_is_arrangement : At K mg "is_arrangement" sIsArrangement
  t_need_move : At K mg "_need_move" sNeedMove
  t_need_pair : At K mg "_need_pair" sNeedPair
  t_followed : At K mg "followed" sFollowed
  t_turned_back : At K mg "turned_back" sTurnedBack
  t_cycles : At K mg "_cycles" sCycles
  t_power_of : At K mg "power_of" sPowerOf
  t_order_of : At K mg "order_of" sOrderOf
  t_turned : At K mg "_turned" sTurned
  t_turned_move : At K mg "turned_move" sTurnedMove
  t_turning_move : At K mg "turning_move" sTurningMove
  t_is_turning_move : At K mg "is_turning_move" sIsTurningMove
  t_law_bag : At K mg "_law_bag" sBagL
  t_law_grab : At K mg "_law_grab" sGrabL
  t_law_one_of : At K mg "_law_one_of" sOneOfL
  t_law_mixed : At K mg "_law_mixed" sMixedL
  t_law_lot_times : At K mg "_law_lot_times" sLotTimesL
  t_law_lot_undone : At K mg "_law_lot_undone" sLotUndoneL
  t_law_own_rings : At K mg "_law_own_rings" sOwnRingsL
  t_law_own_turned : At K mg "_law_own_turned" sOwnTurnedL
  t_law_lengths : At K mg "_law_lengths" sLengthsL
  t_law_is_turning : At K mg "_law_is_turning" sIsTurningL
  t_law_turns_right : At K mg "_law_turns_right" sTurnsRightL
  t_law_chain_right : At K mg "_law_chain_right" sChainRightL
  t_law : At K mg "law" sLaw
  f_abs : mg "abs" = none
  f_all : mg "all" = none
  f_bool : mg "bool" = none
  f_enumerate : mg "enumerate" = none
  f_int : mg "int" = none
  f_isinstance : mg "isinstance" = none
  f_len : mg "len" = none
  f_list : mg "list" = none
  f_max : mg "max" = none
  f_min : mg "min" = none
  f_range : mg "range" = none
  f_repr : mg "repr" = none
  f_set : mg "set" = none
  f_sorted : mg "sorted" = none
  f_str : mg "str" = none
  f_sum : mg "sum" = none
  f_tuple : mg "tuple" = none
  f_zip : mg "zip" = none
  c_MAX_PLACES : ∃ u, mg "MAX_PLACES" = some u ∧ RelV (.int (24)) u
  c_MAX_POWER : ∃ u, mg "MAX_POWER" = some u ∧ RelV (.int (10 ^ 30)) u
  b_lcm : mg "lcm" = some (.builtin "math.lcm")

section
variable {P : Program} {w : World} {K : PySem.W.Frag} {mg : Str → Option Value} {base : Heap}
/-- a bag of draws -/
def BagAt (H : Hp) (p : Addr) : Prop := ∃ g m c : Int, H p = some (.lst [.int g, .int m, .int c])
def spBag (K : PySem.W.Frag) : Sp := fun vs H Q _ => ∃ (a : Addr) (n : Nat) (ns : List Int), vs = [.ref a, .int n] ∧ SqL K H a (ns.map V.int) ∧ n ≤ 100 ∧
  ∀ (H' : Hp) (p : Addr), Same H H' → H p = none → BagAt H' p → Q (.ref p) H'
theorem scBagL : FnScope ["_law_script", "_law_spot", "_law_cell", "_law_great", "_law_mixed_here"] ["_law_script", "_law_spot"] (defScope sBagL) :=
  ⟨rfl, rfl, rfl, by decide +kernel, rfl, by decide +kernel, by decide +kernel⟩
theorem dBagL (T : Tx K mg) : Def P w K mg base CX0 1 "_law_bag" ["_law_script", "_law_spot"] (spBag K) := by
  refine T.t_law_bag.def_ (N := ["_law_script", "_law_spot", "_law_cell", "_law_great", "_law_mixed_here"]) scBagL (fun _ _ _ _ _ _ us hl => match us, hl with | [_, _], _ => rfl) ?_ ?_
  · intro vs H Q E h
    obtain ⟨a, n, ns, rfl, _⟩ := h
    rfl
  · intro f cd A out s H vs Q E hr h
    obtain ⟨a, n, ns, rfl, hS, hn, q⟩ := h
    refine ⟨_, (pss_cons (ps_set (i := 2) scBagL.nd rfl (Or.inl rfl) (pe_ifExp (pt_cmpR op_lt (pv 1) (pe_callB call_len_seq rfl T.f_len (by decide +kernel) (pa_cons (pv 0) pa_nil)) (nomark _)) (pe_ix ix_list (pv 0) (pv 1) (fun _ _ => rfl)) (pe_op op_add (pe_op op_add (pe_callB (cr_sum rfl) rfl T.f_sum (by decide +kernel) (pa_cons (pe_slice sl_list (pv 0) po_none (po_some pe_int)) pa_nil)) (pe_op op_mul pe_int (pv 1))) pe_int)))
      (pss_cons (ps_set (i := 3) scBagL.nd rfl (Or.inl rfl) (pe_op op_mod (pe_callTy call_int1 rfl T.f_int (by decide +kernel) (pa_cons (pe_callB call_abs rfl T.f_abs (by decide +kernel) (pa_cons (pv 2) pa_nil)) pa_nil)) (pe_op op_pw (pe_op op_pw pe_int pe_int) pe_int)))
      (pss_cons (ps_set (i := 4) scBagL.nd rfl (Or.inl rfl) (pe_op op_add (pe_op op_add (pe_op op_add (pe_op op_mul (pe_op op_mod (pe_callTy call_int1 rfl T.f_int (by decide +kernel) (pa_cons (pv 3) pa_nil)) pe_int) pe_int) (pe_op op_mul pe_int (pv 1))) (pe_op op_mul pe_int (pe_callTy call_int1 rfl T.f_int (by decide +kernel) (pa_cons (pe_cmpR op_lt (pv 2) pe_int (nomark _)) pa_nil)))) pe_int))
      (pss_one (ps_ret (pe_lst (pa_cons (pe_callB (call_max2 rfl) rfl T.f_max (by decide +kernel) (pa_cons pe_int (pa_cons (pe_op op_sub (pv 3) (pe_op op_pw pe_int pe_int)) pa_nil))) (pa_cons (pe_op op_mod (pe_callTy call_int1 rfl T.f_int (by decide +kernel) (pa_cons (pv 4) pa_nil)) pe_int) (pa_cons pe_int pa_nil))))))))), ?_⟩
    -- behind the cell: whatever it is
    have fin : ∀ (H1 : Hp) (u v : Int), Same H H1 → ∀ p, H1 p = none → Q (.ref p) (upd H1 p (.lst [.int u, .int v, .int 0])) := by
      intro H1 u v sm p hp
      refine q _ p ?_ (sm.free hp) ⟨u, v, 0, upd_same⟩
      intro b o e
      rw [upd_ne (ne_of_none (sm b o e) hp)]
      exact sm b o e
    walk_at "st"
    refine ite2 (fun c => ?_) (fun c => ?_)
    · have lt : n < ns.length := by
        have := of_decide_eq_true c
        rw [List.length_map] at this
        omega
      refine ⟨_, rfl, _, rfl, a, _, _, _, rfl, rfl, hS, atI_cell lt, ?_⟩
      walk_at "st"
      exact ⟨by show 3 ≤ sizeLine; decide, fin H _ _ (Same.refl H)⟩
    · walk_at "st"
      intro p hp
      have sm : Same H (upd H p (.lst (cutV (ns.map V.int) none (some 1)))) := by
        intro b o e
        rw [upd_ne (ne_of_none e hp)]
        exact e
      have ec : cutV (ns.map V.int) none (some 1) = (ns.take 1).map V.int := by
        unfold cutV
        rw [HT.sIx_none, show HT.sIx (ns.map V.int).length (ns.map V.int).length (some 1) = min 1 (ns.map V.int).length from HT.sIx_nat _ _ 1, List.map_take, List.drop_zero, Nat.sub_zero]
        cases ns with
        | nil => rfl
        | cons x r => simp
      refine ⟨_, ns.take 1, rfl, ?_, ?_⟩
      · rw [← ec]
        exact .inl (.inl upd_same)
      walk_at "st"
      exact ⟨by show 3 ≤ sizeLine; decide, fin _ _ _ sm⟩
def spGrab : Sp := fun vs H Q _ => ∃ (p : Addr) (t g m c : Int), vs = [.ref p, .int t] ∧ H p = some (.lst [.int g, .int m, .int c]) ∧ CDivW 0 t ∧
  ∀ r g' m' c' : Int, 0 ≤ r → r < t → Q (.int r) (upd H p (.lst [.int g', .int m', .int c']))
theorem grab_out {H : Hp} {p : Addr} {t r : Int} {xs : List V} {Q : VK} (q : ∀ r g' m' c' : Int, 0 ≤ r → r < t → Q (.int r) (upd H p (.lst [.int g', .int m', .int c'])))
    (ht : 0 < t) (z : Int) (e : r = z % t) (ex : ∃ g' m' c', xs = [V.int g', V.int m', V.int c']) : Q (.int r) (upd H p (.lst xs)) := by
  obtain ⟨g', m', c', rfl⟩ := ex
  rw [e]
  exact q _ _ _ _ (Int.emod_nonneg _ (by omega)) (Int.emod_lt_of_pos _ ht)
theorem scGrabL : FnScope ["_law_bag_here", "_law_total", "_law_found", "_law_one", "_law_two"] ["_law_bag_here", "_law_total"] (defScope sGrabL) :=
  ⟨rfl, rfl, rfl, by decide +kernel, rfl, by decide +kernel, by decide +kernel⟩
theorem dGrabL (T : Tx K mg) : Def P w K mg base CX0 1 "_law_grab" ["_law_bag_here", "_law_total"] spGrab := by
  refine T.t_law_grab.def_ (N := ["_law_bag_here", "_law_total", "_law_found", "_law_one", "_law_two"]) scGrabL (fun _ _ _ _ _ _ us hl => match us, hl with | [_, _], _ => rfl) ?_ ?_
  · intro vs H Q E h
    obtain ⟨p, t, g, m, c, rfl, _⟩ := h
    rfl
  · intro f cd A out s H vs Q E hr h
    obtain ⟨p, t, g, m, c, rfl, hp, ht, q⟩ := h
    have ht0 : 0 < t := ht.1
    have hS : SqL K H p _ := .inl (.inl hp)
    have hd : ∀ i, CDivW i t := fun _ => ht
    refine ⟨_, (pss_cons (ps_if (pt_cmpR op_gt (pe_ix ix_list (pv 0) pe_int (fun _ _ => rfl)) pe_int (nomark _)) (pss_cons (ps_set (i := 2) scGrabL.nd rfl (Or.inl rfl) (pe_op op_mod (pe_callTy call_int1 rfl T.f_int (by decide +kernel) (pa_cons (pe_ix ix_list (pv 0) pe_int (fun _ _ => rfl)) pa_nil)) (pv 1)))
        (pss_cons (ps_asg (pe_op op_fdivW (pe_ix ix_list (pv 0) pe_int (fun _ _ => rfl)) (pv 1)) (pg_sub (pv 0) pe_int set_list))
        (pss_one (ps_ret (pv 2))))) pss_nil)
      (pss_cons (ps_asg (pe_op op_add (pe_ix ix_list (pv 0) pe_int (fun _ _ => rfl)) pe_int) (pg_sub (pv 0) pe_int set_list))
      (pss_cons (ps_set (i := 3) scGrabL.nd rfl (Or.inl rfl) (pe_op op_mod (pe_callTy call_int1 rfl T.f_int (by decide +kernel) (pa_cons (pe_op op_add (pe_ix ix_list (pv 0) pe_int (fun _ _ => rfl)) (pe_op op_mul pe_int (pe_ix ix_list (pv 0) pe_int (fun _ _ => rfl)))) pa_nil)) pe_int))
      (pss_cons (ps_set (i := 4) scGrabL.nd rfl (Or.inl rfl) (pe_op op_add (pe_op op_mul (pe_op op_mod (pe_callTy call_int1 rfl T.f_int (by decide +kernel) (pa_cons (pe_op op_mul (pv 3) (pv 3)) pa_nil)) pe_int) (pv 3)) (pe_op op_mul pe_int (pe_ix ix_list (pv 0) pe_int (fun _ _ => rfl)))))
      (pss_one (ps_ret (pe_op op_mod (pe_callTy call_int1 rfl T.f_int (by decide +kernel) (pa_cons (pe_op op_fdivW (pe_op op_mod (pe_callTy call_int1 rfl T.f_int (by decide +kernel) (pa_cons (pv 4) pa_nil)) pe_int) pe_int) pa_nil)) (pv 1)))))))), ?_⟩
    walk_at "st"
    refine ite2 (fun c => ?_) (fun c => ?_)
    · walk_at "st"
      refine grab_out q ht0 g rfl ⟨_, _, _, rfl⟩
    · walk_at "st"
      refine grab_out q ht0 _ rfl ⟨_, _, _, rfl⟩
theorem sql_upd {K : PySem.W.Frag} {H : Hp} {p l : Addr} {xs : List V} {o : HO} (h : SqL K H l xs) (ne : l ≠ p) : SqL K (upd H p o) l xs := by
  rcases h with (h | ⟨u, h⟩) | h
  · exact .inl (.inl (by rw [upd_ne ne]; exact h))
  · exact .inl (.inr ⟨u, by rw [upd_ne ne]; exact h⟩)
  · exact .inr h
theorem at_in {xs : List V} {r : Int} (h0 : 0 ≤ r) (h1 : r < xs.length) : ∃ v, v ∈ xs ∧ atI xs r = some v := by
  have lt : r.toNat < xs.length := by omega
  refine ⟨xs[r.toNat], List.getElem_mem lt, ?_⟩
  have e : ((r.toNat : Nat) : Int) = r := by omega
  have q := atI_nat (xs := xs) (j := r.toNat) (List.getElem?_eq_getElem lt)
  rw [e] at q
  exact q
theorem div_small {n : Nat} (h0 : 0 < n) (h : n ≤ 100000) : CDivW 0 (n : Int) := by
  refine wide_div (b := 20) (by omega) ?_ (by decide) (by decide)
  have e : ((n : Int)).natAbs = n := Int.natAbs_natCast n
  rw [e]
  exact Nat.lt_of_le_of_lt h (by decide)
def spOneOf (K : PySem.W.Frag) : Sp := fun vs H Q _ => ∃ (p l : Addr) (g m c : Int) (xs : List V), vs = [.ref p, .ref l] ∧ H p = some (.lst [.int g, .int m, .int c]) ∧ SqL K H l xs ∧
  l ≠ p ∧ 0 < xs.length ∧ xs.length ≤ 1000 ∧ ∀ v g' m' c', v ∈ xs → Q v (upd H p (.lst [.int g', .int m', .int c']))
theorem scOneOfL : FnScope ["_law_bag_here", "_law_items"] ["_law_bag_here", "_law_items"] (defScope sOneOfL) :=
  ⟨rfl, rfl, rfl, by decide +kernel, rfl, by decide +kernel, by decide +kernel⟩
theorem dOneOfL (T : Tx K mg) (DGrabL : Def P w K mg base CX0 1 "_law_grab" ["_law_bag_here", "_law_total"] spGrab) : Def P w K mg base CX0 2 "_law_one_of" ["_law_bag_here", "_law_items"] (spOneOf K) := by
  refine T.t_law_one_of.def_ (N := ["_law_bag_here", "_law_items"]) scOneOfL (fun _ _ _ _ _ _ us hl => match us, hl with | [_, _], _ => rfl) ?_ ?_
  · intro vs H Q E h
    obtain ⟨p, l, g, m, c, xs, rfl, _⟩ := h
    rfl
  · intro f cd A out s H vs Q E hr h
    have hr1 : Rm 1 _ := hr.le (by decide)
    obtain ⟨p, l, g, m, c, xs, rfl, hp, hS, ne, h0, h1, q⟩ := h
    refine ⟨_, (pss_one (ps_ret (pe_ix ix_list (pv 1) (pe_d DGrabL (hr1.le (by decide)) pass0 (pa_cons (pv 0) (pa_cons (pe_callB call_len_seq rfl T.f_len (by decide +kernel) (pa_cons (pv 1) pa_nil)) pa_nil))) (fun _ _ => rfl)))), ?_⟩
    walk_at "st"
    refine ⟨p, _, g, m, c, rfl, hp, div_small h0 (by omega), fun r g' m' c' r0 r1 => ?_⟩
    obtain ⟨v, hv, e⟩ := at_in r0 r1
    exact ⟨_, _, _, v, rfl, rfl, sql_upd hS ne, e, q v g' m' c' hv⟩
end
end K05


set_option Elab.async false
set_option linter.all false
set_option maxRecDepth 100000
set_option maxHeartbeats 2000000
namespace K05
open PySem PySem.Spec PyProof.Rows L2 MM
/-! own words for the readings: a step, its side -/
local macro_rules | `(tactic| walk_at "side") => `(tactic| first
  | omega
  | exact ⟨by omega, by omega⟩
  | exact Or.inl ⟨by omega, by omega⟩
  | exact Or.inr ⟨by omega, by omega⟩
  | (show CPw _ _; decide +kernel)
  | (show (0 : Int) < _; decide +kernel)
  | (show CDivW _ _; first | assumption | exact ⟨by decide, by decide +kernel⟩))
local macro_rules | `(tactic| walk_at "here") => `(tactic| first
  | assumption
  | exact upd_same
  | exact Or.inl (Or.inl upd_same)
  | exact Or.inl upd_same)
local macro_rules | `(tactic| walk_at "one") => `(tactic| first
  | refine ⟨_, rfl, ?_⟩
  | refine Or.inl ⟨_, rfl, ?_⟩
  | refine Or.inr ⟨_, rfl, ?_⟩
  | refine ⟨_, _, rfl, rfl, (by walk_at "side"), ?_⟩
  | refine ⟨_, _, rfl, rfl, ?_⟩
  | refine ⟨_, _, rfl, Or.inl (by walk_at "here"), ?_⟩
  | refine ⟨_, _, rfl, Or.inr (by walk_at "here"), ?_⟩
  | refine ⟨_, _, rfl, (by walk_at "here"), ?_⟩
  | refine ⟨_, _, _, _, rfl, rfl, (by walk_at "here"), rfl, ?_⟩
  | refine ⟨_, _, rfl, ?_⟩
  | refine ifT (by rfl) ?_
  | refine ifF (by rfl) ?_
  | refine ifT (decide_eq_true (by omega)) ?_
  | refine ifF (decide_eq_false (by omega)) ?_)
local macro_rules | `(tactic| walk_at "st") => `(tactic| repeat (walk_at "one"))

section
variable {P : Program} {w : World} {K : PySem.W.Frag} {mg : Str → Option Value} {base : Heap}
def spIsWhole (K : PySem.W.Frag) : Sp := fun vs H Q _ => ∃ x n, vs = [x] ∧ Kd K H x n ∧ Q (.bl (isW x)) H
theorem scIsWhole : FnScope ["value"] ["value"] (defScope sIsWhole) :=
  ⟨rfl, rfl, rfl, by decide +kernel, rfl, by decide +kernel, by decide +kernel⟩
theorem dIsWhole (T : Tx K mg) : Def P w K mg base CX0 1 "is_whole" ["value"] (spIsWhole K) := by
  refine T.t_is_whole.def_ (N := ["value"]) scIsWhole (fun _ _ _ _ _ _ us hl => match us, hl with | [_], _ => rfl) ?_ ?_
  · intro vs H Q E h
    obtain ⟨x, n, rfl, _⟩ := h
    rfl
  · intro f cd A out s H vs Q E hr h
    obtain ⟨x, n, rfl, hk, q⟩ := h
    refine ⟨_, (pss_one (ps_ret (pe_and (pe_callB (cr_is .int) rfl T.f_isinstance (by decide +kernel) (pa_cons (pv 0) (pa_cons (pe_ty .int T.f_int (by decide +kernel)) pa_nil))) (pe_one (pe_not (pe_callB (cr_is .bl) rfl T.f_isinstance (by decide +kernel) (pa_cons (pv 0) (pa_cons (pe_ty .bl T.f_bool (by decide +kernel)) pa_nil)))))))), ?_⟩
    refine ⟨_, rfl, _, _, rfl, hk, _, rfl, ?_⟩
    cases hk
    all_goals walk_at "st"
    all_goals first
      | exact q
      | (refine ⟨_, _, rfl, .int _, ?_⟩; walk_at "st"; exact q)
      | (refine ⟨_, _, rfl, .bl _, ?_⟩; walk_at "st"; exact q)
def isB (x : V) (l m : Int) : Bool := match x with
  | .int i => decide (l ≤ i) && decide (i ≤ m)
  | _ => false
def spIsBetween (K : PySem.W.Frag) : Sp := fun vs H Q _ => ∃ x n l m, vs = [x, .int l, .int m] ∧ Kd K H x n ∧ Q (.bl (isB x l m)) H
theorem scIsBetween : FnScope ["value", "least", "most"] ["value", "least", "most"] (defScope sIsBetween) :=
  ⟨rfl, rfl, rfl, by decide +kernel, rfl, by decide +kernel, by decide +kernel⟩
theorem dIsBetween (T : Tx K mg) (DIsWhole : Def P w K mg base CX0 1 "is_whole" ["value"] (spIsWhole K)) : Def P w K mg base CX0 2 "is_between" ["value", "least", "most"] (spIsBetween K) := by
  refine T.t_is_between.def_ (N := ["value", "least", "most"]) scIsBetween (fun _ _ _ _ _ _ us hl => match us, hl with | [_, _, _], _ => rfl) ?_ ?_
  · intro vs H Q E h
    obtain ⟨x, n, l, m, rfl, _⟩ := h
    rfl
  · intro f cd A out s H vs Q E hr h
    have hr1 : Rm 1 _ := hr.le (by decide)
    obtain ⟨x, n, l, m, rfl, hk, q⟩ := h
    refine ⟨_, (pss_one (ps_ret (pe_and (pe_d DIsWhole (hr1.le (by decide)) pass0 (pa_cons (pv 0) pa_nil)) (pe_one (pe_chain op_le op_le (pv 1) (pv 0) (pv 2)))))), ?_⟩
    refine ⟨_, rfl, _, n, rfl, hk, _, rfl, ?_⟩
    cases hk
    all_goals walk_at "st"
    all_goals first
      | exact q
      | skip
    rename_i i
    refine ite2 (fun c => ?_) (fun c => ?_)
    · walk_at "st"
      have q' : Q (.bl (decide (l ≤ i) && decide (i ≤ m))) H := q
      rw [show decide (l ≤ i) = true from c, Bool.true_and] at q'
      exact q'
    · have q' : Q (.bl (decide (l ≤ i) && decide (i ≤ m))) H := q
      rw [show decide (l ≤ i) = false from Bool.eq_false_iff.mpr c, Bool.false_and] at q'
      exact q'
def spNeedBetween (K : PySem.W.Frag) : Sp := fun vs H Q _ => ∃ i l m : Int, vs = [.int i, .int l, .int m] ∧ l ≤ i ∧ i ≤ m ∧ Q .non H
theorem scNeedBetween : FnScope ["value", "least", "most"] ["value", "least", "most"] (defScope sNeedBetween) :=
  ⟨rfl, rfl, rfl, by decide +kernel, rfl, by decide +kernel, by decide +kernel⟩
theorem dNeedBetween (T : Tx K mg) (DIsBetween : Def P w K mg base CX0 2 "is_between" ["value", "least", "most"] (spIsBetween K)) : Def P w K mg base CX0 3 "need_between" ["value", "least", "most"] (spNeedBetween K) := by
  refine T.t_need_between.def_ (N := ["value", "least", "most"]) scNeedBetween (fun _ _ _ _ _ _ us hl => match us, hl with | [_, _, _], _ => rfl) ?_ ?_
  · intro vs H Q E h
    obtain ⟨i, l, m, rfl, _⟩ := h
    rfl
  · intro f cd A out s H vs Q E hr h
    have hr1 : Rm 2 _ := hr.le (by decide)
    obtain ⟨i, l, m, rfl, h1, h2, q⟩ := h
    refine ⟨_, (pss_one (ps_if (pt_not (pt_val (pe_d DIsBetween (hr1.le (by decide)) pass0 (pa_cons (pv 0) (pa_cons (pv 1) (pa_cons (pv 2) pa_nil)))))) (pss_one ps_never) pss_nil)), ?_⟩
    refine ⟨_, rfl, _, rfl, _, rfl, _, .int, l, m, rfl, .int i, _, rfl, ?_⟩
    refine ifF ?_ q
    show (!(decide (l ≤ i) && decide (i ≤ m))) = false
    rw [decide_eq_true h1, decide_eq_true h2] <;> rfl

def spNeedPlaces (K : PySem.W.Frag) : Sp := fun vs H Q _ => ∃ n : Nat, vs = [.int (n : Int)] ∧ 1 ≤ n ∧ n ≤ 24 ∧ Q .non H
/-! moves -/
def mv (m : List Nat) : List V := m.map fun (k : Nat) => V.int (k : Int)
def comp (m l : List Nat) : List Nat := l.map fun k => m.getD k 0
def vat (m : List Nat) : V → V
  | .int i => .int ((m.getD i.toNat 0 : Nat) : Int)
  | _ => .non
theorem mv_len (m : List Nat) : (mv m).length = m.length := List.length_map _
theorem mv_at {m : List Nat} {k : Nat} (h : k < m.length) : atI (mv m) (k : Int) = some (.int ((m.getD k 0 : Nat) : Int)) := by
  refine atI_nat ?_
  unfold mv
  rw [List.getElem?_map, List.getElem?_eq_getElem h]
  simp [List.getD, List.getElem?_eq_getElem h]
theorem mv_comp (m l : List Nat) : (mv l).map (vat m) = mv (comp m l) := by
  unfold mv comp
  rw [List.map_map, List.map_map]
  rfl
theorem rg_mv (n : Nat) : rgV 0 (n : Int) = mv (List.range n) := by
  unfold rgV mv
  rw [show ((n : Int) - 0).toNat = n by omega]
  refine List.map_congr_left fun i _ => ?_
  rw [Int.zero_add]
def spUnit (K : PySem.W.Frag) : Sp := fun vs H Q _ => ∃ n : Nat, vs = [.int (n : Int)] ∧ 1 ≤ n ∧ n ≤ 24 ∧ ∀ t, H t = none → Q (.ref t) (upd H t (.tup (mv (List.range n))))
def spComp (K : PySem.W.Frag) : Sp := fun vs H Q _ => ∃ a b m l, vs = [.ref a, .ref b] ∧ SqT K H a (mv m) ∧ SqT K H b (mv l) ∧ l.length ≤ 1000 ∧ (∀ k ∈ l, k < m.length) ∧ ∀ H' t, Same H H' → SqT K H' t (mv (comp m l)) → Q (.ref t) H'
theorem scFollowed : FnScope ["one", "other", "place"] ["one", "other"] (defScope sFollowed) :=
  ⟨rfl, rfl, rfl, by decide +kernel, rfl, by decide +kernel, by decide +kernel⟩
theorem dFollowed (T : Tx K mg) : Def P w K mg base CX0 1 "followed" ["one", "other"] (spComp K) := by
  refine T.t_followed.def_ (N := ["one", "other", "place"]) scFollowed (fun _ _ _ _ _ _ us hl => match us, hl with | [_, _], _ => rfl) ?_ ?_
  · intro vs H Q E h
    obtain ⟨a, b, m, l, rfl, _⟩ := h
    rfl
  · intro f cd A out s H vs Q E hr h
    obtain ⟨a, b, m, l, rfl, Sa, Sb, len, lt, q⟩ := h
    refine ⟨_, (pss_one (ps_ret (pe_callTy call_tuple_of rfl T.f_tuple (by decide +kernel) (pa_cons (pe_lc (own := [("place", 2)]) (g := gName 2) (tt := tYes) rfl scFollowed.nd (pi_tup (pv 1)) (blkOk_by (N := ["one", "other", "place"]) (sc := defScope sFollowed) (by decide +kernel)) (fun _ _ _ _ _ => pg_name (i := 2) scFollowed.nd rfl (Or.inl rfl)) (fun _ _ _ _ _ => pts_nil) (fun _ _ _ _ _ => (pe_ix (show IxR _ (rIxT K) from ix_tup) (pv 0) (pv 2) (fun _ _ => rfl)))) pa_nil)))), ?_⟩
    refine ⟨_, rfl, b, rfl, ⟨_, Sb⟩, fun D nD => ?_⟩
    refine lc_tpl (vat m) Sb nD (by rw [mv_len]; exact Nat.le_of_lt (small1000 len)) ?_ ?_
    · intro x acc hx Q' q'
      obtain ⟨k, hk, rfl⟩ := List.mem_map.mp hx
      exact ⟨_, rfl, _, rfl, a, _, _, _, rfl, rfl, sqt_new Sa nD, mv_at (lt k hk), q'⟩
    · rw [mv_comp]
      exact ⟨D, _, rfl, .inl ⟨.inl (.inl upd_same), fun t ft => q _ t ((same_new nD).trans (same_new ft)) (.inl (.inl upd_same))⟩⟩
theorem scLotTimesL : FnScope ["_law_one", "_law_other", "_law_place"] ["_law_one", "_law_other"] (defScope sLotTimesL) :=
  ⟨rfl, rfl, rfl, by decide +kernel, rfl, by decide +kernel, by decide +kernel⟩
theorem dLotTimesL (T : Tx K mg) : Def P w K mg base CX0 1 "_law_lot_times" ["_law_one", "_law_other"] (spComp K) := by
  refine T.t_law_lot_times.def_ (N := ["_law_one", "_law_other", "_law_place"]) scLotTimesL (fun _ _ _ _ _ _ us hl => match us, hl with | [_, _], _ => rfl) ?_ ?_
  · intro vs H Q E h
    obtain ⟨a, b, m, l, rfl, _⟩ := h
    rfl
  · intro f cd A out s H vs Q E hr h
    obtain ⟨a, b, m, l, rfl, Sa, Sb, len, lt, q⟩ := h
    refine ⟨_, (pss_one (ps_ret (pe_callTy call_tuple_of rfl T.f_tuple (by decide +kernel) (pa_cons (pe_lc (own := [("_law_place", 2)]) (g := gName 2) (tt := tYes) rfl scLotTimesL.nd (pi_tup (pv 1)) (blkOk_by (N := ["_law_one", "_law_other", "_law_place"]) (sc := defScope sLotTimesL) (by decide +kernel)) (fun _ _ _ _ _ => pg_name (i := 2) scLotTimesL.nd rfl (Or.inl rfl)) (fun _ _ _ _ _ => pts_nil) (fun _ _ _ _ _ => (pe_ix (show IxR _ (rIxT K) from ix_tup) (pv 0) (pv 2) (fun _ _ => rfl)))) pa_nil)))), ?_⟩
    refine ⟨_, rfl, b, rfl, ⟨_, Sb⟩, fun D nD => ?_⟩
    refine lc_tpl (vat m) Sb nD (by rw [mv_len]; exact Nat.le_of_lt (small1000 len)) ?_ ?_
    · intro x acc hx Q' q'
      obtain ⟨k, hk, rfl⟩ := List.mem_map.mp hx
      exact ⟨_, rfl, _, rfl, a, _, _, _, rfl, rfl, sqt_new Sa nD, mv_at (lt k hk), q'⟩
    · rw [mv_comp]
      exact ⟨D, _, rfl, .inl ⟨.inl (.inl upd_same), fun t ft => q _ t ((same_new nD).trans (same_new ft)) (.inl (.inl upd_same))⟩⟩
/-! the move undone -/
def putB (m b : List Nat) (j : Nat) : List Nat := b.set (m.getD j 0) j
def backT (m : List Nat) (i : Nat) : List Nat := (List.range i).foldl (putB m) (List.replicate m.length 0)
def back (m : List Nat) : List Nat := backT m m.length
theorem backT_succ (m : List Nat) (i : Nat) : backT m (i + 1) = (backT m i).set (m.getD i 0) i := by
  unfold backT
  rw [List.range_succ, List.foldl_append]
  rfl
theorem backT_len (m : List Nat) : ∀ i, (backT m i).length = m.length
  | 0 => List.length_replicate
  | i + 1 => by rw [backT_succ, List.length_set, backT_len m i]
theorem mv_set (b : List Nat) (k i : Nat) : (mv b).set k (V.int (i : Int)) = mv (b.set k i) := by
  unfold mv
  rw [List.map_set]
theorem mv_nth {m : List Nat} {i : Nat} {x : V} (h : (mv m)[i]? = some x) : i < m.length ∧ x = .int ((m.getD i 0 : Nat) : Int) := by
  unfold mv at h
  rw [List.getElem?_map] at h
  by_cases c : i < m.length
  · rw [List.getElem?_eq_getElem c] at h
    refine ⟨c, ?_⟩
    rw [List.getD, List.getElem?_eq_getElem c]
    exact (Option.some.inj h).symm
  · rw [List.getElem?_eq_none (by omega)] at h
    cases h
theorem ixN_lt {n k : Nat} (h : k < n) : ixN n (k : Int) = some k := by
  unfold ixN
  simp
  omega
def spBack (K : PySem.W.Frag) : Sp := fun vs H Q _ => ∃ a m, vs = [.ref a] ∧ SqT K H a (mv m) ∧ m.length ≤ 1000 ∧ (∀ k ∈ m, k < m.length) ∧ ∀ H' t, Same H H' → SqT K H' t (mv (back m)) → Q (.ref t) H'
theorem scTurnedBack : FnScope ["move", "back", "_", "place", "target"] ["move"] (defScope sTurnedBack) :=
  ⟨rfl, rfl, rfl, by decide +kernel, rfl, by decide +kernel, by decide +kernel⟩
theorem dTurnedBack (T : Tx K mg) : Def P w K mg base CX0 1 "turned_back" ["move"] (spBack K) := by
  refine T.t_turned_back.def_ (N := ["move", "back", "_", "place", "target"]) scTurnedBack (fun _ _ _ _ _ _ us hl => match us, hl with | [_], _ => rfl) ?_ ?_
  · intro vs H Q E h
    obtain ⟨a, m, rfl, _⟩ := h
    rfl
  · intro f cd A out s H vs Q E hr h
    obtain ⟨a, m, rfl, Sa, len, lt, q⟩ := h
    refine ⟨_, (pss_cons (ps_setLc (i := 1) (own := [("_", 2)]) (g := gName 2) (tt := tYes) rfl scTurnedBack.nd rfl rfl (sw_true rfl rfl rfl rfl) (pi_tup (pv 0)) (blkOk_by (N := ["move", "back", "_", "place", "target"]) (sc := defScope sTurnedBack) (by decide +kernel)) (fun _ _ _ _ _ => pg_name (i := 2) scTurnedBack.nd rfl (Or.inl rfl)) (fun _ _ _ _ _ => pts_nil) (fun _ _ _ _ _ => pe_int))
      (pss_cons (ps_for PassesOwn.never rfl (pi_enumT rfl T.f_enumerate (pa_cons (pv 0) pa_nil)) (pg_tup rfl (pgs_cons (pg_name (i := 3) scTurnedBack.nd rfl (Or.inl rfl)) (pgs_cons (pg_name (i := 4) scTurnedBack.nd rfl (Or.inl rfl)) pgs_nil)))
        (pss_one (ps_asg (pv 3) (pg_sub (pv 1) (pv 4) set_list))))
      (pss_one (ps_ret (pe_callTy call_tuple_of rfl T.f_tuple (by decide +kernel) (pa_cons (pv 1) pa_nil)))))), ?_⟩
    refine ⟨_, rfl, a, rfl, ⟨_, Sa⟩, fun D nD => ?_⟩
    refine lc_tpl (fun _ => V.int 0) Sa nD (by rw [mv_len]; exact Nat.le_of_lt (small1000 len)) (fun x acc hx Q' q' => q') ?_
    have e0 : (mv m).map (fun _ => V.int 0) = mv (backT m 0) := by
      unfold backT mv
      rw [List.map_map]
      show _ = (List.replicate m.length 0).map _
      rw [List.map_replicate]
      exact List.map_const' ..
    rw [e0]
    have S1 : Same H (upd H D (.lst (mv (backT m 0)))) := same_new nD
    have D1 : (upd H D (.lst (mv (backT m 0)))) D = some (.lst (mv (backT m 0))) := upd_same
    have Sa1 := same_sqt S1 Sa
    generalize upd H D _ = H1 at S1 D1 Sa1 ⊢
    refine ⟨_, rfl, a, _, rfl, Sa1, ?_⟩
    refine for_enumT (K := K) (a := a) (xs := mv m) (fun i σ H2 => Same H H2 ∧ H2 D = some (.lst (mv (backT m i))) ∧ ∃ y z, σ = [some (.ref a), some (.ref D), none, y, z]) ⟨S1, D1, none, none, rfl⟩ (fun i σ H2 _ e => same_sqt e.1 Sa) ?_ ?_
    · rintro i x σ H2 T hx ⟨sm, hD, y, z, rfl⟩ fT
      obtain ⟨li, rfl⟩ := mv_nth hx
      have nDT : D ≠ T := ne_of_none hD fT
      have lk : m.getD i 0 < m.length := lt _ (by rw [List.getD, List.getElem?_eq_getElem li]; exact List.getElem_mem li)
      refine ⟨T, _, rfl, .inl (.inl upd_same), rfl, _, _, rfl, ?_⟩
      refine ⟨_, _, rfl, rfl, ?_⟩
      refine ⟨_, rfl, _, rfl, _, rfl, D, _, _, m.getD i 0, rfl, rfl, (upd_ne nDT).trans hD, ?_, ?_, upd_same.trans ?_, _, _, rfl⟩
      · rw [mv_len, backT_len]
        exact ixN_lt lk
      · intro b o e
        rw [upd_ne (ne_of_none e nD)]
        exact same_new fT b o (sm b o e)
      · rw [mv_set, backT_succ]
    · rintro σ H2 ⟨sm, hD, y, z, rfl⟩
      rw [mv_len] at hD
      exact ⟨_, rfl, D, _, rfl, .inl ⟨.inl (.inl hD), fun t ft => q _ t (sm.trans (same_new ft)) (.inl (.inl upd_same))⟩⟩
theorem rep_zero (m : List Nat) : (List.replicate ((mv m).length : Int).toNat [V.int 0]).flatten = mv (backT m 0) := by
  rw [Int.toNat_natCast, mv_len]
  unfold backT mv
  generalize m.length = n
  show _ = (List.replicate n 0).map _
  induction n with
  | zero => rfl
  | succ n ih =>
    rw [List.replicate_succ, List.replicate_succ, List.flatten_cons, ih]
    rfl
theorem scLotUndoneL : FnScope ["_law_move", "_law_found", "_law_place", "_law_goal"] ["_law_move"] (defScope sLotUndoneL) :=
  ⟨rfl, rfl, rfl, by decide +kernel, rfl, by decide +kernel, by decide +kernel⟩
theorem dLotUndoneL (T : Tx K mg) : Def P w K mg base CX0 1 "_law_lot_undone" ["_law_move"] (spBack K) := by
  refine T.t_law_lot_undone.def_ (N := ["_law_move", "_law_found", "_law_place", "_law_goal"]) scLotUndoneL (fun _ _ _ _ _ _ us hl => match us, hl with | [_], _ => rfl) ?_ ?_
  · intro vs H Q E h
    obtain ⟨a, m, rfl, _⟩ := h
    rfl
  · intro f cd A out s H vs Q E hr h
    obtain ⟨a, m, rfl, Sa, len, lt, q⟩ := h
    refine ⟨_, (pss_cons (ps_set (i := 1) scLotUndoneL.nd rfl (Or.inl rfl) (pe_op op_rep (pe_lst (pa_cons pe_int pa_nil)) (pe_callB call_len_seq rfl T.f_len (by decide +kernel) (pa_cons (pv 0) pa_nil))))
      (pss_cons (ps_for PassesOwn.never rfl (pi_enumT rfl T.f_enumerate (pa_cons (pv 0) pa_nil)) (pg_tup rfl (pgs_cons (pg_name (i := 2) scLotUndoneL.nd rfl (Or.inl rfl)) (pgs_cons (pg_name (i := 3) scLotUndoneL.nd rfl (Or.inl rfl)) pgs_nil)))
        (pss_one (ps_asg (pv 2) (pg_sub (pv 1) (pv 3) set_list))))
      (pss_one (ps_ret (pe_callTy call_tuple_of rfl T.f_tuple (by decide +kernel) (pa_cons (pv 1) pa_nil)))))), ?_⟩
    refine ⟨by (show 1 ≤ sizeLine); decide, fun l fl => ?_⟩
    have S0 : Same H (upd H l (.lst [.int 0])) := same_new fl
    have L0 : (upd H l (.lst [.int 0])) l = some (.lst [.int 0]) := upd_same
    have Sa0 := same_sqt S0 Sa
    generalize upd H l _ = H0 at S0 L0 Sa0 ⊢
    refine ⟨_, rfl, a, _, rfl, .inr Sa0, l, _, _, rfl, rfl, L0, by omega, by rw [mv_len]; omega, by rw [mv_len]; exact Nat.le_of_lt (small1000 (n := 1 * m.length) (by omega)), fun D nD => ?_⟩
    rw [rep_zero]
    have S1 : Same H (upd H0 D (.lst (mv (backT m 0)))) := S0.trans (same_new nD)
    have D1 : (upd H0 D (.lst (mv (backT m 0)))) D = some (.lst (mv (backT m 0))) := upd_same
    have Sa1 := same_sqt S1 Sa
    have fD : ∀ b o, H b = some o → b ≠ D := fun b o e => ne_of_none (S0 b o e) nD
    generalize upd H0 D _ = H1 at S1 D1 Sa1 ⊢
    refine ⟨_, rfl, a, _, rfl, Sa1, ?_⟩
    refine for_enumT (K := K) (a := a) (xs := mv m) (fun i σ H2 => Same H H2 ∧ H2 D = some (.lst (mv (backT m i))) ∧ ∃ y z, σ = [some (.ref a), some (.ref D), y, z]) ⟨S1, D1, none, none, rfl⟩ (fun i σ H2 _ e => same_sqt e.1 Sa) ?_ ?_
    · rintro i x σ H2 T hx ⟨sm, hD, y, z, rfl⟩ fT
      obtain ⟨li, rfl⟩ := mv_nth hx
      have nDT : D ≠ T := ne_of_none hD fT
      have lk : m.getD i 0 < m.length := lt _ (by rw [List.getD, List.getElem?_eq_getElem li]; exact List.getElem_mem li)
      refine ⟨T, _, rfl, .inl (.inl upd_same), rfl, _, _, rfl, ?_⟩
      refine ⟨_, _, rfl, rfl, ?_⟩
      refine ⟨_, rfl, _, rfl, _, rfl, D, _, _, m.getD i 0, rfl, rfl, (upd_ne nDT).trans hD, ?_, ?_, upd_same.trans ?_, _, _, rfl⟩
      · rw [mv_len, backT_len]
        exact ixN_lt lk
      · intro b o e
        rw [upd_ne (fD b o e)]
        exact same_new fT b o (sm b o e)
      · rw [mv_set, backT_succ]
    · rintro σ H2 ⟨sm, hD, y, z, rfl⟩
      rw [mv_len] at hD
      exact ⟨_, rfl, D, _, rfl, .inl ⟨.inl (.inl hD), fun t ft => q _ t (sm.trans (same_new ft)) (.inl (.inl upd_same))⟩⟩
end
end K05


set_option Elab.async false
set_option linter.all false
set_option maxRecDepth 100000
set_option maxHeartbeats 2000000
namespace K05
open PySem PySem.Spec PyProof.Rows L2 MM
/-! own words for the readings: a step, its side -/
local macro_rules | `(tactic| walk_at "side") => `(tactic| first
  | omega
  | exact ⟨by omega, by omega⟩
  | exact Or.inl ⟨by omega, by omega⟩
  | exact Or.inr ⟨by omega, by omega⟩
  | (show CPw _ _; decide +kernel)
  | (show (0 : Int) < _; decide +kernel)
  | (show CDivW _ _; first | assumption | exact ⟨by decide, by decide +kernel⟩))
local macro_rules | `(tactic| walk_at "here") => `(tactic| first
  | assumption
  | exact upd_same
  | exact Or.inl (Or.inl upd_same)
  | exact Or.inl upd_same)
local macro_rules | `(tactic| walk_at "one") => `(tactic| first
  | refine ⟨_, rfl, ?_⟩
  | refine Or.inl ⟨_, rfl, ?_⟩
  | refine Or.inr ⟨_, rfl, ?_⟩
  | refine ⟨_, _, rfl, rfl, (by walk_at "side"), ?_⟩
  | refine ⟨_, _, rfl, rfl, ?_⟩
  | refine ⟨_, _, rfl, Or.inl (by walk_at "here"), ?_⟩
  | refine ⟨_, _, rfl, Or.inr (by walk_at "here"), ?_⟩
  | refine ⟨_, _, rfl, (by walk_at "here"), ?_⟩
  | refine ⟨_, _, _, _, rfl, rfl, (by walk_at "here"), rfl, ?_⟩
  | refine ⟨_, _, rfl, ?_⟩
  | refine ifT (by rfl) ?_
  | refine ifF (by rfl) ?_
  | refine ifT (decide_eq_true (by omega)) ?_
  | refine ifF (decide_eq_false (by omega)) ?_)
local macro_rules | `(tactic| walk_at "st") => `(tactic| repeat (walk_at "one"))

section
variable {P : Program} {w : World} {K : PySem.W.Frag} {mg : Str → Option Value} {base : Heap}
/-- a value, and its members if it is a tuple -/
inductive Rv (K : PySem.W.Frag) (H : Hp) : V → Option (List V) → Prop where
  | no {x : V} {n : Kn} (h : Kd K H x n) (ne : n.isa .tup = false) : Rv K H x none
  | yes {a : Addr} {xs : List V} (h : SqT K H a xs) (m : ∀ y, y ∈ xs → ∃ n, Kd K H y n) : Rv K H (.ref a) (some xs)

def toI : V → Int
  | .int i => i
  | _ => 0
def isArr (n : Nat) : Option (List V) → Bool
  | some xs => decide (xs.length = n) && ((xs.map fun x => isB x 0 ((n : Int) - 1)).all id && decide ((xs.map toI).Nodup))
  | none => false
theorem isArr_some (n : Nat) (xs : List V) : isArr n (some xs) = (decide (xs.length = n) && ((xs.map fun x => isB x 0 ((n : Int) - 1)).all id && decide ((xs.map toI).Nodup))) := rfl
def spArr (K : PySem.W.Frag) : Sp := fun vs H Q _ => ∃ (n : Nat) (x : V) (o : Option (List V)), vs = [.int (n : Int), x] ∧ Rv K H x o ∧ n ≤ 1000 ∧ ∀ H', Same H H' → Q (.bl (isArr n o)) H'
theorem ints_back {xs : List V} {n : Int} (h : (xs.map fun x => isB x 0 n).all id = true) : xs = (xs.map toI).map V.int := by
  rw [List.all_map, List.all_eq_true] at h
  induction xs with
  | nil => rfl
  | cons x r ih =>
    have h1 := h x (by simp)
    rw [List.map_cons, List.map_cons, ← ih fun y hy => h y (by simp [hy])]
    cases x <;> first | rfl | cases h1
theorem scIsArrangement : FnScope ["size", "value", "member"] ["size", "value"] (defScope sIsArrangement) :=
  ⟨rfl, rfl, rfl, by decide +kernel, rfl, by decide +kernel, by decide +kernel⟩
theorem dIsArrangement (T : Tx K mg) (DIsBetween : Def P w K mg base CX0 2 "is_between" ["value", "least", "most"] (spIsBetween K)) : Def P w K mg base CX0 3 "is_arrangement" ["size", "value"] (spArr K) := by
  refine T.t_is_arrangement.def_ (N := ["size", "value", "member"]) scIsArrangement (fun _ _ _ _ _ _ us hl => match us, hl with | [_, _], _ => rfl) ?_ ?_
  · intro vs H Q E h
    obtain ⟨n, x, o, rfl, _⟩ := h
    rfl
  · intro f cd A out s H vs Q E hr h
    have hr1 : Rm 2 _ := hr.le (by decide)
    obtain ⟨n, x, o, rfl, hv, small, q⟩ := h
    refine ⟨_, (pss_cons (ps_if (PW.pt (pw_or (pt_not (pt_val (pe_callB (cr_is .tup) rfl T.f_isinstance (by decide +kernel) (pa_cons (pv 1) (pa_cons (pe_ty .tup T.f_tuple (by decide +kernel)) pa_nil))))) (pw_or1 (pt_cmpR op_ne (pe_callB call_len_seq rfl T.f_len (by decide +kernel) (pa_cons (pv 1) pa_nil)) (pv 0) (nomark _))))) (pss_one (ps_ret pe_bl)) pss_nil)
      (pss_cons (ps_if (pt_not (pt_val (pe_callB (cr_all rfl) rfl T.f_all (by decide +kernel) (pa_cons (pe_lc (own := [("member", 2)]) (g := gName 2) (tt := tYes) rfl scIsArrangement.nd (pi_tup (pv 1)) (blkOk_by (N := ["size", "value", "member"]) (sc := defScope sIsArrangement) (by decide +kernel)) (fun _ _ _ _ _ => pg_name (i := 2) scIsArrangement.nd rfl (Or.inl rfl)) (fun _ _ _ _ _ => pts_nil) (fun _ _ _ _ _ => (pe_d DIsBetween (hr1.le (by decide)) pass0 (pa_cons (pv 2) (pa_cons pe_int (pa_cons (pe_op op_sub (pv 0) pe_int) pa_nil)))))) pa_nil)))) (pss_one (ps_ret pe_bl)) pss_nil)
      (pss_one (ps_ret (pe_cmpR op_eq (pe_callB cr_lenSet rfl T.f_len (by decide +kernel) (pa_cons (pe_callTy (cr_setI rfl) rfl T.f_set (by decide +kernel) (pa_cons (pv 1) pa_nil)) pa_nil)) (pv 0) (nomark _)))))), ?_⟩
    cases hv with
    | no hk ne =>
      refine ⟨_, rfl, _, _, rfl, hk, _, rfl, ?_⟩
      refine ifT (by rw [ne]; rfl) ?_
      exact q H (Same.refl H)
    | yes S m =>
      rename_i a xs
      refine ⟨_, rfl, _, _, rfl, .tup S, _, rfl, ?_⟩
      refine ifF rfl ?_
      refine ⟨_, rfl, _, _, rfl, .inr S, _, rfl, rfl, _, rfl, ?_⟩
      show (if (!decide (V.int (xs.length : Int) = V.int (n : Int))) = true then _ else _)
      rw [dInt, show decide ((xs.length : Int) = (n : Int)) = decide (xs.length = n) from decide_eq_decide.mpr (by omega)]
      by_cases c : xs.length = n
      · refine ifF (by rw [decide_eq_true c]; rfl) ?_
        have ei : ∀ b1 b2 : Bool, (b1 && b2) = (if b1 = true then b2 else false) := fun b1 b2 => by cases b1 <;> rfl
        refine ⟨_, rfl, a, rfl, ⟨_, S⟩, fun D nD => ?_⟩
        refine lc_tpl (fun x => .bl (isB x 0 ((n : Int) - 1))) S nD (Nat.le_of_lt (small1000 (by omega))) ?_ ?_
        · intro x acc hx Q' q'
          obtain ⟨kn, hk⟩ := m x hx
          exact ⟨_, rfl, _, rfl, _, _, rfl, rfl, x, kn, _, _, rfl, hk.same (same_new nD), q'⟩
        refine ⟨D, xs.map fun x => isB x 0 ((n : Int) - 1), rfl, .inl (.inl (Eq.trans upd_same (by rw [List.map_map]; rfl))), ?_⟩
        refine ⟨_, rfl, ?_⟩
        have S1 : Same H (upd H D (.lst (xs.map fun x => V.bl (isB x 0 ((n : Int) - 1))))) := same_new nD
        generalize upd H D _ = H1 at S1 ⊢
        cases e : (xs.map fun x => isB x 0 ((n : Int) - 1)).all id with
        | false =>
          have q' := q H1 S1
          rw [show isArr n (some xs) = false from (by rw [isArr_some, e]; simp)] at q'
          exact q'
        | true =>
          have back := ints_back e
          have S2 := same_sqt S1 S
          rw [back] at S2
          refine ⟨_, rfl, a, xs.map toI, rfl, S2, by rw [List.length_map]; omega, fun t k ft hk le => ?_⟩
          refine ⟨t, _, k, rfl, upd_same, ?_⟩
          refine ⟨_, rfl, rfl, ?_⟩
          have q' := q (upd H1 t (.set (fun j => decide (j ∈ xs.map toI)) k)) (S1.trans (same_new ft))
          rw [show isArr n (some xs) = decide (V.int (k : Int) = V.int (n : Int)) from (by
            rw [List.length_map, c] at hk
            rw [dInt]
            rw [isArr_some, e, decide_eq_true c, Bool.true_and, Bool.true_and]
            exact decide_eq_decide.mpr (by rw [← hk]; omega))] at q'
          exact q'
      · refine ifT (by rw [decide_eq_false c]; rfl) ?_
        have q' := q H (Same.refl H)
        rw [show isArr n (some xs) = false from (by rw [isArr_some, decide_eq_false c]; rfl)] at q'
        exact q'
def spIsMove (K : PySem.W.Frag) : Sp := fun vs H Q _ => ∃ (n : Nat) (x : V) (o : Option (List V)), vs = [.int (n : Int), x] ∧ Rv K H x o ∧ 1 ≤ n ∧ n ≤ 24 ∧ ∀ H', Same H H' → Q (.bl (isArr n o)) H'
/-- a move -/
def Mv (m : List Nat) : Prop := m.Nodup ∧ (∀ k ∈ m, k < m.length) ∧ 1 ≤ m.length ∧ m.length ≤ 24
theorem rv_mv {H : Hp} {a : Addr} {m : List Nat} (h : SqT K H a (mv m)) : Rv K H (.ref a) (some (mv m)) := .yes h fun y hy => by
  obtain ⟨k, _, rfl⟩ := List.mem_map.mp hy
  exact ⟨_, .int _⟩
theorem arr_mv {m : List Nat} (h : Mv m) : isArr m.length (some (mv m)) = true := by
  rw [isArr_some, decide_eq_true (mv_len m), Bool.true_and]
  have e : (mv m).map toI = m.map fun (k : Nat) => (k : Int) := by
    unfold mv
    rw [List.map_map]
    rfl
  have nd : ((mv m).map toI).Nodup := by
    rw [e]
    refine List.Pairwise.map _ (fun a b z => ?_) h.1
    omega
  rw [decide_eq_true nd, Bool.and_true, List.all_map, List.all_eq_true]
  intro x hx
  obtain ⟨k, hk, rfl⟩ := List.mem_map.mp hx
  have := h.2.1 k hk
  show (decide (0 ≤ (k : Int)) && decide ((k : Int) ≤ (m.length : Int) - 1)) = true
  rw [decide_eq_true (by omega), decide_eq_true (by omega)]
  rfl
def spNeedMove (K : PySem.W.Frag) : Sp := fun vs H Q _ => ∃ a m, vs = [.ref a] ∧ SqT K H a (mv m) ∧ Mv m ∧ ∀ H', Same H H' → Q .non H'
theorem scNeedMove : FnScope ["move"] ["move"] (defScope sNeedMove) :=
  ⟨rfl, rfl, rfl, by decide +kernel, rfl, by decide +kernel, by decide +kernel⟩
theorem dNeedMove (T : Tx K mg) (DIsArrangement : Def P w K mg base CX0 3 "is_arrangement" ["size", "value"] (spArr K)) : Def P w K mg base CX0 4 "_need_move" ["move"] (spNeedMove K) := by
  refine T.t_need_move.def_ (N := ["move"]) scNeedMove (fun _ _ _ _ _ _ us hl => match us, hl with | [_], _ => rfl) ?_ ?_
  · intro vs H Q E h
    obtain ⟨a, m, rfl, _⟩ := h
    rfl
  · intro f cd A out s H vs Q E hr h
    have hr1 : Rm 3 _ := hr.le (by decide)
    obtain ⟨a, m, rfl, S, hm, q⟩ := h
    refine ⟨_, (pss_cons (ps_if (PW.pt (pw_or (pt_not (pt_val (pe_callB (cr_is .tup) rfl T.f_isinstance (by decide +kernel) (pa_cons (pv 0) (pa_cons (pe_ty .tup T.f_tuple (by decide +kernel)) pa_nil))))) (pw_or1 (pt_not (pt_chain op_le op_le pe_int (pe_callB call_len_seq rfl T.f_len (by decide +kernel) (pa_cons (pv 0) pa_nil)) (C8.pe_gc rfl T.c_MAX_PLACES)))))) (pss_one ps_never) pss_nil)
      (pss_one (ps_if (pt_not (pt_val (pe_d DIsArrangement (hr1.le (by decide)) pass0 (pa_cons (pe_callB call_len_seq rfl T.f_len (by decide +kernel) (pa_cons (pv 0) pa_nil)) (pa_cons (pv 0) pa_nil))))) (pss_one ps_never) pss_nil))), ?_⟩
    refine ⟨_, rfl, _, _, rfl, .tup S, _, rfl, ?_⟩
    refine ifF rfl ?_
    have l1 : 1 ≤ (mv m).length := by rw [mv_len]; exact hm.2.2.1
    have l2 : (mv m).length ≤ 24 := by rw [mv_len]; exact hm.2.2.2
    refine ⟨_, rfl, _, _, rfl, .inr S, _, _, rfl, rfl, _, rfl, ?_⟩
    refine ifT (decide_eq_true (by omega)) ?_
    refine ⟨_, _, rfl, rfl, _, rfl, ?_⟩
    refine ifF ?_ ?_
    · show (!decide (((mv m).length : Int) ≤ 24)) = false
      rw [decide_eq_true (by omega)]
      rfl
    refine ⟨_, rfl, _, _, rfl, .inr S, _, rfl, (mv m).length, _, _, rfl, rv_mv S, by omega, fun H' sm => ?_⟩
    refine ⟨_, rfl, ?_⟩
    refine ifF ?_ (q H' sm)
    rw [mv_len, arr_mv hm]
    rfl
def spNeedPair (K : PySem.W.Frag) : Sp := fun vs H Q _ => ∃ a b m l, vs = [.ref a, .ref b] ∧ SqT K H a (mv m) ∧ SqT K H b (mv l) ∧ Mv m ∧ Mv l ∧ m.length = l.length ∧ ∀ H', Same H H' → Q .non H'
theorem scNeedPair : FnScope ["one", "other"] ["one", "other"] (defScope sNeedPair) :=
  ⟨rfl, rfl, rfl, by decide +kernel, rfl, by decide +kernel, by decide +kernel⟩
theorem dNeedPair (T : Tx K mg) (DNeedMove : Def P w K mg base CX0 4 "_need_move" ["move"] (spNeedMove K)) : Def P w K mg base CX0 5 "_need_pair" ["one", "other"] (spNeedPair K) := by
  refine T.t_need_pair.def_ (N := ["one", "other"]) scNeedPair (fun _ _ _ _ _ _ us hl => match us, hl with | [_, _], _ => rfl) ?_ ?_
  · intro vs H Q E h
    obtain ⟨a, b, m, l, rfl, _⟩ := h
    rfl
  · intro f cd A out s H vs Q E hr h
    have hr1 : Rm 4 _ := hr.le (by decide)
    obtain ⟨a, b, m, l, rfl, Sa, Sb, hm, hl, eq, q⟩ := h
    refine ⟨_, (pss_cons (ps_expr (pe_d DNeedMove (hr1.le (by decide)) pass0 (pa_cons (pv 0) pa_nil)))
      (pss_cons (ps_expr (pe_d DNeedMove (hr1.le (by decide)) pass0 (pa_cons (pv 1) pa_nil)))
      (pss_one (ps_if (pt_cmpR op_ne (pe_callB call_len_seq rfl T.f_len (by decide +kernel) (pa_cons (pv 0) pa_nil)) (pe_callB call_len_seq rfl T.f_len (by decide +kernel) (pa_cons (pv 1) pa_nil)) (nomark _)) (pss_one ps_never) pss_nil)))), ?_⟩
    refine ⟨_, rfl, a, m, rfl, Sa, hm, fun H1 s1 => ?_⟩
    refine ⟨_, rfl, b, l, rfl, same_sqt s1 Sb, hl, fun H2 s2 => ?_⟩
    have s3 := s1.trans s2
    refine ⟨_, rfl, _, _, rfl, .inr (same_sqt s3 Sa), _, rfl, _, _, rfl, .inr (same_sqt s3 Sb), rfl, _, rfl, ?_⟩
    refine ifF ?_ (q _ s3)
    show (!decide (V.int ((mv m).length : Int) = V.int ((mv l).length : Int))) = false
    rw [mv_len, mv_len, eq, decide_eq_true rfl]
    rfl
def spProduct (K : PySem.W.Frag) : Sp := fun vs H Q _ => ∃ a b m l, vs = [.ref a, .ref b] ∧ SqT K H a (mv m) ∧ SqT K H b (mv l) ∧ Mv m ∧ Mv l ∧ m.length = l.length ∧ ∀ H' t, Same H H' → SqT K H' t (mv (comp m l)) → Q (.ref t) H'
def spUndone (K : PySem.W.Frag) : Sp := fun vs H Q _ => ∃ a m, vs = [.ref a] ∧ SqT K H a (mv m) ∧ Mv m ∧ ∀ H' t, Same H H' → SqT K H' t (mv (back m)) → Q (.ref t) H'
end
end K05


set_option Elab.async false
set_option linter.all false
set_option maxRecDepth 100000
set_option maxHeartbeats 2000000
namespace K05
open PySem PySem.Spec PyProof.Rows L2 MM
/-! own words for the readings: a step, its side -/
local macro_rules | `(tactic| walk_at "side") => `(tactic| first
  | omega
  | exact ⟨by omega, by omega⟩
  | exact Or.inl ⟨by omega, by omega⟩
  | exact Or.inr ⟨by omega, by omega⟩
  | (show CPw _ _; decide +kernel)
  | (show (0 : Int) < _; decide +kernel)
  | (show CDivW _ _; first | assumption | exact ⟨by decide, by decide +kernel⟩))
local macro_rules | `(tactic| walk_at "here") => `(tactic| first
  | assumption
  | exact upd_same
  | exact Or.inl (Or.inl upd_same)
  | exact Or.inl upd_same)
local macro_rules | `(tactic| walk_at "one") => `(tactic| first
  | refine ⟨_, rfl, ?_⟩
  | refine Or.inl ⟨_, rfl, ?_⟩
  | refine Or.inr ⟨_, rfl, ?_⟩
  | refine ⟨_, _, rfl, rfl, (by walk_at "side"), ?_⟩
  | refine ⟨_, _, rfl, rfl, ?_⟩
  | refine ⟨_, _, rfl, Or.inl (by walk_at "here"), ?_⟩
  | refine ⟨_, _, rfl, Or.inr (by walk_at "here"), ?_⟩
  | refine ⟨_, _, rfl, (by walk_at "here"), ?_⟩
  | refine ⟨_, _, _, _, rfl, rfl, (by walk_at "here"), rfl, ?_⟩
  | refine ⟨_, _, rfl, ?_⟩
  | refine ifT (by rfl) ?_
  | refine ifF (by rfl) ?_
  | refine ifT (decide_eq_true (by omega)) ?_
  | refine ifF (decide_eq_false (by omega)) ?_)
local macro_rules | `(tactic| walk_at "st") => `(tactic| repeat (walk_at "one"))

section
variable {P : Program} {w : World} {K : PySem.W.Frag} {mg : Str → Option Value} {base : Heap}
/-- a heap that differs in the bag, and in new objects -/
structure Upto (p : Addr) (H H' : Hp) : Prop where
  same : ∀ b o, b ≠ p → H b = some o → H' b = some o
  bag : BagAt H' p
theorem Upto.refl {p : Addr} {H : Hp} (h : BagAt H p) : Upto p H H := ⟨fun _ _ _ e => e, h⟩
theorem Upto.draw {p : Addr} {H H' : Hp} {a b c : Int} (h : Upto p H H') : Upto p H (upd H' p (.lst [.int a, .int b, .int c])) :=
  ⟨fun x o n e => by rw [upd_ne n]; exact h.same x o n e, ⟨a, b, c, upd_same⟩⟩
theorem Upto.new {p t : Addr} {H H' : Hp} {o : HO} (h : Upto p H H') (f : H' t = none) : Upto p H (upd H' t o) := by
  obtain ⟨a, b, c, e⟩ := h.bag
  exact ⟨fun x y n e => by rw [upd_ne (ne_of_none (h.same x y n e) f)]; exact h.same x y n e, ⟨a, b, c, by rw [upd_ne (ne_of_none e f)]; exact e⟩⟩
theorem Upto.trans {p : Addr} {H H' H2 : Hp} (h : Upto p H H') (k : Upto p H' H2) : Upto p H H2 := ⟨fun x o n e => k.same x o n (h.same x o n e), k.bag⟩
theorem Upto.keep {p : Addr} {H H' H2 : Hp} (h : Upto p H H') (k : Same H' H2) : Upto p H H2 := by
  obtain ⟨a, b, c, e⟩ := h.bag
  exact ⟨fun x o n e => k x o (h.same x o n e), ⟨a, b, c, k _ _ e⟩⟩
theorem Upto.sqt {p a : Addr} {H H' : Hp} {xs : List V} (h : Upto p H H') (s : SqT K H a xs) (ne : a ≠ p) : SqT K H' a xs := by
  rcases s with (s | ⟨o, s⟩) | s
  · exact .inl (.inl (h.same _ _ ne s))
  · exact .inl (.inr ⟨o, h.same _ _ ne s⟩)
  · exact .inr s
theorem Upto.sql {p a : Addr} {H H' : Hp} {xs : List V} (h : Upto p H H') (s : SqL K H a xs) (ne : a ≠ p) : SqL K H' a xs := by
  rcases s with (s | ⟨o, s⟩) | s
  · exact .inl (.inl (h.same _ _ ne s))
  · exact .inl (.inr ⟨o, h.same _ _ ne s⟩)
  · exact .inr s
theorem Upto.free {p t : Addr} {H H' : Hp} (h : Upto p H H') (f : H' t = none) : t ≠ p ∧ H t = none := by
  obtain ⟨a, b, c, e⟩ := h.bag
  have n : t ≠ p := fun z => by rw [z, e] at f; cases f
  refine ⟨n, ?_⟩
  cases z : H t with
  | none => rfl
  | some o =>
    have := h.same t o n z
    rw [f] at this
    cases this
theorem Upto.put {p t : Addr} {H H' : Hp} {o : HO} (h : Upto p H H') (n : t ≠ p) (f : H t = none) : Upto p H (upd H' t o) := by
  obtain ⟨a, b, c, e⟩ := h.bag
  exact ⟨fun x y m e => by rw [upd_ne (ne_of_none e f)]; exact h.same x y m e, ⟨a, b, c, by rw [upd_ne n.symm]; exact e⟩⟩
theorem bag_ne {H : Hp} {p l : Addr} {x : HO} (e : H p = some x) (f : H l = none) : l ≠ p := fun z => by rw [z, e] at f; cases f
theorem pick_perm {α : Type} : ∀ (l : List α) (k : Nat) (h : k < l.length), (l[k] :: l.eraseIdx k).Perm l
  | _ :: _, 0, _ => .refl _
  | a :: r, k + 1, h => by
    show (r[k]'(by simpa using h) :: a :: r.eraseIdx k).Perm (a :: r)
    exact (List.Perm.swap _ _ _).trans (List.Perm.cons a (pick_perm r k (by simpa using h)))
def spMixed (K : PySem.W.Frag) : Sp := fun vs H Q _ => ∃ (p l : Addr) (xs : List V), vs = [.ref p, .ref l] ∧ BagAt H p ∧ SqL K H l xs ∧ l ≠ p ∧ xs.length ≤ 1000 ∧
  ∀ H' t ys, Upto p H H' → H t = none → ys.Perm xs → H' t = some (.lst ys) → Q (.ref t) H'
theorem scMixedL : FnScope ["_law_bag_here", "_law_items", "_law_waits", "_law_turn"] ["_law_bag_here", "_law_items"] (defScope sMixedL) :=
  ⟨rfl, rfl, rfl, by decide +kernel, rfl, by decide +kernel, by decide +kernel⟩
theorem dMixedL (T : Tx K mg) (DGrabL : Def P w K mg base CX0 1 "_law_grab" ["_law_bag_here", "_law_total"] spGrab) : Def P w K mg base CX0 2 "_law_mixed" ["_law_bag_here", "_law_items"] (spMixed K) := by
  refine T.t_law_mixed.def_ (N := ["_law_bag_here", "_law_items", "_law_waits", "_law_turn"]) scMixedL (fun _ _ _ _ _ _ us hl => match us, hl with | [_, _], _ => rfl) ?_ ?_
  · intro vs H Q E h
    obtain ⟨p, l, xs, rfl, _⟩ := h
    rfl
  · intro f cd A out s H vs Q E hr h
    have hr1 : Rm 1 _ := hr.le (by decide)
    obtain ⟨p, l, xs, rfl, hb, S, ne, len, q⟩ := h
    obtain ⟨b1, b2, b3, eb⟩ := hb
    refine ⟨_, (pss_cons (ps_set (i := 2) scMixedL.nd rfl (Or.inr rfl) (pe_callTy call_list_of rfl T.f_list (by decide +kernel) (pa_cons (pv 1) pa_nil)))
      (pss_one (ps_ret (pe_lc (own := [("_law_turn", 3)]) (g := gName 3) (tt := tYes) rfl scMixedL.nd (pi_range1 rfl T.f_range (pa_cons (pe_callB call_len_seq rfl T.f_len (by decide +kernel) (pa_cons (pv 1) pa_nil)) pa_nil)) (blkOk_by (N := ["_law_bag_here", "_law_items", "_law_waits", "_law_turn"]) (sc := defScope sMixedL) (by decide +kernel)) (fun _ _ _ _ _ => pg_name (i := 3) scMixedL.nd rfl (Or.inl rfl)) (fun _ _ _ _ _ => pts_nil) (fun _ _ _ _ _ => (show PE _ _ (tBM K "list" rPopAt _ _) from pe_bm PySem.F.plainAttrs_list PySem.F.slot_list_pop PySem.F.type_list_pop mt_popAt (pv 2) (pa_cons (pe_d DGrabL (hr1.le (by decide)) pass0 (pa_cons (pv 0) (pa_cons (pe_callB (cr_lenK (K := K) rfl) rfl T.f_len (by decide +kernel) (pa_cons (pv 2) pa_nil)) pa_nil))) pa_nil))))))), ?_⟩
    refine ⟨_, rfl, l, xs, rfl, .inl S, fun W nW => ?_⟩
    have up := (Upto.refl ⟨_, _, _, eb⟩).new (o := .lst xs) nW
    have hW : (upd H W (.lst xs)) W = some (.lst xs) := upd_same
    have S1 : SqL K (upd H W (.lst xs)) l xs := sql_new S nW
    have Wp : W ≠ p := bag_ne eb nW
    generalize upd H W _ = H1 at up hW S1 ⊢
    refine ⟨_, rfl, l, xs, rfl, .inl S1, xs.length, rfl, by omega, by omega, fun D nD => ?_⟩
    obtain ⟨Dp, fD⟩ := up.free nD
    have DW : D ≠ W := (ne_of_none hW nD).symm
    refine lc_range (Pv := fun i H4 => Upto p H H4 ∧ ∃ ws ys : List V, H4 W = some (.lst ws) ∧ H4 D = some (.lst ys) ∧ (ys ++ ws).Perm xs ∧ ys.length = i)
      ⟨up.new nD, xs, [], (upd_ne DW.symm).trans hW, upd_same, .refl _, rfl⟩ ?_ ?_
    · rintro i H4 hi ⟨up4, ws, ys, h4, h5, pm, ln⟩
      refine ⟨wipe_one, yes_ ?_⟩
      obtain ⟨c1, c2, c3, ec⟩ := up4.bag
      have tot : ys.length + ws.length = xs.length := by rw [← List.length_append]; exact pm.length_eq
      have wl : 0 < ws.length := by
        have : i < xs.length := by simpa using hi
        omega
      refine ⟨_, rfl, ?_, _, rfl, _, rfl, W, ws, rfl, .inl (.inl (.inl h4)), ?_⟩
      · exact .inl ⟨rfl, ws, .inl (.inl h4)⟩
      refine ⟨p, (ws.length : Int), c1, c2, c3, rfl, ec, div_small wl (by omega), fun r g' m' c' r0 r1 => ?_⟩
      have rl : r.toNat < ws.length := by omega
      have er : ((r.toNat : Nat) : Int) = r := by omega
      refine ⟨W, ws, r, r.toNat, ws[r.toNat], rfl, rfl, (upd_ne Wp).trans h4, by omega, by omega, ?_, List.getElem?_eq_getElem rl, ?_⟩
      · have := (ixN_seq (ixN_lt rl)).1
        rw [er] at this
        exact this
      refine ⟨ys, (upd_ne DW).trans ((upd_ne Dp).trans h5), ?_, (up4.draw.put Wp nW).put Dp fD, ws.eraseIdx r.toNat, ys ++ [ws[r.toNat]], (upd_ne DW.symm).trans upd_same, upd_same, ?_, by rw [List.length_append, ln]; rfl⟩
      · exact Nat.lt_of_le_of_lt (by omega) (small1000 (n := 1000) (by omega))
      · refine List.Perm.trans ?_ pm
        rw [List.append_assoc]
        exact List.Perm.append_left ys (pick_perm ws r.toNat rl)
    · rintro H4 ⟨up4, ws, ys, h4, h5, pm, ln⟩
      refine q H4 D ys up4 fD ?_ h5
      have tot : ys.length + ws.length = xs.length := by rw [← List.length_append]; exact pm.length_eq
      have e : ws = [] := List.eq_nil_of_length_eq_zero (by
        have : (xs.length : Int).toNat = xs.length := Int.toNat_natCast _
        omega)
      rw [e, List.append_nil] at pm
      exact pm
theorem mv_range_perm {ys : List V} {n : Nat} (h : ys.Perm (mv (List.range n))) : ∃ m, ys = mv m ∧ m.Perm (List.range n) := by
  refine ⟨ys.map fun | .int i => i.toNat | _ => 0, ?_, ?_⟩
  · unfold mv
    rw [List.map_map]
    have : ∀ y ∈ ys, ((fun (k : Nat) => V.int (k : Int)) ∘ fun | V.int i => i.toNat | _ => 0) y = y := by
      intro y hy
      obtain ⟨k, _, rfl⟩ := List.mem_map.mp (h.mem_iff.mp hy)
      rfl
    exact ((List.map_congr_left (g := id) this).trans (List.map_id ys)).symm
  · have := h.map fun | V.int i => i.toNat | _ => 0
    refine this.trans ?_
    unfold mv
    rw [List.map_map]
    exact .of_eq (List.map_id' _)
theorem mv_of_perm {m : List Nat} {n : Nat} (h : m.Perm (List.range n)) (h1 : 1 ≤ n) (h2 : n ≤ 24) : Mv m ∧ m.length = n := by
  have ln : m.length = n := by rw [h.length_eq, List.length_range]
  refine ⟨⟨h.nodup_iff.mpr List.nodup_range, fun k hk => ?_, by omega, by omega⟩, ln⟩
  rw [ln]
  exact List.mem_range.mp (h.mem_iff.mp hk)
def spSome (K : PySem.W.Frag) : Sp := fun vs H Q _ => ∃ (p : Addr) (n : Nat), vs = [.ref p, .int (n : Int)] ∧ BagAt H p ∧ 1 ≤ n ∧ n ≤ 24 ∧ ∀ H' t m, Upto p H H' → t ≠ p → SqT K H' t (mv m) → Mv m → m.length = n → Q (.ref t) H'
end
end K05


set_option Elab.async false
set_option linter.all false
set_option maxRecDepth 100000
set_option maxHeartbeats 2000000
namespace K05
open PySem PySem.Spec PyProof.Rows L2 MM
/-! own words for the readings: a step, its side -/
local macro_rules | `(tactic| walk_at "side") => `(tactic| first
  | omega
  | exact ⟨by omega, by omega⟩
  | exact Or.inl ⟨by omega, by omega⟩
  | exact Or.inr ⟨by omega, by omega⟩
  | (show CPw _ _; decide +kernel)
  | (show (0 : Int) < _; decide +kernel)
  | (show CDivW _ _; first | assumption | exact ⟨by decide, by decide +kernel⟩))
local macro_rules | `(tactic| walk_at "here") => `(tactic| first
  | assumption
  | exact upd_same
  | exact Or.inl (Or.inl upd_same)
  | exact Or.inl upd_same)
local macro_rules | `(tactic| walk_at "one") => `(tactic| first
  | refine ⟨_, rfl, ?_⟩
  | refine Or.inl ⟨_, rfl, ?_⟩
  | refine Or.inr ⟨_, rfl, ?_⟩
  | refine ⟨_, _, rfl, rfl, (by walk_at "side"), ?_⟩
  | refine ⟨_, _, rfl, rfl, ?_⟩
  | refine ⟨_, _, rfl, Or.inl (by walk_at "here"), ?_⟩
  | refine ⟨_, _, rfl, Or.inr (by walk_at "here"), ?_⟩
  | refine ⟨_, _, rfl, (by walk_at "here"), ?_⟩
  | refine ⟨_, _, _, _, rfl, rfl, (by walk_at "here"), rfl, ?_⟩
  | refine ⟨_, _, rfl, ?_⟩
  | refine ifT (by rfl) ?_
  | refine ifF (by rfl) ?_
  | refine ifT (decide_eq_true (by omega)) ?_
  | refine ifF (decide_eq_false (by omega)) ?_)
local macro_rules | `(tactic| walk_at "st") => `(tactic| repeat (walk_at "one"))

section
variable {P : Program} {w : World} {K : PySem.W.Frag} {mg : Str → Option Value} {base : Heap}
def gcdL (ns : List Int) : Nat := ns.foldl (fun g n => Nat.gcd g n.natAbs) 0
theorem gcdL_more {ns : List Int} {i : Nat} {n : Int} (h : ns[i]? = some n) : gcdL (ns.take (i + 1)) = Nat.gcd (gcdL (ns.take i)) n.natAbs := by
  unfold gcdL
  rw [List.take_add_one, h, List.foldl_append]
  rfl
theorem abs_nat (n : Int) : (if n < 0 then -n else n) = ((n.natAbs : Nat) : Int) := by
  split <;> omega
theorem map_int {ns : List Int} {i : Nat} {x : V} (h : (ns.map V.int)[i]? = some x) : ∃ n, ns[i]? = some n ∧ x = V.int n := by
  rw [List.getElem?_map] at h
  cases e : ns[i]? with
  | none =>
    rw [e] at h
    cases h
  | some n =>
    rw [e] at h
    exact ⟨n, rfl, (Option.some.inj h).symm⟩
def spShare (K : PySem.W.Frag) : Sp := fun vs H Q _ => ∃ a ns, vs = [.ref a] ∧ SqL K H a (ns.map V.int) ∧ Q (.int (gcdL ns : Nat)) H
def lcmL (ns : List Nat) : Nat := ns.foldl Nat.lcm 1
theorem lcmL_more {ns : List Nat} {i n : Nat} (h : ns[i]? = some n) : lcmL (ns.take (i + 1)) = Nat.lcm (lcmL (ns.take i)) n := by
  unfold lcmL
  rw [List.take_add_one, h, List.foldl_append]
  rfl
theorem share_eq (L k : Nat) : gcdL [(L : Int), (k : Int)] = Nat.gcd L k := by
  show Nat.gcd (Nat.gcd 0 (L : Int).natAbs) (k : Int).natAbs = _
  rw [Nat.gcd_zero_left, Int.natAbs_natCast, Int.natAbs_natCast]
theorem share_bd (L : Nat) {k : Nat} (h : 1 ≤ k) : 0 < gcdL [(L : Int), (k : Int)] ∧ gcdL [(L : Int), (k : Int)] ≤ k := by
  rw [share_eq]
  exact ⟨Nat.gcd_pos_of_pos_right _ h, Nat.gcd_le_right _ h⟩
theorem share_step (L k : Nat) : (L : Int) / ((gcdL [(L : Int), (k : Int)] : Nat) : Int) * (k : Int) = ((Nat.lcm L k : Nat) : Int) := by
  rw [share_eq, ← Int.natCast_ediv, ← Int.natCast_mul, Nat.div_mul_right_comm (Nat.gcd_dvd_left L k)]
  rfl
def spMult (K : PySem.W.Frag) : Sp := fun vs H Q _ => ∃ a ns, vs = [.ref a] ∧ SqL K H a (mv ns) ∧ (∀ n ∈ ns, 1 ≤ n ∧ n ≤ 24) ∧ (∀ i, lcmL (ns.take i) < 2 ^ 63) ∧ ∀ H', Same H H' → Q (.int (lcmL ns : Nat)) H'
end
end K05


set_option Elab.async false
set_option linter.all false
namespace K05
/-! rings of a permutation -/
section
variable {f : Nat → Nat} {n : Nat}
/-- f moves the places below n, one to one -/
structure Pm (f : Nat → Nat) (n : Nat) : Prop where
  lt : ∀ k, k < n → f k < n
  inj : ∀ a b, a < n → b < n → f a = f b → a = b
def it (f : Nat → Nat) : Nat → Nat → Nat
  | 0, p => p
  | k + 1, p => f (it f k p)
theorem it_lt (h : Pm f n) {p : Nat} (hp : p < n) : ∀ k, it f k p < n
  | 0 => hp
  | k + 1 => h.lt _ (it_lt h hp k)
theorem it_add (f : Nat → Nat) (p : Nat) (b : Nat) : ∀ a, it f (a + b) p = it f a (it f b p)
  | 0 => by rw [Nat.zero_add]; rfl
  | a + 1 => by
    rw [Nat.succ_add]
    show f (it f (a + b) p) = f (it f a (it f b p))
    rw [it_add f p b a]
theorem it_inj (h : Pm f n) {a b : Nat} (ha : a < n) (hb : b < n) : ∀ k, it f k a = it f k b → a = b
  | 0, e => e
  | k + 1, e => it_inj h ha hb k (h.inj _ _ (it_lt h ha k) (it_lt h hb k) e)
theorem least {P : Nat → Prop} : ∀ n, P n → ∃ k, k ≤ n ∧ P k ∧ ∀ j, j < k → ¬ P j := by
  intro n
  induction n using Nat.strongRecOn with
  | ind n ih =>
    intro hn
    by_cases c : ∃ j, j < n ∧ P j
    · obtain ⟨j, lt, hj⟩ := c
      obtain ⟨k, le, hk, ho⟩ := ih j lt hj
      exact ⟨k, Nat.le_trans le (Nat.le_of_lt lt), hk, ho⟩
    · exact ⟨n, Nat.le_refl n, hn, fun j lt hj => c ⟨j, lt, hj⟩⟩
theorem back_home (h : Pm f n) {p : Nat} (hp : p < n) : ∃ k, 1 ≤ k ∧ k ≤ n ∧ it f k p = p := by
  by_cases c : ∃ i j, i < j ∧ j ≤ n ∧ it f i p = it f j p
  · obtain ⟨i, j, ij, jn, e⟩ := c
    refine ⟨j - i, by omega, by omega, ?_⟩
    have e2 : it f j p = it f i (it f (j - i) p) := by
      rw [← it_add f p (j - i) i, show i + (j - i) = j by omega]
    rw [e2] at e
    exact (it_inj h hp (it_lt h hp _) i e).symm
  · exfalso
    have nd : ((List.range (n + 1)).map fun k => it f k p).Nodup := by
      rw [List.Nodup, List.pairwise_map]
      refine List.Pairwise.imp_of_mem ?_ (List.pairwise_lt_range (n := n + 1))
      intro i j hi hj lt e
      exact c ⟨i, j, lt, by have := List.mem_range.mp hj; omega, e⟩
    have sub : ((List.range (n + 1)).map fun k => it f k p) ⊆ List.range n := by
      intro x hx
      obtain ⟨k, _, rfl⟩ := List.mem_map.mp hx
      exact List.mem_range.mpr (it_lt h hp k)
    have := nd.length_le_of_subset sub
    rw [List.length_map, List.length_range, List.length_range] at this
    omega
/-- the length of p's ring -/
theorem ring_len (h : Pm f n) {p : Nat} (hp : p < n) : ∃ L, 1 ≤ L ∧ L ≤ n ∧ it f L p = p ∧ ∀ k, 1 ≤ k → k < L → it f k p ≠ p := by
  obtain ⟨k, k1, kn, e⟩ := back_home h hp
  obtain ⟨L, le, ⟨l1, el⟩, no⟩ := least (P := fun k => 1 ≤ k ∧ it f k p = p) k ⟨k1, e⟩
  exact ⟨L, l1, by omega, el, fun j j1 jl e => no j jl ⟨j1, e⟩⟩
def ring (f : Nat → Nat) (p L : Nat) : List Nat := (List.range L).map fun k => it f k p
theorem ring_nodup (h : Pm f n) {p L : Nat} (hp : p < n) (no : ∀ k, 1 ≤ k → k < L → it f k p ≠ p) : (ring f p L).Nodup := by
  unfold ring
  rw [List.Nodup, List.pairwise_map]
  refine List.Pairwise.imp_of_mem ?_ (List.pairwise_lt_range (n := L))
  intro i j hi hj lt e
  have jl := List.mem_range.mp hj
  have e2 : it f j p = it f i (it f (j - i) p) := by
    rw [← it_add f p (j - i) i, show i + (j - i) = j by omega]
  rw [e2] at e
  exact no (j - i) (by omega) (by omega) (it_inj h hp (it_lt h hp _) i e).symm
theorem ring_step {p L k : Nat} (e : it f L p = p) (hk : k < L) : f ((ring f p L).getD k 0) = (ring f p L).getD ((k + 1) % L) 0 := by
  have g : ∀ j, j < L → (ring f p L).getD j 0 = it f j p := fun j hj => by
    unfold ring
    rw [List.getD, List.getElem?_map, List.getElem?_range hj]
    rfl
  have pos : 0 < L := by omega
  rw [g k hk, g _ (Nat.mod_lt _ pos)]
  by_cases c : k + 1 = L
  · rw [c, Nat.mod_self]
    show it f (k + 1) p = p
    rw [c, e]
  · rw [Nat.mod_eq_of_lt (by omega)]
    rfl
theorem ring_mem {p L x : Nat} : x ∈ ring f p L ↔ ∃ k, k < L ∧ x = it f k p := by
  unfold ring
  rw [List.mem_map]
  exact ⟨fun ⟨k, hk, e⟩ => ⟨k, List.mem_range.mp hk, e.symm⟩, fun ⟨k, hk, e⟩ => ⟨k, List.mem_range.mpr hk, e.symm⟩⟩
/-- a ring is closed, forward and back -/
theorem ring_closed (h : Pm f n) {p L : Nat} (hp : p < n) (pos : 1 ≤ L) (e : it f L p = p) {x : Nat} (hx : x < n) : f x ∈ ring f p L ↔ x ∈ ring f p L := by
  rw [ring_mem, ring_mem]
  constructor
  · rintro ⟨k, hk, ek⟩
    cases k with
    | zero =>
      refine ⟨L - 1, by omega, h.inj _ _ hx (it_lt h hp _) ?_⟩
      rw [ek]
      show p = it f (L - 1 + 1) p
      rw [show L - 1 + 1 = L by omega, e]
    | succ k => exact ⟨k, by omega, h.inj _ _ hx (it_lt h hp _) ek⟩
  · rintro ⟨k, hk, rfl⟩
    by_cases c : k + 1 = L
    · refine ⟨0, by omega, ?_⟩
      show it f (k + 1) p = p
      rw [c, e]
    · exact ⟨k + 1, by omega, rfl⟩
/-- the length of p's ring, reckoned -/
def lenOf (f : Nat → Nat) (n p : Nat) : Nat := ((List.range n).find? fun k => decide (it f (k + 1) p = p)).getD 0 + 1
theorem lenOf_ok (h : Pm f n) {p : Nat} (hp : p < n) : lenOf f n p ≤ n ∧ it f (lenOf f n p) p = p ∧ ∀ k, 1 ≤ k → k < lenOf f n p → it f k p ≠ p := by
  obtain ⟨L, l1, ln, e, no⟩ := ring_len h hp
  have found : (List.range n).find? (fun k => decide (it f (k + 1) p = p)) = some (L - 1) := by
    rw [List.find?_range_eq_some]
    refine ⟨?_, List.mem_range.mpr (by omega), fun j hj => ?_⟩
    · rw [show L - 1 + 1 = L by omega]
      exact decide_eq_true e
    · have := no (j + 1) (by omega) (by omega)
      simp [this]
  have el : lenOf f n p = L := by
    unfold lenOf
    rw [found]
    show L - 1 + 1 = L
    omega
  rw [el]
  exact ⟨ln, e, no⟩
def ringOf (f : Nat → Nat) (n p : Nat) : List Nat := ring f p (lenOf f n p)
theorem lenOf_pos (f : Nat → Nat) (n p : Nat) : 1 ≤ lenOf f n p := by unfold lenOf; omega
theorem ringOf_len (f : Nat → Nat) (n p : Nat) : (ringOf f n p).length = lenOf f n p := by
  unfold ringOf ring
  rw [List.length_map, List.length_range]
/-- the rings that begin below s -/
def ringsTo (f : Nat → Nat) (n : Nat) : Nat → List (List Nat)
  | 0 => []
  | s + 1 => if s ∈ (ringsTo f n s).flatten then ringsTo f n s else ringsTo f n s ++ [ringOf f n s]
/-- what holds of them: closed, each place once, all below n, every place below s -/
structure Good (f : Nat → Nat) (n s : Nat) (R : List (List Nat)) : Prop where
  closed : ∀ x, x < n → (f x ∈ R.flatten ↔ x ∈ R.flatten)
  once : R.flatten.Nodup
  below : ∀ x ∈ R.flatten, x < n
  all : ∀ x, x < s → x ∈ R.flatten
  each : ∀ r ∈ R, ∃ p, p < n ∧ r = ringOf f n p
theorem closed_it {S : List Nat} (h : Pm f n) (c : ∀ x, x < n → (f x ∈ S ↔ x ∈ S)) {p : Nat} (hp : p < n) : ∀ k, it f k p ∈ S ↔ p ∈ S
  | 0 => Iff.rfl
  | k + 1 => (c _ (it_lt h hp k)).trans (closed_it h c hp k)
theorem rings_good (h : Pm f n) : ∀ s, s ≤ n → Good f n s (ringsTo f n s)
  | 0, _ => ⟨fun x _ => by simp [ringsTo], by simp [ringsTo], by simp [ringsTo], fun x hx => by omega, by simp [ringsTo]⟩
  | s + 1, le => by
    have g := rings_good h s (by omega)
    have sn : s < n := le
    unfold ringsTo
    split
    · rename_i c
      refine ⟨g.closed, g.once, g.below, fun x hx => ?_, g.each⟩
      by_cases e : x = s
      · rw [e]
        exact c
      · exact g.all x (by omega)
    · rename_i c
      obtain ⟨ln, e, no⟩ := lenOf_ok h sn
      have pos := lenOf_pos f n s
      have fl : (ringsTo f n s ++ [ringOf f n s]).flatten = (ringsTo f n s).flatten ++ ringOf f n s := by simp
      refine ⟨fun x hx => ?_, ?_, ?_, fun x hx => ?_, fun r hr => ?_⟩
      · rw [fl, List.mem_append, List.mem_append, g.closed x hx]
        have := ring_closed h sn pos e hx
        exact or_congr Iff.rfl this
      · rw [fl, List.nodup_append]
        refine ⟨g.once, ring_nodup h sn no, fun a ha b hb z => ?_⟩
        subst z
        obtain ⟨k, _, rfl⟩ := ring_mem.mp hb
        exact c ((closed_it h g.closed sn k).mp ha)
      · rw [fl]
        intro x hx
        rcases List.mem_append.mp hx with hx | hx
        · exact g.below x hx
        · obtain ⟨k, _, rfl⟩ := ring_mem.mp hx
          exact it_lt h sn k
      · rw [fl]
        by_cases z : x = s
        · subst z
          exact List.mem_append_right _ (ring_mem.mpr ⟨0, pos, rfl⟩)
        · exact List.mem_append_left _ (g.all x (by omega))
      · rcases List.mem_append.mp hr with hr | hr
        · exact g.each r hr
        · exact ⟨s, sn, List.mem_singleton.mp hr⟩
def rings (f : Nat → Nat) (n : Nat) : List (List Nat) := ringsTo f n n
theorem it_times {p L : Nat} (e : it f L p = p) : ∀ q, it f (L * q) p = p
  | 0 => rfl
  | q + 1 => by
    rw [Nat.mul_succ, it_add, e]
    exact it_times e q
theorem it_mod {p L : Nat} (e : it f L p = p) (k : Nat) : it f k p = it f (k % L) p := by
  have h : k = k % L + L * (k / L) := (Nat.mod_add_div k L).symm
  have h2 : it f k p = it f (k % L) (it f (L * (k / L)) p) := by
    rw [← it_add, ← h]
  rw [h2, it_times e]
/-- the power e of f, where f's power M is the unit -/
def pwE (f : Nat → Nat) (M : Nat) (e : Int) (x : Nat) : Nat := it f (e % (M : Int)).toNat x
theorem ring_pow {p L M a : Nat} {e : Int} (eL : it f L p = p) (pos : 0 < L) (dv : L ∣ M) (pM : 0 < M) (ha : a < L) :
    (ring f p L).getD (((a : Int) + e) % (L : Int)).toNat 0 = pwE f M e (it f a p) := by
  have g : ∀ j, j < L → (ring f p L).getD j 0 = it f j p := fun j hj => by
    unfold ring
    rw [List.getD, List.getElem?_map, List.getElem?_range hj]
    rfl
  have m0 := Int.emod_nonneg ((a : Int) + e) (by omega : (L : Int) ≠ 0)
  have m1 := Int.emod_lt_of_pos ((a : Int) + e) (by omega : (0 : Int) < L)
  rw [g _ (by omega)]
  unfold pwE
  rw [← it_add, it_mod eL ((e % (M : Int)).toNat + a)]
  congr 1
  have e0 := Int.emod_nonneg e (by omega : (M : Int) ≠ 0)
  have key : (((e % (M : Int)).toNat + a : Nat) : Int) % (L : Int) = ((a : Int) + e) % (L : Int) := by
    rw [Int.natCast_add, Int.toNat_of_nonneg e0, Int.add_emod, Int.emod_emod_of_dvd e (Int.natCast_dvd_natCast.mpr dv), ← Int.add_emod, Int.add_comm]
  rw [← key, ← Int.natCast_emod, Int.toNat_natCast]
theorem pwE_add {M : Nat} (pM : 0 < M) {a b : Int} {x : Nat} (unit : it f M x = x) : pwE f M a (pwE f M b x) = pwE f M (a + b) x := by
  unfold pwE
  rw [← it_add, it_mod unit ((a % (M : Int)).toNat + (b % (M : Int)).toNat)]
  congr 1
  have a0 := Int.emod_nonneg a (by omega : (M : Int) ≠ 0)
  have b0 := Int.emod_nonneg b (by omega : (M : Int) ≠ 0)
  have key : (((a % (M : Int)).toNat + (b % (M : Int)).toNat : Nat) : Int) % (M : Int) = (a + b) % (M : Int) := by
    rw [Int.natCast_add, Int.toNat_of_nonneg a0, Int.toNat_of_nonneg b0, ← Int.add_emod]
  rw [← key, ← Int.natCast_emod, Int.toNat_natCast]
theorem pwE_zero (M : Nat) (x : Nat) : pwE f M 0 x = x := by
  unfold pwE
  rw [Int.zero_emod]
  rfl
theorem pwE_self {M x : Nat} : pwE f M (M : Int) x = x := by
  unfold pwE
  rw [Int.emod_self]
  rfl
end
end K05

set_option Elab.async false
set_option linter.all false
set_option maxRecDepth 100000
set_option maxHeartbeats 2000000
namespace K05
open PySem PySem.Spec PyProof.Rows L2 MM
/-! own words for the readings: a step, its side -/
local macro_rules | `(tactic| walk_at "side") => `(tactic| first
  | omega
  | exact ⟨by omega, by omega⟩
  | exact Or.inl ⟨by omega, by omega⟩
  | exact Or.inr ⟨by omega, by omega⟩
  | (show CPw _ _; decide +kernel)
  | (show (0 : Int) < _; decide +kernel)
  | (show CDivW _ _; first | assumption | exact ⟨by decide, by decide +kernel⟩))
local macro_rules | `(tactic| walk_at "here") => `(tactic| first
  | assumption
  | exact upd_same
  | exact Or.inl (Or.inl upd_same)
  | exact Or.inl upd_same)
local macro_rules | `(tactic| walk_at "one") => `(tactic| first
  | refine ⟨_, rfl, ?_⟩
  | refine Or.inl ⟨_, rfl, ?_⟩
  | refine Or.inr ⟨_, rfl, ?_⟩
  | refine ⟨_, _, rfl, rfl, (by walk_at "side"), ?_⟩
  | refine ⟨_, _, rfl, rfl, ?_⟩
  | refine ⟨_, _, rfl, Or.inl (by walk_at "here"), ?_⟩
  | refine ⟨_, _, rfl, Or.inr (by walk_at "here"), ?_⟩
  | refine ⟨_, _, rfl, (by walk_at "here"), ?_⟩
  | refine ⟨_, _, _, _, rfl, rfl, (by walk_at "here"), rfl, ?_⟩
  | refine ⟨_, _, rfl, ?_⟩
  | refine ifT (by rfl) ?_
  | refine ifF (by rfl) ?_
  | refine ifT (decide_eq_true (by omega)) ?_
  | refine ifF (decide_eq_false (by omega)) ?_)
local macro_rules | `(tactic| walk_at "st") => `(tactic| repeat (walk_at "one"))

section
variable {P : Program} {w : World} {K : PySem.W.Frag} {mg : Str → Option Value} {base : Heap}
/-- f of a move -/
def fn' (m : List Nat) : Nat → Nat := fun k => m.getD k 0
def Refs (K : PySem.W.Frag) (H : Hp) (vs : List V) (R : List (List Nat)) : Prop := Paired (fun v r => ∃ a, v = V.ref a ∧ SqT K H a (mv r)) vs R
theorem pm_of {m : List Nat} (h : Mv m) : Pm (fn' m) m.length := by
  have g : ∀ k, (hk : k < m.length) → fn' m k = m[k] := fun k hk => by
    unfold fn'
    rw [List.getD, List.getElem?_eq_getElem hk]
    rfl
  refine ⟨fun k hk => ?_, fun a b ha hb e => ?_⟩
  · rw [g k hk]
    exact h.2.1 _ (List.getElem_mem hk)
  · rw [g a ha, g b hb] at e
    by_cases c : a = b
    · exact c
    · exfalso
      have nd := List.pairwise_iff_getElem.mp h.1
      rcases Nat.lt_or_gt_of_ne c with lt | lt
      · exact nd a b ha hb lt e
      · exact nd b a hb ha lt e.symm
theorem flat_mv (l : List Nat) : (mv l).all flatV = true := by
  unfold mv
  rw [List.all_map, List.all_eq_true]
  intro x _
  rfl
theorem in_mv (l : List Nat) (k : Nat) : inV (.int (k : Int)) (mv l) = decide (k ∈ l) := by
  unfold inV mv
  rw [List.any_map]
  induction l with
  | nil => rfl
  | cons j r ih =>
    rw [List.any_cons, ih]
    have e : ((fun y => eqV y (V.int (k : Int))) ∘ fun (k : Nat) => V.int (k : Int)) j = decide (k = j) := by
      show eqV (V.int (j : Int)) (V.int (k : Int)) = _
      by_cases c : k = j
      · subst c
        simp [eqV]
      · have : ¬ (j : Int) = (k : Int) := by omega
        simp [eqV, c, this]
    rw [e]
    simp
theorem Refs.same {H H' : Hp} {vs : List V} {R : List (List Nat)} (h : Refs K H vs R) (s : Same H H') : Refs K H' vs R := by
  unfold Refs at h ⊢
  induction h with
  | nil => exact .nil
  | cons h _ ih =>
    obtain ⟨a, e, S⟩ := h
    exact .cons ⟨a, e, same_sqt s S⟩ ih
theorem mv_app (k l : List Nat) : mv (k ++ l) = mv k ++ mv l := List.map_append ..
theorem sqt_lst {H : Hp} {a F : Addr} {xs ys zs : List V} (h : SqT K H a xs) (e : H F = some (.lst zs)) : SqT K (upd H F (.lst ys)) a xs := by
  rcases h with (h | ⟨o, h⟩) | h
  · exact .inl (.inl (by rw [upd_ne (fun z => by rw [z, e] at h; cases h)]; exact h))
  · exact .inl (.inr ⟨o, by rw [upd_ne (fun z => by rw [z, e] at h; cases h)]; exact h⟩)
  · exact .inr h
theorem Refs.upd {H : Hp} {vs : List V} {R : List (List Nat)} {F : Addr} {ys zs : List V} (h : Refs K H vs R) (e : H F = some (.lst zs)) : Refs K (upd H F (.lst ys)) vs R := by
  unfold Refs at h ⊢
  induction h with
  | nil => exact .nil
  | cons h _ ih =>
    obtain ⟨a, e1, S⟩ := h
    exact .cons ⟨a, e1, sqt_lst S e⟩ ih
theorem Refs.snoc {H : Hp} {vs : List V} {R : List (List Nat)} {t : Addr} {r : List Nat} (h : Refs K H vs R) (S : SqT K H t (mv r)) : Refs K H (vs ++ [.ref t]) (R ++ [r]) := by
  unfold Refs at h ⊢
  induction h with
  | nil => exact .cons ⟨t, rfl, S⟩ .nil
  | cons h _ ih => exact .cons h ih
theorem ringsTo_len (f : Nat → Nat) (n : Nat) : ∀ s, (ringsTo f n s).length ≤ s
  | 0 => Nat.le_refl 0
  | s + 1 => by
    have := ringsTo_len f n s
    unfold ringsTo
    split
    · omega
    · rw [List.length_append]
      show _ + 1 ≤ _
      omega
def spOwn (K : PySem.W.Frag) : Sp := fun vs H Q _ => ∃ a m, vs = [.ref a] ∧ SqT K H a (mv m) ∧ Mv m ∧ ∀ H' t us, Same H H' → H t = none → H' t = some (.lst us) → Refs K H' us (rings (fn' m) m.length) → Q (.ref t) H'
theorem scOwnRingsL : FnScope ["_law_move", "_law_found", "_law_met", "_law_place", "_law_ring", "_law_here"] ["_law_move"] (defScope sOwnRingsL) :=
  ⟨rfl, rfl, rfl, by decide +kernel, rfl, by decide +kernel, by decide +kernel⟩
theorem dOwnRingsL (T : Tx K mg) : Def P w K mg base CX0 1 "_law_own_rings" ["_law_move"] (spOwn K) := by
  refine T.t_law_own_rings.def_ (N := ["_law_move", "_law_found", "_law_met", "_law_place", "_law_ring", "_law_here"]) scOwnRingsL (fun _ _ _ _ _ _ us hl => match us, hl with | [_], _ => rfl) ?_ ?_
  · intro vs H Q E h
    obtain ⟨a, m, rfl, _⟩ := h
    rfl
  · intro f cd A out s H vs Q E hr h
    obtain ⟨a, m, rfl, S, hm, q⟩ := h
    refine ⟨_, (pss_cons (ps_par (i := 1) (j := 2) rfl scOwnRingsL.nd rfl rfl (by decide) rfl rfl (pa_cons (pe_lst pa_nil) (pa_cons (pe_lst pa_nil) pa_nil)) (by rfl))
      (pss_cons (ps_for PassesOwn.never rfl (pi_range1 rfl T.f_range (pa_cons (pe_callB call_len_seq rfl T.f_len (by decide +kernel) (pa_cons (pv 0) pa_nil)) pa_nil)) (pg_name (i := 3) scOwnRingsL.nd rfl (Or.inl rfl))
        (pss_one (ps_if (pt_cmpR op_notIn_seq (pv 3) (pv 2) rfl) (pss_cons (ps_par (i := 4) (j := 5) rfl scOwnRingsL.nd rfl rfl (by decide) rfl rfl (pa_cons (pe_lst (pa_cons (pv 3) pa_nil)) (pa_cons (pe_ix ix_tup (pv 0) (pv 3) (fun _ _ => rfl)) pa_nil)) (by rfl))
          (pss_cons (ps_while PassesOwn.never (PW.pt (pw_and (pt_cmpR op_ne (pv 5) (pv 3) (nomark _)) (pw_and1 (pt_cmpR op_lt (pe_callB call_len_seq rfl T.f_len (by decide +kernel) (pa_cons (pv 4) pa_nil)) (pe_callB call_len_seq rfl T.f_len (by decide +kernel) (pa_cons (pv 0) pa_nil)) (nomark _)))))
            (pss_cons (ps_expr (pe_bm PySem.F.plainAttrs_list PySem.F.slot_list_append PySem.F.type_list_append mt_append (pv 4) (pa_cons (pv 5) pa_nil)))
            (pss_one (ps_set (i := 5) scOwnRingsL.nd rfl (Or.inl rfl) (pe_ix ix_tup (pv 0) (pv 5) (fun _ _ => rfl))))))
          (pss_cons (ps_expr (pe_bm PySem.F.plainAttrs_list PySem.F.slot_list_extend PySem.F.type_list_extend mt_extend (pv 2) (pa_cons (pv 4) pa_nil)))
          (pss_one (ps_expr (pe_bm PySem.F.plainAttrs_list PySem.F.slot_list_append PySem.F.type_list_append mt_append (pv 1) (pa_cons (pe_callTy call_tuple_of rfl T.f_tuple (by decide +kernel) (pa_cons (pv 4) pa_nil)) pa_nil))))))) pss_nil)))
      (pss_one (ps_ret (pv 1))))), ?_⟩
    have pm := pm_of hm
    refine ⟨by (show 0 ≤ sizeLine); decide, fun F fF => ?_⟩
    have S1 : Same H (upd H F (.lst [])) := same_new fF
    have F1 : (upd H F (.lst [])) F = some (.lst []) := upd_same
    generalize upd H F _ = H1 at S1 F1 ⊢
    refine ⟨by (show 0 ≤ sizeLine); decide, fun G fG => ?_⟩
    have GF : G ≠ F := (ne_of_none F1 fG).symm
    have S2 : Same H (upd H1 G (.lst [])) := S1.trans (same_new fG)
    have F2 : (upd H1 G (.lst [])) F = some (.lst []) := (upd_ne GF.symm).trans F1
    have G2 : (upd H1 G (.lst [])) G = some (.lst []) := upd_same
    have fG0 : ∀ b o, H b = some o → b ≠ G := fun b o e => ne_of_none (S1 b o e) fG
    have fF0 : ∀ b o, H b = some o → b ≠ F := fun b o e => ne_of_none e fF
    generalize upd H1 G _ = H2 at S2 F2 G2 ⊢
    refine ⟨_, _, rfl, ?_⟩
    refine ⟨_, rfl, a, _, rfl, .inr (same_sqt S2 S), (mv m).length, rfl, by omega, by rw [mv_len]; have := hm.2.2.2; omega, for_range (fun s σ H3 => Same H H3 ∧ ∃ us : List V, H3 F = some (.lst us) ∧ Refs K H3 us (ringsTo (fn' m) m.length s) ∧
        H3 G = some (.lst (mv (ringsTo (fn' m) m.length s).flatten)) ∧ ∃ x y z, σ = [some (.ref a), some (.ref F), some (.ref G), x, y, z]) ⟨S2, [], F2, .nil, G2, _, _, _, rfl⟩ ?_ ?_⟩
    · rintro s σ H3 hs ⟨S3, us, hF, rf, hG, x, y, z, rfl⟩
      have sn : s < m.length := by rw [← mv_len]; simpa using hs
      have g := rings_good pm s (by omega)
      refine ⟨_, rfl, _, rfl, G, _, rfl, .inl (.inl (.inl hG)), rfl, flat_mv _, ?_⟩
      refine ⟨_, rfl, ?_⟩
      show (if (!inV (V.int (0 + (s : Int))) (mv (ringsTo (fn' m) m.length s).flatten)) = true then _ else _)
      rw [Int.zero_add, in_mv]
      by_cases c : s ∈ (ringsTo (fn' m) m.length s).flatten
      · refine ifF (by rw [decide_eq_true c]; rfl) ?_
        have e : ringsTo (fn' m) m.length (s + 1) = ringsTo (fn' m) m.length s := by
          show (if s ∈ (ringsTo (fn' m) m.length s).flatten then _ else _) = _
          rw [if_pos c]
        rw [e]
        exact ⟨S3, us, hF, rf, hG, _, _, _, rfl⟩
      · refine ifT (by rw [decide_eq_false c]; rfl) ?_
        have e : ringsTo (fn' m) m.length (s + 1) = ringsTo (fn' m) m.length s ++ [ringOf (fn' m) m.length s] := by
          show (if s ∈ (ringsTo (fn' m) m.length s).flatten then _ else _) = _
          rw [if_neg c]
        obtain ⟨Ln, eL, no⟩ := lenOf_ok pm sn
        have L1 := lenOf_pos (fn' m) m.length s
        rw [e]
        refine ⟨_, rfl, by (show 1 ≤ sizeLine); decide, fun D fD => ?_⟩
        have FD : F ≠ D := ne_of_none hF fD
        have GD : G ≠ D := ne_of_none hG fD
        have S4 : Same H3 (upd H3 D (.lst [.int (s : Int)])) := same_new fD
        have D4 : (upd H3 D (.lst [.int (s : Int)])) D = some (.lst (mv (ring (fn' m) s 1))) := upd_same
        have fD0 : ∀ b o, H b = some o → b ≠ D := fun b o e => ne_of_none (S3 b o e) fD
        replace S3 := S3.trans S4
        replace hF := S4 _ _ hF
        replace hG := S4 _ _ hG
        replace rf := rf.same S4
        generalize upd H3 D _ = H4 at S3 hF hG rf D4 ⊢
        refine ⟨_, rfl, _, rfl, a, _, _, _, rfl, rfl, same_sqt S3 S, mv_at sn, _, _, rfl, ?_⟩
        refine while_by (fun σ H5 => Same H H5 ∧ H5 F = some (.lst us) ∧ Refs K H5 us (ringsTo (fn' m) m.length s) ∧ H5 G = some (.lst (mv (ringsTo (fn' m) m.length s).flatten)) ∧
            ∃ k, 1 ≤ k ∧ k ≤ lenOf (fn' m) m.length s ∧ H5 D = some (.lst (mv (ring (fn' m) s k))) ∧ σ = [some (.ref a), some (.ref F), some (.ref G), some (.int (s : Int)), some (.ref D), some (.int (it (fn' m) k s : Nat))])
          (fun _ H5 => match H5 D with | some (.lst xs) => lenOf (fn' m) m.length s - xs.length | _ => 0) ⟨S3, hF, rf, hG, 1, Nat.le_refl 1, L1, D4, rfl⟩ ?_ ?_
        · rintro σ H5 ⟨S5, hF, rf, hG, k, k1, kL, hD, rfl⟩
          have hk : it (fn' m) k s < m.length := it_lt pm sn k
          refine ⟨_, rfl, _, rfl, rfl, _, rfl, ?_⟩
          show (if (!decide (V.int ((it (fn' m) k s : Nat) : Int) = V.int (s : Int))) = true then _ else _)
          rw [dInt, show decide (((it (fn' m) k s : Nat) : Int) = (s : Int)) = decide (it (fn' m) k s = s) from decide_eq_decide.mpr (by omega)]
          by_cases kk : k = lenOf (fn' m) m.length s
          · subst kk
            refine ifF (by rw [eL, decide_eq_true rfl]; rfl) ?_
            have lG : (mv (ringsTo (fn' m) m.length s).flatten).length ≤ 1000 := by
              rw [mv_len]
              have := g.once.length_le_of_subset (fun x hx => List.mem_range.mpr (g.below x hx))
              rw [List.length_range] at this
              have := hm.2.2.2
              omega
            have lD : (mv (ring (fn' m) s (lenOf (fn' m) m.length s))).length ≤ 1000 := by
              rw [mv_len]
              unfold ring
              rw [List.length_map, List.length_range]
              have := hm.2.2.2
              omega
            refine ⟨_, rfl, .inl ⟨rfl, _, .inl (.inl hG)⟩, _, rfl, G, D, _, _, rfl, rfl, hG, hD, Nat.le_of_lt (Nat.lt_of_le_of_lt (Nat.add_le_add lG lD) (by decide)), ?_⟩
            rw [← mv_app]
            have F6 : (upd H5 G (.lst (mv ((ringsTo (fn' m) m.length s).flatten ++ ring (fn' m) s (lenOf (fn' m) m.length s))))) F = some (.lst us) := (upd_ne GF.symm).trans hF
            have D6 : (upd H5 G (.lst (mv ((ringsTo (fn' m) m.length s).flatten ++ ring (fn' m) s (lenOf (fn' m) m.length s))))) D = some (.lst (mv (ring (fn' m) s (lenOf (fn' m) m.length s)))) := (upd_ne GD.symm).trans hD
            have G6 : (upd H5 G (.lst (mv ((ringsTo (fn' m) m.length s).flatten ++ ring (fn' m) s (lenOf (fn' m) m.length s))))) G = some (.lst (mv ((ringsTo (fn' m) m.length s).flatten ++ ring (fn' m) s (lenOf (fn' m) m.length s)))) := upd_same
            have R6 := rf.upd (ys := mv ((ringsTo (fn' m) m.length s).flatten ++ ring (fn' m) s (lenOf (fn' m) m.length s))) hG
            have S6 : Same H (upd H5 G (.lst (mv ((ringsTo (fn' m) m.length s).flatten ++ ring (fn' m) s (lenOf (fn' m) m.length s))))) := fun b o e => (upd_ne (fG0 b o e)).trans (S5 b o e)
            generalize upd H5 G _ = H6 at F6 D6 G6 R6 S6 ⊢
            refine ⟨_, rfl, .inl ⟨rfl, _, .inl (.inl F6)⟩, _, rfl, D, _, rfl, .inl ⟨.inl (.inl D6), fun t ft => ?_⟩⟩
            have S7 : Same H6 (upd H6 t (.tup (mv (ring (fn' m) s (lenOf (fn' m) m.length s))))) := same_new ft
            have T7 : SqT K (upd H6 t (.tup (mv (ring (fn' m) s (lenOf (fn' m) m.length s))))) t (mv (ring (fn' m) s (lenOf (fn' m) m.length s))) := .inl (.inl upd_same)
            have F7 := S7 _ _ F6
            have G7 := S7 _ _ G6
            have R7 := R6.same S7
            have SS := S6.trans S7
            generalize upd H6 t _ = H7 at T7 F7 G7 R7 SS ⊢
            have lu : us.length ≤ 1000 := by
              have h1 : us.length = (ringsTo (fn' m) m.length s).length := Paired.length rf
              have h2 := ringsTo_len (fn' m) m.length s
              have := hm.2.2.2
              omega
            refine ⟨F, us, _, rfl, rfl, F7, Nat.lt_of_le_of_lt lu (by decide), ?_⟩
            refine ⟨fun b o e => (upd_ne (fF0 b o e)).trans (SS b o e), us ++ [.ref t], upd_same, ?_, ?_, _, _, _, rfl⟩
            · exact (R7.upd F7).snoc (sqt_lst T7 F7)
            · refine (upd_ne GF).trans (G7.trans ?_)
              rw [List.flatten_append]
              show _ = some (HO.lst (mv (_ ++ (ringOf (fn' m) m.length s ++ []))))
              rw [List.append_nil]
              rfl
          · refine ifT (by rw [decide_eq_false (no k k1 (by omega))]; rfl) ?_
            refine ⟨_, rfl, D, _, rfl, .inl (.inl (.inl hD)), _, rfl, a, _, rfl, .inr (same_sqt S5 S), _, _, rfl, rfl, _, rfl, ?_⟩
            have lr : (mv (ring (fn' m) s k)).length = k := by
              rw [mv_len]
              unfold ring
              rw [List.length_map, List.length_range]
            refine ifT (decide_eq_true (by rw [lr, mv_len]; omega)) ?_
            refine ⟨_, rfl, .inl ⟨rfl, _, .inl (.inl hD)⟩, _, rfl, D, _, _, rfl, rfl, hD, Nat.lt_of_le_of_lt (by rw [lr]; have := hm.2.2.2; omega : _ ≤ 1000) (by decide), ?_⟩
            have er : mv (ring (fn' m) s k) ++ [V.int ((it (fn' m) k s : Nat) : Int)] = mv (ring (fn' m) s (k + 1)) := by
              unfold ring
              rw [List.range_succ, List.map_append]
              unfold mv
              rw [List.map_append]
              rfl
            rw [er]
            have S6 : Same H (upd H5 D (.lst (mv (ring (fn' m) s (k + 1))))) := fun b o e => (upd_ne (fD0 b o e)).trans (S5 b o e)
            refine ⟨_, rfl, _, rfl, a, _, _, _, rfl, rfl, same_sqt S6 S, mv_at hk, ⟨S6, (upd_ne FD).trans hF, rf.upd hD, (upd_ne GD).trans hG, k + 1, by omega, by omega, upd_same, rfl⟩, ?_⟩
            rw [upd_same, hD]
            show lenOf (fn' m) m.length s - (mv (ring (fn' m) s (k + 1))).length < lenOf (fn' m) m.length s - (mv (ring (fn' m) s k)).length
            rw [lr, ← er, List.length_append, lr]
            show lenOf (fn' m) m.length s - (k + 1) < _
            omega
        · rintro σ H5 Q1 Q2 mono hyp
          obtain ⟨v, hv, v2, hv2, fl, c1, e1, body⟩ := hyp
          refine ⟨v, hv, v2, hv2, fl, c1, e1, ?_⟩
          cases c1 with
          | false => exact mono _ _ body
          | true =>
            obtain ⟨v3, hv3, p4, y4, e4, s4, v5, hv5, p6, y6, e6, s6, i7, j7, e7, e8, c9, e9, body⟩ := body
            exact ⟨v3, hv3, p4, y4, e4, s4, v5, hv5, p6, y6, e6, s6, i7, j7, e7, e8, c9, e9, mono _ _ body⟩
    · rintro σ H3 ⟨S3, us, hF, rf, hG, x, y, z, rfl⟩
      rw [mv_len] at rf
      exact ⟨_, rfl, q H3 F us S3 fF hF rf⟩
end
end K05


set_option Elab.async false
set_option linter.all false
set_option maxRecDepth 100000
set_option maxHeartbeats 2000000
namespace K05
open PySem PySem.Spec PyProof.Rows L2 MM
/-! own words for the readings: a step, its side -/
local macro_rules | `(tactic| walk_at "side") => `(tactic| first
  | omega
  | exact ⟨by omega, by omega⟩
  | exact Or.inl ⟨by omega, by omega⟩
  | exact Or.inr ⟨by omega, by omega⟩
  | (show CPw _ _; decide +kernel)
  | (show (0 : Int) < _; decide +kernel)
  | (show CDivW _ _; first | assumption | exact ⟨by decide, by decide +kernel⟩))
local macro_rules | `(tactic| walk_at "here") => `(tactic| first
  | assumption
  | exact upd_same
  | exact Or.inl (Or.inl upd_same)
  | exact Or.inl upd_same)
local macro_rules | `(tactic| walk_at "one") => `(tactic| first
  | refine ⟨_, rfl, ?_⟩
  | refine Or.inl ⟨_, rfl, ?_⟩
  | refine Or.inr ⟨_, rfl, ?_⟩
  | refine ⟨_, _, rfl, rfl, (by walk_at "side"), ?_⟩
  | refine ⟨_, _, rfl, rfl, ?_⟩
  | refine ⟨_, _, rfl, Or.inl (by walk_at "here"), ?_⟩
  | refine ⟨_, _, rfl, Or.inr (by walk_at "here"), ?_⟩
  | refine ⟨_, _, rfl, (by walk_at "here"), ?_⟩
  | refine ⟨_, _, _, _, rfl, rfl, (by walk_at "here"), rfl, ?_⟩
  | refine ⟨_, _, rfl, ?_⟩
  | refine ifT (by rfl) ?_
  | refine ifF (by rfl) ?_
  | refine ifT (decide_eq_true (by omega)) ?_
  | refine ifF (decide_eq_false (by omega)) ?_)
local macro_rules | `(tactic| walk_at "st") => `(tactic| repeat (walk_at "one"))

section
variable {P : Program} {w : World} {K : PySem.W.Frag} {mg : Str → Option Value} {base : Heap}
/-- the order of a move -/
def ordOf (f : Nat → Nat) (n : Nat) : Nat := lcmL ((rings f n).map List.length)
theorem lcmL_dvd : ∀ (ns : List Nat) (g : Nat), g ∣ ns.foldl Nat.lcm g ∧ ∀ n ∈ ns, n ∣ ns.foldl Nat.lcm g
  | [], g => ⟨Nat.dvd_refl g, by simp⟩
  | a :: r, g => by
    obtain ⟨h1, h2⟩ := lcmL_dvd r (Nat.lcm g a)
    refine ⟨Nat.dvd_trans (Nat.dvd_lcm_left g a) h1, fun n hn => ?_⟩
    rcases List.mem_cons.mp hn with z | z
    · subst z
      exact Nat.dvd_trans (Nat.dvd_lcm_right g n) h1
    · exact h2 n z
theorem lcmL_pos : ∀ (ns : List Nat) (g : Nat), 0 < g → (∀ n ∈ ns, 0 < n) → 0 < ns.foldl Nat.lcm g
  | [], _, h, _ => h
  | a :: r, g, h, all => lcmL_pos r (Nat.lcm g a) (Nat.lcm_pos h (all a (by simp))) fun n hn => all n (by simp [hn])
theorem ordOf_pos {f : Nat → Nat} {n : Nat} (h : Pm f n) : 0 < ordOf f n := by
  refine lcmL_pos _ 1 Nat.one_pos fun k hk => ?_
  obtain ⟨r, hr, rfl⟩ := List.mem_map.mp hk
  obtain ⟨p, _, rfl⟩ := (rings_good h n (Nat.le_refl n)).each r hr
  rw [ringOf_len]
  exact lenOf_pos f n p
theorem ord_dvd {f : Nat → Nat} {n : Nat} {r : List Nat} (hr : r ∈ rings f n) : r.length ∣ ordOf f n :=
  (lcmL_dvd _ 1).2 _ (List.mem_map.mpr ⟨r, hr, rfl⟩)
theorem Refs.get {H : Hp} {vs : List V} {R : List (List Nat)} (h : Refs K H vs R) : ∀ {i : Nat} {x : V}, vs[i]? = some x → ∃ r t, R[i]? = some r ∧ x = .ref t ∧ SqT K H t (mv r) := by
  unfold Refs at h
  induction h with
  | nil =>
    intro i x e
    simp at e
  | cons h _ ih =>
    intro i x e
    cases i with
    | zero =>
      obtain ⟨t, e1, S⟩ := h
      refine ⟨_, t, rfl, ?_, S⟩
      rw [← e1]
      exact (Option.some.inj e).symm
    | succ i => exact ih e
def spPow (K : PySem.W.Frag) : Sp := fun vs H Q _ => ∃ (a : Addr) (m : List Nat) (e : Int), vs = [.ref a, .int e] ∧ SqT K H a (mv m) ∧ Mv m ∧
  ∀ H' t, Same H H' → SqT K H' t (mv ((List.range m.length).map (pwE (fn' m) (ordOf (fn' m) m.length) e))) → Q (.ref t) H'
end
end K05


set_option Elab.async false
set_option linter.all false
set_option maxRecDepth 100000
set_option maxHeartbeats 2000000
namespace K05
open PySem PySem.Spec PyProof.Rows L2 MM
/-! own words for the readings: a step, its side -/
local macro_rules | `(tactic| walk_at "side") => `(tactic| first
  | omega
  | exact ⟨by omega, by omega⟩
  | exact Or.inl ⟨by omega, by omega⟩
  | exact Or.inr ⟨by omega, by omega⟩
  | (show CPw _ _; decide +kernel)
  | (show (0 : Int) < _; decide +kernel)
  | (show CDivW _ _; first | assumption | exact ⟨by decide, by decide +kernel⟩))
local macro_rules | `(tactic| walk_at "here") => `(tactic| first
  | assumption
  | exact upd_same
  | exact Or.inl (Or.inl upd_same)
  | exact Or.inl upd_same)
local macro_rules | `(tactic| walk_at "one") => `(tactic| first
  | refine ⟨_, rfl, ?_⟩
  | refine Or.inl ⟨_, rfl, ?_⟩
  | refine Or.inr ⟨_, rfl, ?_⟩
  | refine ⟨_, _, rfl, rfl, (by walk_at "side"), ?_⟩
  | refine ⟨_, _, rfl, rfl, ?_⟩
  | refine ⟨_, _, rfl, Or.inl (by walk_at "here"), ?_⟩
  | refine ⟨_, _, rfl, Or.inr (by walk_at "here"), ?_⟩
  | refine ⟨_, _, rfl, (by walk_at "here"), ?_⟩
  | refine ⟨_, _, _, _, rfl, rfl, (by walk_at "here"), rfl, ?_⟩
  | refine ⟨_, _, rfl, ?_⟩
  | refine ifT (by rfl) ?_
  | refine ifF (by rfl) ?_
  | refine ifT (decide_eq_true (by omega)) ?_
  | refine ifF (decide_eq_false (by omega)) ?_)
local macro_rules | `(tactic| walk_at "st") => `(tactic| repeat (walk_at "one"))

section
variable {P : Program} {w : World} {K : PySem.W.Frag} {mg : Str → Option Value} {base : Heap}
/-- a set of places -/
def SetN (w : World) (a : Addr) (l : List Nat) (H : Hp) : Prop := ∃ S c, H a = some (SetO w a S c) ∧ c ≤ l.length ∧ ∀ x : Nat, S (x : Int) = decide (x ∈ l)
theorem SetN.same {a : Addr} {l : List Nat} {H H' : Hp} (h : SetN w a l H) (s : Same H H') : SetN w a l H' :=
  let ⟨S, c, e, r⟩ := h
  ⟨S, c, s _ _ e, r⟩
theorem SetN.upd {a b : Addr} {l : List Nat} {H : Hp} {o : HO} (h : SetN w a l H) (n : a ≠ b) : SetN w a l (upd H b o) :=
  let ⟨S, c, e, r⟩ := h
  ⟨S, c, by rw [upd_ne n]; exact e, r⟩
theorem seto_ne {a b : Addr} {H : Hp} {S : Int → Bool} {c : Nat} {o : HO} (h : H a = some (SetO w a S c)) (e : H b = some o) (n : ∀ f, o ≠ .ext f) : a ≠ b := fun z => by
  subst z
  rw [h] at e
  exact n _ (Option.some.inj e).symm
theorem SetN.add {a : Addr} {l : List Nat} {H : Hp} {S : Int → Bool} {c : Nat} {x : Nat} (hc : c ≤ l.length) (hS : ∀ x : Nat, S (x : Int) = decide (x ∈ l)) :
    SetN w a (l ++ [x]) (L2.upd H a (SetO w a (fun j => S j || decide (j = (x : Int))) (if S (x : Int) = true then c else c + 1))) := by
  refine ⟨_, _, upd_same, ?_, fun y => ?_⟩
  · rw [List.length_append]
    show _ ≤ l.length + 1
    split <;> omega
  · show (S (y : Int) || decide ((y : Int) = (x : Int))) = _
    rw [hS y, ← Bool.decide_or]
    refine decide_eq_decide.mpr ?_
    rw [List.mem_append, List.mem_singleton]
    exact or_congr Iff.rfl (by omega)
theorem rings_small {f : Nat → Nat} {n s : Nat} (h : Pm f n) (hn : n ≤ 24) (hs : s ≤ n) : (ringsTo f n s).flatten.length ≤ 24 := by
  have g := rings_good h s hs
  have := g.once.length_le_of_subset (fun x hx => List.mem_range.mpr (g.below x hx))
  rw [List.length_range] at this
  omega
def NoTup : HO → Prop
  | .tup _ => False
  | .frz _ _ => False
  | _ => True
theorem sqt_ext {H : Hp} {a F : Addr} {xs : List V} {o o' : HO} (h : SqT K H a xs) (e : H F = some o') (n : NoTup o') : SqT K (upd H F o) a xs := by
  rcases h with (h | ⟨u, h⟩) | h
  · exact .inl (.inl (by rw [upd_ne (fun z => by rw [z, e] at h; rw [Option.some.inj h] at n; exact n)]; exact h))
  · exact .inl (.inr ⟨u, by rw [upd_ne (fun z => by rw [z, e] at h; rw [Option.some.inj h] at n; exact n)]; exact h⟩)
  · exact .inr h
theorem Refs.ext {H : Hp} {vs : List V} {R : List (List Nat)} {F : Addr} {o o' : HO} (h : Refs K H vs R) (e : H F = some o') (n : NoTup o') : Refs K (L2.upd H F o) vs R := by
  unfold Refs at h ⊢
  induction h with
  | nil => exact .nil
  | cons h _ ih =>
    obtain ⟨a, e1, S⟩ := h
    exact .cons ⟨a, e1, sqt_ext S e n⟩ ih
theorem ring_succ (f : Nat → Nat) (p k : Nat) : ring f p (k + 1) = ring f p k ++ [it f k p] := by
  unfold ring
  rw [List.range_succ, List.map_append]
  rfl
def spCyc (K : PySem.W.Frag) : Sp := fun vs H Q _ => ∃ a m, vs = [.ref a] ∧ SqT K H a (mv m) ∧ Mv m ∧ ∀ H' t us, Same H H' → SqT K H' t us → Refs K H' us (rings (fn' m) m.length) → Q (.ref t) H'
theorem scCycles : FnScope ["move", "seen", "rings", "start", "ring", "place"] ["move"] (defScope sCycles) :=
  ⟨rfl, rfl, rfl, by decide +kernel, rfl, by decide +kernel, by decide +kernel⟩
theorem dCycles (T : Tx K mg) : Def P w K mg base CX0 1 "_cycles" ["move"] (spCyc K) := by
  refine T.t_cycles.def_ (N := ["move", "seen", "rings", "start", "ring", "place"]) scCycles (fun _ _ _ _ _ _ us hl => match us, hl with | [_], _ => rfl) ?_ ?_
  · intro vs H Q E h
    obtain ⟨a, m, rfl, _⟩ := h
    rfl
  · intro f cd A out s H vs Q E hr h
    obtain ⟨a, m, rfl, S, hm, q⟩ := h
    refine ⟨_, (pss_cons (ps_set (i := 1) scCycles.nd rfl (Or.inl rfl) (pe_callTy0 (cr_set0W (w := w) rfl) rfl T.f_set (by decide +kernel)))
      (pss_cons (ps_set (i := 2) scCycles.nd rfl (Or.inl rfl) (pe_lst pa_nil))
      (pss_cons (ps_for PassesOwn.never rfl (pi_range1 rfl T.f_range (pa_cons (pe_callB call_len_seq rfl T.f_len (by decide +kernel) (pa_cons (pv 0) pa_nil)) pa_nil)) (pg_name (i := 3) scCycles.nd rfl (Or.inl rfl))
        (pss_one (ps_if (pt_cmpR (or_snotinW (w := w) rfl) (pv 3) (pv 1) rfl) (pss_cons (ps_set (i := 4) scCycles.nd rfl (Or.inl rfl) (pe_lst pa_nil))
          (pss_cons (ps_set (i := 5) scCycles.nd rfl (Or.inl rfl) (pv 3))
          (pss_cons (ps_while PassesOwn.never (pt_cmpR (or_snotinW (w := w) rfl) (pv 5) (pv 1) rfl)
            (pss_cons (ps_expr (pe_saddW (w := w) rfl (pv 1) (pa_cons (pv 5) pa_nil)))
            (pss_cons (ps_expr (pe_bm PySem.F.plainAttrs_list PySem.F.slot_list_append PySem.F.type_list_append mt_append (pv 4) (pa_cons (pv 5) pa_nil)))
            (pss_one (ps_set (i := 5) scCycles.nd rfl (Or.inl rfl) (pe_ix ix_tup (pv 0) (pv 5) (fun _ _ => rfl)))))))
          (pss_one (ps_expr (pe_bm PySem.F.plainAttrs_list PySem.F.slot_list_append PySem.F.type_list_append mt_append (pv 2) (pa_cons (pe_callTy call_tuple_of rfl T.f_tuple (by decide +kernel) (pa_cons (pv 4) pa_nil)) pa_nil))))))) pss_nil)))
      (pss_one (ps_ret (pe_callTy call_tuple_of rfl T.f_tuple (by decide +kernel) (pa_cons (pv 2) pa_nil))))))), ?_⟩
    have pm := pm_of hm
    have m24 := hm.2.2.2
    refine ⟨rfl, fun G fG => ?_⟩
    have S1 : Same H (upd H G (SetO w G (fun _ => false) 0)) := same_new fG
    have G1 : SetN w G [] (upd H G (SetO w G (fun _ => false) 0)) := ⟨_, _, upd_same, Nat.le_refl _, fun x => by simp⟩
    have fG0 : ∀ b o, H b = some o → b ≠ G := fun b o e => ne_of_none e fG
    generalize upd H G _ = H1 at S1 G1 ⊢
    refine ⟨by (show 0 ≤ sizeLine); decide, fun F fF => ?_⟩
    have GF : G ≠ F := by
      obtain ⟨S0, c0, e0, _⟩ := id G1
      exact ne_of_none e0 fF
    have S2 : Same H (upd H1 F (.lst [])) := S1.trans (same_new fF)
    have F2 : (upd H1 F (.lst [])) F = some (.lst []) := upd_same
    have G2 : SetN w G [] (upd H1 F (.lst [])) := G1.upd GF
    have fF0 : ∀ b o, H b = some o → b ≠ F := fun b o e => ne_of_none (S1 b o e) fF
    generalize upd H1 F _ = H2 at S2 F2 G2 ⊢
    refine ⟨_, rfl, a, _, rfl, .inr (same_sqt S2 S), (mv m).length, rfl, by omega, by rw [mv_len]; omega, for_range (fun s σ H3 => Same H H3 ∧ ∃ us : List V, H3 F = some (.lst us) ∧ Refs K H3 us (ringsTo (fn' m) m.length s) ∧
        SetN w G (ringsTo (fn' m) m.length s).flatten H3 ∧ ∃ x y z, σ = [some (.ref a), some (.ref G), some (.ref F), x, y, z]) ⟨S2, [], F2, .nil, G2, _, _, _, rfl⟩ ?_ ?_⟩
    · rintro s σ H3 hs ⟨S3, us, hF, rf, hG, x, y, z, rfl⟩
      have sn : s < m.length := by rw [← mv_len]; simpa using hs
      have g := rings_good pm s (by omega)
      have small := rings_small pm m24 (Nat.le_of_lt sn)
      obtain ⟨S9, c9, e9, l9, r9⟩ := id hG
      refine ⟨_, rfl, _, rfl, _, G, S9, c9, rfl, rfl, e9, ?_⟩
      refine ⟨_, rfl, ?_⟩
      show (if (!S9 (0 + (s : Int))) = true then _ else _)
      rw [Int.zero_add, r9]
      by_cases c : s ∈ (ringsTo (fn' m) m.length s).flatten
      · refine ifF (by rw [decide_eq_true c]; rfl) ?_
        have e : ringsTo (fn' m) m.length (s + 1) = ringsTo (fn' m) m.length s := by
          show (if s ∈ (ringsTo (fn' m) m.length s).flatten then _ else _) = _
          rw [if_pos c]
        rw [e]
        exact ⟨S3, us, hF, rf, hG, _, _, _, rfl⟩
      · refine ifT (by rw [decide_eq_false c]; rfl) ?_
        have e : ringsTo (fn' m) m.length (s + 1) = ringsTo (fn' m) m.length s ++ [ringOf (fn' m) m.length s] := by
          show (if s ∈ (ringsTo (fn' m) m.length s).flatten then _ else _) = _
          rw [if_neg c]
        obtain ⟨Ln, eL, no⟩ := lenOf_ok pm sn
        have L1 := lenOf_pos (fn' m) m.length s
        have out : ∀ k, k < lenOf (fn' m) m.length s → it (fn' m) k s ∉ (ringsTo (fn' m) m.length s).flatten ++ ring (fn' m) s k := by
          intro k kl h
          rcases List.mem_append.mp h with h | h
          · exact c ((closed_it pm g.closed sn k).mp h)
          · have nd := ring_nodup pm sn (L := k + 1) (fun j j1 jl => no j j1 (by omega))
            rw [ring_succ, List.nodup_append] at nd
            exact nd.2.2 _ h _ (List.mem_singleton.mpr rfl) rfl
        rw [e]
        refine ⟨by (show 0 ≤ sizeLine); decide, fun D fD => ?_⟩
        have FD : F ≠ D := ne_of_none hF fD
        have GD : G ≠ D := ne_of_none e9 fD
        have S4 : Same H3 (upd H3 D (.lst [])) := same_new fD
        have D4 : (upd H3 D (.lst [])) D = some (.lst (mv (ring (fn' m) s 0))) := upd_same
        have fD0 : ∀ b o, H b = some o → b ≠ D := fun b o e => ne_of_none (S3 b o e) fD
        replace S3 := S3.trans S4
        replace hF := S4 _ _ hF
        replace hG : SetN w G ((ringsTo (fn' m) m.length s).flatten ++ ring (fn' m) s 0) (upd H3 D (.lst [])) := by
          have e0 : ring (fn' m) s 0 = [] := rfl
          rw [e0, List.append_nil]
          exact hG.same S4
        replace rf := rf.same S4
        generalize upd H3 D _ = H4 at S3 hF hG rf D4 ⊢
        refine ⟨_, rfl, ?_⟩
        refine while_by (fun σ H5 => Same H H5 ∧ H5 F = some (.lst us) ∧ Refs K H5 us (ringsTo (fn' m) m.length s) ∧
            ∃ k, k ≤ lenOf (fn' m) m.length s ∧ SetN w G ((ringsTo (fn' m) m.length s).flatten ++ ring (fn' m) s k) H5 ∧ H5 D = some (.lst (mv (ring (fn' m) s k))) ∧ σ = [some (.ref a), some (.ref G), some (.ref F), some (.int (s : Int)), some (.ref D), some (.int (it (fn' m) k s : Nat))])
          (fun _ H5 => match H5 D with | some (.lst xs) => lenOf (fn' m) m.length s - xs.length | _ => 0) ⟨S3, hF, rf, 0, Nat.zero_le _, hG, D4, rfl⟩ ?_ ?_
        · rintro σ H5 ⟨S5, hF, rf, k, kL, hG, hD, rfl⟩
          have hk : it (fn' m) k s < m.length := it_lt pm sn k
          obtain ⟨S8, c8, e8, l8, r8⟩ := id hG
          have lr : (ring (fn' m) s k).length = k := by
            unfold ring
            rw [List.length_map, List.length_range]
          refine ⟨_, rfl, _, rfl, _, G, S8, c8, rfl, rfl, e8, ?_⟩
          refine ⟨_, rfl, ?_⟩
          show (if (!S8 ((it (fn' m) k s : Nat) : Int)) = true then _ else _)
          rw [r8]
          have FG : F ≠ G := (seto_ne e8 hF (fun f z => nomatch z)).symm
          by_cases kk : k = lenOf (fn' m) m.length s
          · subst kk
            have inn : it (fn' m) (lenOf (fn' m) m.length s) s ∈ (ringsTo (fn' m) m.length s).flatten ++ ring (fn' m) s (lenOf (fn' m) m.length s) :=
              List.mem_append_right _ (ring_mem.mpr ⟨0, by omega, eL⟩)
            refine ifF (by rw [decide_eq_true inn]; rfl) ?_
            refine ⟨_, rfl, .inl ⟨rfl, _, .inl (.inl hF)⟩, _, rfl, D, _, rfl, .inl ⟨.inl (.inl hD), fun t ft => ?_⟩⟩
            have S7 : Same H5 (upd H5 t (.tup (mv (ring (fn' m) s (lenOf (fn' m) m.length s))))) := same_new ft
            have T7 : SqT K (upd H5 t (.tup (mv (ring (fn' m) s (lenOf (fn' m) m.length s))))) t (mv (ring (fn' m) s (lenOf (fn' m) m.length s))) := .inl (.inl upd_same)
            have F7 := S7 _ _ hF
            have G7 := hG.same S7
            have R7 := rf.same S7
            have SS := S5.trans S7
            generalize upd H5 t _ = H7 at T7 F7 G7 R7 SS ⊢
            have lu : us.length ≤ 1000 := by
              have h1 : us.length = (ringsTo (fn' m) m.length s).length := Paired.length rf
              have h2 := ringsTo_len (fn' m) m.length s
              omega
            refine ⟨F, us, _, rfl, rfl, F7, Nat.lt_of_le_of_lt lu (by decide), ?_⟩
            refine ⟨fun b o e => (upd_ne (fF0 b o e)).trans (SS b o e), us ++ [.ref t], upd_same, ?_, ?_, _, _, _, rfl⟩
            · exact (R7.upd F7).snoc (sqt_lst T7 F7)
            · rw [List.flatten_append]
              show SetN w G (_ ++ (ringOf (fn' m) m.length s ++ [])) _
              rw [List.append_nil]
              exact G7.upd FG.symm
          · have kl : k < lenOf (fn' m) m.length s := by omega
            refine ifT (by rw [decide_eq_false (out k kl)]; rfl) ?_
            have room : c8 + 1 < scanBound := by
              have : c8 ≤ 100 := by
                rw [List.length_append, lr] at l8
                omega
              exact Nat.lt_of_le_of_lt (Nat.add_le_add_right this 1) (by decide)
            refine ⟨_, rfl, ⟨G, S8, c8, rfl, e8⟩, _, rfl, G, _, S8, c8, rfl, rfl, e8, room, ?_⟩
            have G6 := SetN.add (w := w) (a := G) (H := H5) (x := it (fn' m) k s) l8 r8
            have F6 := (upd_ne (o := SetO w G (fun j => S8 j || decide (j = ((it (fn' m) k s : Nat) : Int))) (if S8 ((it (fn' m) k s : Nat) : Int) = true then c8 else c8 + 1)) FG).trans hF
            have D6 := (upd_ne (o := SetO w G (fun j => S8 j || decide (j = ((it (fn' m) k s : Nat) : Int))) (if S8 ((it (fn' m) k s : Nat) : Int) = true then c8 else c8 + 1)) GD.symm).trans hD
            have R6 := rf.ext (o := SetO w G (fun j => S8 j || decide (j = ((it (fn' m) k s : Nat) : Int))) (if S8 ((it (fn' m) k s : Nat) : Int) = true then c8 else c8 + 1)) e8 trivial
            have S6 : Same H (upd H5 G (SetO w G (fun j => S8 j || decide (j = ((it (fn' m) k s : Nat) : Int))) (if S8 ((it (fn' m) k s : Nat) : Int) = true then c8 else c8 + 1))) := fun b o e => (upd_ne (fG0 b o e)).trans (S5 b o e)
            rw [List.append_assoc, ← ring_succ] at G6
            generalize upd H5 G _ = H6 at G6 F6 D6 R6 S6 ⊢
            refine ⟨_, rfl, .inl ⟨rfl, _, .inl (.inl D6)⟩, _, rfl, D, _, _, rfl, rfl, D6, Nat.lt_of_le_of_lt (by rw [mv_len, lr]; omega : _ ≤ 1000) (by decide), ?_⟩
            have er : mv (ring (fn' m) s k) ++ [V.int ((it (fn' m) k s : Nat) : Int)] = mv (ring (fn' m) s (k + 1)) := by
              rw [ring_succ, mv_app]
              rfl
            rw [er]
            have S7 : Same H (upd H6 D (.lst (mv (ring (fn' m) s (k + 1))))) := fun b o e => (upd_ne (fD0 b o e)).trans (S6 b o e)
            refine ⟨_, rfl, _, rfl, a, _, _, _, rfl, rfl, same_sqt S7 S, mv_at hk, ⟨S7, (upd_ne FD).trans F6, R6.upd D6, k + 1, kl, G6.upd GD, upd_same, rfl⟩, ?_⟩
            rw [upd_same, hD]
            show lenOf (fn' m) m.length s - (mv (ring (fn' m) s (k + 1))).length < lenOf (fn' m) m.length s - (mv (ring (fn' m) s k)).length
            rw [← er, List.length_append, mv_len, lr]
            show lenOf (fn' m) m.length s - (k + 1) < _
            omega
        · rintro σ H5 Q1 Q2 mono ⟨v, hv, v2, hv2, k, a, S, n, e1, e2, e3, c, e4, body⟩
          exact ⟨v, hv, v2, hv2, k, a, S, n, e1, e2, e3, c, e4, mono _ _ body⟩
    · rintro σ H3 ⟨S3, us, hF, rf, hG, x, y, z, rfl⟩
      rw [mv_len] at rf
      exact ⟨_, rfl, F, _, rfl, .inl ⟨.inl (.inl hF), fun t ft => q _ t us (S3.trans (same_new ft)) (.inl (.inl upd_same)) (rf.same (same_new ft))⟩⟩
end
end K05


set_option Elab.async false
set_option linter.all false
set_option maxRecDepth 100000
set_option maxHeartbeats 2000000
namespace K05
open PySem PySem.Spec PyProof.Rows L2 MM
/-! own words for the readings: a step, its side -/
local macro_rules | `(tactic| walk_at "side") => `(tactic| first
  | omega
  | exact ⟨by omega, by omega⟩
  | exact Or.inl ⟨by omega, by omega⟩
  | exact Or.inr ⟨by omega, by omega⟩
  | (show CPw _ _; decide +kernel)
  | (show (0 : Int) < _; decide +kernel)
  | (show CDivW _ _; first | assumption | exact ⟨by decide, by decide +kernel⟩))
local macro_rules | `(tactic| walk_at "here") => `(tactic| first
  | assumption
  | exact upd_same
  | exact Or.inl (Or.inl upd_same)
  | exact Or.inl upd_same)
local macro_rules | `(tactic| walk_at "one") => `(tactic| first
  | refine ⟨_, rfl, ?_⟩
  | refine Or.inl ⟨_, rfl, ?_⟩
  | refine Or.inr ⟨_, rfl, ?_⟩
  | refine ⟨_, _, rfl, rfl, (by walk_at "side"), ?_⟩
  | refine ⟨_, _, rfl, rfl, ?_⟩
  | refine ⟨_, _, rfl, Or.inl (by walk_at "here"), ?_⟩
  | refine ⟨_, _, rfl, Or.inr (by walk_at "here"), ?_⟩
  | refine ⟨_, _, rfl, (by walk_at "here"), ?_⟩
  | refine ⟨_, _, _, _, rfl, rfl, (by walk_at "here"), rfl, ?_⟩
  | refine ⟨_, _, rfl, ?_⟩
  | refine ifT (by rfl) ?_
  | refine ifF (by rfl) ?_
  | refine ifT (decide_eq_true (by omega)) ?_
  | refine ifF (decide_eq_false (by omega)) ?_)
local macro_rules | `(tactic| walk_at "st") => `(tactic| repeat (walk_at "one"))

section
variable {P : Program} {w : World} {K : PySem.W.Frag} {mg : Str → Option Value} {base : Heap}
def spPowOf (K : PySem.W.Frag) : Sp := fun vs H Q _ => ∃ (a : Addr) (m : List Nat) (e : Int), vs = [.ref a, .int e] ∧ SqT K H a (mv m) ∧ Mv m ∧ -(10 ^ 30) ≤ e ∧ e ≤ 10 ^ 30 ∧
  ∀ H' t, Same H H' → SqT K H' t (mv ((List.range m.length).map (pwE (fn' m) (ordOf (fn' m) m.length) e))) → Q (.ref t) H'
theorem scPowerOf : FnScope ["move", "number", "power", "_", "ring", "at", "place"] ["move", "number"] (defScope sPowerOf) :=
  ⟨rfl, rfl, rfl, by decide +kernel, rfl, by decide +kernel, by decide +kernel⟩
theorem dPowerOf (T : Tx K mg) (DNeedMove : Def P w K mg base CX0 4 "_need_move" ["move"] (spNeedMove K)) (DNeedBetween : Def P w K mg base CX0 3 "need_between" ["value", "least", "most"] (spNeedBetween K)) (DCycles : Def P w K mg base CX0 1 "_cycles" ["move"] (spCyc K)) : Def P w K mg base CX0 5 "power_of" ["move", "number"] (spPowOf K) := by
  refine T.t_power_of.def_ (N := ["move", "number", "power", "_", "ring", "at", "place"]) scPowerOf (fun _ _ _ _ _ _ us hl => match us, hl with | [_, _], _ => rfl) ?_ ?_
  · intro vs H Q E h
    obtain ⟨a, m, e, rfl, _⟩ := h
    rfl
  · intro f cd A out s H vs Q E hr h
    have hr1 : Rm 4 _ := hr.le (by decide)
    obtain ⟨a, m, e, rfl, S, hm, e0, e1, q⟩ := h
    refine ⟨_, (pss_cons (ps_expr (pe_d DNeedMove (hr1.le (by decide)) pass0 (pa_cons (pv 0) pa_nil)))
      (pss_cons (ps_expr (pe_d DNeedBetween (hr1.le (by decide)) pass0 (pa_cons (pv 1) (pa_cons (pe_un un_neg (C8.pe_gc rfl T.c_MAX_POWER)) (pa_cons (C8.pe_gc rfl T.c_MAX_POWER) pa_nil)))))
      (pss_cons (ps_setLc (i := 2) (own := [("_", 3)]) (g := gName 3) (tt := tYes) rfl scPowerOf.nd rfl rfl (sw_true rfl rfl rfl rfl) (pi_tup (pv 0)) (blkOk_by (N := ["move", "number", "power", "_", "ring", "at", "place"]) (sc := defScope sPowerOf) (by decide +kernel)) (fun _ _ _ _ _ => pg_name (i := 3) scPowerOf.nd rfl (Or.inl rfl)) (fun _ _ _ _ _ => pts_nil) (fun _ _ _ _ _ => pe_int))
      (pss_cons (ps_for PassesOwn.never rfl (pi_tup (pe_d DCycles (hr1.le (by decide)) pass0 (pa_cons (pv 0) pa_nil))) (pg_name (i := 4) scPowerOf.nd rfl (Or.inl rfl))
        (pss_one (ps_for PassesOwn.never rfl (pi_enumT rfl T.f_enumerate (pa_cons (pv 4) pa_nil)) (pg_tup rfl (pgs_cons (pg_name (i := 5) scPowerOf.nd rfl (Or.inl rfl)) (pgs_cons (pg_name (i := 6) scPowerOf.nd rfl (Or.inl rfl)) pgs_nil)))
          (pss_one (ps_asg (pe_ix ix_tup (pv 4) (pe_op op_mod (pe_op op_add (pv 5) (pv 1)) (pe_callB call_len_seq rfl T.f_len (by decide +kernel) (pa_cons (pv 4) pa_nil))) (fun _ _ => rfl)) (pg_sub (pv 2) (pv 6) set_list))))))
      (pss_one (ps_ret (pe_callTy call_tuple_of rfl T.f_tuple (by decide +kernel) (pa_cons (pv 2) pa_nil)))))))), ?_⟩
    have pm := pm_of hm
    refine ⟨_, rfl, a, m, rfl, S, hm, fun H0 S0 => ?_⟩
    refine ⟨_, rfl, _, rfl, e, _, _, rfl, e0, e1, ?_⟩
    have Sa0 := same_sqt S0 S
    refine ⟨_, rfl, a, rfl, ⟨_, Sa0⟩, fun F fF => ?_⟩
    have fF0 : ∀ b o, H b = some o → b ≠ F := fun b o e => ne_of_none (S0 b o e) fF
    refine lc_tpl (fun _ => V.int 0) Sa0 fF (by rw [mv_len]; exact Nat.le_of_lt (small1000 (by have := hm.2.2.2; omega))) (fun x acc hx Q' q' => q') ?_
    have ez : (mv m).map (fun _ => V.int 0) = mv (backT m 0) := by
      unfold backT mv
      rw [List.map_map]
      show _ = (List.replicate m.length 0).map _
      rw [List.map_replicate]
      exact List.map_const' ..
    rw [ez]
    have S1 : Same H (upd H0 F (.lst (mv (backT m 0)))) := S0.trans (same_new fF)
    have F1 : (upd H0 F (.lst (mv (backT m 0)))) F = some (.lst (mv (backT m 0))) := upd_same
    have b0 := backT_len m 0
    generalize backT m 0 = z0 at F1 S1 b0 ⊢
    generalize upd H0 F _ = H1 at S1 F1 ⊢
    refine ⟨_, rfl, a, m, rfl, same_sqt S1 S, hm, fun H2 R us S2 hR rf => ?_⟩
    have F2 := S2 _ _ F1
    replace S2 := S1.trans S2
    refine ⟨R, rfl, ⟨_, hR⟩, for_tup (K := K) (a := R) (xs := us) (fun i σ H3 => Same H H3 ∧ SqT K H3 R us ∧ Refs K H3 us (rings (fn' m) m.length) ∧ ∃ b : List Nat, b.length = m.length ∧ H3 F = some (.lst (mv b)) ∧
        (∀ x ∈ ((rings (fn' m) m.length).take i).flatten, b.getD x 0 = pwE (fn' m) (ordOf (fn' m) m.length) e x) ∧ ∃ x y z, σ = [some (.ref a), some (.int e), some (.ref F), none, x, y, z])
      ⟨S2, hR, rf, z0, b0, F2, by simp, _, _, _, rfl⟩ (fun i σ H3 _ h => h.2.1) ?_ ?_⟩
    · rintro i v σ H3 hv ⟨S3, hR, rf, b, lb, hF, done, x, y, z, rfl⟩
      obtain ⟨r, t, hr, rfl, St⟩ := rf.get hv
      have mr : r ∈ rings (fn' m) m.length := List.mem_of_getElem? hr
      obtain ⟨p, pn, er⟩ := (rings_good pm m.length (Nat.le_refl _)).each r mr
      have lr : r.length = lenOf (fn' m) m.length p := by rw [er, ringOf_len]
      obtain ⟨Ln, eL, no⟩ := lenOf_ok pm pn
      have L1 := lenOf_pos (fn' m) m.length p
      have tF : ∀ H9 : Hp, SqT K H9 t (mv r) → ∀ zs, H9 F = some (.lst zs) → ∀ ys, SqT K (upd H9 F (.lst ys)) t (mv r) := fun H9 S9 zs e9 ys => sqt_lst S9 e9
      refine ⟨_, rfl, t, _, rfl, St, ?_⟩
      refine for_enumT (K := K) (a := t) (xs := mv r) (fun j σ H4 => (Same H H4 ∧ SqT K H4 t (mv r)) ∧ SqT K H4 R us ∧ Refs K H4 us (rings (fn' m) m.length) ∧ ∃ b : List Nat, b.length = m.length ∧ H4 F = some (.lst (mv b)) ∧
          (∀ x, x ∈ ((rings (fn' m) m.length).take i).flatten ∨ x ∈ r.take j → b.getD x 0 = pwE (fn' m) (ordOf (fn' m) m.length) e x) ∧ ∃ y z, σ = [some (.ref a), some (.int e), some (.ref F), none, some (.ref t), y, z])
        ⟨⟨S3, St⟩, hR, rf, b, lb, hF, fun x hx => by rcases hx with hx | hx; exact done x hx; simp at hx, _, _, rfl⟩ (fun j σ H4 _ h => h.1.2) ?_ ?_
      · rintro j u σ H4 T hu ⟨⟨S4, St⟩, hR, rf, b, lb, hF, done, y, z, rfl⟩ fT
        obtain ⟨jr, rfl⟩ := mv_nth hu
        have FT : F ≠ T := ne_of_none hF fT
        have St5 : SqT K (upd H4 T (.tup [.int (j : Nat), .int ((r.getD j 0 : Nat) : Int)])) t (mv r) := sqt_new St fT
        have pj : r.getD j 0 = it (fn' m) j p := by
          rw [er]
          unfold ringOf ring
          rw [List.getD, List.getElem?_map, List.getElem?_range (by omega)]
          rfl
        have pl : r.getD j 0 < m.length := by rw [pj]; exact it_lt pm pn j
        have Lp : 0 < ((mv r).length : Int) := by rw [mv_len]; omega
        have i0 := Int.emod_nonneg ((j : Int) + e) (by omega : ((mv r).length : Int) ≠ 0)
        have i1 := Int.emod_lt_of_pos ((j : Int) + e) Lp
        obtain ⟨ix, eix⟩ : ∃ ix : Nat, ((j : Int) + e) % ((mv r).length : Int) = (ix : Int) := ⟨_, (Int.toNat_of_nonneg i0).symm⟩
        have il : ix < r.length := by rw [eix, mv_len] at i1; omega
        have val : r.getD ix 0 = pwE (fn' m) (ordOf (fn' m) m.length) e (r.getD j 0) := by
          have dv := ord_dvd mr
          rw [lr] at dv
          have := ring_pow (f := fn' m) (p := p) (a := j) (e := e) eL (by omega) dv (ordOf_pos pm) (by omega)
          rw [← pj] at this
          rw [← this, ← lr, ← mv_len r, eix, Int.toNat_natCast, mv_len, lr, er]
          rfl
        have ate : atI (mv r) (((j : Int) + e) % ((mv r).length : Int)) = some (.int ((r.getD ix 0 : Nat) : Int)) := by
          rw [eix]
          exact mv_at il
        refine ⟨T, _, rfl, .inl (.inl upd_same), rfl, _, _, rfl, ?_⟩
        refine ⟨_, _, rfl, rfl, ?_⟩
        refine ⟨_, rfl, _, rfl, _, rfl, _, _, rfl, rfl, _, rfl, t, _, rfl, .inr St5, _, _, rfl, rfl, Lp, t, _, _, _, rfl, rfl, St5, ate, ?_⟩
        refine ⟨_, rfl, _, rfl, F, _, _, r.getD j 0, rfl, rfl, (upd_ne FT).trans hF, by rw [mv_len, lb]; exact ixN_lt pl, ?_⟩
        rw [mv_set]
        refine ⟨⟨fun b o h => (upd_ne (fF0 b o h)).trans (same_new fT b o (S4 b o h)), sqt_lst St5 ((upd_ne FT).trans hF)⟩, sqt_lst (sqt_new hR fT) ((upd_ne FT).trans hF), (rf.same (same_new fT)).upd ((upd_ne FT).trans hF), b.set (r.getD j 0) (r.getD ix 0), by rw [List.length_set, lb], upd_same, fun x hx => ?_, _, _, rfl⟩
        by_cases z : x = r.getD j 0
        · rw [z, ← val, List.getD, List.getElem?_set_self (by omega)]
          rfl
        · rw [List.getD, List.getElem?_set_ne (fun h => z h.symm), ← List.getD]
          refine done x ?_
          rcases hx with hx | hx
          · exact .inl hx
          · refine .inr ?_
            rw [List.take_add_one, List.getElem?_eq_getElem jr] at hx
            rcases List.mem_append.mp hx with hx | hx
            · exact hx
            · exfalso
              refine z ?_
              rw [List.getD, List.getElem?_eq_getElem jr]
              simpa using hx
      · rintro σ H4 ⟨⟨S4, St⟩, hR, rf, b, lb, hF, done, y, z, rfl⟩
        refine ⟨S4, hR, rf, b, lb, hF, fun x hx => done x ?_, _, _, _, rfl⟩
        rw [List.take_add_one, hr, List.flatten_append, List.mem_append] at hx
        rcases hx with hx | hx
        · exact .inl hx
        · refine .inr ?_
          rw [mv_len, List.take_length]
          simpa using hx
    · rintro σ H3 ⟨S3, hR, rf, b, lb, hF, done, x, y, z, rfl⟩
      have lus : us.length = (rings (fn' m) m.length).length := Paired.length rf
      rw [lus, List.take_length] at done
      have eb : b = (List.range m.length).map (pwE (fn' m) (ordOf (fn' m) m.length) e) := by
        refine List.ext_getElem (by rw [lb, List.length_map, List.length_range]) fun x h1 h2 => ?_
        have hx := (rings_good pm m.length (Nat.le_refl _)).all x (by omega)
        have := done x hx
        rw [List.getD, List.getElem?_eq_getElem h1] at this
        rw [List.getElem_map, List.getElem_range]
        exact this
      rw [eb] at hF
      exact ⟨_, rfl, F, _, rfl, .inl ⟨.inl (.inl hF), fun u fu => q _ u (S3.trans (same_new fu)) (.inl (.inl upd_same))⟩⟩
def spOrd (K : PySem.W.Frag) : Sp := fun vs H Q _ => ∃ (a : Addr) (m : List Nat), vs = [.ref a] ∧ SqT K H a (mv m) ∧ Mv m ∧ (∀ i, lcmL (((rings (fn' m) m.length).map List.length).take i) < 2 ^ 63) ∧
  ∀ H', Same H H' → Q (.int (ordOf (fn' m) m.length : Nat)) H'
theorem len_in {f : Nat → Nat} {n : Nat} (h : Pm f n) {r : List Nat} (hr : r ∈ rings f n) : 1 ≤ r.length ∧ r.length ≤ n := by
  obtain ⟨p, pn, rfl⟩ := (rings_good h n (Nat.le_refl _)).each r hr
  rw [ringOf_len]
  exact ⟨lenOf_pos f n p, (lenOf_ok h pn).1⟩
theorem scOrderOf : FnScope ["move", "order", "ring"] ["move"] (defScope sOrderOf) :=
  ⟨rfl, rfl, rfl, by decide +kernel, rfl, by decide +kernel, by decide +kernel⟩
theorem dOrderOf (T : Tx K mg) (DNeedMove : Def P w K mg base CX0 4 "_need_move" ["move"] (spNeedMove K)) (DCycles : Def P w K mg base CX0 1 "_cycles" ["move"] (spCyc K)) : Def P w K mg base CX0 5 "order_of" ["move"] (spOrd K) := by
  refine T.t_order_of.def_ (N := ["move", "order", "ring"]) scOrderOf (fun _ _ _ _ _ _ us hl => match us, hl with | [_], _ => rfl) ?_ ?_
  · intro vs H Q E h
    obtain ⟨a, m, rfl, _⟩ := h
    rfl
  · intro f cd A out s H vs Q E hr h
    have hr1 : Rm 4 _ := hr.le (by decide)
    obtain ⟨a, m, rfl, S, hm, hl, q⟩ := h
    refine ⟨_, (pss_cons (ps_expr (pe_d DNeedMove (hr1.le (by decide)) pass0 (pa_cons (pv 0) pa_nil)))
      (pss_cons (ps_set (i := 1) scOrderOf.nd rfl (Or.inl rfl) pe_int)
      (pss_cons (ps_for PassesOwn.never rfl (pi_tup (pe_d DCycles (hr1.le (by decide)) pass0 (pa_cons (pv 0) pa_nil))) (pg_name (i := 2) scOrderOf.nd rfl (Or.inl rfl))
        (pss_one (ps_set (i := 1) scOrderOf.nd rfl (Or.inl rfl) (pe_callBfun cr_lcm rfl T.b_lcm (pa_cons (pv 1) (pa_cons (pe_callB call_len_seq rfl T.f_len (by decide +kernel) (pa_cons (pv 2) pa_nil)) pa_nil))))))
      (pss_one (ps_ret (pv 1)))))), ?_⟩
    have pm := pm_of hm
    refine ⟨_, rfl, a, m, rfl, S, hm, fun H0 S0 => ?_⟩
    refine ⟨_, rfl, a, m, rfl, same_sqt S0 S, hm, fun H1 R us S1 hR rf => ?_⟩
    have S2 := S0.trans S1
    refine ⟨R, rfl, ⟨_, hR⟩, for_tup (K := K) (a := R) (xs := us) (fun i σ H3 => H3 = H1 ∧ ∃ x, σ = [some (.ref a), some (.int (lcmL (((rings (fn' m) m.length).map List.length).take i) : Nat)), x]) ⟨rfl, _, rfl⟩ (fun i σ H3 _ h => by rw [h.1]; exact hR) ?_ ?_⟩
    · rintro i v σ H3 hv ⟨rfl, x, rfl⟩
      obtain ⟨r, t, hr, rfl, St⟩ := rf.get hv
      have mr : r ∈ rings (fn' m) m.length := List.mem_of_getElem? hr
      obtain ⟨r1, r2⟩ := len_in pm mr
      have e : ((rings (fn' m) m.length).map List.length)[i]? = some r.length := by rw [List.getElem?_map, hr]; rfl
      have m24 := hm.2.2.2
      refine ⟨_, rfl, _, rfl, t, _, rfl, .inr St, ?_⟩
      refine ⟨_, _, rfl, ?_, ?_, rfl, some (.ref t), ?_⟩
      · rw [Int.natAbs_natCast]
        exact Nat.lt_trans (hl i) (by decide)
      · rw [Int.natAbs_natCast, mv_len]
        exact Nat.lt_of_le_of_lt (Nat.le_trans r2 m24) (by decide)
      · rw [lcmL_more e, mv_len]
        rfl
    · rintro σ H3 ⟨rfl, x, rfl⟩
      have : us.length = (rings (fn' m) m.length).length := Paired.length rf
      rw [this, ← List.length_map (f := List.length) , List.take_length]
      exact ⟨_, rfl, q _ S2⟩
def evenS (n : Nat) : Int := if n % 2 = 0 then 1 else -1
def spSign (K : PySem.W.Frag) : Sp := fun vs H Q _ => ∃ (a : Addr) (m : List Nat), vs = [.ref a] ∧ SqT K H a (mv m) ∧ Mv m ∧ ∀ H', Same H H' → Q (.int (evenS (m.length - (rings (fn' m) m.length).length))) H'
def spCycles (K : PySem.W.Frag) : Sp := spCyc K
def stillOf (m : List Nat) : List Nat := (List.range m.length).filter fun k => decide (k = fn' m k)
def spStill (K : PySem.W.Frag) : Sp := fun vs H Q _ => ∃ (a : Addr) (m : List Nat), vs = [.ref a] ∧ SqT K H a (mv m) ∧ Mv m ∧ ∀ H' t, Same H H' → SqT K H' t (mv (stillOf m)) → Q (.ref t) H'
end
end K05


set_option Elab.async false
set_option linter.all false
set_option maxRecDepth 100000
set_option maxHeartbeats 2000000
namespace K05
open PySem PySem.Spec PyProof.Rows L2 MM
/-! own words for the readings: a step, its side -/
local macro_rules | `(tactic| walk_at "side") => `(tactic| first
  | omega
  | exact ⟨by omega, by omega⟩
  | exact Or.inl ⟨by omega, by omega⟩
  | exact Or.inr ⟨by omega, by omega⟩
  | (show CPw _ _; decide +kernel)
  | (show (0 : Int) < _; decide +kernel)
  | (show CDivW _ _; first | assumption | exact ⟨by decide, by decide +kernel⟩))
local macro_rules | `(tactic| walk_at "here") => `(tactic| first
  | assumption
  | exact upd_same
  | exact Or.inl (Or.inl upd_same)
  | exact Or.inl upd_same)
local macro_rules | `(tactic| walk_at "one") => `(tactic| first
  | refine ⟨_, rfl, ?_⟩
  | refine Or.inl ⟨_, rfl, ?_⟩
  | refine Or.inr ⟨_, rfl, ?_⟩
  | refine ⟨_, _, rfl, rfl, (by walk_at "side"), ?_⟩
  | refine ⟨_, _, rfl, rfl, ?_⟩
  | refine ⟨_, _, rfl, Or.inl (by walk_at "here"), ?_⟩
  | refine ⟨_, _, rfl, Or.inr (by walk_at "here"), ?_⟩
  | refine ⟨_, _, rfl, (by walk_at "here"), ?_⟩
  | refine ⟨_, _, _, _, rfl, rfl, (by walk_at "here"), rfl, ?_⟩
  | refine ⟨_, _, rfl, ?_⟩
  | refine ifT (by rfl) ?_
  | refine ifF (by rfl) ?_
  | refine ifT (decide_eq_true (by omega)) ?_
  | refine ifF (decide_eq_false (by omega)) ?_)
local macro_rules | `(tactic| walk_at "st") => `(tactic| repeat (walk_at "one"))

section
variable {P : Program} {w : World} {K : PySem.W.Frag} {mg : Str → Option Value} {base : Heap}
theorem split_at {α : Type} {l : List α} {i : Nat} {x : α} (h : l[i]? = some x) : l = l.take i ++ x :: l.drop (i + 1) := by
  obtain ⟨lt, e⟩ := List.getElem?_eq_some_iff.mp h
  rw [← e, ← List.drop_eq_getElem_cons lt, List.take_append_drop]
/-- rings of places below n -/
structure Rings (n : Nat) (R : List (List Nat)) : Prop where
  full : ∀ r ∈ R, 1 ≤ r.length
  once : R.flatten.Nodup
  below : ∀ x ∈ R.flatten, x < n
theorem Rings.small {n : Nat} {R : List (List Nat)} (h : Rings n R) : R.flatten.length ≤ n := by
  have := h.once.length_le_of_subset (fun x hx => List.mem_range.mpr (h.below x hx))
  rwa [List.length_range] at this
theorem Rings.flat {R : List (List Nat)} {i j x : Nat} {r : List Nat} (hr : R[i]? = some r) (hx : r[j]? = some x) :
    R.flatten = ((R.take i).flatten ++ r.take j) ++ x :: (r.drop (j + 1) ++ (R.drop (i + 1)).flatten) := by
  have e1 := split_at hr
  have e2 := split_at hx
  have e3 : R.flatten = (R.take i ++ r :: R.drop (i + 1)).flatten := congrArg List.flatten e1
  rw [e3, List.flatten_append, List.flatten_cons]
  have e4 : r ++ (R.drop (i + 1)).flatten = r.take j ++ (x :: (r.drop (j + 1) ++ (R.drop (i + 1)).flatten)) := by
    have : r ++ (R.drop (i + 1)).flatten = (r.take j ++ x :: r.drop (j + 1)) ++ (R.drop (i + 1)).flatten := by rw [← e2]
    rw [this, List.append_assoc, List.cons_append]
  rw [e4, List.append_assoc]
theorem Rings.new {n : Nat} {R : List (List Nat)} (h : Rings n R) {i j x : Nat} {r : List Nat} (hr : R[i]? = some r) (hx : r[j]? = some x) :
    x ∉ (R.take i).flatten ++ r.take j ∧ x < n ∧ ((R.take i).flatten ++ r.take j).length ≤ n := by
  have e := Rings.flat hr hx
  have nd := h.once
  have sm := h.small
  rw [e] at nd sm
  refine ⟨fun z => ?_, h.below x (by rw [e]; simp), ?_⟩
  · have := (List.nodup_append.mp nd).2.2 x z x (by simp)
    exact this rfl
  · rw [List.length_append] at sm
    omega
def spNeedRings (K : PySem.W.Frag) : Sp := fun vs H Q _ => ∃ (n : Nat) (a : Addr) (us : List V) (R : List (List Nat)), vs = [.int (n : Int), .ref a] ∧ SqT K H a us ∧ Refs K H us R ∧ Rings n R ∧ n ≤ 24 ∧ ∀ H', Same H H' → Q .non H'
/-- f goes round the rings, and leaves the rest -/
structure Goes (f : Nat → Nat) (n : Nat) (R : List (List Nat)) : Prop where
  ring : ∀ r ∈ R, ∀ j, j < r.length → f (r.getD j 0) = r.getD ((j + 1) % r.length) 0
  rest : ∀ x, x < n → x ∉ R.flatten → f x = x
def spMoveOf (K : PySem.W.Frag) : Sp := fun vs H Q _ => ∃ (n : Nat) (a : Addr) (us : List V) (R : List (List Nat)) (f : Nat → Nat), vs = [.int (n : Int), .ref a] ∧ SqT K H a us ∧ Refs K H us R ∧ Rings n R ∧ Goes f n R ∧ 1 ≤ n ∧ n ≤ 24 ∧
  ∀ H' t, Same H H' → SqT K H' t (mv ((List.range n).map f)) → Q (.ref t) H'
end
end K05


set_option Elab.async false
set_option linter.all false
set_option maxRecDepth 100000
set_option maxHeartbeats 1000000
namespace K05
/-! inversions -/
def inv : List Nat → Nat
  | [] => 0
  | x :: r => r.countP (fun y => decide (y < x)) + inv r
theorem inv_adj {x y : Nat} (ne : x ≠ y) (B : List Nat) : ∀ A : List Nat, (inv (A ++ x :: y :: B) + inv (A ++ y :: x :: B)) % 2 = 1
  | [] => by
    show (((y :: B).countP (fun z => decide (z < x)) + (B.countP (fun z => decide (z < y)) + inv B)) + ((x :: B).countP (fun z => decide (z < y)) + (B.countP (fun z => decide (z < x)) + inv B))) % 2 = 1
    rw [List.countP_cons, List.countP_cons]
    by_cases c : y < x
    · have d : ¬ x < y := by omega
      simp only [c, d, decide_true, decide_false, if_true, Bool.false_eq_true, if_false]
      omega
    · have d : x < y := by omega
      simp only [c, d, decide_true, decide_false, if_true, Bool.false_eq_true, if_false]
      omega
  | a :: A => by
    have ih := inv_adj ne B A
    have p : (A ++ x :: y :: B).Perm (A ++ y :: x :: B) := List.Perm.append_left A (List.Perm.swap ..)
    show ((A ++ x :: y :: B).countP (fun z => decide (z < a)) + inv (A ++ x :: y :: B) + ((A ++ y :: x :: B).countP (fun z => decide (z < a)) + inv (A ++ y :: x :: B))) % 2 = 1
    rw [p.countP_eq]
    omega
theorem inv_over {x : Nat} (C : List Nat) : ∀ (B A : List Nat), x ∉ B → (inv (A ++ x :: (B ++ C)) + inv (A ++ (B ++ x :: C)) + B.length) % 2 = 0
  | [], A, _ => by
    show (inv (A ++ x :: C) + inv (A ++ x :: C) + 0) % 2 = 0
    omega
  | b :: B, A, h => by
    have h1 : x ≠ b := fun e => h (by simp [e])
    have h2 : x ∉ B := fun e => h (by simp [e])
    have s1 := inv_adj h1 (B ++ C) A
    have s2 := inv_over C B (A ++ [b]) h2
    have e1 : A ++ [b] ++ x :: (B ++ C) = A ++ b :: x :: (B ++ C) := by simp
    have e2 : A ++ [b] ++ (B ++ x :: C) = A ++ (b :: B ++ x :: C) := by simp
    rw [e1, e2] at s2
    show (inv (A ++ x :: b :: (B ++ C)) + inv (A ++ (b :: B ++ x :: C)) + (B.length + 1)) % 2 = 0
    omega
theorem inv_swap {x y : Nat} {A B C : List Nat} (nd : (A ++ x :: (B ++ y :: C)).Nodup) : (inv (A ++ x :: (B ++ y :: C)) + inv (A ++ y :: (B ++ x :: C))) % 2 = 1 := by
  have n1 := (List.nodup_append.mp nd).2.1
  have n2 := List.nodup_cons.mp n1
  have xB : x ∉ B ++ [y] := fun h => n2.1 (by
    rcases List.mem_append.mp h with h | h
    · simp [h]
    · simp [List.mem_singleton.mp h])
  have yB : y ∉ B := fun h => (List.nodup_append.mp n2.2).2.2 y h y (by simp) rfl
  have s1 := inv_over C (B ++ [y]) A xB
  have s2 := inv_over (x :: C) B A yB
  have e1 : B ++ [y] ++ C = B ++ y :: C := by simp
  have e2 : B ++ [y] ++ x :: C = B ++ y :: (x :: C) := by simp
  rw [e1, e2, List.length_append] at s1
  have e3 : (B ++ y :: x :: C) = B ++ y :: (x :: C) := rfl
  rw [show [y].length = 1 from rfl] at s1
  omega
theorem inv_range : ∀ n k, inv (List.range' k n) = 0
  | 0, _ => rfl
  | n + 1, k => by
    rw [List.range'_succ]
    show (List.range' (k + 1) n).countP _ + inv _ = 0
    rw [inv_range n (k + 1), List.countP_eq_zero.mpr]
    intro y hy
    have := (List.mem_range'_1.mp hy).1
    simp
    omega
/-! starts of rings -/
section
variable {f : Nat → Nat} {n : Nat}
theorem rings_from (f : Nat → Nat) (n : Nat) : ∀ s, ∀ r ∈ ringsTo f n s, ∃ p, p < s ∧ r = ringOf f n p
  | 0, r, h => by simp [ringsTo] at h
  | s + 1, r, h => by
    unfold ringsTo at h
    split at h
    · obtain ⟨p, hp, e⟩ := rings_from f n s r h
      exact ⟨p, by omega, e⟩
    · rcases List.mem_append.mp h with h | h
      · obtain ⟨p, hp, e⟩ := rings_from f n s r h
        exact ⟨p, by omega, e⟩
      · exact ⟨s, by omega, List.mem_singleton.mp h⟩
theorem start_iff (h : Pm f n) {s : Nat} (hs : s < n) : s ∉ (ringsTo f n s).flatten ↔ ∀ j, s ≤ it f j s := by
  have g := rings_good h s (by omega)
  constructor
  · intro no j
    by_cases c : s ≤ it f j s
    · exact c
    · exfalso
      exact no ((closed_it h g.closed hs j).mp (g.all _ (by omega)))
  · intro all hin
    obtain ⟨r, hr, hx⟩ := List.mem_flatten.mp hin
    obtain ⟨p, ps, rfl⟩ := rings_from f n s r hr
    obtain ⟨k, hk, e⟩ := ring_mem.mp hx
    obtain ⟨ln, eL, no⟩ := lenOf_ok h (p := p) (by omega)
    have := all (lenOf f n p - k)
    rw [e, ← it_add, show lenOf f n p - k + k = lenOf f n p by omega, eL] at this
    omega
def isSt (f : Nat → Nat) (n : Nat) (s : Nat) : Bool := decide (s ∉ (ringsTo f n s).flatten)
theorem rings_count (f : Nat → Nat) (n : Nat) : ∀ s, (ringsTo f n s).length = (List.range s).countP (isSt f n)
  | 0 => rfl
  | s + 1 => by
    rw [List.range_succ, List.countP_append, ← rings_count f n s]
    show (if s ∈ (ringsTo f n s).flatten then ringsTo f n s else ringsTo f n s ++ [ringOf f n s]).length = _ + [s].countP (isSt f n)
    rw [List.countP_singleton]
    unfold isSt
    by_cases c : s ∈ (ringsTo f n s).flatten
    · simp [c]
    · simp [c]
end
theorem count_flip {p q : Nat → Bool} {k : Nat} : ∀ {l : List Nat}, l.Nodup → k ∈ l → (∀ x ∈ l, x ≠ k → p x = q x) → p k = false → q k = true → l.countP q = l.countP p + 1
  | [], _, h, _, _, _ => by simp at h
  | a :: r, nd, h, same, hp, hq => by
    obtain ⟨na, nr⟩ := List.nodup_cons.mp nd
    rw [List.countP_cons, List.countP_cons]
    by_cases c : a = k
    · subst c
      have : r.countP q = r.countP p := List.countP_congr fun x hx => by
        rw [same x (by simp [hx]) fun z => na (by rw [← z]; exact hx)]
      rw [this, hp, hq]
      simp
    · have hk : k ∈ r := by
        rcases List.mem_cons.mp h with z | z
        · exact absurd z.symm c
        · exact z
      have ih := count_flip nr hk (fun x hx => same x (by simp [hx])) hp hq
      rw [ih, same a (by simp) c]
      omega
/-- k, the last place that moves, is taken out of its ring -/
theorem rings_cut {f g : Nat → Nat} {n k p : Nat} (hf : Pm f n) (hg : Pm g n) (kn : k < n) (top : ∀ x, k < x → x < n → f x = x) (mv : f k ≠ k) (pn : p < n) (ep : f p = k)
    (gk : g k = k) (gp : g p = f k) (oth : ∀ x, x < n → x ≠ k → x ≠ p → g x = f x) : (rings g n).length = (rings f n).length + 1 := by
  have pk : p ≠ k := fun z => mv (by rw [← z, ep, z])
  have plt : p < k := by
    rcases Nat.lt_or_ge k p with c | c
    · exact absurd ((top p c pn).symm.trans ep) pk
    · omega
  have fk : f k < k := by
    rcases Nat.lt_or_ge k (f k) with c | c
    · have := top (f k) c (hf.lt k kn)
      exact absurd (hf.inj _ _ (hf.lt k kn) kn this) mv
    · omega
  -- g's iterates are f's
  have gf : ∀ x, x < n → x ≠ k → ∀ j, it g j x ≠ k ∧ ∃ i, it g j x = it f i x := by
    intro x xn xk j
    induction j with
    | zero => exact ⟨xk, 0, rfl⟩
    | succ j ih =>
      obtain ⟨nk, i, e⟩ := ih
      have bn := it_lt hg xn j
      refine ⟨fun z => nk (hg.inj _ _ bn kn (by rw [gk]; exact z)), ?_⟩
      show ∃ i, g (it g j x) = it f i x
      by_cases c : it g j x = p
      · refine ⟨i + 2, ?_⟩
        show _ = f (f (it f i x))
        rw [← e, c, gp, ep]
      · refine ⟨i + 1, ?_⟩
        show _ = f (it f i x)
        rw [oth _ bn nk c, e]
  have fg : ∀ x, x < n → x ≠ k → ∀ i, (∃ j, it f i x = it g j x) ∨ (it f i x = k ∧ ∃ j, p = it g j x) := by
    intro x xn xk i
    induction i with
    | zero => exact .inl ⟨0, rfl⟩
    | succ i ih =>
      rcases ih with ⟨j, e⟩ | ⟨e, j, ej⟩
      · by_cases c : it g j x = p
        · refine .inr ⟨?_, j, c.symm⟩
          show f (it f i x) = k
          rw [e, c, ep]
        · refine .inl ⟨j + 1, ?_⟩
          show f (it f i x) = g (it g j x)
          rw [oth _ (it_lt hg xn j) (gf x xn xk j).1 c, e]
      · refine .inl ⟨j + 1, ?_⟩
        show f (it f i x) = g (it g j x)
        rw [e, ← ej, gp]
  unfold rings
  rw [rings_count, rings_count]
  refine count_flip List.nodup_range (List.mem_range.mpr kn) (fun x hx xk => ?_) ?_ ?_
  · have xn := List.mem_range.mp hx
    unfold isSt
    refine decide_eq_decide.mpr ?_
    rw [start_iff hf xn, start_iff hg xn]
    constructor
    · intro all j
      obtain ⟨_, i, e⟩ := gf x xn xk j
      rw [e]
      exact all i
    · intro all i
      rcases fg x xn xk i with ⟨j, e⟩ | ⟨e, j, ej⟩
      · rw [e]
        exact all j
      · have := all j
        omega
  · unfold isSt
    refine decide_eq_false fun z => ?_
    have := (start_iff hf kn).mp z 1
    have e : it f 1 k = f k := rfl
    omega
  · unfold isSt
    refine decide_eq_true ((start_iff hg kn).mpr fun j => ?_)
    have : it g j k = k := by
      induction j with
      | zero => rfl
      | succ j ih =>
        show g (it g j k) = k
        rw [ih, gk]
    omega
theorem rings_unit {f : Nat → Nat} {n : Nat} (id_ : ∀ x, x < n → f x = x) : (rings f n).length = n := by
  have h : Pm f n := ⟨fun k hk => by rw [id_ k hk]; exact hk, fun a b ha hb e => by rw [id_ a ha, id_ b hb] at e; exact e⟩
  unfold rings
  rw [rings_count]
  refine (List.countP_eq_length (p := isSt f n)).mpr (fun x hx => ?_) |>.trans List.length_range
  have xn := List.mem_range.mp hx
  unfold isSt
  refine decide_eq_true ((start_iff h xn).mpr fun j => ?_)
  have : it f j x = x := by
    induction j with
    | zero => rfl
    | succ j ih =>
      show f (it f j x) = x
      rw [ih, id_ x xn]
  omega
/-! moves as lists -/
theorem fn_at {m : List Nat} {k : Nat} (h : k < m.length) : fn' m k = m[k] := by
  unfold fn'
  rw [List.getD, List.getElem?_eq_getElem h]
  rfl
theorem onto {f : Nat → Nat} {n : Nat} (h : Pm f n) {k : Nat} (hk : k < n) : ∃ p, p < n ∧ f p = k := by
  obtain ⟨L, l1, _, e⟩ := back_home h hk
  refine ⟨it f (L - 1) k, it_lt h hk _, ?_⟩
  show it f (L - 1 + 1) k = k
  rw [show L - 1 + 1 = L by omega, e]
theorem fn_ext {m l : List Nat} (e : m.length = l.length) (h : ∀ x, x < m.length → fn' m x = fn' l x) : m = l :=
  List.ext_getElem e fun x h1 h2 => by rw [← fn_at h1, ← fn_at h2, h x h1]
theorem fn_map {n : Nat} {f : Nat → Nat} {x : Nat} (h : x < n) : fn' ((List.range n).map f) x = f x := by
  rw [fn_at (by rw [List.length_map, List.length_range]; exact h), List.getElem_map, List.getElem_range]
theorem map_mv {n : Nat} {f : Nat → Nat} (h : Pm f n) (n1 : 1 ≤ n) (n24 : n ≤ 24) : Mv ((List.range n).map f) := by
  refine ⟨?_, fun k hk => ?_, by rw [List.length_map, List.length_range]; exact n1, by rw [List.length_map, List.length_range]; exact n24⟩
  · rw [List.Nodup, List.pairwise_map]
    refine List.Pairwise.imp_of_mem ?_ (List.pairwise_lt_range (n := n))
    intro i j hi hj lt e
    have := h.inj _ _ (List.mem_range.mp hi) (List.mem_range.mp hj) e
    omega
  · obtain ⟨x, hx, rfl⟩ := List.mem_map.mp hk
    rw [List.length_map, List.length_range]
    exact h.lt _ (List.mem_range.mp hx)
theorem mv_map {m : List Nat} : m = (List.range m.length).map (fn' m) :=
  fn_ext (by rw [List.length_map, List.length_range]) fun x hx => (fn_map hx).symm
theorem comp_len (m l : List Nat) : (comp m l).length = l.length := List.length_map _
theorem fn_comp {m l : List Nat} {x : Nat} (h : x < l.length) : fn' (comp m l) x = fn' m (fn' l x) := by
  rw [fn_at (by rw [comp_len]; exact h), fn_at h]
  unfold comp
  rw [List.getElem_map]
  rfl
theorem comp_mv {m l : List Nat} (hm : Mv m) (hl : Mv l) (e : m.length = l.length) : Mv (comp m l) := by
  have p1 := pm_of hm
  have p2 := pm_of hl
  rw [e] at p1
  have : comp m l = (List.range l.length).map fun x => fn' m (fn' l x) :=
    fn_ext (by rw [comp_len, List.length_map, List.length_range]) fun x hx => by
      rw [comp_len] at hx
      rw [fn_comp hx, fn_map hx]
  rw [this]
  exact map_mv ⟨fun k hk => p1.lt _ (p2.lt k hk), fun a b ha hb z => p2.inj a b ha hb (p1.inj _ _ (p2.lt a ha) (p2.lt b hb) z)⟩ hl.2.2.1 hl.2.2.2
theorem perm_mv {m l : List Nat} (h : l.Perm m) (hm : Mv m) : Mv l := by
  have e := h.length_eq
  exact ⟨h.nodup_iff.mpr hm.1, fun k hk => by rw [e]; exact hm.2.1 k (h.mem_iff.mp hk), by rw [e]; exact hm.2.2.1, by rw [e]; exact hm.2.2.2⟩
theorem two_at {l : List Nat} {p k : Nat} (pk : p < k) (kl : k < l.length) : ∃ A B C x y, l = A ++ x :: (B ++ y :: C) ∧ A.length = p ∧ A.length + 1 + B.length = k ∧ x = fn' l p ∧ y = fn' l k := by
  have h1 : l[p]? = some l[p] := List.getElem?_eq_getElem (by omega)
  have e1 := split_at h1
  have lt : k - p - 1 < (l.drop (p + 1)).length := by rw [List.length_drop]; omega
  have h2 : (l.drop (p + 1))[k - p - 1]? = some (l[k]) := by
    rw [List.getElem?_drop, show p + 1 + (k - p - 1) = k by omega]
    exact List.getElem?_eq_getElem kl
  have e2 := split_at h2
  refine ⟨l.take p, (l.drop (p + 1)).take (k - p - 1), (l.drop (p + 1)).drop (k - p - 1 + 1), l[p], l[k], ?_, ?_, ?_, (fn_at _).symm, (fn_at _).symm⟩
  · rw [← e2]
    exact e1
  · rw [List.length_take]
    omega
  · rw [List.length_take, List.length_take, List.length_drop]
    omega
theorem fn_app {A : List Nat} {x : Nat} {R : List Nat} (j : Nat) : fn' (A ++ x :: R) j = if j < A.length then fn' A j else if j = A.length then x else fn' R (j - A.length - 1) := by
  unfold fn'
  rw [List.getD, List.getElem?_append]
  split
  · rfl
  · split
    · rename_i h
      rw [h, Nat.sub_self]
      rfl
    · rename_i h1 h2
      rw [show j - A.length = (j - A.length - 1) + 1 by omega, List.getElem?_cons_succ]
      rfl
theorem sign_main {n : Nat} : ∀ t, t ≤ n → ∀ l, Mv l → l.length = n → (∀ x, t ≤ x → x < n → fn' l x = x) →
    (inv l + n + (rings (fn' l) n).length) % 2 = 0 ∧ ∀ m, Mv m → m.length = n → (inv (comp m l) + inv m + inv l) % 2 = 0
  | 0, _, l, hl, ln, fix => by
    have el : l = List.range n := fn_ext (by rw [ln, List.length_range]) fun x hx => by
      rw [fix x (Nat.zero_le _) (by omega), fn_at (by rw [List.length_range]; omega), List.getElem_range]
    have i0 : inv l = 0 := by rw [el, List.range_eq_range']; exact inv_range n 0
    refine ⟨by rw [rings_unit fun x hx => fix x (Nat.zero_le _) hx, i0]; omega, fun m hm mn => ?_⟩
    have : comp m l = m := fn_ext (by rw [comp_len, ln, mn]) fun x hx => by
      rw [comp_len] at hx
      rw [fn_comp hx, fix x (Nat.zero_le _) (by omega)]
    rw [this, i0]
    omega
  | k + 1, kn, l, hl, ln, fix => by
    by_cases c : fn' l k = k
    · refine sign_main k (by omega) l hl ln fun x hx xn => ?_
      by_cases e : x = k
      · rw [e, c]
      · exact fix x (by omega) xn
    · have pm := pm_of hl
      rw [ln] at pm
      obtain ⟨p, pn, ep⟩ := onto pm (k := k) (by omega)
      have pk : p ≠ k := fun z => c (by rw [← z, ep, z])
      have plt : p < k := by
        rcases Nat.lt_or_ge k p with z | z
        · exact absurd ((fix p (by omega) pn).symm.trans ep) pk
        · omega
      obtain ⟨A, B, C, x, y, el, hA, hB, ex, ey⟩ := two_at plt (l := l) (by omega)
      rw [ep] at ex
      subst ex
      have sw : (A ++ y :: (B ++ x :: C)).Perm l := by
        rw [el]
        refine List.Perm.append_left A ?_
        have h1 : (y :: (B ++ x :: C)).Perm (y :: x :: (B ++ C)) := List.Perm.cons y List.perm_middle
        have h2 : (x :: (B ++ y :: C)).Perm (x :: y :: (B ++ C)) := List.Perm.cons x List.perm_middle
        exact h1.trans ((List.Perm.swap ..).trans h2.symm)
      have hl2 := perm_mv sw hl
      have ln2 : (A ++ y :: (B ++ x :: C)).length = n := by rw [sw.length_eq, ln]
      have g : ∀ j, j ≠ p → j ≠ x → fn' (A ++ y :: (B ++ x :: C)) j = fn' l j := by
        intro j j1 j2
        rw [el, fn_app (A := A) (x := y) (R := B ++ x :: C), fn_app (A := A) (x := x) (R := B ++ y :: C)]
        by_cases c1 : j < A.length
        · rw [if_pos c1, if_pos c1]
        · rw [if_neg c1, if_neg c1, if_neg (by omega), if_neg (by omega), fn_app (A := B) (x := x) (R := C), fn_app (A := B) (x := y) (R := C)]
          by_cases c2 : j - A.length - 1 < B.length
          · rw [if_pos c2, if_pos c2]
          · rw [if_neg c2, if_neg c2, if_neg (by omega), if_neg (by omega)]
      have gk : fn' (A ++ y :: (B ++ x :: C)) x = x := by
        rw [fn_app, if_neg (by omega), if_neg (by omega), fn_app, if_neg (by omega), if_pos (by omega)]
      have gp : fn' (A ++ y :: (B ++ x :: C)) p = fn' l x := by
        rw [fn_app, if_neg (by omega), if_pos (by omega), ey]
      have pm2 := pm_of hl2
      rw [ln2] at pm2
      have cut := rings_cut pm pm2 (k := x) (p := p) (by omega) (fun z h1 h2 => fix z (by omega) h2) c pn ep gk gp (fun z _ z1 z2 => g z z2 z1)
      obtain ⟨r1, r2⟩ := sign_main x (by omega) _ hl2 ln2 fun z hz zn => by
        by_cases e : z = x
        · rw [e, gk]
        · rw [g z (by omega) e]
          exact fix z (by omega) zn
      have s1 := inv_swap (A := A) (x := x) (B := B) (y := y) (C := C) (by rw [← el]; exact hl.1)
      rw [← el] at s1
      refine ⟨by omega, fun m hm mn => ?_⟩
      have hc := comp_mv hm hl (by rw [mn, ln])
      have e1 : comp m l = comp m A ++ m.getD x 0 :: (comp m B ++ m.getD y 0 :: comp m C) := by
        rw [el]
        unfold comp
        rw [List.map_append, List.map_cons, List.map_append, List.map_cons]
      have e2 : comp m (A ++ y :: (B ++ x :: C)) = comp m A ++ m.getD y 0 :: (comp m B ++ m.getD x 0 :: comp m C) := by
        unfold comp
        rw [List.map_append, List.map_cons, List.map_append, List.map_cons]
      have s2 := inv_swap (A := comp m A) (x := m.getD x 0) (B := comp m B) (y := m.getD y 0) (C := comp m C) (by rw [← e1]; exact hc.1)
      have r3 := r2 m hm mn
      rw [e2] at r3
      rw [← e1] at s2
      omega
theorem sign_rings {l : List Nat} (h : Mv l) : evenS (inv l) = evenS (l.length - (rings (fn' l) l.length).length) := by
  have := (sign_main l.length (Nat.le_refl _) l h rfl fun x h1 h2 => by omega).1
  have le : (rings (fn' l) l.length).length ≤ l.length := ringsTo_len _ _ _
  unfold evenS
  rw [show inv l % 2 = (l.length - (rings (fn' l) l.length).length) % 2 by omega]
theorem sign_comp {m l : List Nat} (hm : Mv m) (hl : Mv l) (e : m.length = l.length) : evenS (inv (comp m l)) = evenS (inv m) * evenS (inv l) := by
  have := (sign_main l.length (Nat.le_refl _) l hl rfl fun x h1 h2 => by omega).2 m hm e
  unfold evenS
  by_cases a : inv m % 2 = 0
  · by_cases b : inv l % 2 = 0
    · rw [if_pos a, if_pos b, if_pos (by omega)]
      rfl
    · rw [if_pos a, if_neg b, if_neg (by omega)]
      rfl
  · by_cases b : inv l % 2 = 0
    · rw [if_neg a, if_pos b, if_neg (by omega)]
      rfl
    · rw [if_neg a, if_neg b, if_pos (by omega)]
      rfl
end K05

set_option Elab.async false
set_option linter.all false
set_option maxRecDepth 100000
set_option maxHeartbeats 1000000
namespace K05
/-! the move undone -/
theorem back_len (m : List Nat) : (back m).length = m.length := backT_len m _
theorem backT_at {m : List Nat} (h : Mv m) : ∀ i, i ≤ m.length → ∀ j, j < i → (backT m i).getD (fn' m j) 0 = j
  | 0, _, j, hj => by omega
  | i + 1, le, j, hj => by
    have pm := pm_of h
    rw [backT_succ]
    by_cases e : j = i
    · subst e
      rw [List.getD, show m.getD j 0 = fn' m j from rfl, List.getElem?_set_self (by rw [backT_len]; exact pm.lt j (by omega))]
      rfl
    · have ne : fn' m i ≠ fn' m j := fun z => e (pm.inj i j (by omega) (by omega) z).symm
      rw [List.getD, show m.getD i 0 = fn' m i from rfl, List.getElem?_set_ne ne, ← List.getD]
      exact backT_at h i (by omega) j (by omega)
theorem back_at {m : List Nat} (h : Mv m) {x : Nat} (hx : x < m.length) : fn' (back m) (fn' m x) = x := backT_at h _ (Nat.le_refl _) x hx
theorem back_mv {m : List Nat} (h : Mv m) : Mv (back m) := by
  have pm := pm_of h
  rw [mv_map (m := back m), back_len]
  refine map_mv ⟨fun y hy => ?_, fun a b ha hb e => ?_⟩ h.2.2.1 h.2.2.2
  · obtain ⟨x, hx, rfl⟩ := onto pm hy
    rw [back_at h hx]
    exact hx
  · obtain ⟨x, hx, rfl⟩ := onto pm ha
    obtain ⟨y, hy, rfl⟩ := onto pm hb
    rw [back_at h hx, back_at h hy] at e
    rw [e]
theorem comp_back {m : List Nat} (h : Mv m) : comp m (back m) = List.range m.length := by
  have pm := pm_of h
  refine fn_ext (by rw [comp_len, back_len, List.length_range]) fun y hy => ?_
  rw [comp_len] at hy
  rw [fn_comp hy]
  rw [back_len] at hy
  obtain ⟨x, hx, rfl⟩ := onto pm hy
  rw [back_at h hx, fn_at (m := List.range _) (by rw [List.length_range]; exact hy), List.getElem_range]
theorem back_comp {m l : List Nat} (hm : Mv m) (hl : Mv l) (e : m.length = l.length) : back (comp m l) = comp (back l) (back m) := by
  have pm := pm_of hm
  have pl := pm_of hl
  have hc := comp_mv hm hl e
  refine fn_ext (by rw [back_len, comp_len, comp_len, back_len, e]) fun y hy => ?_
  rw [back_len, comp_len] at hy
  obtain ⟨u, hu, rfl⟩ := onto pm (k := y) (by omega)
  obtain ⟨x, hx, rfl⟩ := onto pl (k := u) (by omega)
  rw [fn_comp (by rw [back_len, e]; exact hy), back_at hm hu, back_at hl hx, ← fn_comp hx, back_at hc (by rw [comp_len]; exact hx)]
/-! powers -/
def pwL (m : List Nat) (e : Int) : List Nat := (List.range m.length).map (pwE (fn' m) (ordOf (fn' m) m.length) e)
theorem pwL_len (m : List Nat) (e : Int) : (pwL m e).length = m.length := by
  unfold pwL
  rw [List.length_map, List.length_range]
theorem it_ord {f : Nat → Nat} {n x : Nat} (h : Pm f n) (hx : x < n) : it f (ordOf f n) x = x := by
  have g := rings_good h n (Nat.le_refl _)
  obtain ⟨r, hr, hxr⟩ := List.mem_flatten.mp (g.all x hx)
  obtain ⟨p, pn, er⟩ := g.each r hr
  have dv := ord_dvd (f := f) (n := n) hr
  rw [er] at hxr
  obtain ⟨a, _, rfl⟩ := ring_mem.mp hxr
  obtain ⟨ln, eL, no⟩ := lenOf_ok h pn
  rw [er, ringOf_len] at dv
  obtain ⟨q, eq⟩ := dv
  rw [← it_add, Nat.add_comm, it_add, eq, it_times eL]
theorem pwE_pm {f : Nat → Nat} {n M : Nat} (h : Pm f n) (e : Int) : Pm (pwE f M e) n :=
  ⟨fun k hk => it_lt h hk _, fun a b ha hb z => it_inj h ha hb _ z⟩
theorem pwL_mv {m : List Nat} (h : Mv m) (e : Int) : Mv (pwL m e) := map_mv (pwE_pm (pm_of h) e) h.2.2.1 h.2.2.2
theorem pwL_add {m : List Nat} (h : Mv m) (a b : Int) : comp (pwL m a) (pwL m b) = pwL m (a + b) := by
  have pm := pm_of h
  refine fn_ext (by rw [comp_len, pwL_len, pwL_len]) fun x hx => ?_
  rw [comp_len, pwL_len] at hx
  rw [fn_comp (by rw [pwL_len]; exact hx)]
  unfold pwL
  rw [fn_map hx, fn_map hx, fn_map ((pwE_pm pm b).lt x hx), pwE_add (ordOf_pos pm) (it_ord pm hx)]
theorem pwL_zero {m : List Nat} : pwL m 0 = List.range m.length := by
  refine fn_ext (by rw [pwL_len, List.length_range]) fun x hx => ?_
  rw [pwL_len] at hx
  unfold pwL
  rw [fn_map hx, pwE_zero, fn_at (m := List.range _) (by rw [List.length_range]; exact hx), List.getElem_range]
theorem pwL_ord {m : List Nat} : pwL m (ordOf (fn' m) m.length : Nat) = List.range m.length := by
  refine fn_ext (by rw [pwL_len, List.length_range]) fun x hx => ?_
  rw [pwL_len] at hx
  unfold pwL
  rw [fn_map hx, pwE_self, fn_at (m := List.range _) (by rw [List.length_range]; exact hx), List.getElem_range]
/-! how great orders can be -/
theorem lcm_le (ns : List Nat) : ∀ g, 0 < g → (∀ n ∈ ns, 1 ≤ n) → ns.foldl Nat.lcm g ≤ g * 2 ^ ns.sum := by
  induction ns with
  | nil =>
    intro g _ _
    simp
  | cons a r ih =>
    intro g hg all
    have a1 := all a (by simp)
    have p := ih (Nat.lcm g a) (Nat.lcm_pos hg a1) fun n hn => all n (by simp [hn])
    have h1 : Nat.lcm g a ≤ g * a := Nat.div_le_self _ _
    have h2 : a ≤ 2 ^ a := Nat.le_of_lt Nat.lt_two_pow_self
    rw [List.sum_cons, Nat.pow_add, ← Nat.mul_assoc]
    exact Nat.le_trans p (Nat.mul_le_mul_right _ (Nat.le_trans h1 (Nat.mul_le_mul_left _ h2)))
theorem ord_small {f : Nat → Nat} {n : Nat} (h : Pm f n) (n24 : n ≤ 24) (i : Nat) : lcmL (((rings f n).map List.length).take i) ≤ 2 ^ 24 := by
  have g := rings_good h n (Nat.le_refl _)
  have small := rings_small h n24 (Nat.le_refl n)
  rw [← List.map_take]
  have l1 := lcm_le (((rings f n).take i).map List.length) 1 Nat.one_pos fun k hk => by
    obtain ⟨r, hr, rfl⟩ := List.mem_map.mp hk
    exact (len_in h (List.mem_of_mem_take hr)).1
  rw [← List.length_flatten] at l1
  have cut : ((rings f n).take i).flatten.length ≤ (rings f n).flatten.length := by
    have e : (rings f n).flatten = ((rings f n).take i).flatten ++ ((rings f n).drop i).flatten := by
      rw [← List.flatten_append, List.take_append_drop]
    rw [e, List.length_append]
    omega
  have small2 : (rings f n).flatten.length ≤ 24 := small
  unfold lcmL
  refine Nat.le_trans l1 ?_
  rw [Nat.one_mul]
  exact Nat.pow_le_pow_right (by decide) (by omega)
/-! places that stay -/
theorem stills {f : Nat → Nat} {n : Nat} (h : Pm f n) : ∀ s, s ≤ n → ((ringsTo f n s).filter fun r => decide (r.length = 1)).map (fun r => r.getD 0 0) = (List.range s).filter fun k => decide (k = f k)
  | 0, _ => rfl
  | s + 1, le => by
    have ih := stills h s (by omega)
    have sn : s < n := le
    obtain ⟨ln, eL, no⟩ := lenOf_ok h sn
    have L1 := lenOf_pos f n s
    rw [List.range_succ, List.filter_append, ← ih, show ringsTo f n (s + 1) = if s ∈ (ringsTo f n s).flatten then ringsTo f n s else ringsTo f n s ++ [ringOf f n s] from rfl]
    clear ih
    by_cases c : s ∈ (ringsTo f n s).flatten
    · rw [if_pos c]
      have ne : ¬ s = f s := fun e => by
        refine absurd c ((start_iff h sn).mpr fun j => ?_)
        have : it f j s = s := by
          induction j with
          | zero => rfl
          | succ j ih2 =>
            show f (it f j s) = s
            rw [ih2, ← e]
        omega
      have : [s].filter (fun k => decide (k = f k)) = [] := by simp [ne]
      rw [this, List.append_nil]
    · rw [if_neg c, List.filter_append, List.map_append]
      congr 1
      by_cases e : s = f s
      · have l1 : lenOf f n s = 1 := by
          rcases Nat.lt_or_ge 1 (lenOf f n s) with z | z
          · exact absurd e.symm (no 1 (Nat.le_refl 1) z)
          · omega
        have : ringOf f n s = [s] := by
          unfold ringOf
          rw [l1]
          rfl
        rw [this]
        simp [← e]
      · have l2 : lenOf f n s ≠ 1 := fun z => e (by rw [z] at eL; exact eL.symm)
        have : decide ((ringOf f n s).length = 1) = false := decide_eq_false (by rw [ringOf_len]; exact l2)
        simp [this, e]
/-! the rings of a move make it -/
theorem rings_ok {f : Nat → Nat} {n : Nat} (h : Pm f n) : Rings n (rings f n) :=
  have g := rings_good h n (Nat.le_refl _)
  ⟨fun r hr => (len_in h hr).1, g.once, g.below⟩
theorem ring_turn {f : Nat → Nat} {n : Nat} (h : Pm f n) {r : List Nat} (hr : r ∈ rings f n) {j : Nat} (hj : j < r.length) : f (r.getD j 0) = r.getD ((j + 1) % r.length) 0 := by
  obtain ⟨p, pn, rfl⟩ := (rings_good h n (Nat.le_refl _)).each r hr
  obtain ⟨ln, eL, no⟩ := lenOf_ok h pn
  rw [ringOf_len] at hj ⊢
  exact ring_step eL hj
theorem goes_rings {f : Nat → Nat} {n : Nat} (h : Pm f n) : Goes f n (rings f n) :=
  ⟨fun r hr j hj => ring_turn h hr hj, fun x hx no => absurd ((rings_good h n (Nat.le_refl _)).all x hx) no⟩
/-- rings begun elsewhere; single ones left out -/
inductive Bent : List (List Nat) → List (List Nat) → Prop where
  | nil : Bent [] []
  | keep {Z R : List (List Nat)} {r : List Nat} {a : Nat} (h : Bent Z R) (ha : a < r.length) : Bent (Z ++ [r]) (R ++ [r.drop a ++ r.take a])
  | skip {Z R : List (List Nat)} {r : List Nat} (h : Bent Z R) (h1 : r.length = 1) : Bent (Z ++ [r]) R
theorem Bent.len {Z R : List (List Nat)} (h : Bent Z R) : R.length ≤ Z.length := by
  induction h with
  | nil => exact Nat.le_refl _
  | keep h ha ih =>
    rw [List.length_append, List.length_append]
    show _ + 1 ≤ _ + 1
    omega
  | skip h h1 ih =>
    rw [List.length_append]
    omega
theorem Bent.sub {Z R : List (List Nat)} (h : Bent Z R) : (∀ r' ∈ R, ∃ r ∈ Z, ∃ a, a < r.length ∧ r' = r.drop a ++ r.take a) ∧ (∀ x ∈ Z.flatten, x ∉ R.flatten → [x] ∈ Z) ∧ ∃ S, (R.flatten ++ S).Perm Z.flatten := by
  induction h with
  | nil => exact ⟨by simp, by simp, [], .refl _⟩
  | keep h ha ih =>
    rename_i Z R r a
    obtain ⟨i1, i2, S, i3⟩ := ih
    have pr : (r.drop a ++ r.take a).Perm r := List.perm_append_comm.trans (.of_eq (List.take_append_drop a r))
    refine ⟨fun r' hr => ?_, fun x hx no => ?_, S, ?_⟩
    · rcases List.mem_append.mp hr with z | z
      · obtain ⟨q, hq, b, hb, e⟩ := i1 r' z
        exact ⟨q, List.mem_append_left _ hq, b, hb, e⟩
      · exact ⟨r, by simp, a, ha, List.mem_singleton.mp z⟩
    · rw [List.flatten_append, List.mem_append] at hx no
      rcases hx with hx | hx
      · exact List.mem_append_left _ (i2 x hx fun z => no (.inl z))
      · refine absurd (.inr ?_) no
        have : x ∈ r := by simpa using hx
        have := pr.mem_iff.mpr this
        simpa using this
    · rw [List.flatten_append, List.flatten_append]
      have e1 : [r.drop a ++ r.take a].flatten = r.drop a ++ r.take a := by simp
      have e2 : [r].flatten = r := by simp
      rw [e1, e2, List.append_assoc]
      refine (List.Perm.append_left _ List.perm_append_comm).trans ?_
      rw [← List.append_assoc]
      exact List.Perm.append i3 pr
  | skip h h1 ih =>
    rename_i Z R r
    obtain ⟨i1, i2, S, i3⟩ := ih
    refine ⟨fun r' hr => ?_, fun x hx no => ?_, S ++ r, ?_⟩
    · obtain ⟨q, hq, b, hb, e⟩ := i1 r' hr
      exact ⟨q, List.mem_append_left _ hq, b, hb, e⟩
    · rw [List.flatten_append, List.mem_append] at hx
      rcases hx with hx | hx
      · exact List.mem_append_left _ (i2 x hx no)
      · have hxr : x ∈ r := by simpa using hx
        obtain ⟨y, ey⟩ := List.length_eq_one_iff.mp h1
        rw [ey] at hxr
        have := List.mem_singleton.mp hxr
        subst this
        rw [ey]
        simp
    · rw [List.flatten_append, ← List.append_assoc]
      have e2 : [r].flatten = r := by simp
      rw [e2]
      exact List.Perm.append_right r i3
theorem rot_at {r : List Nat} {a j : Nat} (ha : a < r.length) (hj : j < r.length) : (r.drop a ++ r.take a).getD j 0 = r.getD ((a + j) % r.length) 0 := by
  rw [List.getD, List.getElem?_append, List.length_drop]
  by_cases c : j < r.length - a
  · rw [if_pos c, List.getElem?_drop, Nat.mod_eq_of_lt (by omega)]
    rfl
  · rw [if_neg c, List.getElem?_take_of_lt (by omega), show (a + j) % r.length = j - (r.length - a) from ?_]
    · rfl
    · rw [Nat.mod_eq_sub_mod (by omega), Nat.mod_eq_of_lt (by omega)]
      omega
theorem bent_ok {f : Nat → Nat} {n : Nat} (h : Pm f n) {Z R : List (List Nat)} (pz : Z.Perm (rings f n)) (hb : Bent Z R) : Rings n R ∧ Goes f n R := by
  have g := rings_good h n (Nat.le_refl _)
  have go := rings_ok h
  obtain ⟨b1, b2, S, b3⟩ := hb.sub
  have pf : (R.flatten ++ S).Perm (rings f n).flatten := b3.trans pz.flatten
  have len : ∀ (r : List Nat) (a : Nat), (r.drop a ++ r.take a).length = r.length := fun r a => by
    rw [List.length_append, List.length_drop, List.length_take]
    omega
  refine ⟨⟨fun r' hr => ?_, ?_, fun x hx => ?_⟩, ⟨fun r' hr j hj => ?_, fun x hx no => ?_⟩⟩
  · obtain ⟨r, hz, a, ha, rfl⟩ := b1 r' hr
    rw [len]
    omega
  · have := (pf.nodup_iff.mpr go.once)
    exact (List.nodup_append.mp this).1
  · exact go.below x (pf.mem_iff.mp (List.mem_append_left _ hx))
  · obtain ⟨r, hz, a, ha, rfl⟩ := b1 r' hr
    rw [len] at hj ⊢
    have pos : 0 < r.length := by omega
    rw [rot_at ha hj, rot_at ha (Nat.mod_lt _ pos), ring_turn h (pz.mem_iff.mp hz) (Nat.mod_lt _ pos)]
    congr 1
    rw [Nat.mod_add_mod, Nat.add_mod_mod, Nat.add_assoc]
  · have inZ := b2 x ((pz.flatten).mem_iff.mpr (g.all x hx)) no
    have := ring_turn h (pz.mem_iff.mp inZ) (j := 0) (by simp)
    simpa using this
end K05

set_option Elab.async false
set_option linter.all false
set_option maxRecDepth 100000
set_option maxHeartbeats 2000000
namespace K05
open PySem PySem.Spec PyProof.Rows L2 MM
/-! own words for the readings: a step, its side -/
local macro_rules | `(tactic| walk_at "side") => `(tactic| first
  | omega
  | exact ⟨by omega, by omega⟩
  | exact Or.inl ⟨by omega, by omega⟩
  | exact Or.inr ⟨by omega, by omega⟩
  | (show CPw _ _; decide +kernel)
  | (show (0 : Int) < _; decide +kernel)
  | (show CDivW _ _; first | assumption | exact ⟨by decide, by decide +kernel⟩))
local macro_rules | `(tactic| walk_at "here") => `(tactic| first
  | assumption
  | exact upd_same
  | exact Or.inl (Or.inl upd_same)
  | exact Or.inl upd_same)
local macro_rules | `(tactic| walk_at "one") => `(tactic| first
  | refine ⟨_, rfl, ?_⟩
  | refine Or.inl ⟨_, rfl, ?_⟩
  | refine Or.inr ⟨_, rfl, ?_⟩
  | refine ⟨_, _, rfl, rfl, (by walk_at "side"), ?_⟩
  | refine ⟨_, _, rfl, rfl, ?_⟩
  | refine ⟨_, _, rfl, Or.inl (by walk_at "here"), ?_⟩
  | refine ⟨_, _, rfl, Or.inr (by walk_at "here"), ?_⟩
  | refine ⟨_, _, rfl, (by walk_at "here"), ?_⟩
  | refine ⟨_, _, _, _, rfl, rfl, (by walk_at "here"), rfl, ?_⟩
  | refine ⟨_, _, rfl, ?_⟩
  | refine ifT (by rfl) ?_
  | refine ifF (by rfl) ?_
  | refine ifT (decide_eq_true (by omega)) ?_
  | refine ifF (decide_eq_false (by omega)) ?_)
local macro_rules | `(tactic| walk_at "st") => `(tactic| repeat (walk_at "one"))

section
variable {P : Program} {w : World} {K : PySem.W.Frag} {mg : Str → Option Value} {base : Heap}
theorem cut_take {m : List Nat} {i : Nat} (h : i ≤ m.length) : cutV (mv m) none (some (i : Int)) = mv (m.take i) := by
  unfold cutV
  rw [HT.sIx_none, HT.sIx_nat, List.drop_zero, Nat.sub_zero, mv_len, Nat.min_eq_left h]
  unfold mv
  rw [List.map_take]
theorem cut_drop {m : List Nat} {i : Nat} (h : i ≤ m.length) : cutV (mv m) (some (i : Int)) none = mv (m.drop i) := by
  unfold cutV
  rw [HT.sIx_none, HT.sIx_nat, mv_len, Nat.min_eq_left h]
  unfold mv
  rw [← List.map_drop, List.take_of_length_le (by rw [List.length_map, List.length_drop]; exact Nat.le_refl _)]
/-- how many stand ahead of i and are greater -/
def aheads (m : List Nat) (i : Nat) : Nat := (m.take i).countP fun x => decide (fn' m i < x)
theorem aheads_sum : ∀ m : List Nat, ((List.range m.length).map (aheads m)).sum = inv m
  | [] => rfl
  | x :: r => by
    rw [List.length_cons, List.range_succ_eq_map, List.map_cons, List.map_map, List.sum_cons]
    have h0 : aheads (x :: r) 0 = 0 := rfl
    have hs : ∀ j ∈ List.range r.length, (aheads (x :: r) ∘ Nat.succ) j = (if r.getD j 0 < x then 1 else 0) + aheads r j := by
      intro j _
      show ((x :: r).take (j + 1)).countP (fun y => decide (fn' (x :: r) (j + 1) < y)) = _
      rw [List.take_succ_cons, List.countP_cons]
      have e : fn' (x :: r) (j + 1) = fn' r j := rfl
      rw [e]
      show _ + (if decide (fn' r j < x) = true then 1 else 0) = (if r.getD j 0 < x then 1 else 0) + (r.take j).countP _
      have e2 : fn' r j = r.getD j 0 := rfl
      rw [e2, Nat.add_comm]
      simp
    rw [h0, List.map_congr_left hs]
    have spl : ∀ (l : List Nat) (a b : Nat → Nat), (l.map fun j => a j + b j).sum = (l.map a).sum + (l.map b).sum := by
      intro l a b
      induction l with
      | nil => rfl
      | cons y l ih =>
        rw [List.map_cons, List.map_cons, List.map_cons, List.sum_cons, List.sum_cons, List.sum_cons, ih]
        omega
    rw [spl, aheads_sum r]
    have cnt : ((List.range r.length).map fun j => if r.getD j 0 < x then 1 else 0).sum = r.countP fun y => decide (y < x) := by
      clear hs h0 spl
      induction r with
      | nil => rfl
      | cons y r ih =>
        rw [List.length_cons, List.range_succ_eq_map, List.map_cons, List.map_map, List.sum_cons, List.countP_cons, ← ih]
        show (if y < x then 1 else 0) + _ = _ + (if decide (y < x) = true then 1 else 0)
        rw [Nat.add_comm]
        congr 1
        simp
    rw [cnt]
    show 0 + _ = _
    rw [Nat.zero_add]
    rfl
def spOwnSign (K : PySem.W.Frag) : Sp := fun vs H Q _ => ∃ (a : Addr) (m : List Nat), vs = [.ref a] ∧ SqT K H a (mv m) ∧ Mv m ∧ ∀ H', Same H H' → Q (.int (evenS (inv m))) H'
end
end K05


set_option Elab.async false
set_option linter.all false
set_option maxRecDepth 100000
set_option maxHeartbeats 2000000
namespace K05
open PySem PySem.Spec PyProof.Rows L2 MM
/-! own words for the readings: a step, its side -/
local macro_rules | `(tactic| walk_at "side") => `(tactic| first
  | omega
  | exact ⟨by omega, by omega⟩
  | exact Or.inl ⟨by omega, by omega⟩
  | exact Or.inr ⟨by omega, by omega⟩
  | (show CPw _ _; decide +kernel)
  | (show (0 : Int) < _; decide +kernel)
  | (show CDivW _ _; first | assumption | exact ⟨by decide, by decide +kernel⟩))
local macro_rules | `(tactic| walk_at "here") => `(tactic| first
  | assumption
  | exact upd_same
  | exact Or.inl (Or.inl upd_same)
  | exact Or.inl upd_same)
local macro_rules | `(tactic| walk_at "one") => `(tactic| first
  | refine ⟨_, rfl, ?_⟩
  | refine Or.inl ⟨_, rfl, ?_⟩
  | refine Or.inr ⟨_, rfl, ?_⟩
  | refine ⟨_, _, rfl, rfl, (by walk_at "side"), ?_⟩
  | refine ⟨_, _, rfl, rfl, ?_⟩
  | refine ⟨_, _, rfl, Or.inl (by walk_at "here"), ?_⟩
  | refine ⟨_, _, rfl, Or.inr (by walk_at "here"), ?_⟩
  | refine ⟨_, _, rfl, (by walk_at "here"), ?_⟩
  | refine ⟨_, _, _, _, rfl, rfl, (by walk_at "here"), rfl, ?_⟩
  | refine ⟨_, _, rfl, ?_⟩
  | refine ifT (by rfl) ?_
  | refine ifF (by rfl) ?_
  | refine ifT (decide_eq_true (by omega)) ?_
  | refine ifF (decide_eq_false (by omega)) ?_)
local macro_rules | `(tactic| walk_at "st") => `(tactic| repeat (walk_at "one"))

section
variable {P : Program} {w : World} {K : PySem.W.Frag} {mg : Str → Option Value} {base : Heap}
/-! equality of tuples of places -/
def dM (m : List Nat) : PyData := .tuple ((m.map fun (k : Nat) => (k : Int)).map PyData.int)
theorem mv_ints (m : List Nat) : mv m = (m.map fun (k : Nat) => (k : Int)).map V.int := by
  rw [List.map_map]
  rfl
theorem dp_mv {H : Hp} {a : Addr} {m : List Nat} (S : SqT K H a (mv m)) : Dp K H (.ref a) (dM m) := by
  rw [mv_ints] at S
  exact .tup S (dp_ints _)
theorem dM_eqv (m l : List Nat) : PyData.eqv (dM m) (dM l) = decide (m = l) := by
  show PyData.eqvAll _ _ = _
  rw [eqvAll_ints]
  refine decide_eq_decide.mpr ⟨fun h => ?_, fun h => by rw [h]⟩
  exact (List.map_inj_right (fun a b e => by omega)).mp h
theorem neT {H : Hp} {a b : Addr} {m l : List Nat} {Q : VK} (S : SqT K H a (mv m)) (S2 : SqT K H b (mv l)) (q : Q (.bl (!decide (m = l))) H) : rNeD K (.ref a) (.ref b) H Q :=
  ⟨dM m, dM l, dp_mv S, dp_mv S2, shapedT_ints _, shapedT_ints _, by rw [dM_eqv]; exact q⟩
theorem eqT {H : Hp} {a b : Addr} {m l : List Nat} {Q : VK} (S : SqT K H a (mv m)) (S2 : SqT K H b (mv l)) (q : Q (.bl (decide (m = l))) H) : rEqD K (.ref a) (.ref b) H Q :=
  ⟨dM m, dM l, dp_mv S, dp_mv S2, shapedT_ints _, shapedT_ints _, by rw [dM_eqv]; exact q⟩
theorem up_sqt {p a : Addr} {H H' : Hp} {xs : List V} (h : Upto p H H') (b : BagAt H p) (s : SqT K H a xs) : SqT K H' a xs := by
  obtain ⟨x, y, z, e⟩ := b
  rcases s with (s | ⟨u, s⟩) | s
  · exact .inl (.inl (h.same _ _ (fun z => by rw [z, e] at s; cases s) s))
  · exact .inl (.inr ⟨u, h.same _ _ (fun z => by rw [z, e] at s; cases s) s⟩)
  · exact .inr s
theorem bag_same {p : Addr} {H H' : Hp} (b : BagAt H p) (s : Same H H') : BagAt H' p :=
  let ⟨x, y, z, e⟩ := b
  ⟨x, y, z, s _ _ e⟩
theorem up_draw {p : Addr} {H : Hp} {g m c g' m' c' : Int} (e : H p = some (.lst [.int g, .int m, .int c])) : Upto p H (upd H p (.lst [.int g', .int m', .int c'])) := (Upto.refl ⟨_, _, _, e⟩).draw
theorem up_same {p : Addr} {H H' : Hp} (b : BagAt H p) (s : Same H H') : Upto p H H' := (Upto.refl b).keep s
/-- what stands while moves are held against one another -/
structure M4 (K : PySem.W.Frag) (p a b c u : Addr) (m l : List Nat) (H Hn : Hp) : Prop where
  up : Upto p H Hn
  sa : SqT K Hn a (mv m)
  sb : SqT K Hn b (mv l)
  sc : SqT K Hn c (mv (comp m l))
  su : SqT K Hn u (mv (List.range m.length))
theorem M4.same {p a b c u : Addr} {m l : List Nat} {H Hn H' : Hp} (h : M4 K p a b c u m l H Hn) (s : Same Hn H') : M4 K p a b c u m l H H' :=
  ⟨h.up.keep s, same_sqt s h.sa, same_sqt s h.sb, same_sqt s h.sc, same_sqt s h.su⟩
theorem M4.upto {p a b c u : Addr} {m l : List Nat} {H Hn H' : Hp} (h : M4 K p a b c u m l H Hn) (s : Upto p Hn H') : M4 K p a b c u m l H H' :=
  ⟨h.up.trans s, up_sqt s h.up.bag h.sa, up_sqt s h.up.bag h.sb, up_sqt s h.up.bag h.sc, up_sqt s h.up.bag h.su⟩
theorem even_cases (n : Nat) : evenS n = 1 ∨ evenS n = -1 := by
  unfold evenS
  split
  · exact .inl rfl
  · exact .inr rfl
theorem rg_range (m : List Nat) : rgV 0 ((mv m).length : Int) = mv (List.range m.length) := by rw [mv_len, rg_mv]
theorem ne_self (m : List Nat) : (!decide (m = m)) = false := by rw [decide_eq_true rfl]; rfl
theorem ne_self' (i : Int) : (!decide (V.int i = V.int i)) = false := by rw [decide_eq_true rfl]; rfl
def spMovesRight (K : PySem.W.Frag) : Sp := fun vs H Q _ => ∃ (p a b : Addr) (m l : List Nat), vs = [.ref p, .ref a, .ref b] ∧ BagAt H p ∧ SqT K H a (mv m) ∧ SqT K H b (mv l) ∧ Mv m ∧ Mv l ∧ m.length = l.length ∧
  ∀ H', Upto p H H' → Q (.bl true) H'
end
end K05


set_option Elab.async false
set_option linter.all false
set_option maxRecDepth 100000
set_option maxHeartbeats 2000000
namespace K05
open PySem PySem.Spec PyProof.Rows L2 MM
/-! own words for the readings: a step, its side -/
local macro_rules | `(tactic| walk_at "side") => `(tactic| first
  | omega
  | exact ⟨by omega, by omega⟩
  | exact Or.inl ⟨by omega, by omega⟩
  | exact Or.inr ⟨by omega, by omega⟩
  | (show CPw _ _; decide +kernel)
  | (show (0 : Int) < _; decide +kernel)
  | (show CDivW _ _; first | assumption | exact ⟨by decide, by decide +kernel⟩))
local macro_rules | `(tactic| walk_at "here") => `(tactic| first
  | assumption
  | exact upd_same
  | exact Or.inl (Or.inl upd_same)
  | exact Or.inl upd_same)
local macro_rules | `(tactic| walk_at "one") => `(tactic| first
  | refine ⟨_, rfl, ?_⟩
  | refine Or.inl ⟨_, rfl, ?_⟩
  | refine Or.inr ⟨_, rfl, ?_⟩
  | refine ⟨_, _, rfl, rfl, (by walk_at "side"), ?_⟩
  | refine ⟨_, _, rfl, rfl, ?_⟩
  | refine ⟨_, _, rfl, Or.inl (by walk_at "here"), ?_⟩
  | refine ⟨_, _, rfl, Or.inr (by walk_at "here"), ?_⟩
  | refine ⟨_, _, rfl, (by walk_at "here"), ?_⟩
  | refine ⟨_, _, _, _, rfl, rfl, (by walk_at "here"), rfl, ?_⟩
  | refine ⟨_, _, rfl, ?_⟩
  | refine ifT (by rfl) ?_
  | refine ifF (by rfl) ?_
  | refine ifT (decide_eq_true (by omega)) ?_
  | refine ifF (decide_eq_false (by omega)) ?_)
local macro_rules | `(tactic| walk_at "st") => `(tactic| repeat (walk_at "one"))

section
variable {P : Program} {w : World} {K : PySem.W.Frag} {mg : Str → Option Value} {base : Heap}
theorem dp_refs {H : Hp} {us : List V} {R : List (List Nat)} (h : Refs K H us R) : DpAll K H us (R.map dM) := by
  unfold Refs at h
  induction h with
  | nil => exact .nil
  | cons h _ ih =>
    obtain ⟨a, rfl, S⟩ := h
    exact .cons (dp_mv S) ih
theorem dms_eqv : ∀ R Z : List (List Nat), PyData.eqvAll (R.map dM) (Z.map dM) = decide (R = Z)
  | [], [] => rfl
  | [], _ :: _ => rfl
  | _ :: _, [] => rfl
  | r :: R, z :: Z => by
    show (PyData.eqv (dM r) (dM z) && PyData.eqvAll (R.map dM) (Z.map dM)) = _
    rw [dms_eqv R Z, dM_eqv, ← Bool.decide_and]
    exact decide_eq_decide.mpr (by rw [List.cons.injEq])
theorem lay_dms : ∀ R : List (List Nat), PyData.canLayAll0 (R.map dM) = true
  | [] => rfl
  | r :: R => by
    show (PyData.canLay0 (dM r) && PyData.canLayAll0 (R.map dM)) = true
    rw [lay_dms R, show PyData.canLay0 (dM r) = true from lay_ints _]
    rfl
theorem dep_dms : ∀ R : List (List Nat), PyData.depthAll (R.map dM) ≤ 3
  | [] => by decide
  | r :: R => by
    have := dep_dms R
    have h := dep_ints (r.map fun (k : Nat) => (k : Int))
    have h2 : PyData.depth (dM r) ≤ 2 := by
      unfold dM
      simp only [PyData.depth]
      omega
    simp only [List.map_cons, PyData.depthAll]
    omega
theorem shaped_dms (R : List (List Nat)) : SeqAt.shaped (.tuple (R.map dM)) = true := by
  unfold SeqAt.shaped
  have h := dep_dms R
  rw [show PyData.canLay0 (.tuple (R.map dM)) = true from lay_dms R, Bool.true_and]
  refine decide_eq_true ?_
  simp only [PyData.depth]
  omega
theorem neTT {H : Hp} {a b : Addr} {us vs : List V} {R Z : List (List Nat)} {Q : VK} (S : SqT K H a us) (r : Refs K H us R) (S2 : SqT K H b vs) (r2 : Refs K H vs Z) (q : Q (.bl (!decide (R = Z))) H) : rNeD K (.ref a) (.ref b) H Q :=
  ⟨.tuple (R.map dM), .tuple (Z.map dM), .tup S (dp_refs r), .tup S2 (dp_refs r2), shaped_dms _, shaped_dms _, by
    rw [show PyData.eqv (.tuple (R.map dM)) (.tuple (Z.map dM)) = PyData.eqvAll (R.map dM) (Z.map dM) from rfl, dms_eqv]
    exact q⟩
theorem paired_perm {α β : Type} {P : α → β → Prop} {ys us : List α} (h : ys.Perm us) : ∀ {R : List β}, Paired P us R → ∃ Z, Z.Perm R ∧ Paired P ys Z := by
  induction h with
  | nil =>
    intro R r
    exact ⟨R, .refl _, r⟩
  | cons x _ ih =>
    intro R r
    cases r with
    | cons h1 h2 =>
      obtain ⟨Z, z1, z2⟩ := ih h2
      exact ⟨_ :: Z, List.Perm.cons _ z1, .cons h1 z2⟩
  | swap x y l =>
    intro R r
    cases r with
    | cons h1 h2 =>
      cases h2 with
      | cons h3 h4 => exact ⟨_ :: _ :: _, List.Perm.swap .., .cons h3 (.cons h1 h4)⟩
  | trans _ _ ih1 ih2 =>
    intro R r
    obtain ⟨Z, z1, z2⟩ := ih2 r
    obtain ⟨Y, y1, y2⟩ := ih1 z2
    exact ⟨Y, y1.trans z1, y2⟩
theorem refs_upto {p : Addr} {H H' : Hp} {us : List V} {R : List (List Nat)} (u : Upto p H H') (b : BagAt H p) (h : Refs K H us R) : Refs K H' us R := by
  unfold Refs at h ⊢
  induction h with
  | nil => exact .nil
  | cons h _ ih =>
    obtain ⟨a, e, S⟩ := h
    exact .cons ⟨a, e, up_sqt u b S⟩ ih
theorem lst_upto {p F : Addr} {H H' : Hp} {xs : List V} (u : Upto p H H') (ne : F ≠ p) (e : H F = some (.lst xs)) : H' F = some (.lst xs) := u.same _ _ ne e
structure R5 (K : PySem.W.Frag) (p a R : Addr) (m : List Nat) (us : List V) (H Hn : Hp) : Prop where
  up : Upto p H Hn
  sa : SqT K Hn a (mv m)
  hR : Hn R = some (.lst us)
  rf : Refs K Hn us (rings (fn' m) m.length)
theorem R5.same {p a R : Addr} {m : List Nat} {us : List V} {H Hn H' : Hp} (h : R5 K p a R m us H Hn) (s : Same Hn H') : R5 K p a R m us H H' :=
  ⟨h.up.keep s, same_sqt s h.sa, s _ _ h.hR, h.rf.same s⟩
theorem R5.upto {p a R : Addr} {m : List Nat} {us : List V} {H Hn H' : Hp} (h : R5 K p a R m us H Hn) (n : R ≠ p) (s : Upto p Hn H') : R5 K p a R m us H H' :=
  ⟨h.up.trans s, up_sqt s h.up.bag h.sa, lst_upto s n h.hR, refs_upto s h.up.bag h.rf⟩
structure R6 (K : PySem.W.Frag) (p a t F : Addr) (m : List Nat) (ys vs : List V) (Z R : List (List Nat)) (H Hn : Hp) : Prop where
  up : Upto p H Hn
  sa : SqT K Hn a (mv m)
  lt : Hn t = some (.lst ys)
  rz : Refs K Hn ys Z
  lF : Hn F = some (.lst vs)
  rr : Refs K Hn vs R
theorem R6.same {p a t F : Addr} {m : List Nat} {ys vs : List V} {Z R : List (List Nat)} {H Hn H' : Hp} (h : R6 K p a t F m ys vs Z R H Hn) (s : Same Hn H') : R6 K p a t F m ys vs Z R H H' :=
  ⟨h.up.keep s, same_sqt s h.sa, s _ _ h.lt, h.rz.same s, s _ _ h.lF, h.rr.same s⟩
theorem R6.upto {p a t F : Addr} {m : List Nat} {ys vs : List V} {Z R : List (List Nat)} {H Hn H' : Hp} (h : R6 K p a t F m ys vs Z R H Hn) (n : t ≠ p) (n2 : F ≠ p) (s : Upto p Hn H') : R6 K p a t F m ys vs Z R H H' :=
  ⟨h.up.trans s, up_sqt s h.up.bag h.sa, lst_upto s n h.lt, refs_upto s h.up.bag h.rz, lst_upto s n2 h.lF, refs_upto s h.up.bag h.rr⟩
theorem R6.push {p a t F t7 : Addr} {m r : List Nat} {ys vs : List V} {Z R : List (List Nat)} {H Hn : Hp} (h : R6 K p a t F m ys vs Z R H Hn) (tF : t ≠ F) (Fp : F ≠ p) (fF : H F = none) (S : SqT K Hn t7 (mv r)) :
    R6 K p a t F m ys (vs ++ [.ref t7]) Z (R ++ [r]) H (upd Hn F (.lst (vs ++ [.ref t7]))) :=
  ⟨h.up.put Fp fF, sqt_lst h.sa h.lF, (upd_ne tF).trans h.lt, h.rz.upd h.lF, upd_same, (h.rr.upd h.lF).snoc (sqt_lst S h.lF)⟩
theorem ite_both {c : Bool} {A B G : Prop} (ha : c = true → G → A) (hb : ¬ c = true → G → B) (g : G) : if c = true then A else B := by
  by_cases h : c = true
  · rw [if_pos h]
    exact ha h g
  · rw [if_neg h]
    exact hb h g
def spRingsRight (K : PySem.W.Frag) : Sp := fun vs H Q _ => ∃ (p a : Addr) (m : List Nat), vs = [.ref p, .ref a] ∧ BagAt H p ∧ SqT K H a (mv m) ∧ Mv m ∧ ∀ H', Upto p H H' → Q (.bl true) H'
end
end K05


set_option Elab.async false
set_option linter.all false
set_option maxRecDepth 100000
set_option maxHeartbeats 2000000
namespace K05
open PySem PySem.Spec PyProof.Rows L2 MM
/-! own words for the readings: a step, its side -/
local macro_rules | `(tactic| walk_at "side") => `(tactic| first
  | omega
  | exact ⟨by omega, by omega⟩
  | exact Or.inl ⟨by omega, by omega⟩
  | exact Or.inr ⟨by omega, by omega⟩
  | (show CPw _ _; decide +kernel)
  | (show (0 : Int) < _; decide +kernel)
  | (show CDivW _ _; first | assumption | exact ⟨by decide, by decide +kernel⟩))
local macro_rules | `(tactic| walk_at "here") => `(tactic| first
  | assumption
  | exact upd_same
  | exact Or.inl (Or.inl upd_same)
  | exact Or.inl upd_same)
local macro_rules | `(tactic| walk_at "one") => `(tactic| first
  | refine ⟨_, rfl, ?_⟩
  | refine Or.inl ⟨_, rfl, ?_⟩
  | refine Or.inr ⟨_, rfl, ?_⟩
  | refine ⟨_, _, rfl, rfl, (by walk_at "side"), ?_⟩
  | refine ⟨_, _, rfl, rfl, ?_⟩
  | refine ⟨_, _, rfl, Or.inl (by walk_at "here"), ?_⟩
  | refine ⟨_, _, rfl, Or.inr (by walk_at "here"), ?_⟩
  | refine ⟨_, _, rfl, (by walk_at "here"), ?_⟩
  | refine ⟨_, _, _, _, rfl, rfl, (by walk_at "here"), rfl, ?_⟩
  | refine ⟨_, _, rfl, ?_⟩
  | refine ifT (by rfl) ?_
  | refine ifF (by rfl) ?_
  | refine ifT (decide_eq_true (by omega)) ?_
  | refine ifF (decide_eq_false (by omega)) ?_)
local macro_rules | `(tactic| walk_at "st") => `(tactic| repeat (walk_at "one"))

section
variable {P : Program} {w : World} {K : PySem.W.Frag} {mg : Str → Option Value} {base : Heap}
/-- m turned by l -/
def turnL (m l : List Nat) : List Nat := comp (comp l m) (back l)
theorem turn_len {m l : List Nat} (e : m.length = l.length) : (turnL m l).length = m.length := by
  unfold turnL
  rw [comp_len, back_len, e]
def spTurn (K : PySem.W.Frag) : Sp := fun vs H Q _ => ∃ a b m l, vs = [.ref a, .ref b] ∧ SqT K H a (mv m) ∧ SqT K H b (mv l) ∧ Mv m ∧ Mv l ∧ m.length = l.length ∧ ∀ H' t, Same H H' → SqT K H' t (mv (turnL m l)) → Q (.ref t) H'
theorem scTurned : FnScope ["move", "by"] ["move", "by"] (defScope sTurned) :=
  ⟨rfl, rfl, rfl, by decide +kernel, rfl, by decide +kernel, by decide +kernel⟩
theorem dTurned (T : Tx K mg) (DFollowed : Def P w K mg base CX0 1 "followed" ["one", "other"] (spComp K)) (DTurnedBack : Def P w K mg base CX0 1 "turned_back" ["move"] (spBack K)) : Def P w K mg base CX0 2 "_turned" ["move", "by"] (spTurn K) := by
  refine T.t_turned.def_ (N := ["move", "by"]) scTurned (fun _ _ _ _ _ _ us hl => match us, hl with | [_, _], _ => rfl) ?_ ?_
  · intro vs H Q E h
    obtain ⟨a, b, m, l, rfl, _⟩ := h
    rfl
  · intro f cd A out s H vs Q E hr h
    have hr1 : Rm 1 _ := hr.le (by decide)
    obtain ⟨a, b, m, l, rfl, Sa, Sb, hm, hl, eq, q⟩ := h
    refine ⟨_, (pss_one (ps_ret (pe_d DFollowed (hr1.le (by decide)) pass0 (pa_cons (pe_d DFollowed (hr1.le (by decide)) pass0 (pa_cons (pv 1) (pa_cons (pv 0) pa_nil))) (pa_cons (pe_d DTurnedBack (hr1.le (by decide)) pass0 (pa_cons (pv 1) pa_nil)) pa_nil))))), ?_⟩
    have hc := comp_mv hl hm eq.symm
    refine ⟨_, rfl, _, rfl, b, a, l, m, rfl, Sb, Sa, by have := hm.2.2.2; omega, fun k hk => by rw [← eq]; exact hm.2.1 k hk, fun H1 t1 S1 T1 => ?_⟩
    refine ⟨_, rfl, b, l, rfl, same_sqt S1 Sb, by have := hl.2.2.2; omega, hl.2.1, fun H2 t2 S2 T2 => ?_⟩
    refine ⟨t1, t2, comp l m, back l, rfl, same_sqt S2 T1, T2, by rw [back_len]; have := hl.2.2.2; omega, fun k hk => ?_, fun H3 t3 S3 T3 => q _ _ ((S1.trans S2).trans S3) T3⟩
    have := (back_mv hl).2.1 k hk
    rw [back_len] at this
    rw [comp_len, eq]
    exact this
theorem scTurnedMove : FnScope ["move", "by"] ["move", "by"] (defScope sTurnedMove) :=
  ⟨rfl, rfl, rfl, by decide +kernel, rfl, by decide +kernel, by decide +kernel⟩
theorem dTurnedMove (T : Tx K mg) (DNeedPair : Def P w K mg base CX0 5 "_need_pair" ["one", "other"] (spNeedPair K)) (DTurned : Def P w K mg base CX0 2 "_turned" ["move", "by"] (spTurn K)) : Def P w K mg base CX0 6 "turned_move" ["move", "by"] (spTurn K) := by
  refine T.t_turned_move.def_ (N := ["move", "by"]) scTurnedMove (fun _ _ _ _ _ _ us hl => match us, hl with | [_, _], _ => rfl) ?_ ?_
  · intro vs H Q E h
    obtain ⟨a, b, m, l, rfl, _⟩ := h
    rfl
  · intro f cd A out s H vs Q E hr h
    have hr1 : Rm 5 _ := hr.le (by decide)
    obtain ⟨a, b, m, l, rfl, Sa, Sb, hm, hl, eq, q⟩ := h
    refine ⟨_, (pss_cons (ps_expr (pe_d DNeedPair (hr1.le (by decide)) pass0 (pa_cons (pv 0) (pa_cons (pv 1) pa_nil))))
      (pss_one (ps_ret (pe_d DTurned (hr1.le (by decide)) pass0 (pa_cons (pv 0) (pa_cons (pv 1) pa_nil)))))), ?_⟩
    refine ⟨_, rfl, _, rfl, a, b, m, l, rfl, Sa, Sb, hm, hl, eq, fun H1 S1 => ?_⟩
    exact ⟨_, rfl, _, rfl, a, b, m, l, rfl, same_sqt S1 Sa, same_sqt S1 Sb, hm, hl, eq, fun H2 t S2 T => q _ _ (S1.trans S2) T⟩
theorem scOwnTurnedL : FnScope ["_law_move", "_law_by"] ["_law_move", "_law_by"] (defScope sOwnTurnedL) :=
  ⟨rfl, rfl, rfl, by decide +kernel, rfl, by decide +kernel, by decide +kernel⟩
theorem dOwnTurnedL (T : Tx K mg) (DLotTimesL : Def P w K mg base CX0 1 "_law_lot_times" ["_law_one", "_law_other"] (spComp K)) (DLotUndoneL : Def P w K mg base CX0 1 "_law_lot_undone" ["_law_move"] (spBack K)) : Def P w K mg base CX0 2 "_law_own_turned" ["_law_move", "_law_by"] (spTurn K) := by
  refine T.t_law_own_turned.def_ (N := ["_law_move", "_law_by"]) scOwnTurnedL (fun _ _ _ _ _ _ us hl => match us, hl with | [_, _], _ => rfl) ?_ ?_
  · intro vs H Q E h
    obtain ⟨a, b, m, l, rfl, _⟩ := h
    rfl
  · intro f cd A out s H vs Q E hr h
    have hr1 : Rm 1 _ := hr.le (by decide)
    obtain ⟨a, b, m, l, rfl, Sa, Sb, hm, hl, eq, q⟩ := h
    refine ⟨_, (pss_one (ps_ret (pe_d DLotTimesL (hr1.le (by decide)) pass0 (pa_cons (pe_d DLotTimesL (hr1.le (by decide)) pass0 (pa_cons (pv 1) (pa_cons (pv 0) pa_nil))) (pa_cons (pe_d DLotUndoneL (hr1.le (by decide)) pass0 (pa_cons (pv 1) pa_nil)) pa_nil))))), ?_⟩
    have hc := comp_mv hl hm eq.symm
    refine ⟨_, rfl, _, rfl, b, a, l, m, rfl, Sb, Sa, by have := hm.2.2.2; omega, fun k hk => by rw [← eq]; exact hm.2.1 k hk, fun H1 t1 S1 T1 => ?_⟩
    refine ⟨_, rfl, b, l, rfl, same_sqt S1 Sb, by have := hl.2.2.2; omega, hl.2.1, fun H2 t2 S2 T2 => ?_⟩
    refine ⟨t1, t2, comp l m, back l, rfl, same_sqt S2 T1, T2, by rw [back_len]; have := hl.2.2.2; omega, fun k hk => ?_, fun H3 t3 S3 T3 => q _ _ ((S1.trans S2).trans S3) T3⟩
    have := (back_mv hl).2.1 k hk
    rw [back_len] at this
    rw [comp_len, eq]
    exact this
theorem Rv.same {H H' : Hp} {x : V} {o : Option (List V)} (h : Rv K H x o) (s : Same H H') : Rv K H' x o := by
  cases h with
  | no h ne => exact .no (h.same s) ne
  | yes h m => exact .yes (same_sqt s h) fun y hy => let ⟨n, k⟩ := m y hy; ⟨n, k.same s⟩
/-! judged values -/
def toN : V → Nat
  | .int i => i.toNat
  | _ => 0
def isTn (m l : List Nat) : Option (List V) → Bool
  | some xs => isArr m.length (some xs) && decide (turnL m (xs.map toN) = l)
  | none => false
theorem arr_back {n : Nat} {xs : List V} (h : isArr n (some xs) = true) (n1 : 1 ≤ n) (n24 : n ≤ 24) : xs = mv (xs.map toN) ∧ Mv (xs.map toN) ∧ (xs.map toN).length = n := by
  rw [isArr_some, Bool.and_eq_true, Bool.and_eq_true] at h
  obtain ⟨h1, h2, h3⟩ := h
  have ln := of_decide_eq_true h1
  have nd := of_decide_eq_true h3
  rw [List.all_map, List.all_eq_true] at h2
  have each : ∀ x ∈ xs, ∃ k : Nat, x = .int (k : Int) ∧ k < n := by
    intro x hx
    have q := h2 x hx
    cases x with
    | int i =>
      have q' : (decide (0 ≤ i) && decide (i ≤ (n : Int) - 1)) = true := q
      rw [Bool.and_eq_true] at q'
      have a := of_decide_eq_true q'.1
      have b := of_decide_eq_true q'.2
      exact ⟨i.toNat, by rw [Int.toNat_of_nonneg a], by omega⟩
    | _ => cases q
  have e1 : xs = mv (xs.map toN) := by
    unfold mv
    rw [List.map_map]
    refine ((List.map_congr_left (g := id) fun x hx => ?_).trans (List.map_id xs)).symm
    obtain ⟨k, rfl, _⟩ := each x hx
    rfl
  have e2 : xs.map toI = (xs.map toN).map fun (k : Nat) => (k : Int) := by
    rw [List.map_map]
    refine List.map_congr_left fun x hx => ?_
    obtain ⟨k, rfl, _⟩ := each x hx
    rfl
  refine ⟨e1, ⟨?_, fun k hk => ?_, by rw [List.length_map]; omega, by rw [List.length_map]; omega⟩, by rw [List.length_map]; exact ln⟩
  · rw [e2, List.Nodup, List.pairwise_map] at nd
    exact nd.imp fun h z => h (by rw [z])
  · obtain ⟨x, hx, rfl⟩ := List.mem_map.mp hk
    obtain ⟨k, rfl, hk2⟩ := each x hx
    rw [List.length_map, ln]
    exact hk2
def spIsTurning (K : PySem.W.Frag) : Sp := fun vs H Q _ => ∃ (a b : Addr) (m l : List Nat) (x : V) (o : Option (List V)), vs = [.ref a, .ref b, x] ∧ SqT K H a (mv m) ∧ SqT K H b (mv l) ∧ Mv m ∧ Mv l ∧ m.length = l.length ∧ Rv K H x o ∧ (∀ xs, o = some xs → xs.length ≤ 1000) ∧
  ∀ H', Same H H' → Q (.bl (isTn m l o)) H'
theorem scIsTurningMove : FnScope ["one", "other", "value"] ["one", "other", "value"] (defScope sIsTurningMove) :=
  ⟨rfl, rfl, rfl, by decide +kernel, rfl, by decide +kernel, by decide +kernel⟩
theorem dIsTurningMove (T : Tx K mg) (DNeedPair : Def P w K mg base CX0 5 "_need_pair" ["one", "other"] (spNeedPair K)) (DIsArrangement : Def P w K mg base CX0 3 "is_arrangement" ["size", "value"] (spArr K)) (DTurned : Def P w K mg base CX0 2 "_turned" ["move", "by"] (spTurn K)) : Def P w K mg base CX0 6 "is_turning_move" ["one", "other", "value"] (spIsTurning K) := by
  refine T.t_is_turning_move.def_ (N := ["one", "other", "value"]) scIsTurningMove (fun _ _ _ _ _ _ us hl => match us, hl with | [_, _, _], _ => rfl) ?_ ?_
  · intro vs H Q E h
    obtain ⟨a, b, m, l, x, o, rfl, _⟩ := h
    rfl
  · intro f cd A out s H vs Q E hr h
    have hr1 : Rm 5 _ := hr.le (by decide)
    obtain ⟨a, b, m, l, x, o, rfl, Sa, Sb, hm, hl, eq, hv, sm, q⟩ := h
    refine ⟨_, (pss_cons (ps_expr (pe_d DNeedPair (hr1.le (by decide)) pass0 (pa_cons (pv 0) (pa_cons (pv 1) pa_nil))))
      (pss_one (ps_ret (pe_and (pe_d DIsArrangement (hr1.le (by decide)) pass0 (pa_cons (pe_callB call_len_seq rfl T.f_len (by decide +kernel) (pa_cons (pv 0) pa_nil)) (pa_cons (pv 2) pa_nil))) (pe_one (pe_cmpR (op_eqD hr.hu) (pe_d DTurned (hr1.le (by decide)) pass0 (pa_cons (pv 0) (pa_cons (pv 2) pa_nil))) (pv 1) (nomark _))))))), ?_⟩
    have m24 := hm.2.2.2
    have m1 := hm.2.2.1
    refine ⟨_, rfl, _, rfl, a, b, m, l, rfl, Sa, Sb, hm, hl, eq, fun H1 S1 => ?_⟩
    refine ⟨_, rfl, a, _, rfl, .inr (same_sqt S1 Sa), _, rfl, (mv m).length, x, o, rfl, hv.same S1, by rw [mv_len]; omega, fun H2 S2 => ?_⟩
    have S3 := S1.trans S2
    refine ⟨_, rfl, ?_⟩
    cases e : isArr (mv m).length o with
    | false =>
      refine ifF rfl ?_
      have q2 := q H2 S3
      rw [mv_len] at e
      have : isTn m l o = false := by
        cases o with
        | none => rfl
        | some xs =>
          show (isArr m.length (some xs) && _) = false
          rw [e]
          rfl
      rw [this] at q2
      exact q2
    | true =>
      refine ifT rfl ?_
      rw [mv_len] at e
      cases hv with
      | no hk ne => cases e
      | yes St mem =>
        rename_i c xs
        obtain ⟨e1, e2, e3⟩ := arr_back e m1 m24
        have St2 := same_sqt S3 St
        rw [e1] at St2
        refine ⟨_, rfl, _, rfl, a, c, m, xs.map toN, rfl, same_sqt S3 Sa, St2, hm, e2, e3.symm, fun H4 t S4 T => ?_⟩
        refine ⟨_, rfl, eqT T (same_sqt (S3.trans S4) Sb) ?_⟩
        have q2 := q H4 (S3.trans S4)
        have : isTn m l (some xs) = decide (turnL m (xs.map toN) = l) := by
          show (isArr m.length (some xs) && _) = _
          rw [e]
          rfl
        rw [this] at q2
        exact q2
theorem eqLI {H : Hp} {a b : Addr} {ns ms : List Int} {Q : VK} (S : SqL K H a (ns.map V.int)) (S2 : SqL K H b (ms.map V.int)) (q : Q (.bl (decide (ns = ms))) H) : rEqD K (.ref a) (.ref b) H Q :=
  ⟨.list (ns.map .int), .list (ms.map .int), .lst S (dp_ints _), .lst S2 (dp_ints _), shaped_ints _, shaped_ints _, by
    rw [show PyData.eqv (.list (ns.map .int)) (.list (ms.map .int)) = PyData.eqvAll (ns.map .int) (ms.map .int) from rfl, eqvAll_ints]
    exact q⟩
theorem uniq {α : Type} {le : α → α → Prop} (anti : ∀ a b, le a b → le b a → a = b) : ∀ {l m : List α}, l.Perm m → l.Pairwise le → m.Pairwise le → l = m
  | [], m, p, _, _ => (List.Perm.eq_nil p.symm).symm
  | x :: l, [], p, _, _ => absurd p.length_eq (by simp)
  | x :: l, y :: m, p, hl, hm => by
    have h1 : x = y := by
      by_cases e : x = y
      · exact e
      · have hx : x ∈ m := by
          rcases List.mem_cons.mp (p.mem_iff.mp (List.mem_cons_self ..)) with z | z
          · exact absurd z e
          · exact z
        have hy : y ∈ l := by
          rcases List.mem_cons.mp (p.mem_iff.mpr (List.mem_cons_self ..)) with z | z
          · exact absurd z.symm e
          · exact z
        exact anti _ _ ((List.pairwise_cons.mp hl).1 y hy) ((List.pairwise_cons.mp hm).1 x hx)
    subst h1
    rw [uniq anti p.cons_inv (List.pairwise_cons.mp hl).2 (List.pairwise_cons.mp hm).2]
def rgI (n : Nat) : List Int := (List.range n).map fun (k : Nat) => (k : Int)
theorem rgI_sorted (n : Nat) : (rgI n).Pairwise (· ≤ ·) := by
  unfold rgI
  rw [List.pairwise_map]
  exact List.pairwise_lt_range.imp fun h => by omega
theorem arr_ints {n : Nat} {ns : List Int} : isArr n (some (ns.map V.int)) = true ↔ ns.Perm (rgI n) := by
  have key : (ns.map V.int).map toI = ns := by
    rw [List.map_map]
    exact List.map_id' _
  rw [isArr_some, Bool.and_eq_true, Bool.and_eq_true, key, decide_eq_true_iff, decide_eq_true_iff, List.all_map, List.all_eq_true, List.length_map]
  constructor
  · rintro ⟨h1, h2, h3⟩
    have nd : (rgI n).Nodup := by
      unfold rgI
      rw [List.Nodup, List.pairwise_map]
      exact List.pairwise_lt_range.imp fun h => by omega
    have sub : ∀ x ∈ ns, x ∈ rgI n := by
      intro x hx
      have q : (decide (0 ≤ x) && decide (x ≤ (n : Int) - 1)) = true := h2 (.int x) (List.mem_map.mpr ⟨x, hx, rfl⟩)
      rw [Bool.and_eq_true] at q
      have a := of_decide_eq_true q.1
      have b := of_decide_eq_true q.2
      exact List.mem_map.mpr ⟨x.toNat, List.mem_range.mpr (by omega), by omega⟩
    refine (List.perm_ext_iff_of_nodup h3 nd).mpr fun x => ⟨sub x, fun hx => ?_⟩
    by_cases c : x ∈ ns
    · exact c
    · exfalso
      have ln : (rgI n).length = n := by
        unfold rgI
        rw [List.length_map, List.length_range]
      have s2 : ns ⊆ (rgI n).erase x := fun y hy => (List.mem_erase_of_ne (fun z => c (by rw [← z]; exact hy))).mpr (sub y hy)
      have := List.Nodup.length_le_of_subset h3 s2
      rw [List.length_erase_of_mem hx, ln] at this
      have pos : 0 < n := by
        have := List.length_pos_of_mem hx
        omega
      omega
  · intro p
    have nd : (rgI n).Nodup := by
      unfold rgI
      rw [List.Nodup, List.pairwise_map]
      exact List.pairwise_lt_range.imp fun h => by omega
    refine ⟨?_, fun y hy => ?_, p.nodup_iff.mpr nd⟩
    · rw [p.length_eq]
      unfold rgI
      rw [List.length_map, List.length_range]
    · obtain ⟨x, hx, rfl⟩ := List.mem_map.mp hy
      have := p.mem_iff.mp hx
      unfold rgI at this
      obtain ⟨k, hk, rfl⟩ := List.mem_map.mp this
      have := List.mem_range.mp hk
      show (decide (0 ≤ (k : Int)) && decide ((k : Int) ≤ (n : Int) - 1)) = true
      rw [decide_eq_true (by omega), decide_eq_true (by omega)]
      rfl
theorem scIsTurningL : FnScope ["_law_one", "_law_other", "_law_value", "_law_place"] ["_law_one", "_law_other", "_law_value"] (defScope sIsTurningL) :=
  ⟨rfl, rfl, rfl, by decide +kernel, rfl, by decide +kernel, by decide +kernel⟩
theorem dIsTurningL (T : Tx K mg) (DOwnTurnedL : Def P w K mg base CX0 2 "_law_own_turned" ["_law_move", "_law_by"] (spTurn K)) : Def P w K mg base CX0 3 "_law_is_turning" ["_law_one", "_law_other", "_law_value"] (spIsTurning K) := by
  refine T.t_law_is_turning.def_ (N := ["_law_one", "_law_other", "_law_value", "_law_place"]) scIsTurningL (fun _ _ _ _ _ _ us hl => match us, hl with | [_, _, _], _ => rfl) ?_ ?_
  · intro vs H Q E h
    obtain ⟨a, b, m, l, x, o, rfl, _⟩ := h
    rfl
  · intro f cd A out s H vs Q E hr h
    have hr1 : Rm 2 _ := hr.le (by decide)
    obtain ⟨a, b, m, l, x, o, rfl, Sa, Sb, hm, hl, eq, hv, sm, q⟩ := h
    refine ⟨_, (pss_cons (ps_if (PW.pt (pw_or (pt_not (pt_val (pe_callB (cr_is .tup) rfl T.f_isinstance (by decide +kernel) (pa_cons (pv 2) (pa_cons (pe_ty .tup T.f_tuple (by decide +kernel)) pa_nil))))) (pw_or1 (pt_cmpR op_ne (pe_callB call_len_seq rfl T.f_len (by decide +kernel) (pa_cons (pv 2) pa_nil)) (pe_callB call_len_seq rfl T.f_len (by decide +kernel) (pa_cons (pv 0) pa_nil)) (nomark _))))) (pss_one (ps_ret pe_bl)) pss_nil)
      (pss_cons (ps_for PassesOwn.never rfl (pi_tup (pv 2)) (pg_name (i := 3) scIsTurningL.nd rfl (Or.inl rfl))
        (pss_one (ps_if (PW.pt (pw_or (pt_not (pt_val (pe_callB (cr_is .int) rfl T.f_isinstance (by decide +kernel) (pa_cons (pv 3) (pa_cons (pe_ty .int T.f_int (by decide +kernel)) pa_nil))))) (pw_or1 (pt_val (pe_callB (cr_is .bl) rfl T.f_isinstance (by decide +kernel) (pa_cons (pv 3) (pa_cons (pe_ty .bl T.f_bool (by decide +kernel)) pa_nil))))))) (pss_one (ps_ret pe_bl)) pss_nil)))
      (pss_one (ps_ret (pe_and (pe_cmpR (op_eqD hr.hu) (pe_callB (show CallR _ _ (rSortedIT K) from cr_sortedIT hr.hu) rfl T.f_sorted (by decide +kernel) (pa_cons (pv 2) pa_nil)) (pe_listRg rfl rfl T.f_list (prg_1 rfl T.f_range (pe_callB call_len_seq rfl T.f_len (by decide +kernel) (pa_cons (pv 0) pa_nil)))) (nomark _)) (pe_one (pe_cmpR (op_eqD hr.hu) (pe_d DOwnTurnedL (hr1.le (by decide)) pass0 (pa_cons (pv 0) (pa_cons (pv 2) pa_nil))) (pv 1) (nomark _)))))))), ?_⟩
    have m24 := hm.2.2.2
    have m1 := hm.2.2.1
    cases hv with
    | no hk ne =>
      refine ⟨_, rfl, _, _, rfl, hk, _, rfl, ?_⟩
      refine ifT (by rw [ne]; rfl) ?_
      exact q H (Same.refl H)
    | yes St mem =>
      rename_i c xs
      have xl := sm xs rfl
      refine ⟨_, rfl, _, _, rfl, .tup St, _, rfl, ?_⟩
      refine ifF rfl ?_
      refine ⟨_, rfl, c, _, rfl, .inr St, _, rfl, a, _, rfl, .inr Sa, rfl, _, rfl, ?_⟩
      rw [dInt, mv_len]
      by_cases ln : xs.length = m.length
      · refine ifF (by rw [decide_eq_true (by omega)]; rfl) ?_
        have bad : ∀ y ∈ xs, isB y 0 ((m.length : Int) - 1) = false → isTn m l (some xs) = false := by
          intro y hy no
          show (isArr m.length (some xs) && _) = false
          have : (xs.map fun x => isB x 0 ((m.length : Int) - 1)).all id = false := by
            rw [List.all_map, List.all_eq_false]
            exact ⟨y, hy, by simp [no]⟩
          rw [isArr_some, this, Bool.false_and, Bool.and_false, Bool.false_and]
        have q0 := q H (Same.refl H)
        refine ⟨_, rfl, c, rfl, ⟨_, St⟩, for_tup (K := K) (a := c) (xs := xs) (fun i σ H3 => H3 = H ∧ (∀ y ∈ xs.take i, ∃ z, y = V.int z) ∧ ∃ y, σ = [some (.ref a), some (.ref b), some (.ref c), y]) ⟨rfl, by simp, _, rfl⟩ (fun i σ H3 _ h => by rw [h.1]; exact St) ?_ ?_⟩
        · rintro i y σ H3 hy ⟨rfl, allI, y0, rfl⟩
          have ym := List.mem_of_getElem? hy
          obtain ⟨kn, hk⟩ := mem y ym
          have q1 := bad y ym
          cases hk with
          | int z =>
            refine ⟨_, rfl, _, _, rfl, .int z, _, rfl, ?_⟩
            refine ifF rfl ?_
            refine ⟨_, rfl, _, _, rfl, .int z, _, rfl, ?_⟩
            refine ifF rfl ?_
            refine ⟨rfl, fun u hu => ?_, _, rfl⟩
            rw [List.take_add_one, hy] at hu
            rcases List.mem_append.mp hu with hu | hu
            · exact allI u hu
            · exact ⟨z, by simpa using hu⟩
          | bl z =>
            rw [q1 rfl] at q0
            refine ⟨_, rfl, _, _, rfl, .bl z, _, rfl, ?_⟩
            refine ifF rfl ?_
            refine ⟨_, rfl, _, _, rfl, .bl z, _, rfl, ?_⟩
            exact ifT rfl q0
          | non =>
            rw [q1 rfl] at q0
            refine ⟨_, rfl, _, _, rfl, .non, _, rfl, ?_⟩
            exact ifT rfl q0
          | str z =>
            rw [q1 rfl] at q0
            refine ⟨_, rfl, _, _, rfl, .str z, _, rfl, ?_⟩
            exact ifT rfl q0
          | lst h =>
            rw [q1 rfl] at q0
            refine ⟨_, rfl, _, _, rfl, .lst h, _, rfl, ?_⟩
            exact ifT rfl q0
          | tup h =>
            rw [q1 rfl] at q0
            refine ⟨_, rfl, _, _, rfl, .tup h, _, rfl, ?_⟩
            exact ifT rfl q0
          | dct h =>
            rw [q1 rfl] at q0
            refine ⟨_, rfl, _, _, rfl, .dct h, _, rfl, ?_⟩
            exact ifT rfl q0
        · rintro σ H3 ⟨rfl, allI, y0, rfl⟩
          rw [List.take_length] at allI
          have ex : xs = (xs.map toI).map V.int := by
            rw [List.map_map]
            refine ((List.map_congr_left (g := id) fun x hx => ?_).trans (List.map_id xs)).symm
            obtain ⟨z, rfl⟩ := allI x hx
            rfl
          have Si := St
          rw [ex] at Si
          refine ⟨_, rfl, c, xs.map toI, rfl, Si, by rw [List.length_map]; exact xl, fun zs p pm pw np => ?_⟩
          have S4 := same_new (o := .lst (zs.map V.int)) np
          have hP : SqL K (upd H3 p (.lst (zs.map V.int))) p (zs.map V.int) := .inl (.inl upd_same)
          have Sa4 := same_sqt S4 Sa
          have Sb4 := same_sqt S4 Sb
          have Sc4 := same_sqt S4 St
          generalize upd H3 p _ = H4 at S4 hP Sa4 Sb4 Sc4 ⊢
          refine ⟨_, rfl, a, _, rfl, .inr Sa4, _, rfl, ⟨by omega, by omega, by omega, by rw [mv_len]; omega, by rw [mv_len]; omega⟩, fun r fr => ?_⟩
          rw [rg_range]
          have S5 := same_new (o := .lst (mv (List.range m.length))) fr
          have hR : SqL K (upd H4 r (.lst (mv (List.range m.length)))) r ((rgI m.length).map V.int) := by
            have e : mv (List.range m.length) = (rgI m.length).map V.int := mv_ints _
            rw [← e]
            exact .inl (.inl upd_same)
          refine eqLI (sql_new hP fr) hR ?_
          refine ⟨_, rfl, ?_⟩
          have Sa5 := same_sqt S5 Sa4
          have Sb5 := same_sqt S5 Sb4
          have Sc5 := same_sqt S5 Sc4
          have S6 := S4.trans S5
          clear hP hR S4 S5 Sa4 Sb4 Sc4 fr
          generalize upd H4 r _ = H5 at Sa5 Sb5 Sc5 S6 ⊢
          by_cases same : zs = rgI m.length
          · refine ifT (decide_eq_true same) ?_
            have ar : isArr m.length (some xs) = true := by
              rw [ex]
              refine arr_ints.mpr ?_
              rw [← same]
              exact pm.symm
            obtain ⟨e1, e2, e3⟩ := arr_back ar m1 m24
            have Sv := Sc5
            rw [e1] at Sv
            refine ⟨_, rfl, _, rfl, a, c, m, xs.map toN, rfl, Sa5, Sv, hm, e2, e3.symm, fun H6 t S7 T6 => ?_⟩
            refine ⟨_, rfl, eqT T6 (same_sqt S7 Sb5) ?_⟩
            have q2 := q H6 (S6.trans S7)
            have : isTn m l (some xs) = decide (turnL m (xs.map toN) = l) := by
              show (isArr m.length (some xs) && _) = _
              rw [ar]
              rfl
            rw [this] at q2
            exact q2
          · refine ifF (decide_eq_false same) ?_
            have ar : isArr m.length (some xs) = false := by
              refine Bool.eq_false_iff.mpr fun z => same ?_
              rw [ex] at z
              exact uniq (fun a b h1 h2 => by omega) (pm.trans (arr_ints.mp z)) pw (rgI_sorted _)
            have q2 := q H5 S6
            have : isTn m l (some xs) = false := by
              show (isArr m.length (some xs) && _) = false
              rw [ar]
              rfl
            rw [this] at q2
            exact q2
      · refine ifT (by rw [decide_eq_false (by omega)]; rfl) ?_
        have q2 := q H (Same.refl H)
        have : isTn m l (some xs) = false := by
          show (isArr m.length (some xs) && _) = false
          rw [isArr_some, decide_eq_false ln]
          rfl
        rw [this] at q2
        exact q2
end
end K05


set_option Elab.async false
set_option linter.all false
set_option maxRecDepth 100000
set_option maxHeartbeats 2000000
namespace K05
open PySem PySem.Spec PyProof.Rows L2 MM
/-! own words for the readings: a step, its side -/
local macro_rules | `(tactic| walk_at "side") => `(tactic| first
  | omega
  | exact ⟨by omega, by omega⟩
  | exact Or.inl ⟨by omega, by omega⟩
  | exact Or.inr ⟨by omega, by omega⟩
  | (show CPw _ _; decide +kernel)
  | (show (0 : Int) < _; decide +kernel)
  | (show CDivW _ _; first | assumption | exact ⟨by decide, by decide +kernel⟩))
local macro_rules | `(tactic| walk_at "here") => `(tactic| first
  | assumption
  | exact upd_same
  | exact Or.inl (Or.inl upd_same)
  | exact Or.inl upd_same)
local macro_rules | `(tactic| walk_at "one") => `(tactic| first
  | refine ⟨_, rfl, ?_⟩
  | refine Or.inl ⟨_, rfl, ?_⟩
  | refine Or.inr ⟨_, rfl, ?_⟩
  | refine ⟨_, _, rfl, rfl, (by walk_at "side"), ?_⟩
  | refine ⟨_, _, rfl, rfl, ?_⟩
  | refine ⟨_, _, rfl, Or.inl (by walk_at "here"), ?_⟩
  | refine ⟨_, _, rfl, Or.inr (by walk_at "here"), ?_⟩
  | refine ⟨_, _, rfl, (by walk_at "here"), ?_⟩
  | refine ⟨_, _, _, _, rfl, rfl, (by walk_at "here"), rfl, ?_⟩
  | refine ⟨_, _, rfl, ?_⟩
  | refine ifT (by rfl) ?_
  | refine ifF (by rfl) ?_
  | refine ifT (decide_eq_true (by omega)) ?_
  | refine ifF (decide_eq_false (by omega)) ?_)
local macro_rules | `(tactic| walk_at "st") => `(tactic| repeat (walk_at "one"))

section
variable {P : Program} {w : World} {K : PySem.W.Frag} {mg : Str → Option Value} {base : Heap}
def lens (R : List (List Nat)) : List Int := R.map fun r => (r.length : Int)
def lensI (m : List Nat) : List Int := (lens (rings (fn' m) m.length)).mergeSort fun a b => decide (a ≤ b)
theorem lensI_uniq {m : List Nat} {z : List Int} (p : z.Perm (lens (rings (fn' m) m.length))) (s : z.Pairwise (· ≤ ·)) : z = lensI m := by
  have pm := List.mergeSort_perm (lens (rings (fn' m) m.length)) (fun a b : Int => decide (a ≤ b))
  have pw := List.pairwise_mergeSort (le := fun p q : Int => decide (p ≤ q)) (fun a b c h1 h2 => decide_eq_true (Int.le_trans (of_decide_eq_true h1) (of_decide_eq_true h2)))
    (fun a b => by
      rcases Int.le_total a b with h | h
      · simp [h]
      · simp [h]) (lens (rings (fn' m) m.length))
  exact uniq (fun a b h1 h2 => by omega) (p.trans pm.symm) s (pw.imp fun h => of_decide_eq_true h)
def spLengths (K : PySem.W.Frag) : Sp := fun vs H Q _ => ∃ a m, vs = [.ref a] ∧ SqT K H a (mv m) ∧ Mv m ∧ ∀ H' t, Same H H' → SqL K H' t ((lensI m).map V.int) → Q (.ref t) H'
theorem scLengthsL : FnScope ["_law_move", "_law_ring"] ["_law_move"] (defScope sLengthsL) :=
  ⟨rfl, rfl, rfl, by decide +kernel, rfl, by decide +kernel, by decide +kernel⟩
theorem dLengthsL (T : Tx K mg) (DOwnRingsL : Def P w K mg base CX0 1 "_law_own_rings" ["_law_move"] (spOwn K)) : Def P w K mg base CX0 2 "_law_lengths" ["_law_move"] (spLengths K) := by
  refine T.t_law_lengths.def_ (N := ["_law_move", "_law_ring"]) scLengthsL (fun _ _ _ _ _ _ us hl => match us, hl with | [_], _ => rfl) ?_ ?_
  · intro vs H Q E h
    obtain ⟨a, m, rfl, _⟩ := h
    rfl
  · intro f cd A out s H vs Q E hr h
    have hr1 : Rm 1 _ := hr.le (by decide)
    obtain ⟨a, m, rfl, S, hm, q⟩ := h
    refine ⟨_, (pss_one (ps_ret (pe_callB (show CallR _ _ (rSortedI K) from cr_sortedI) rfl T.f_sorted (by decide +kernel) (pa_cons (pe_lc (own := [("_law_ring", 1)]) (g := gName 1) (tt := tYes) rfl scLengthsL.nd (pi_list (pe_d DOwnRingsL (hr1.le (by decide)) pass0 (pa_cons (pv 0) pa_nil))) (blkOk_by (N := ["_law_move", "_law_ring"]) (sc := defScope sLengthsL) (by decide +kernel)) (fun _ _ _ _ _ => pg_name (i := 1) scLengthsL.nd rfl (Or.inl rfl)) (fun _ _ _ _ _ => pts_nil) (fun _ _ _ _ _ => (pe_callB (cr_lenK (K := K) rfl) rfl T.f_len (by decide +kernel) (pa_cons (pv 1) pa_nil)))) pa_nil)))), ?_⟩
    have pm := pm_of hm
    have m24 := hm.2.2.2
    refine ⟨_, rfl, a, m, rfl, S, hm, fun H1 R us S1 fR hR rf => ?_⟩
    have lus : us.length = (rings (fn' m) m.length).length := Paired.length rf
    have lle : (rings (fn' m) m.length).length ≤ m.length := ringsTo_len _ _ _
    refine ⟨R, rfl, ⟨_, .inl (.inl hR)⟩, fun D nD => ?_⟩
    have hRL : SqL K H1 R us := .inl (.inl hR)
    refine lc_list (xs := us) (Pv := fun i H3 => H3 = upd H1 D (.lst ((lens ((rings (fn' m) m.length).take i)).map V.int))) rfl (fun i H3 _ e => by rw [e]; exact sql_new hRL nD) ?_ ?_
    · intro i x H3 hx e
      subst e
      obtain ⟨r, t, hr, rfl, St⟩ := rf.get hx
      refine ⟨wipe_one, yes_ ?_⟩
      have il : i < m.length := by
        have := (List.getElem?_eq_some_iff.mp hx).1
        omega
      refine ⟨_, rfl, t, _, rfl, .inr (sqt_new St nD), _, upd_same, ?_, ?_⟩
      · unfold lens
        rw [List.length_map, List.length_map, List.length_take]
        exact Nat.lt_of_le_of_lt (by omega : _ ≤ 1000) (by decide)
      · rw [upd_upd, List.take_add_one, hr, mv_len]
        unfold lens
        rw [List.map_append, List.map_append]
        rfl
    rintro H3 rfl
    rw [lus, List.take_length]
    refine ⟨D, _, rfl, .inl (.inl upd_same), fun zs p pz pw np => ?_⟩
    rw [lensI_uniq pz pw]
    exact q _ p (S1.trans ((same_new nD).trans (same_new np))) (.inl (.inl upd_same))
/-- values, each a tuple of places -/
def PR (K : PySem.W.Frag) (H : Hp) (zs : List (V × List Nat)) : Prop := ∀ b ∈ zs, ∃ t, b.1 = .ref t ∧ SqT K H t (mv b.2)
theorem PR.same {H H' : Hp} {zs : List (V × List Nat)} (h : PR K H zs) (s : Same H H') : PR K H' zs := fun b hb =>
  let ⟨t, e, S⟩ := h b hb
  ⟨t, e, same_sqt s S⟩
theorem PR.upd {H : Hp} {zs : List (V × List Nat)} {F : Addr} {xs ys : List V} (h : PR K H zs) (e : H F = some (.lst xs)) : PR K (L2.upd H F (.lst ys)) zs := fun b hb =>
  let ⟨t, e1, S⟩ := h b hb
  ⟨t, e1, sqt_lst S e⟩
theorem PR.perm {H : Hp} {zs bs : List (V × List Nat)} (h : PR K H bs) (p : zs.Perm bs) : PR K H zs := fun b hb => h b (p.mem_iff.mp hb)
theorem pr_of {H : Hp} : ∀ {us : List V} {R : List (List Nat)}, Refs K H us R → ∃ bs : List (V × List Nat), bs.map Prod.fst = us ∧ bs.map Prod.snd = R ∧ PR K H bs := by
  intro us R h
  unfold Refs at h
  induction h with
  | nil => exact ⟨[], rfl, rfl, fun b hb => by cases hb⟩
  | cons h _ ih =>
    rename_i v r vs R _
    obtain ⟨bs, e1, e2, p⟩ := ih
    obtain ⟨a, e, S⟩ := h
    refine ⟨(v, r) :: bs, by rw [List.map_cons, e1], by rw [List.map_cons, e2], fun b hb => ?_⟩
    rcases List.mem_cons.mp hb with z | z
    · subst z
      exact ⟨a, e, S⟩
    · exact p b z
theorem turn_of {m l b : List Nat} (hm : Mv m) (hb : Mv b) (e1 : m.length = l.length) (e2 : b.length = m.length) (h : ∀ x, x < m.length → fn' b (fn' m x) = fn' l (fn' b x)) : turnL m b = l := by
  have pb := pm_of hb
  refine fn_ext (by rw [turn_len e2.symm, e1]) fun y hy => ?_
  rw [turn_len e2.symm] at hy
  unfold turnL
  obtain ⟨x, hx, rfl⟩ := onto pb (k := y) (by omega)
  have pm := pm_of hm
  rw [fn_comp (by rw [back_len]; omega), back_at hb hx, fn_comp (by omega), h x (by omega)]
/-- what sorted rings tell -/
theorem turn_math {m l : List Nat} (hm : Mv m) (hl : Mv l) (eq : m.length = l.length) {Z Y : List (List Nat)} (pz : Z.Perm (rings (fn' m) m.length)) (py : Y.Perm (rings (fn' l) l.length)) (wz : Z.Pairwise fun x y => x.length ≤ y.length) (wy : Y.Pairwise fun x y => x.length ≤ y.length) :
    (∀ (i : Nat) (r t : List Nat), Z[i]? = some r → Y[i]? = some t → r.length ≠ t.length → lensI m ≠ lensI l) ∧
    (∀ g : List Nat, g.length = m.length → (Z.take (min Z.length Y.length)).map (List.map (fn' g)) = Y.take (min Z.length Y.length) → lensI m = lensI l ∧ Mv g ∧ turnL m g = l) := by
  have pm := pm_of hm
  have pl := pm_of hl
  have gz := rings_good pm m.length (Nat.le_refl _)
  have gy := rings_good pl l.length (Nat.le_refl _)
  have ez : lens Z = lensI m := lensI_uniq (pz.map _) (by unfold lens; rw [List.pairwise_map]; exact wz.imp fun h => by omega)
  have ey : lens Y = lensI l := lensI_uniq (py.map _) (by unfold lens; rw [List.pairwise_map]; exact wy.imp fun h => by omega)
  refine ⟨fun i r t h1 h2 ne e => ne ?_, fun g lg h => ?_⟩
  · rw [← ez, ← ey] at e
    have : (lens Z)[i]? = (lens Y)[i]? := by rw [e]
    unfold lens at this
    rw [List.getElem?_map, List.getElem?_map, h1, h2] at this
    have : (r.length : Int) = (t.length : Int) := Option.some.inj this
    omega
  have all_of : ∀ {f : Nat → Nat} {n : Nat} {Z : List (List Nat)}, Pm f n → Z.Perm (rings f n) → Z.flatten.Nodup ∧ (∀ x, x ∈ Z.flatten ↔ x < n) ∧ Z.flatten.length = n ∧ ∀ r ∈ Z, 1 ≤ r.length := by
    intro f n Z h p
    have g := rings_good h n (Nat.le_refl _)
    have pf := p.flatten
    have nd : Z.flatten.Nodup := pf.nodup_iff.mpr g.once
    have mem : ∀ x, x ∈ Z.flatten ↔ x < n := fun x => pf.mem_iff.trans ⟨g.below x, g.all x⟩
    refine ⟨nd, mem, ?_, fun r hr => (len_in h (p.mem_iff.mp hr)).1⟩
    have := (List.perm_ext_iff_of_nodup nd List.nodup_range).mpr fun x => (mem x).trans List.mem_range.symm
    rw [this.length_eq, List.length_range]
  obtain ⟨zn, zm, zl, z1⟩ := all_of pm pz
  obtain ⟨yn, ym, yl, y1⟩ := all_of pl py
  have fl : ∀ R : List (List Nat), (R.map (List.map (fn' g))).flatten.length = R.flatten.length := by
    intro R
    rw [← List.map_flatten, List.length_map]
  have cut : ∀ (R : List (List Nat)) (k : Nat), R.flatten.length = (R.take k).flatten.length + (R.drop k).flatten.length := by
    intro R k
    have : R = R.take k ++ R.drop k := (List.take_append_drop k R).symm
    have e : R.flatten = (R.take k).flatten ++ (R.drop k).flatten := by rw [← List.flatten_append, List.take_append_drop]
    rw [e, List.length_append]
  have more : ∀ (R : List (List Nat)) (k : Nat), (∀ r ∈ R, 1 ≤ r.length) → k < R.length → 1 ≤ (R.drop k).flatten.length := by
    intro R k h1 lt
    rw [List.drop_eq_getElem_cons lt, List.flatten_cons, List.length_append]
    have := h1 _ (List.getElem_mem lt)
    omega
  have c1 := cut Z (min Z.length Y.length)
  have c2 := cut Y (min Z.length Y.length)
  have c3 := fl (Z.take (min Z.length Y.length))
  rw [h] at c3
  have el : Z.length = Y.length := by
    rcases Nat.lt_trichotomy Z.length Y.length with c | c | c
    · have := more Y (min Z.length Y.length) y1 (by omega)
      have : (Z.drop (min Z.length Y.length)).flatten.length = 0 := by
        rw [List.drop_of_length_le (by omega)]
        rfl
      omega
    · exact c
    · have := more Z (min Z.length Y.length) z1 (by omega)
      have : (Y.drop (min Z.length Y.length)).flatten.length = 0 := by
        rw [List.drop_of_length_le (by omega)]
        rfl
      omega
  rw [List.take_of_length_le (by omega), List.take_of_length_le (by omega)] at h
  have hY : Y.flatten = Z.flatten.map (fn' g) := by rw [← h, List.map_flatten]
  have pg : Pm (fn' g) m.length := by
    refine ⟨fun k hk => ?_, fun a b ha hb e => ?_⟩
    · have : fn' g k ∈ Y.flatten := by
        rw [hY]
        exact List.mem_map.mpr ⟨k, (zm k).mpr hk, rfl⟩
      have := (ym _).mp this
      omega
    · by_cases c : a = b
      · exact c
      · exfalso
        rw [hY] at yn
        obtain ⟨i, hi, ei⟩ := List.getElem_of_mem ((zm a).mpr ha)
        obtain ⟨j, hj, ej⟩ := List.getElem_of_mem ((zm b).mpr hb)
        have ij : i ≠ j := fun z => c (by subst z; rw [← ei, ← ej])
        have pw := List.pairwise_iff_getElem.mp yn
        rcases Nat.lt_or_gt_of_ne ij with lt | lt
        · refine pw i j (by rw [List.length_map]; exact hi) (by rw [List.length_map]; exact hj) lt ?_
          rw [List.getElem_map, List.getElem_map, ei, ej, e]
        · refine pw j i (by rw [List.length_map]; exact hj) (by rw [List.length_map]; exact hi) lt ?_
          rw [List.getElem_map, List.getElem_map, ei, ej, e]
  have hg : Mv g := by
    rw [mv_map (m := g), lg]
    exact map_mv pg hm.2.2.1 hm.2.2.2
  refine ⟨?_, hg, turn_of hm hg eq lg fun x hx => ?_⟩
  · rw [← ez, ← ey, ← h]
    unfold lens
    rw [List.map_map]
    refine List.map_congr_left fun r _ => ?_
    show (r.length : Int) = ((r.map (fn' g)).length : Int)
    rw [List.length_map]
  · obtain ⟨r, hr, hxr⟩ := List.mem_flatten.mp ((zm x).mpr hx)
    obtain ⟨j, hj, ej⟩ := List.getElem_of_mem hxr
    have ex : x = r.getD j 0 := by rw [List.getD, List.getElem?_eq_getElem hj, ej]; rfl
    have gd : ∀ k, k < r.length → (r.map (fn' g)).getD k 0 = fn' g (r.getD k 0) := by
      intro k hk
      rw [List.getD, List.getElem?_map, List.getD, List.getElem?_eq_getElem hk]
      rfl
    have inY : r.map (fn' g) ∈ rings (fn' l) l.length := by
      refine py.mem_iff.mp ?_
      rw [← h]
      exact List.mem_map.mpr ⟨r, hr, rfl⟩
    have t1 := ring_turn pm (pz.mem_iff.mp hr) hj
    have t2 := ring_turn pl inY (j := j) (by rw [List.length_map]; exact hj)
    rw [List.length_map, gd j hj, gd _ (Nat.mod_lt _ (by omega))] at t2
    rw [ex, t1, ← t2]
def spTurning (K : PySem.W.Frag) : Sp := fun vs H Q _ => ∃ a b m l, vs = [.ref a, .ref b] ∧ SqT K H a (mv m) ∧ SqT K H b (mv l) ∧ Mv m ∧ Mv l ∧ m.length = l.length ∧
  (lensI m = lensI l → ∀ H' t g, Same H H' → SqT K H' t (mv g) → Mv g → g.length = m.length → turnL m g = l → Q (.ref t) H') ∧ (lensI m ≠ lensI l → ∀ H', Same H H' → Q .non H')
theorem scTurningMove : FnScope ["one", "other", "rings", "targets", "turning", "_", "ring", "target", "place", "to"] ["one", "other"] (defScope sTurningMove) :=
  ⟨rfl, rfl, rfl, by decide +kernel, rfl, by decide +kernel, by decide +kernel⟩
theorem dTurningMove (T : Tx K mg) (DNeedPair : Def P w K mg base CX0 5 "_need_pair" ["one", "other"] (spNeedPair K)) (DCycles : Def P w K mg base CX0 1 "_cycles" ["move"] (spCyc K)) : Def P w K mg base CX0 6 "turning_move" ["one", "other"] (spTurning K) := by
  refine T.t_turning_move.def_ (N := ["one", "other", "rings", "targets", "turning", "_", "ring", "target", "place", "to"]) scTurningMove (fun _ _ _ _ _ _ us hl => match us, hl with | [_, _], _ => rfl) ?_ ?_
  · intro vs H Q E h
    obtain ⟨a, b, m, l, rfl, _⟩ := h
    rfl
  · intro f cd A out s H vs Q E hr h
    have hu := hr.hu1
    have hr1 : Rm 5 _ := hr.le (by decide)
    obtain ⟨a, b, m, l, rfl, Sa, Sb, hm, hl, eq, q1, q2⟩ := h
    refine ⟨_, (pss_cons (ps_expr (pe_d DNeedPair (hr1.le (by decide)) pass0 (pa_cons (pv 0) (pa_cons (pv 1) pa_nil))))
      (pss_cons (ps_set (i := 2) scTurningMove.nd rfl (Or.inl rfl) (pe_sortLen hr.hu rfl T.f_sorted rfl T.f_len (pa_cons (pe_d DCycles (hr1.le (by decide)) pass0 (pa_cons (pv 0) pa_nil)) pa_nil)))
      (pss_cons (ps_set (i := 3) scTurningMove.nd rfl (Or.inl rfl) (pe_sortLen hr.hu rfl T.f_sorted rfl T.f_len (pa_cons (pe_d DCycles (hr1.le (by decide)) pass0 (pa_cons (pv 1) pa_nil)) pa_nil)))
      (pss_cons (ps_setLc (i := 4) (own := [("_", 5)]) (g := gName 5) (tt := tYes) rfl scTurningMove.nd rfl rfl (sw_true rfl rfl rfl rfl) (pi_tup (pv 0)) (blkOk_by (N := ["one", "other", "rings", "targets", "turning", "_", "ring", "target", "place", "to"]) (sc := defScope sTurningMove) (by decide +kernel)) (fun _ _ _ _ _ => pg_name (i := 5) scTurningMove.nd rfl (Or.inl rfl)) (fun _ _ _ _ _ => pts_nil) (fun _ _ _ _ _ => pe_int))
      (pss_cons (ps_for PassesOwn.never rfl (RZ.pi_zipA rfl T.f_zip (pa_cons (pv 2) (pa_cons (pv 3) pa_nil))) (pg_tup rfl (pgs_cons (pg_name (i := 6) scTurningMove.nd rfl (Or.inl rfl)) (pgs_cons (pg_name (i := 7) scTurningMove.nd rfl (Or.inl rfl)) pgs_nil)))
        (pss_cons (ps_if (pt_cmpR op_ne (pe_callB call_len_seq rfl T.f_len (by decide +kernel) (pa_cons (pv 6) pa_nil)) (pe_callB call_len_seq rfl T.f_len (by decide +kernel) (pa_cons (pv 7) pa_nil)) (nomark _)) (pss_one (ps_ret pe_non)) pss_nil)
        (pss_one (ps_for PassesOwn.never rfl (RZ.pi_zipA rfl T.f_zip (pa_cons (pv 6) (pa_cons (pv 7) pa_nil))) (pg_tup rfl (pgs_cons (pg_name (i := 8) scTurningMove.nd rfl (Or.inl rfl)) (pgs_cons (pg_name (i := 9) scTurningMove.nd rfl (Or.inl rfl)) pgs_nil)))
          (pss_one (ps_asg (pv 9) (pg_sub (pv 4) (pv 8) set_list)))))))
      (pss_one (ps_ret (pe_callTy call_tuple_of rfl T.f_tuple (by decide +kernel) (pa_cons (pv 4) pa_nil))))))))), ?_⟩
    have pm := pm_of hm
    have pl := pm_of hl
    have m24 := hm.2.2.2
    refine ⟨_, rfl, _, rfl, a, b, m, l, rfl, Sa, Sb, hm, hl, eq, fun H1 S1 => ?_⟩
    refine ⟨_, rfl, a, m, rfl, same_sqt S1 Sa, hm, fun H2 R us S2 hR rf => ?_⟩
    obtain ⟨bs, e1, e2, pr⟩ := pr_of rf
    have lle : (rings (fn' m) m.length).length ≤ m.length := ringsTo_len _ _ _
    have lbs : bs.length = (rings (fn' m) m.length).length := by rw [← e2, List.length_map]
    refine ⟨List Nat, List.length, R, bs, rfl, by rw [e1]; exact hR, by omega, fun b hb => ?_, fun zs p1 pz pw n1 => ?_⟩
    · obtain ⟨t, e, S⟩ := pr b hb
      exact ⟨t, _, e, S, mv_len _⟩
    have hZ : (upd H2 p1 (.lst (zs.map Prod.fst))) p1 = some (.lst (zs.map Prod.fst)) := upd_same
    have S3 := (S1.trans S2).trans (same_new (o := .lst (zs.map Prod.fst)) n1)
    have prZ := (pr.perm pz).same (same_new (o := .lst (zs.map Prod.fst)) n1)
    have pzR : (zs.map Prod.snd).Perm (rings (fn' m) m.length) := by
      rw [← e2]
      exact pz.map _
    have pwZ : (zs.map Prod.snd).Pairwise (fun x y => x.length ≤ y.length) := List.pairwise_map.mpr pw
    clear pr e1 e2 hR rf pz pw
    generalize upd H2 p1 _ = H3 at hZ S3 prZ ⊢
    refine ⟨_, rfl, b, l, rfl, same_sqt S3 Sb, hl, fun H4 R2 us2 S4 hR2 rf2 => ?_⟩
    obtain ⟨bs2, e1, e2, pr⟩ := pr_of rf2
    have lle2 : (rings (fn' l) l.length).length ≤ l.length := ringsTo_len _ _ _
    have lbs2 : bs2.length = (rings (fn' l) l.length).length := by rw [← e2, List.length_map]
    refine ⟨List Nat, List.length, R2, bs2, rfl, by rw [e1]; exact hR2, by omega, fun b hb => ?_, fun ys p2 py pw n2 => ?_⟩
    · obtain ⟨t, e, S⟩ := pr b hb
      exact ⟨t, _, e, S, mv_len _⟩
    have hY : (upd H4 p2 (.lst (ys.map Prod.fst))) p2 = some (.lst (ys.map Prod.fst)) := upd_same
    have S5 := S4.trans (same_new (o := .lst (ys.map Prod.fst)) n2)
    have prY := (pr.perm py).same (same_new (o := .lst (ys.map Prod.fst)) n2)
    have pyR : (ys.map Prod.snd).Perm (rings (fn' l) l.length) := by
      rw [← e2]
      exact py.map _
    have pwY : (ys.map Prod.snd).Pairwise (fun x y => x.length ≤ y.length) := List.pairwise_map.mpr pw
    replace hZ := S5 _ _ hZ
    replace prZ := prZ.same S5
    have S6 := S3.trans S5
    clear pr e1 e2 hR2 rf2 py pw S3 S4 S5 n1 n2
    generalize upd H4 p2 _ = H5 at hZ hY S6 prZ prY ⊢
    have Sa5 := same_sqt S6 Sa
    refine ⟨_, rfl, a, rfl, ⟨_, Sa5⟩, fun F fF => ?_⟩
    refine lc_tpl (fun _ => V.int 0) Sa5 fF (by rw [mv_len]; exact Nat.le_of_lt (small1000 (by omega))) (fun x acc hx Q' q' => q') ?_
    have ez : (mv m).map (fun _ => V.int 0) = mv (backT m 0) := by
      unfold backT mv
      rw [List.map_map]
      show _ = (List.replicate m.length 0).map _
      rw [List.map_replicate]
      exact List.map_const' ..
    rw [ez]
    have F1 : p1 ≠ F := ne_of_none hZ fF
    have F2 : p2 ≠ F := ne_of_none hY fF
    have fF0 : ∀ b o, H b = some o → b ≠ F := fun b o e => ne_of_none (S6 b o e) fF
    have sn := same_new (o := .lst (mv (backT m 0))) fF
    have hF : (upd H5 F (.lst (mv (backT m 0)))) F = some (.lst (mv (backT m 0))) := upd_same
    replace hZ := sn _ _ hZ
    replace hY := sn _ _ hY
    replace prZ := prZ.same sn
    replace prY := prY.same sn
    have S7 := S6.trans sn
    have b0 := backT_len m 0
    clear sn fF S6 ez
    generalize backT m 0 = z0 at hF S7 b0 hZ hY prZ prY ⊢
    generalize upd H5 F _ = H6 at hF S7 hZ hY prZ prY ⊢
    have TM := turn_math hm hl eq pzR pyR pwZ pwY
    refine ⟨_, rfl, _, rfl, p1, p2, _, _, rfl, .inl ⟨.inl (.inl hZ), .inl (.inl hY), for_zipM (K := K) (a := p1) (b := p2) (xs := zs.map Prod.fst) (ys := ys.map Prod.fst)
      (fun i σ H7 => Same H H7 ∧ H7 p1 = some (.lst (zs.map Prod.fst)) ∧ H7 p2 = some (.lst (ys.map Prod.fst)) ∧ PR K H7 zs ∧ PR K H7 ys ∧ ∃ g : List Nat, g.length = m.length ∧ H7 F = some (.lst (mv g)) ∧
        ((zs.map Prod.snd).take i).map (List.map (fn' g)) = (ys.map Prod.snd).take i ∧ ∃ x y z u, σ = [some (.ref a), some (.ref b), some (.ref p1), some (.ref p2), some (.ref F), none, x, y, z, u])
      ⟨S7, hZ, hY, prZ, prY, z0, b0, hF, rfl, none, none, none, none, rfl⟩ (fun i σ H7 h => ⟨.inl (.inl h.2.1), .inl (.inl h.2.2.1)⟩) ?_ ?_⟩⟩
    · rintro i x y T σ H7 hx hy ⟨S8, hZ, hY, prZ, prY, g, lg, hF, done, x0, y0, z0, u0, rfl⟩ fT
      obtain ⟨zb, hzb, rfl⟩ : ∃ zb, zs[i]? = some zb ∧ x = zb.1 := by
        rw [List.getElem?_map] at hx
        cases e : zs[i]? with
        | none => rw [e] at hx; cases hx
        | some zb => rw [e] at hx; exact ⟨zb, rfl, (Option.some.inj hx).symm⟩
      obtain ⟨yb, hyb, rfl⟩ : ∃ yb, ys[i]? = some yb ∧ y = yb.1 := by
        rw [List.getElem?_map] at hy
        cases e : ys[i]? with
        | none => rw [e] at hy; cases hy
        | some yb => rw [e] at hy; exact ⟨yb, rfl, (Option.some.inj hy).symm⟩
      obtain ⟨t1, et1, St1⟩ := prZ zb (List.mem_of_getElem? hzb)
      obtain ⟨t2, et2, St2⟩ := prY yb (List.mem_of_getElem? hyb)
      have hzr : (zs.map Prod.snd)[i]? = some zb.2 := by rw [List.getElem?_map, hzb]; rfl
      have hyr : (ys.map Prod.snd)[i]? = some yb.2 := by rw [List.getElem?_map, hyb]; rfl
      rw [et1, et2]
      have sT := same_new (o := .tup [V.ref t1, V.ref t2]) fT
      refine ⟨T, _, rfl, .inl (.inl upd_same), rfl, _, _, rfl, ?_⟩
      refine ⟨_, _, rfl, rfl, ?_⟩
      replace S8 := S8.trans sT
      replace hZ := sT _ _ hZ
      replace hY := sT _ _ hY
      replace hF := sT _ _ hF
      replace prZ := prZ.same sT
      replace prY := prY.same sT
      replace St1 := same_sqt sT St1
      replace St2 := same_sqt sT St2
      clear sT fT
      generalize upd H7 T _ = H8 at S8 hZ hY hF prZ prY St1 St2 ⊢
      refine ⟨_, rfl, t1, _, rfl, .inr St1, _, rfl, t2, _, rfl, .inr St2, rfl, _, rfl, ?_⟩
      rw [dInt, mv_len, mv_len]
      by_cases ln : zb.2.length = yb.2.length
      · refine ifF (by rw [decide_eq_true (by omega)]; rfl) ?_
        have hR : Rings m.length (zs.map Prod.snd) := by
          have g0 := rings_ok pm
          have pf := pzR.flatten
          exact ⟨fun r hr => g0.full r (pzR.mem_iff.mp hr), pf.nodup_iff.mpr g0.once, fun x hx => g0.below x (pf.mem_iff.mp hx)⟩
        refine ⟨_, rfl, _, rfl, t1, t2, _, _, rfl, .inr ⟨St1, St2, RZ.for_zipT (K := K) (a := t1) (b := t2) (xs := mv zb.2) (ys := mv yb.2) (by rw [mv_len, mv_len, ln])
          (fun j σ H9 => Same H H9 ∧ H9 p1 = some (.lst (zs.map Prod.fst)) ∧ H9 p2 = some (.lst (ys.map Prod.fst)) ∧ (PR K H9 zs ∧ SqT K H9 t1 (mv zb.2)) ∧ (PR K H9 ys ∧ SqT K H9 t2 (mv yb.2)) ∧ ∃ g : List Nat, g.length = m.length ∧ H9 F = some (.lst (mv g)) ∧
            ((zs.map Prod.snd).take i).map (List.map (fn' g)) = (ys.map Prod.snd).take i ∧ (zb.2.take j).map (fn' g) = yb.2.take j ∧ ∃ z u, σ = [some (.ref a), some (.ref b), some (.ref p1), some (.ref p2), some (.ref F), none, some (.ref t1), some (.ref t2), z, u])
          ⟨S8, hZ, hY, ⟨prZ, St1⟩, ⟨prY, St2⟩, g, lg, hF, done, rfl, _, _, rfl⟩ (fun j σ H9 h => ⟨h.2.2.2.1.2, h.2.2.2.2.1.2⟩) ?_ ?_⟩⟩
        · rintro j u v T2 σ H9 hu hv ⟨S9, hZ, hY, ⟨prZ, St1⟩, ⟨prY, St2⟩, g, lg, hF, done, done2, z, w0, rfl⟩ fT2
          obtain ⟨jr, rfl⟩ := mv_nth hu
          obtain ⟨jt, rfl⟩ := mv_nth hv
          have ej : zb.2[j]? = some (zb.2.getD j 0) := by rw [List.getD, List.getElem?_eq_getElem jr]; rfl
          have ek : yb.2[j]? = some (yb.2.getD j 0) := by rw [List.getD, List.getElem?_eq_getElem jt]; rfl
          obtain ⟨new, lt, sm⟩ := hR.new hzr ej
          have FT : F ≠ T2 := ne_of_none hF fT2
          have sT := same_new (o := .tup [V.int ((zb.2.getD j 0 : Nat) : Int), V.int ((yb.2.getD j 0 : Nat) : Int)]) fT2
          refine ⟨T2, _, rfl, .inl (.inl upd_same), rfl, _, _, rfl, ?_⟩
          refine ⟨_, _, rfl, rfl, ?_⟩
          replace S9 := S9.trans sT
          replace hZ := sT _ _ hZ
          replace hY := sT _ _ hY
          replace hF := sT _ _ hF
          replace prZ := prZ.same sT
          replace prY := prY.same sT
          replace St1 := same_sqt sT St1
          replace St2 := same_sqt sT St2
          clear sT fT2 FT
          generalize upd H9 T2 _ = H10 at S9 hZ hY hF prZ prY St1 St2 ⊢
          refine ⟨_, rfl, _, rfl, _, rfl, F, _, _, zb.2.getD j 0, rfl, rfl, hF, by rw [mv_len, lg]; exact ixN_lt lt, ?_⟩
          rw [mv_set]
          have keepM : ∀ l : List Nat, zb.2.getD j 0 ∉ l → l.map (fn' (g.set (zb.2.getD j 0) (yb.2.getD j 0))) = l.map (fn' g) := by
            intro l no
            refine List.map_congr_left fun x hx => ?_
            unfold fn'
            rw [List.getD, List.getElem?_set_ne (fun z => no (by rw [z]; exact hx)), ← List.getD]
          have no1 : zb.2.getD j 0 ∉ ((zs.map Prod.snd).take i).flatten := fun z => new (List.mem_append_left _ z)
          have no2 : zb.2.getD j 0 ∉ zb.2.take j := fun z => new (List.mem_append_right _ z)
          refine ⟨fun b o h => (upd_ne (fF0 b o h)).trans (S9 b o h), (upd_ne F1).trans hZ, (upd_ne F2).trans hY, ⟨prZ.upd hF, sqt_lst St1 hF⟩, ⟨prY.upd hF, sqt_lst St2 hF⟩, g.set (zb.2.getD j 0) (yb.2.getD j 0), by rw [List.length_set, lg], upd_same, ?_, ?_, _, _, rfl⟩
          · rw [← done]
            refine List.map_congr_left fun r hr => keepM r fun z => no1 (List.mem_flatten.mpr ⟨r, hr, z⟩)
          · have ts : zb.2.take (j + 1) = zb.2.take j ++ [zb.2.getD j 0] := by rw [List.take_add_one, ej]; rfl
            have ts2 : yb.2.take (j + 1) = yb.2.take j ++ [yb.2.getD j 0] := by rw [List.take_add_one, ek]; rfl
            rw [ts, ts2, List.map_append, keepM _ no2, done2]
            congr 1
            show [fn' (g.set (zb.2.getD j 0) (yb.2.getD j 0)) (zb.2.getD j 0)] = _
            unfold fn'
            rw [List.getD, List.getElem?_set_self (by omega)]
            rfl
        · rintro σ H9 ⟨S9, hZ, hY, ⟨prZ, St1⟩, ⟨prY, St2⟩, g, lg, hF, done, done2, z, w0, rfl⟩
          rw [mv_len, List.take_length, ln, List.take_length] at done2
          refine ⟨S9, hZ, hY, prZ, prY, g, lg, hF, ?_, _, _, _, _, rfl⟩
          rw [List.take_add_one, List.take_add_one, hzr, hyr, List.map_append, done]
          congr 1
          show [zb.2.map (fn' g)] = [yb.2]
          rw [done2]
      · refine ifT (by rw [decide_eq_false (by omega)]; rfl) ?_
        exact q2 (TM.1 i _ _ hzr hyr ln) _ S8
    · rintro σ H7 ⟨S8, hZ, hY, prZ, prY, g, lg, hF, done, x0, y0, z0, u0, rfl⟩
      rw [List.length_map, List.length_map] at done
      obtain ⟨h1, h2, h3⟩ := TM.2 g lg (by rw [List.length_map, List.length_map]; exact done)
      exact ⟨_, rfl, F, _, rfl, .inl ⟨.inl (.inl hF), fun u fu => q1 h1 _ u g (S8.trans (same_new fu)) (.inl (.inl upd_same)) h2 lg h3⟩⟩
end
end K05


set_option Elab.async false
set_option linter.all false
set_option maxRecDepth 100000
set_option maxHeartbeats 1000000
namespace K05
open PySem PySem.Spec PyProof.Rows L2 MM
theorem tl_at {m g : List Nat} (hm : Mv m) (hg : Mv g) (e : m.length = g.length) {x : Nat} (hx : x < m.length) : fn' (turnL m g) (fn' g x) = fn' g (fn' m x) := by
  have pg := pm_of hg
  unfold turnL
  rw [fn_comp (by rw [back_len]; exact pg.lt x (by omega)), back_at hg (by omega), fn_comp hx]
theorem turn_mv {m g : List Nat} (hm : Mv m) (hg : Mv g) (e : m.length = g.length) : Mv (turnL m g) := by
  unfold turnL
  exact comp_mv (comp_mv hg hm e.symm) (back_mv hg) (by rw [comp_len, back_len, e])
/-- two moves of n places that do the same at all g x -/
theorem by_img {a b g : List Nat} (hg : Mv g) (e1 : a.length = g.length) (e2 : b.length = g.length) (h : ∀ x, x < g.length → fn' a (fn' g x) = fn' b (fn' g x)) : a = b := by
  have pg := pm_of hg
  refine fn_ext (by rw [e1, e2]) fun y hy => ?_
  obtain ⟨x, hx, rfl⟩ := onto pg (k := y) (by omega)
  exact h x hx
theorem turn_turn {m g h : List Nat} (hm : Mv m) (hg : Mv g) (hh : Mv h) (e : m.length = g.length) (e2 : h.length = g.length) : turnL (turnL m g) h = turnL m (comp h g) := by
  have ht := turn_mv hm hg e
  have hc := comp_mv hh hg e2
  have lt : (turnL m g).length = m.length := turn_len e
  refine by_img hc (by rw [turn_len (by rw [lt, e, e2]), lt, comp_len, e]) (by rw [turn_len (by rw [comp_len, e]), comp_len, e]) fun x hx => ?_
  rw [comp_len] at hx
  have pg := pm_of hg
  have pm := pm_of hm
  rw [tl_at hm hc (by rw [comp_len, e]) (by omega), fn_comp hx, tl_at ht hh (by rw [lt, e, e2]) (by rw [lt, e]; exact pg.lt x hx), tl_at hm hg e (by omega), fn_comp (by have := pm.lt x (by omega); omega)]
theorem turn_back {m g : List Nat} (hm : Mv m) (hg : Mv g) (e : m.length = g.length) : turnL (turnL m g) (back g) = m := by
  have ht := turn_mv hm hg e
  have lt : (turnL m g).length = m.length := turn_len e
  have pm := pm_of hm
  have pg := pm_of hg
  refine fn_ext (by rw [turn_len (by rw [lt, back_len, e]), lt]) fun x hx => ?_
  rw [turn_len (by rw [lt, back_len, e]), lt] at hx
  have := tl_at ht (back_mv hg) (by rw [lt, back_len, e]) (x := fn' g x) (by rw [lt, e]; exact pg.lt x (by omega))
  rw [back_at hg (by omega), tl_at hm hg e hx, back_at hg (by have := pm.lt x hx; omega)] at this
  exact this
theorem turn_comp {m l g : List Nat} (hm : Mv m) (hl : Mv l) (hg : Mv g) (e : m.length = g.length) (e2 : l.length = g.length) : turnL (comp m l) g = comp (turnL m g) (turnL l g) := by
  have pl := pm_of hl
  have pg := pm_of hg
  have hc := comp_mv hm hl (by rw [e, e2])
  refine by_img hg (by rw [turn_len (by rw [comp_len, e2]), comp_len, e2]) (by rw [comp_len, turn_len e2, e2]) fun x hx => ?_
  have lx := pl.lt x (by omega)
  rw [tl_at hc hg (by rw [comp_len, e2]) (by rw [comp_len, e2]; exact hx), fn_comp (by omega), fn_comp (by rw [turn_len e2, e2]; exact pg.lt x hx), tl_at hl hg e2 (by omega), tl_at hm hg e (by omega)]
theorem turn_self {g : List Nat} (hg : Mv g) : turnL g g = g :=
  by_img hg (turn_len rfl) rfl fun x hx => tl_at hg hg rfl hx
theorem it_turn {m g : List Nat} (hm : Mv m) (hg : Mv g) (e : m.length = g.length) {x : Nat} (hx : x < m.length) : ∀ k, it (fn' (turnL m g)) k (fn' g x) = fn' g (it (fn' m) k x)
  | 0 => rfl
  | k + 1 => by
    show fn' (turnL m g) (it (fn' (turnL m g)) k (fn' g x)) = fn' g (fn' m (it (fn' m) k x))
    rw [it_turn hm hg e hx k, tl_at hm hg e (it_lt (pm_of hm) hx k)]
/-- a multiple of the order of a place's ring -/
theorem len_dvd {f : Nat → Nat} {n x M : Nat} (h : Pm f n) (hx : x < n) (e : it f M x = x) : lenOf f n x ∣ M := by
  obtain ⟨ln, eL, no⟩ := lenOf_ok h hx
  have pos := lenOf_pos f n x
  rw [it_mod eL] at e
  have lt := Nat.mod_lt M (y := lenOf f n x) (by omega)
  have : M % lenOf f n x = 0 := by
    by_cases c : M % lenOf f n x = 0
    · exact c
    · exact absurd e (no _ (by omega) lt)
  exact Nat.dvd_of_mod_eq_zero this
theorem pwE_any {f : Nat → Nat} {n x M N : Nat} (h : Pm f n) (hx : x < n) (pM : 0 < M) (pN : 0 < N) (eM : it f M x = x) (eN : it f N x = x) (e : Int) : pwE f M e x = pwE f N e x := by
  obtain ⟨ln, eL, no⟩ := lenOf_ok h hx
  have pos := lenOf_pos f n x
  have key : ∀ M : Nat, 0 < M → it f M x = x → pwE f M e x = it f (e % (lenOf f n x : Int)).toNat x := by
    intro M pM eM
    unfold pwE
    rw [it_mod eL]
    congr 1
    have e0 := Int.emod_nonneg e (by omega : (M : Int) ≠ 0)
    have e1 := Int.emod_nonneg e (by omega : (lenOf f n x : Int) ≠ 0)
    have : (((e % (M : Int)).toNat % lenOf f n x : Nat) : Int) = e % (lenOf f n x : Int) := by
      rw [Int.natCast_emod, Int.toNat_of_nonneg e0, Int.emod_emod_of_dvd e (Int.natCast_dvd_natCast.mpr (len_dvd h hx eM))]
    omega
  rw [key M pM eM, key N pN eN]
theorem turn_pow {m g : List Nat} (hm : Mv m) (hg : Mv g) (e : m.length = g.length) (k : Int) : turnL (pwL m k) g = pwL (turnL m g) k := by
  have pm := pm_of hm
  have pg := pm_of hg
  have ht := turn_mv hm hg e
  have pt := pm_of ht
  have lt : (turnL m g).length = m.length := turn_len e
  refine by_img hg (by rw [turn_len (by rw [pwL_len, e]), pwL_len, e]) (by rw [pwL_len, lt, e]) fun x hx => ?_
  rw [tl_at (pwL_mv hm k) hg (by rw [pwL_len, e]) (by rw [pwL_len, e]; exact hx)]
  unfold pwL
  rw [fn_map (by omega), fn_map (by rw [lt, e]; exact pg.lt x hx)]
  have gx : fn' g x < (turnL m g).length := by rw [lt, e]; exact pg.lt x hx
  rw [pwE_any pt gx (ordOf_pos pt) (ordOf_pos pm) (it_ord pt gx) (by rw [it_turn hm hg e (by omega), it_ord pm (by omega)])]
  unfold pwE
  rw [it_turn hm hg e (by omega)]
/-! the rings of a turned move -/
def S (r : List Nat) : List Int := (r.map fun (k : Nat) => (k : Int)).mergeSort fun a b => decide (a ≤ b)
theorem S_perm (r : List Nat) : (S r).Perm (r.map fun (k : Nat) => (k : Int)) := List.mergeSort_perm _ _
theorem S_sorted (r : List Nat) : (S r).Pairwise (· ≤ ·) := by
  have pw := List.pairwise_mergeSort (le := fun p q : Int => decide (p ≤ q)) (fun a b c h1 h2 => decide_eq_true (Int.le_trans (of_decide_eq_true h1) (of_decide_eq_true h2)))
    (fun a b => by
      rcases Int.le_total a b with h | h
      · simp [h]
      · simp [h]) (r.map fun (k : Nat) => (k : Int))
  exact pw.imp fun h => of_decide_eq_true h
theorem S_uniq {r : List Nat} {z : List Int} (p : z.Perm (r.map fun (k : Nat) => (k : Int))) (s : z.Pairwise (· ≤ ·)) : z = S r :=
  uniq (fun a b h1 h2 => by omega) (p.trans (S_perm r).symm) s (S_sorted r)
theorem S_mem {r q : List Nat} (h : S r = S q) (x : Nat) : x ∈ r ↔ x ∈ q := by
  have a := (S_perm r).mem_iff (a := (x : Int))
  have b := (S_perm q).mem_iff (a := (x : Int))
  have c : ∀ l : List Nat, (x : Int) ∈ l.map (fun (k : Nat) => (k : Int)) ↔ x ∈ l := by
    intro l
    rw [List.mem_map]
    exact ⟨fun ⟨k, hk, e⟩ => by rw [← show k = x by omega]; exact hk, fun h => ⟨x, h, rfl⟩⟩
  rw [h] at a
  rw [← c r, ← c q, ← a, ← b]
theorem S_nodup {R : List (List Nat)} (full : ∀ r ∈ R, 1 ≤ r.length) (once : R.flatten.Nodup) : (R.map S).Nodup := by
  rw [List.Nodup, List.pairwise_map]
  refine List.Pairwise.imp_of_mem ?_ (List.pairwise_flatten.mp once).2
  intro r q hr hq ne e
  have l1 := full r hr
  have hx : r[0]'(by omega) ∈ r := List.getElem_mem _
  exact ne _ hx _ ((S_mem e _).mp hx) rfl
theorem turned_rings {m g : List Nat} (hm : Mv m) (hg : Mv g) (e : m.length = g.length) : ((rings (fn' (turnL m g)) (turnL m g).length).map S).Perm ((rings (fn' m) m.length).map fun r => S (r.map (fn' g))) := by
  have pm := pm_of hm
  have pg := pm_of hg
  have ht := turn_mv hm hg e
  have pt := pm_of ht
  have lt : (turnL m g).length = m.length := turn_len e
  rw [lt] at pt ⊢
  have gz := rings_good pm m.length (Nat.le_refl _)
  have gt := rings_good pt m.length (Nat.le_refl _)
  have n1 := S_nodup (fun r hr => (len_in pt hr).1) gt.once
  have inj : ∀ a b, a < m.length → b < m.length → fn' g a = fn' g b → a = b := fun a b ha hb h => pg.inj a b (by omega) (by omega) h
  have once2 : ((rings (fn' m) m.length).map (List.map (fn' g))).flatten.Nodup := by
    rw [← List.map_flatten, List.Nodup, List.pairwise_map]
    refine List.Pairwise.imp_of_mem ?_ gz.once
    intro a b ha hb ne h
    exact ne (inj a b (gz.below a ha) (gz.below b hb) h)
  have n2 : ((rings (fn' m) m.length).map fun r => S (r.map (fn' g))).Nodup := by
    have := S_nodup (R := (rings (fn' m) m.length).map (List.map (fn' g))) (fun r hr => by
      obtain ⟨q, hq, rfl⟩ := List.mem_map.mp hr
      rw [List.length_map]
      exact (len_in pm hq).1) once2
    rw [List.map_map] at this
    exact this
  -- a ring p's image is the ring of its image
  have same : ∀ p, p < m.length → ∀ r' ∈ rings (fn' (turnL m g)) m.length, fn' g p ∈ r' → S r' = S ((ringOf (fn' m) m.length p).map (fn' g)) := by
    intro p hp r' hr' hin
    obtain ⟨q, hq, rfl⟩ := gt.each r' hr'
    obtain ⟨ln, eL, no⟩ := lenOf_ok pm hp
    obtain ⟨ln2, eL2, no2⟩ := lenOf_ok pt hq
    have L1 := lenOf_pos (fn' m) m.length p
    have L2 := lenOf_pos (fn' (turnL m g)) m.length q
    obtain ⟨a, ha, ea⟩ := ring_mem.mp hin
    have pr : (ringOf (fn' (turnL m g)) m.length q).Perm ((ringOf (fn' m) m.length p).map (fn' g)) := by
      refine (List.perm_ext_iff_of_nodup (ring_nodup pt hq no2) ?_).mpr fun x => ?_
      · rw [List.Nodup, List.pairwise_map]
        refine List.Pairwise.imp_of_mem ?_ (ring_nodup pm hp no)
        intro u v hu hv ne h
        obtain ⟨k1, _, rfl⟩ := ring_mem.mp hu
        obtain ⟨k2, _, rfl⟩ := ring_mem.mp hv
        exact ne (inj _ _ (it_lt pm hp k1) (it_lt pm hp k2) h)
      · constructor
        · intro hx
          obtain ⟨k, hk, rfl⟩ := ring_mem.mp hx
          have back : q = it (fn' (turnL m g)) (lenOf (fn' (turnL m g)) m.length q - a) (fn' g p) := by
            rw [ea, ← it_add, show lenOf (fn' (turnL m g)) m.length q - a + a = lenOf (fn' (turnL m g)) m.length q by omega, eL2]
          refine List.mem_map.mpr ⟨it (fn' m) ((k + (lenOf (fn' (turnL m g)) m.length q - a)) % lenOf (fn' m) m.length p) p, ring_mem.mpr ⟨_, Nat.mod_lt _ (by omega), rfl⟩, ?_⟩
          rw [← it_mod eL, ← it_turn hm hg e hp, it_add, ← back]
        · intro hx
          obtain ⟨y, hy, rfl⟩ := List.mem_map.mp hx
          obtain ⟨k, hk, rfl⟩ := ring_mem.mp hy
          refine ring_mem.mpr ⟨(k + a) % lenOf (fn' (turnL m g)) m.length q, Nat.mod_lt _ (by omega), ?_⟩
          rw [← it_mod eL2, it_add, ← ea, it_turn hm hg e hp]
    refine S_uniq ((S_perm _).trans (pr.map _)) (S_sorted _)
  refine (List.perm_ext_iff_of_nodup n1 n2).mpr fun z => ?_
  constructor
  · intro hz
    obtain ⟨r', hr', rfl⟩ := List.mem_map.mp hz
    obtain ⟨q, hq, eq⟩ := gt.each r' hr'
    obtain ⟨p, hp, egp⟩ := onto pg (k := q) (by omega)
    have hp' : p < m.length := by omega
    obtain ⟨r, hr, hpr⟩ := List.mem_flatten.mp (gz.all p hp')
    obtain ⟨p0, hp0, er⟩ := gz.each r hr
    rw [er] at hpr
    obtain ⟨k, hk, ek⟩ := ring_mem.mp hpr
    have gin : fn' g p ∈ r' := by
      rw [egp, eq]
      exact ring_mem.mpr ⟨0, by have := lenOf_pos (fn' (turnL m g)) m.length q; omega, rfl⟩
    have gin0 : fn' g p0 ∈ r' := by
      -- p0 is reached from p
      obtain ⟨ln, eL, no⟩ := lenOf_ok pm hp0
      have : p0 = it (fn' m) (lenOf (fn' m) m.length p0 - k) p := by
        rw [ek, ← it_add, show lenOf (fn' m) m.length p0 - k + k = lenOf (fn' m) m.length p0 by omega, eL]
      rw [this, ← it_turn hm hg e hp', egp, eq]
      obtain ⟨ln2, eL2, no2⟩ := lenOf_ok pt hq
      rw [it_mod eL2]
      exact ring_mem.mpr ⟨_, Nat.mod_lt _ (by have := lenOf_pos (fn' (turnL m g)) m.length q; omega), rfl⟩
    refine List.mem_map.mpr ⟨r, hr, ?_⟩
    rw [er]
    exact (same p0 hp0 r' hr' gin0).symm
  · intro hz
    obtain ⟨r, hr, rfl⟩ := List.mem_map.mp hz
    obtain ⟨p, hp, rfl⟩ := gz.each r hr
    obtain ⟨r', hr', hin⟩ := List.mem_flatten.mp (gt.all (fn' g p) (by have := pg.lt p (by omega); omega))
    exact List.mem_map.mpr ⟨r', hr', same p hp r' hr' hin⟩
end K05

set_option Elab.async false
set_option linter.all false
set_option maxRecDepth 100000
set_option maxHeartbeats 2000000
namespace K05
open PySem PySem.Spec PyProof.Rows L2 MM
/-! own words for the readings: a step, its side -/
local macro_rules | `(tactic| walk_at "side") => `(tactic| first
  | omega
  | exact ⟨by omega, by omega⟩
  | exact Or.inl ⟨by omega, by omega⟩
  | exact Or.inr ⟨by omega, by omega⟩
  | (show CPw _ _; decide +kernel)
  | (show (0 : Int) < _; decide +kernel)
  | (show CDivW _ _; first | assumption | exact ⟨by decide, by decide +kernel⟩))
local macro_rules | `(tactic| walk_at "here") => `(tactic| first
  | assumption
  | exact upd_same
  | exact Or.inl (Or.inl upd_same)
  | exact Or.inl upd_same)
local macro_rules | `(tactic| walk_at "one") => `(tactic| first
  | refine ⟨_, rfl, ?_⟩
  | refine Or.inl ⟨_, rfl, ?_⟩
  | refine Or.inr ⟨_, rfl, ?_⟩
  | refine ⟨_, _, rfl, rfl, (by walk_at "side"), ?_⟩
  | refine ⟨_, _, rfl, rfl, ?_⟩
  | refine ⟨_, _, rfl, Or.inl (by walk_at "here"), ?_⟩
  | refine ⟨_, _, rfl, Or.inr (by walk_at "here"), ?_⟩
  | refine ⟨_, _, rfl, (by walk_at "here"), ?_⟩
  | refine ⟨_, _, _, _, rfl, rfl, (by walk_at "here"), rfl, ?_⟩
  | refine ⟨_, _, rfl, ?_⟩
  | refine ifT (by rfl) ?_
  | refine ifF (by rfl) ?_
  | refine ifT (decide_eq_true (by omega)) ?_
  | refine ifF (decide_eq_false (by omega)) ?_)
local macro_rules | `(tactic| walk_at "st") => `(tactic| repeat (walk_at "one"))

section
variable {P : Program} {w : World} {K : PySem.W.Frag} {mg : Str → Option Value} {base : Heap}
/-- what stands while moves are turned -/
structure M3 (K : PySem.W.Frag) (p a b c : Addr) (m g h : List Nat) (H Hn : Hp) : Prop where
  up : Upto p H Hn
  sa : SqT K Hn a (mv m)
  sb : SqT K Hn b (mv g)
  sc : SqT K Hn c (mv h)
theorem M3.same {p a b c : Addr} {m g h : List Nat} {H Hn H' : Hp} (i : M3 K p a b c m g h H Hn) (s : Same Hn H') : M3 K p a b c m g h H H' :=
  ⟨i.up.keep s, same_sqt s i.sa, same_sqt s i.sb, same_sqt s i.sc⟩
theorem M3.upto {p a b c : Addr} {m g h : List Nat} {H Hn H' : Hp} (i : M3 K p a b c m g h H Hn) (s : Upto p Hn H') : M3 K p a b c m g h H H' :=
  ⟨i.up.trans s, up_sqt s i.up.bag i.sa, up_sqt s i.up.bag i.sb, up_sqt s i.up.bag i.sc⟩
def spChain (K : PySem.W.Frag) : Sp := fun vs H Q _ => ∃ (p : Addr) (n : Nat), vs = [.ref p, .int (n : Int)] ∧ BagAt H p ∧ 1 ≤ n ∧ n ≤ 24 ∧ ∀ H', Upto p H H' → Q (.bl true) H'
theorem scChainRightL : FnScope ["_law_bag_here", "_law_places", "_law_one", "_law_by", "_law_more", "_law_turn", "_law_here", "_law_other", "_law_number"] ["_law_bag_here", "_law_places"] (defScope sChainRightL) :=
  ⟨rfl, rfl, rfl, by decide +kernel, rfl, by decide +kernel, by decide +kernel⟩
theorem dChainRightL (T : Tx K mg) (DMixedL : Def P w K mg base CX0 2 "_law_mixed" ["_law_bag_here", "_law_items"] (spMixed K)) (DTurnedMove : Def P w K mg base CX0 6 "turned_move" ["move", "by"] (spTurn K)) (DLotUndoneL : Def P w K mg base CX0 1 "_law_lot_undone" ["_law_move"] (spBack K)) (DLotTimesL : Def P w K mg base CX0 1 "_law_lot_times" ["_law_one", "_law_other"] (spComp K)) (DGrabL : Def P w K mg base CX0 1 "_law_grab" ["_law_bag_here", "_law_total"] spGrab) (DPowerOf : Def P w K mg base CX0 5 "power_of" ["move", "number"] (spPowOf K)) : Def P w K mg base CX0 7 "_law_chain_right" ["_law_bag_here", "_law_places"] (spChain K) := by
  refine T.t_law_chain_right.def_ (N := ["_law_bag_here", "_law_places", "_law_one", "_law_by", "_law_more", "_law_turn", "_law_here", "_law_other", "_law_number"]) scChainRightL (fun _ _ _ _ _ _ us hl => match us, hl with | [_, _], _ => rfl) ?_ ?_
  · intro vs H Q E h
    obtain ⟨p, n, rfl, _⟩ := h
    rfl
  · intro f cd A out s H vs Q E hr h
    have hr1 : Rm 6 _ := hr.le (by decide)
    obtain ⟨p, n, rfl, hb, n1, n24, q⟩ := h
    refine ⟨_, (pss_cons (ps_asg (pe_lc (own := [("_law_turn", 5)]) (g := gName 5) (tt := tYes) rfl scChainRightL.nd (pi_range1 rfl T.f_range (pa_cons pe_int pa_nil)) (blkOk_by (N := ["_law_bag_here", "_law_places", "_law_one", "_law_by", "_law_more", "_law_turn", "_law_here", "_law_other", "_law_number"]) (sc := defScope sChainRightL) (by decide +kernel)) (fun _ _ _ _ _ => pg_name (i := 5) scChainRightL.nd rfl (Or.inl rfl)) (fun _ _ _ _ _ => pts_nil) (fun _ _ _ _ _ => (pe_callTy (show CallR _ _ (rTupOf K) from call_tuple_of) rfl T.f_tuple (by decide +kernel) (pa_cons (pe_d DMixedL (hr1.le (by decide)) pass0 (pa_cons (pv 0) (pa_cons (pe_listRg rfl rfl T.f_list (prg_1 rfl T.f_range (pv 1))) pa_nil))) pa_nil)))) (pg_lst rfl (pgs_cons (pg_name (i := 2) scChainRightL.nd rfl (Or.inl rfl)) (pgs_cons (pg_name (i := 3) scChainRightL.nd rfl (Or.inl rfl)) (pgs_cons (pg_name (i := 4) scChainRightL.nd rfl (Or.inl rfl)) pgs_nil)))))
      (pss_cons (ps_set (i := 6) scChainRightL.nd rfl (Or.inl rfl) (pe_d DTurnedMove (hr1.le (by decide)) pass0 (pa_cons (pv 2) (pa_cons (pv 3) pa_nil))))
      (pss_cons (ps_if (PW.pt (pw_or (pt_cmpR (op_neD hr.hu) (pe_d DTurnedMove (hr1.le (by decide)) pass0 (pa_cons (pv 6) (pa_cons (pv 4) pa_nil))) (pe_d DTurnedMove (hr1.le (by decide)) pass0 (pa_cons (pv 2) (pa_cons (pe_d DLotTimesL (hr1.le (by decide)) pass0 (pa_cons (pv 4) (pa_cons (pv 3) pa_nil))) pa_nil))) (nomark _)) (pw_or1 (pt_cmpR (op_neD hr.hu) (pe_d DTurnedMove (hr1.le (by decide)) pass0 (pa_cons (pv 6) (pa_cons (pe_d DLotUndoneL (hr1.le (by decide)) pass0 (pa_cons (pv 3) pa_nil)) pa_nil))) (pv 2) (nomark _))))) (pss_one (ps_ret pe_bl)) pss_nil)
      (pss_cons (ps_set (i := 7) scChainRightL.nd rfl (Or.inl rfl) (pe_d DTurnedMove (hr1.le (by decide)) pass0 (pa_cons (pv 4) (pa_cons (pv 3) pa_nil))))
      (pss_cons (ps_if (PW.pt (pw_or (pt_cmpR (op_neD hr.hu) (pe_d DTurnedMove (hr1.le (by decide)) pass0 (pa_cons (pe_d DLotTimesL (hr1.le (by decide)) pass0 (pa_cons (pv 2) (pa_cons (pv 4) pa_nil))) (pa_cons (pv 3) pa_nil))) (pe_d DLotTimesL (hr1.le (by decide)) pass0 (pa_cons (pv 6) (pa_cons (pv 7) pa_nil))) (nomark _)) (pw_or1 (pt_cmpR (op_neD hr.hu) (pe_d DTurnedMove (hr1.le (by decide)) pass0 (pa_cons (pv 3) (pa_cons (pv 3) pa_nil))) (pv 3) (nomark _))))) (pss_one (ps_ret pe_bl)) pss_nil)
      (pss_cons (ps_set (i := 8) scChainRightL.nd rfl (Or.inl rfl) (pe_op op_sub (pe_d DGrabL (hr1.le (by decide)) pass0 (pa_cons (pv 0) (pa_cons pe_int pa_nil))) pe_int))
      (pss_one (ps_ret (pe_cmpR (op_eqD hr.hu) (pe_d DTurnedMove (hr1.le (by decide)) pass0 (pa_cons (pe_d DPowerOf (hr1.le (by decide)) pass0 (pa_cons (pv 2) (pa_cons (pv 8) pa_nil))) (pa_cons (pv 3) pa_nil))) (pe_d DPowerOf (hr1.le (by decide)) pass0 (pa_cons (pv 6) (pa_cons (pv 8) pa_nil))) (nomark _)))))))))), ?_⟩
    obtain ⟨b1, b2, b3, eb⟩ := hb
    refine ⟨3, rfl, by decide, by decide, fun D nD => ?_⟩
    have Dp : D ≠ p := (ne_of_none eb nD).symm
    have up0 := (Upto.refl ⟨_, _, _, eb⟩).new (o := .lst []) nD
    refine lc_range (Pv := fun i H3 => Upto p H H3 ∧ ∃ (us : List V) (R : List (List Nat)), H3 D = some (.lst us) ∧ Refs K H3 us R ∧ R.length = i ∧ ∀ m ∈ R, Mv m ∧ m.length = n) ⟨up0, [], [], upd_same, .nil, rfl, by simp⟩ ?_ ?_
    · rintro i H3 hi ⟨up, us, R, hD, rf, lR, all⟩
      refine ⟨wipe_one, yes_ ?_⟩
      refine ⟨_, rfl, _, rfl, _, rfl, ⟨by omega, by omega, by omega, by omega, by omega⟩, fun l fl => ?_⟩
      rw [rg_mv]
      have lp : l ≠ p := (up.free fl).1
      have up1 := up.new (o := .lst (mv (List.range n))) fl
      have s1 := same_new (o := .lst (mv (List.range n))) fl
      have L : (upd H3 l (.lst (mv (List.range n)))) l = some (.lst (mv (List.range n))) := upd_same
      replace hD := s1 _ _ hD
      replace rf := rf.same s1
      generalize upd H3 l _ = H4 at up1 L hD rf ⊢
      refine ⟨p, l, _, rfl, up1.bag, .inl (.inl L), lp, by rw [mv_len, List.length_range]; omega, fun H5 t ys up3 ft pm ht => ?_⟩
      obtain ⟨m, rfl, pm2⟩ := mv_range_perm pm
      obtain ⟨hm, lm⟩ := mv_of_perm pm2 n1 n24
      replace hD := lst_upto up3 Dp hD
      replace rf := refs_upto up3 up1.bag rf
      have up4 := up1.trans up3
      refine ⟨t, _, rfl, .inl ⟨.inl (.inl ht), fun u fu => ?_⟩⟩
      have s5 := same_new (o := .tup (mv m)) fu
      have Du : D ≠ u := ne_of_none hD fu
      have lus : us.length = R.length := Paired.length rf
      refine ⟨us, s5 _ _ hD, Nat.lt_of_le_of_lt (by omega : us.length ≤ 1000) (by decide), ?_, us ++ [.ref u], R ++ [m], upd_same, ?_, by rw [List.length_append, lR]; rfl, fun q hq => ?_⟩
      · exact (up4.keep s5).put Dp nD
      · exact ((rf.same s5).upd (s5 _ _ hD)).snoc (sqt_lst (.inl (.inl upd_same)) (s5 _ _ hD))
      · rcases List.mem_append.mp hq with z | z
        · exact all q z
        · rw [List.mem_singleton.mp z]
          exact ⟨hm, lm⟩
    rintro H3 ⟨up, us, R, hD, rf, lR, all⟩
    obtain ⟨m, g, h, rfl⟩ : ∃ m g h, R = [m, g, h] := by
      match R, lR with
      | [m, g, h], _ => exact ⟨m, g, h, rfl⟩
    unfold Refs at rf
    obtain ⟨a, b, c, rfl, Sa, Sb, Sc⟩ : ∃ a b c, us = [.ref a, .ref b, .ref c] ∧ SqT K H3 a (mv m) ∧ SqT K H3 b (mv g) ∧ SqT K H3 c (mv h) := by
      cases rf with
      | cons h1 t =>
        cases t with
        | cons h2 t =>
          cases t with
          | cons h3 t =>
            cases t
            obtain ⟨a, rfl, A⟩ := h1
            obtain ⟨b, rfl, B⟩ := h2
            obtain ⟨c, rfl, C⟩ := h3
            exact ⟨a, b, c, rfl, A, B, C⟩
    obtain ⟨hm, lm⟩ := all m (by simp)
    obtain ⟨hg, lg⟩ := all g (by simp)
    obtain ⟨hh, lh⟩ := all h (by simp)
    clear all rf
    have emg : m.length = g.length := by rw [lm, lg]
    have ehg : h.length = g.length := by rw [lh, lg]
    refine ⟨D, _, rfl, .inl (.inl hD), rfl, _, _, rfl, ?_⟩
    refine ⟨_, _, rfl, ?_⟩
    refine ⟨_, _, rfl, rfl, ?_⟩
    have I : M3 K p a b c m g h H H3 := ⟨up, Sa, Sb, Sc⟩
    clear up Sa Sb Sc hD nD up0
    have ht := turn_mv hm hg emg
    have lt : (turnL m g).length = m.length := turn_len emg
    refine ⟨_, rfl, _, rfl, a, b, m, g, rfl, I.sa, I.sb, hm, hg, emg, fun H4 t1 S4 T1 => ?_⟩
    replace I := I.same S4
    -- turned twice, and back
    refine ⟨_, rfl, _, rfl, t1, c, turnL m g, h, rfl, T1, I.sc, ht, hh, by rw [lt, lm, lh], fun H5 t2 S5 T2 => ?_⟩
    replace I := I.same S5
    replace T1 := same_sqt S5 T1
    refine ⟨_, rfl, _, rfl, _, rfl, c, b, h, g, rfl, I.sc, I.sb, by omega, fun k hk => by rw [ehg]; exact hg.2.1 k hk, fun H6 t3 S6 T3 => ?_⟩
    replace I := I.same S6
    replace T1 := same_sqt S6 T1
    replace T2 := same_sqt S6 T2
    have hc := comp_mv hh hg ehg
    refine ⟨a, t3, m, comp h g, rfl, I.sa, T3, hm, hc, by rw [comp_len, emg], fun H7 t4 S7 T4 => ?_⟩
    replace I := I.same S7
    replace T1 := same_sqt S7 T1
    replace T2 := same_sqt S7 T2
    rw [turn_turn hm hg hh emg ehg] at T2
    refine neT T2 T4 ?_
    refine ⟨_, rfl, ?_⟩
    refine ifF (ne_self _) ?_
    clear T2 T3 T4 S4 S5 S6 S7
    refine ⟨_, rfl, _, rfl, b, g, rfl, I.sb, by omega, hg.2.1, fun H8 t2 S8 T2 => ?_⟩
    replace I := I.same S8
    replace T1 := same_sqt S8 T1
    refine ⟨t1, t2, turnL m g, back g, rfl, T1, T2, ht, back_mv hg, by rw [lt, back_len, emg], fun H9 t3 S9 T3 => ?_⟩
    replace I := I.same S9
    replace T1 := same_sqt S9 T1
    rw [turn_back hm hg emg] at T3
    refine ⟨_, rfl, neT T3 I.sa ?_⟩
    refine ⟨_, rfl, ?_⟩
    refine ifF (ne_self _) ?_
    clear T2 T3 S8 S9
    -- products
    refine ⟨_, rfl, _, rfl, c, b, h, g, rfl, I.sc, I.sb, hh, hg, ehg, fun H10 t5 S10 T5 => ?_⟩
    replace I := I.same S10
    replace T1 := same_sqt S10 T1
    refine ⟨_, rfl, _, rfl, a, c, m, h, rfl, I.sa, I.sc, by omega, fun k hk => by rw [lm, ← lh]; exact hh.2.1 k hk, fun H11 t6 S11 T6 => ?_⟩
    replace I := I.same S11
    replace T1 := same_sqt S11 T1
    replace T5 := same_sqt S11 T5
    have hmh := comp_mv hm hh (by rw [lm, lh])
    refine ⟨_, rfl, t6, b, comp m h, g, rfl, T6, I.sb, hmh, hg, by rw [comp_len, ehg], fun H12 t7 S12 T7 => ?_⟩
    replace I := I.same S12
    replace T1 := same_sqt S12 T1
    replace T5 := same_sqt S12 T5
    refine ⟨_, rfl, _, rfl, t1, t5, turnL m g, turnL h g, rfl, T1, T5, by rw [turn_len ehg]; omega, fun k hk => ?_, fun H13 t8 S13 T8 => ?_⟩
    · have := (turn_mv hh hg ehg).2.1 k hk
      rw [turn_len ehg] at this
      rw [lt]
      omega
    replace I := I.same S13
    replace T1 := same_sqt S13 T1
    rw [turn_comp hm hh hg emg ehg] at T7
    refine neT (same_sqt S13 T7) T8 ?_
    refine ⟨_, rfl, ?_⟩
    refine ifF (ne_self _) ?_
    clear T5 T6 T7 T8 S10 S11 S12 S13
    refine ⟨_, rfl, _, rfl, b, b, g, g, rfl, I.sb, I.sb, hg, hg, rfl, fun H14 t2 S14 T2 => ?_⟩
    replace I := I.same S14
    replace T1 := same_sqt S14 T1
    rw [turn_self hg] at T2
    refine ⟨_, rfl, neT T2 I.sb ?_⟩
    refine ⟨_, rfl, ?_⟩
    refine ifF (ne_self _) ?_
    clear T2 S14
    -- powers
    obtain ⟨b1, b2, b3, eb2⟩ := I.up.bag
    refine ⟨_, rfl, p, _, b1, b2, b3, rfl, eb2, ⟨by decide, by decide⟩, fun r x1 x2 x3 r0 r1 => ?_⟩
    have ud := up_draw (g' := x1) (m' := x2) (c' := x3) eb2
    replace T1 := up_sqt ud I.up.bag T1
    replace I := I.upto ud
    clear ud eb2
    generalize upd H14 p _ = H15 at I T1 ⊢
    refine ⟨_, _, rfl, rfl, ?_⟩
    refine ⟨_, rfl, _, rfl, a, m, r - 6, rfl, I.sa, hm, by omega, by omega, fun H16 t2 S16 T2 => ?_⟩
    replace I := I.same S16
    replace T1 := same_sqt S16 T1
    refine ⟨_, rfl, t2, b, pwL m (r - 6), g, rfl, T2, I.sb, pwL_mv hm _, hg, by rw [pwL_len, emg], fun H17 t3 S17 T3 => ?_⟩
    replace I := I.same S17
    replace T1 := same_sqt S17 T1
    refine ⟨_, rfl, _, rfl, t1, turnL m g, r - 6, rfl, T1, ht, by omega, by omega, fun H18 t4 S18 T4 => ?_⟩
    replace I := I.same S18
    replace T4 : SqT K H18 t4 (mv (pwL (turnL m g) (r - 6))) := T4
    rw [← turn_pow hm hg emg] at T4
    refine eqT (same_sqt S18 T3) T4 ?_
    rw [decide_eq_true rfl]
    exact q _ I.up
end
end K05


set_option Elab.async false
set_option linter.all false
set_option maxRecDepth 100000
set_option maxHeartbeats 2000000
namespace K05
open PySem PySem.Spec PyProof.Rows L2 MM
/-! own words for the readings: a step, its side -/
local macro_rules | `(tactic| walk_at "side") => `(tactic| first
  | omega
  | exact ⟨by omega, by omega⟩
  | exact Or.inl ⟨by omega, by omega⟩
  | exact Or.inr ⟨by omega, by omega⟩
  | (show CPw _ _; decide +kernel)
  | (show (0 : Int) < _; decide +kernel)
  | (show CDivW _ _; first | assumption | exact ⟨by decide, by decide +kernel⟩))
local macro_rules | `(tactic| walk_at "here") => `(tactic| first
  | assumption
  | exact upd_same
  | exact Or.inl (Or.inl upd_same)
  | exact Or.inl upd_same)
local macro_rules | `(tactic| walk_at "one") => `(tactic| first
  | refine ⟨_, rfl, ?_⟩
  | refine Or.inl ⟨_, rfl, ?_⟩
  | refine Or.inr ⟨_, rfl, ?_⟩
  | refine ⟨_, _, rfl, rfl, (by walk_at "side"), ?_⟩
  | refine ⟨_, _, rfl, rfl, ?_⟩
  | refine ⟨_, _, rfl, Or.inl (by walk_at "here"), ?_⟩
  | refine ⟨_, _, rfl, Or.inr (by walk_at "here"), ?_⟩
  | refine ⟨_, _, rfl, (by walk_at "here"), ?_⟩
  | refine ⟨_, _, _, _, rfl, rfl, (by walk_at "here"), rfl, ?_⟩
  | refine ⟨_, _, rfl, ?_⟩
  | refine ifT (by rfl) ?_
  | refine ifF (by rfl) ?_
  | refine ifT (decide_eq_true (by omega)) ?_
  | refine ifF (decide_eq_false (by omega)) ?_)
local macro_rules | `(tactic| walk_at "st") => `(tactic| repeat (walk_at "one"))

section
variable {P : Program} {w : World} {K : PySem.W.Frag} {mg : Str → Option Value} {base : Heap}
theorem mix_ok {p : Addr} {n : Nat} {tl : TE} {σ : L2.St} {H : Hp} {Q : VK} (e0 : σ[0]? = some (some (.ref p))) (hb : BagAt H p) (n1 : 1 ≤ n) (n24 : n ≤ 24)
    (htl : ∀ (H' : Hp) (Q' : VK), (∀ l, H' l = none → Q' (.ref l) (upd H' l (.lst (mv (List.range n))))) → tl σ H' Q')
    (q : ∀ H' t m, Upto p H H' → SqT K H' t (mv m) → Mv m → m.length = n → Q (.ref t) H') :
    tCB (rTupOf K) (tCons (tD (spMixed K) E0 (tCons (tVar 0) (tCons tl tNil))) tNil) σ H Q := by
  have up := Upto.refl hb
  refine ⟨_, e0, htl _ _ fun l fl => ?_⟩
  have lp : l ≠ p := (up.free fl).1
  have up1 := up.new (o := .lst (mv (List.range n))) fl
  have L : (upd H l (.lst (mv (List.range n)))) l = some (.lst (mv (List.range n))) := upd_same
  generalize upd H l _ = H4 at up1 L ⊢
  refine ⟨p, l, _, rfl, up1.bag, .inl (.inl L), lp, by rw [mv_len, List.length_range]; omega, fun H5 t ys up3 ft pm ht => ?_⟩
  obtain ⟨m, rfl, pm2⟩ := mv_range_perm pm
  obtain ⟨hm, lm⟩ := mv_of_perm pm2 n1 n24
  have up4 := up1.trans up3
  exact ⟨t, _, rfl, .inl ⟨.inl (.inl ht), fun u fu => q _ u m (up4.new fu) (.inl (.inl upd_same)) hm lm⟩⟩
/-- values, each a list of ints -/
def PL (K : PySem.W.Frag) (D : Addr) (H : Hp) (zs : List (V × List Int)) : Prop := ∀ b ∈ zs, ∃ t, b.1 = .ref t ∧ t ≠ D ∧ SqL K H t (b.2.map V.int)
theorem PL.same {D : Addr} {H H' : Hp} {zs : List (V × List Int)} (h : PL K D H zs) (s : Same H H') : PL K D H' zs := fun b hb =>
  let ⟨t, e, n, S⟩ := h b hb
  ⟨t, e, n, s.seq S⟩
theorem PL.put {D : Addr} {H : Hp} {zs : List (V × List Int)} {o : HO} (h : PL K D H zs) : PL K D (upd H D o) zs := fun b hb =>
  let ⟨t, e, n, S⟩ := h b hb
  ⟨t, e, n, sql_upd S n⟩
theorem PL.snoc {D : Addr} {H : Hp} {zs : List (V × List Int)} {t : Addr} {ns : List Int} (h : PL K D H zs) (n : t ≠ D) (S : SqL K H t (ns.map V.int)) : PL K D H (zs ++ [(.ref t, ns)]) := fun b hb => by
  rcases List.mem_append.mp hb with z | z
  · exact h b z
  · rw [List.mem_singleton.mp z]
    exact ⟨t, rfl, n, S⟩
def LL (K : PySem.W.Frag) (H : Hp) (zs : List (V × List Int)) : Prop := ∀ b ∈ zs, ∃ t, b.1 = .ref t ∧ SqL K H t (b.2.map V.int)
theorem LL.same {H H' : Hp} {zs : List (V × List Int)} (h : LL K H zs) (s : Same H H') : LL K H' zs := fun b hb =>
  let ⟨t, e, S⟩ := h b hb
  ⟨t, e, s.seq S⟩
theorem PL.ll {D : Addr} {H : Hp} {zs ws : List (V × List Int)} (h : PL K D H zs) (p : ws.Perm zs) : LL K H ws := fun b hb =>
  let ⟨t, e, n, S⟩ := h b (p.mem_iff.mp hb)
  ⟨t, e, S⟩
def dI (ns : List Int) : PyData := .list (ns.map .int)
theorem dp_ll {H : Hp} : ∀ {zs : List (V × List Int)}, LL K H zs → DpAll K H (zs.map Prod.fst) ((zs.map Prod.snd).map dI)
  | [], _ => .nil
  | b :: zs, h => by
    obtain ⟨t, e, S⟩ := h b (by simp)
    have ih := dp_ll fun b hb => h b (List.mem_cons_of_mem _ hb)
    rw [List.map_cons, List.map_cons, List.map_cons, e]
    exact .cons (.lst S (dp_ints _)) ih
theorem dIs_eqv : ∀ R Z : List (List Int), PyData.eqvAll (R.map dI) (Z.map dI) = decide (R = Z)
  | [], [] => rfl
  | [], _ :: _ => rfl
  | _ :: _, [] => rfl
  | r :: R, z :: Z => by
    show (PyData.eqv (dI r) (dI z) && PyData.eqvAll (R.map dI) (Z.map dI)) = _
    rw [dIs_eqv R Z, show PyData.eqv (dI r) (dI z) = PyData.eqvAll (r.map .int) (z.map .int) from rfl, eqvAll_ints, ← Bool.decide_and]
    exact decide_eq_decide.mpr (by rw [List.cons.injEq])
theorem lay_dIs : ∀ R : List (List Int), PyData.canLayAll0 (R.map dI) = true
  | [] => rfl
  | r :: R => by
    show (PyData.canLay0 (dI r) && PyData.canLayAll0 (R.map dI)) = true
    rw [lay_dIs R, show PyData.canLay0 (dI r) = true from lay_ints _]
    rfl
theorem dep_dIs : ∀ R : List (List Int), PyData.depthAll (R.map dI) ≤ 3
  | [] => by decide
  | r :: R => by
    have := dep_dIs R
    have h := dep_ints r
    have h2 : PyData.depth (dI r) ≤ 2 := by
      unfold dI
      simp only [PyData.depth]
      omega
    simp only [List.map_cons, PyData.depthAll]
    omega
theorem shaped_dIs (R : List (List Int)) : SeqAt.shaped (.list (R.map dI)) = true := by
  unfold SeqAt.shaped
  have h := dep_dIs R
  rw [show PyData.canLay0 (.list (R.map dI)) = true from lay_dIs R, Bool.true_and]
  refine decide_eq_true ?_
  simp only [PyData.depth]
  omega
theorem neLL {H : Hp} {a b : Addr} {zs ws : List (V × List Int)} {Q : VK} (S : SqL K H a (zs.map Prod.fst)) (r : LL K H zs) (S2 : SqL K H b (ws.map Prod.fst)) (r2 : LL K H ws) (q : Q (.bl (!decide (zs.map Prod.snd = ws.map Prod.snd))) H) : rNeD K (.ref a) (.ref b) H Q :=
  ⟨.list ((zs.map Prod.snd).map dI), .list ((ws.map Prod.snd).map dI), .lst S (dp_ll r), .lst S2 (dp_ll r2), shaped_dIs _, shaped_dIs _, by
    rw [show PyData.eqv (.list ((zs.map Prod.snd).map dI)) (.list ((ws.map Prod.snd).map dI)) = PyData.eqvAll ((zs.map Prod.snd).map dI) ((ws.map Prod.snd).map dI) from rfl, dIs_eqv]
    exact q⟩
theorem ite_go {c : Bool} {A : Prop} {k : Hp → Prop} {H : Hp} (ha : c = true → (∀ H', Same H H' → k H') → A) (go : ∀ H', Same H H' → k H') : if c = true then A else k H := by
  by_cases h : c = true
  · rw [if_pos h]
    exact ha h go
  · rw [if_neg h]
    exact go H (Same.refl H)
/-- values that can be judged -/
def Vl (K : PySem.W.Frag) (H : Hp) (v : V) : Prop := ∃ o, Rv K H v o ∧ ∀ xs, o = some xs → xs.length ≤ 1000
def Vls (K : PySem.W.Frag) (H : Hp) (vs : List V) : Prop := ∀ x ∈ vs, Vl K H x
theorem Vl.same {H H' : Hp} {v : V} (h : Vl K H v) (s : Same H H') : Vl K H' v := let ⟨o, r, l⟩ := h; ⟨o, r.same s, l⟩
theorem Vls.same {H H' : Hp} {vs : List V} (h : Vls K H vs) (s : Same H H') : Vls K H' vs := fun x hx => (h x hx).same s
theorem Vls.snoc {H : Hp} {vs : List V} {x : V} (h : Vls K H vs) (b : Vl K H x) : Vls K H (vs ++ [x]) := fun y hy => by
  rcases List.mem_append.mp hy with z | z
  · exact h y z
  · rw [List.mem_singleton.mp z]
    exact b
theorem vl_mv {H : Hp} {a : Addr} {m : List Nat} (S : SqT K H a (mv m)) (l : m.length ≤ 1000) : Vl K H (.ref a) := ⟨some (mv m), rv_mv S, fun xs e => by rw [← Option.some.inj e, mv_len]; exact l⟩
theorem vl_kd {H : Hp} {x : V} {k : Kn} (h : Kd K H x k) (ne : k.isa .tup = false) : Vl K H x := ⟨none, .no h ne, fun xs e => by cases e⟩
theorem vl_tup {H : Hp} {a : Addr} {xs : List V} (S : SqT K H a xs) (m : ∀ y, y ∈ xs → ∃ n, Kd K H y n) (l : xs.length ≤ 1000) : Vl K H (.ref a) := ⟨some xs, .yes S m, fun ys e => by rw [← Option.some.inj e]; exact l⟩
/-- what is told as a turning move -/
def Tv (K : PySem.W.Frag) (H : Hp) (m l : List Nat) (v : V) : Prop := (∃ t g, v = .ref t ∧ SqT K H t (mv g) ∧ Mv g ∧ g.length = m.length ∧ turnL m g = l ∧ lensI m = lensI l) ∨ (v = .non ∧ lensI m ≠ lensI l)
theorem rb1 (b : Bool) : SeqAt.shaped (.bool b) = true := by cases b <;> rfl
theorem rb2 (b : Bool) : (PyData.bool b).showable = true := by cases b <;> rfl
theorem rb3 (b : Bool) : (PyData.bool b).shown.length ≤ sizeLine := by cases b <;> decide +kernel
theorem Tv.same {H H' : Hp} {m l : List Nat} {v : V} (h : Tv K H m l v) (s : Same H H') : Tv K H' m l v := by
  rcases h with ⟨t, g, e, S, r⟩ | h
  · exact .inl ⟨t, g, e, same_sqt s S, r⟩
  · exact .inr h
theorem turning_cases {H : Hp} {a b : Addr} {m l : List Nat} {Q : VK} {E : XK} (Sa : SqT K H a (mv m)) (Sb : SqT K H b (mv l)) (hm : Mv m) (hl : Mv l) (e : m.length = l.length)
    (q : ∀ H' v, Same H H' → Tv K H' m l v → Q v H') : spTurning K [.ref a, .ref b] H Q E :=
  ⟨a, b, m, l, rfl, Sa, Sb, hm, hl, e, fun h H' t g s S hg lg tg => q H' _ s (.inl ⟨t, g, rfl, S, hg, lg, tg, h⟩), fun h H' s => q H' _ s (.inr ⟨rfl, h⟩)⟩
/-- what stands while moves are turned -/
structure N4 (K : PySem.W.Frag) (p a b c o : Addr) (m g h : List Nat) (H Hn : Hp) : Prop where
  up : Upto p H Hn
  sa : SqT K Hn a (mv m)
  sb : SqT K Hn b (mv g)
  sc : SqT K Hn c (mv h)
  so : SqT K Hn o (mv (turnL m g))
theorem N4.same {p a b c o : Addr} {m g h : List Nat} {H Hn H' : Hp} (i : N4 K p a b c o m g h H Hn) (s : Same Hn H') : N4 K p a b c o m g h H H' :=
  ⟨i.up.keep s, same_sqt s i.sa, same_sqt s i.sb, same_sqt s i.sc, same_sqt s i.so⟩
theorem scTurnsRightL : FnScope ["_law_bag_here", "_law_places", "_law_one", "_law_by", "_law_far", "_law_other", "_law_rings", "_law_place", "_law_ring", "_law_goal", "_law_told", "_law_some", "_law_value"] ["_law_bag_here", "_law_places"] (defScope sTurnsRightL) :=
  ⟨rfl, rfl, rfl, by decide +kernel, rfl, by decide +kernel, by decide +kernel⟩
theorem dTurnsRightL (T : Tx K mg) (DMixedL : Def P w K mg base CX0 2 "_law_mixed" ["_law_bag_here", "_law_items"] (spMixed K)) (DOwnTurnedL : Def P w K mg base CX0 2 "_law_own_turned" ["_law_move", "_law_by"] (spTurn K)) (DOwnRingsL : Def P w K mg base CX0 1 "_law_own_rings" ["_law_move"] (spOwn K)) (DTurnedMove : Def P w K mg base CX0 6 "turned_move" ["move", "by"] (spTurn K)) (DTurningMove : Def P w K mg base CX0 6 "turning_move" ["one", "other"] (spTurning K)) (DIsTurningL : Def P w K mg base CX0 3 "_law_is_turning" ["_law_one", "_law_other", "_law_value"] (spIsTurning K)) (DLengthsL : Def P w K mg base CX0 2 "_law_lengths" ["_law_move"] (spLengths K)) (DLotTimesL : Def P w K mg base CX0 1 "_law_lot_times" ["_law_one", "_law_other"] (spComp K)) (DIsTurningMove : Def P w K mg base CX0 6 "is_turning_move" ["one", "other", "value"] (spIsTurning K)) : Def P w K mg base CX0 7 "_law_turns_right" ["_law_bag_here", "_law_places"] (spChain K) := by
  refine T.t_law_turns_right.def_ (N := ["_law_bag_here", "_law_places", "_law_one", "_law_by", "_law_far", "_law_other", "_law_rings", "_law_place", "_law_ring", "_law_goal", "_law_told", "_law_some", "_law_value"]) scTurnsRightL (fun _ _ _ _ _ _ us hl => match us, hl with | [_, _], _ => rfl) ?_ ?_
  · intro vs H Q E h
    obtain ⟨p, n, rfl, _⟩ := h
    rfl
  · intro f cd A out s H vs Q E hr h
    have hr1 : Rm 6 _ := hr.le (by decide)
    obtain ⟨p, n, rfl, hb, n1, n24, q⟩ := h
    refine ⟨_, (pss_cons (ps_asg (pe_tup (pa_cons (pe_callTy call_tuple_of rfl T.f_tuple (by decide +kernel) (pa_cons (pe_d DMixedL (hr1.le (by decide)) pass0 (pa_cons (pv 0) (pa_cons (pe_listRg rfl rfl T.f_list (prg_1 rfl T.f_range (pv 1))) pa_nil))) pa_nil)) (pa_cons (pe_callTy call_tuple_of rfl T.f_tuple (by decide +kernel) (pa_cons (pe_d DMixedL (hr1.le (by decide)) pass0 (pa_cons (pv 0) (pa_cons (pe_listRg rfl rfl T.f_list (prg_1 rfl T.f_range (pv 1))) pa_nil))) pa_nil)) pa_nil))) (pg_tup rfl (pgs_cons (pg_name (i := 2) scTurnsRightL.nd rfl (Or.inl rfl)) (pgs_cons (pg_name (i := 3) scTurnsRightL.nd rfl (Or.inr rfl)) pgs_nil))))
      (pss_cons (ps_par (i := 4) (j := 5) rfl scTurnsRightL.nd rfl rfl (by decide) rfl rfl (pa_cons (pe_callTy call_tuple_of rfl T.f_tuple (by decide +kernel) (pa_cons (pe_d DMixedL (hr1.le (by decide)) pass0 (pa_cons (pv 0) (pa_cons (pe_listRg rfl rfl T.f_list (prg_1 rfl T.f_range (pv 1))) pa_nil))) pa_nil)) (pa_cons (pe_d DOwnTurnedL (hr1.le (by decide)) pass0 (pa_cons (pv 2) (pa_cons (pv 3) pa_nil))) pa_nil)) (by rfl))
      (pss_cons (ps_set (i := 6) scTurnsRightL.nd rfl (Or.inl rfl) (pe_callB (show CallR _ _ (rSortedLI K) from cr_sortedLI hr.hu) rfl T.f_sorted (by decide +kernel) (pa_cons (pe_lc (own := [("_law_ring", 8)]) (g := gName 8) (tt := tYes) rfl scTurnsRightL.nd (pi_list (pe_d DOwnRingsL (hr1.le (by decide)) pass0 (pa_cons (pv 2) pa_nil))) (blkOk_by (N := ["_law_bag_here", "_law_places", "_law_one", "_law_by", "_law_far", "_law_other", "_law_rings", "_law_place", "_law_ring", "_law_goal", "_law_told", "_law_some", "_law_value"]) (sc := defScope sTurnsRightL) (by decide +kernel)) (fun _ _ _ _ _ => pg_name (i := 8) scTurnsRightL.nd rfl (Or.inl rfl)) (fun _ _ _ _ _ => pts_nil) (fun _ _ _ _ _ => (pe_callB (show CallR _ _ (rSortedI K) from cr_sortedI) rfl T.f_sorted (by decide +kernel) (pa_cons (pe_lc (own := [("_law_place", 7)]) (g := gName 7) (tt := tYes) rfl scTurnsRightL.nd (show PI _ _ _ (iTup K _) from pi_tup (pv 8)) (blkOk_by (N := ["_law_bag_here", "_law_places", "_law_one", "_law_by", "_law_far", "_law_other", "_law_rings", "_law_place", "_law_ring", "_law_goal", "_law_told", "_law_some", "_law_value"]) (sc := _) (by kernel_rfl)) (fun _ _ _ _ _ => pg_name (i := 7) scTurnsRightL.nd rfl (Or.inl rfl)) (fun _ _ _ _ _ => pts_nil) (fun _ _ _ _ _ => (pe_ix (show IxR _ (rIxT K) from ix_tup) (pv 3) (pv 7) (fun _ _ => rfl)))) pa_nil)))) pa_nil)))
      (pss_cons (ps_if (PW.pt (pw_or (pt_cmpR (op_neD hr.hu) (pe_d DTurnedMove (hr1.le (by decide)) pass0 (pa_cons (pv 2) (pa_cons (pv 3) pa_nil))) (pv 5) (nomark _)) (pw_or1 (pt_cmpR (op_neD hr.hu) (pe_callB (show CallR _ _ (rSortedLI K) from cr_sortedLI hr.hu) rfl T.f_sorted (by decide +kernel) (pa_cons (pe_lc (own := [("_law_ring", 8)]) (g := gName 8) (tt := tYes) rfl scTurnsRightL.nd (pi_list (pe_d DOwnRingsL (hr1.le (by decide)) pass0 (pa_cons (pe_d DTurnedMove (hr1.le (by decide)) pass0 (pa_cons (pv 2) (pa_cons (pv 3) pa_nil))) pa_nil))) (blkOk_by (N := ["_law_bag_here", "_law_places", "_law_one", "_law_by", "_law_far", "_law_other", "_law_rings", "_law_place", "_law_ring", "_law_goal", "_law_told", "_law_some", "_law_value"]) (sc := defScope sTurnsRightL) (by decide +kernel)) (fun _ _ _ _ _ => pg_name (i := 8) scTurnsRightL.nd rfl (Or.inl rfl)) (fun _ _ _ _ _ => pts_nil) (fun _ _ _ _ _ => (pe_callB (show CallR _ _ (rSortedIT K) from cr_sortedIT hr.hu) rfl T.f_sorted (by decide +kernel) (pa_cons (pv 8) pa_nil)))) pa_nil)) (pv 6) (nomark _))))) (pss_one (ps_ret pe_bl)) pss_nil)
      (pss_cons (ps_for PassesOwn.never rfl (pi_tup (pe_tup (pa_cons (pv 5) (pa_cons (pv 4) pa_nil)))) (pg_name (i := 9) scTurnsRightL.nd rfl (Or.inl rfl))
        (pss_cons (ps_set (i := 10) scTurnsRightL.nd rfl (Or.inl rfl) (pe_d DTurningMove (hr1.le (by decide)) pass0 (pa_cons (pv 2) (pa_cons (pv 9) pa_nil))))
        (pss_cons (ps_if (PW.pt (pw_or (pt_cmpR op_ne (pe_cmpR op_notN (pv 10) pe_non (nomark _)) (pe_cmpR (op_eqD hr.hu) (pe_d DLengthsL (hr1.le (by decide)) pass0 (pa_cons (pv 2) pa_nil)) (pe_d DLengthsL (hr1.le (by decide)) pass0 (pa_cons (pv 9) pa_nil)) (nomark _)) (nomark _)) (pw_or1 (PW.pt (pw_and (pt_cmpR op_notN (pv 10) pe_non (nomark _)) (pw_and1 (pt_not (pt_val (pe_d DIsTurningL (hr1.le (by decide)) pass0 (pa_cons (pv 2) (pa_cons (pv 9) (pa_cons (pv 10) pa_nil)))))))))))) (pss_one (ps_ret pe_bl)) pss_nil)
        (pss_cons (ps_set (i := 11) scTurnsRightL.nd rfl (Or.inl rfl) (pe_lst (pa_cons (pv 3) (pa_cons (pv 4) (pa_cons (pv 2) (pa_cons (pe_d DLotTimesL (hr1.le (by decide)) pass0 (pa_cons (pv 3) (pa_cons (pv 2) pa_nil))) (pa_cons (pe_callTy call_list_of rfl T.f_list (by decide +kernel) (pa_cons (pv 3) pa_nil)) (pa_cons (pe_op op_catA (pv 3) (pe_tup (pa_cons (pv 1) pa_nil))) (pa_cons pe_non (pa_cons pe_int (pa_cons pe_str (pa_cons (pe_callTy call_tuple_of rfl T.f_tuple (by decide +kernel) (pa_cons (pe_lc (own := [("_law_place", 7)]) (g := gName 7) (tt := tYes) rfl scTurnsRightL.nd (pi_tup (pv 3)) (blkOk_by (N := ["_law_bag_here", "_law_places", "_law_one", "_law_by", "_law_far", "_law_other", "_law_rings", "_law_place", "_law_ring", "_law_goal", "_law_told", "_law_some", "_law_value"]) (sc := defScope sTurnsRightL) (by decide +kernel)) (fun _ _ _ _ _ => pg_name (i := 7) scTurnsRightL.nd rfl (Or.inl rfl)) (fun _ _ _ _ _ => pts_nil) (fun _ _ _ _ _ => (pe_callTy call_str_int rfl T.f_str (by decide +kernel) (pa_cons (pv 7) pa_nil)))) pa_nil)) (pa_cons (pe_tup (pa_cons (pv 3) pa_nil)) pa_nil)))))))))))))
        (pss_one (ps_for PassesOwn.never rfl (pi_list (pe_op op_cat (pv 11) (pe_lst (pa_cons (pv 10) pa_nil)))) (pg_name (i := 12) scTurnsRightL.nd rfl (Or.inl rfl))
          (pss_one (ps_if (pt_cmpR op_ne (pe_callB (cr_repr hr.still hr.hu66) rfl T.f_repr (by decide +kernel) (pa_cons (pe_d DIsTurningMove (hr1.le (by decide)) pass0 (pa_cons (pv 2) (pa_cons (pv 9) (pa_cons (pv 12) pa_nil)))) pa_nil)) (pe_callB (cr_repr hr.still hr.hu66) rfl T.f_repr (by decide +kernel) (pa_cons (pe_d DIsTurningL (hr1.le (by decide)) pass0 (pa_cons (pv 2) (pa_cons (pv 9) (pa_cons (pv 12) pa_nil)))) pa_nil)) (nomark _)) (pss_one (ps_ret pe_bl)) pss_nil))))))))
      (pss_one (ps_ret pe_bl))))))), ?_⟩
    have upr1 := Upto.refl hb
    refine ⟨_, rfl, _, rfl, _, rfl, ⟨by omega, by omega, by omega, by omega, by omega⟩, fun l91 fl91 => ?_⟩
    rw [rg_mv]
    have lp91 : l91 ≠ p := (upr1.free fl91).1
    have upa91 := upr1.new (o := .lst (mv (List.range n))) fl91
    have L91 : (upd H l91 (.lst (mv (List.range n)))) l91 = some (.lst (mv (List.range n))) := upd_same
    generalize upd H l91 _ = G91 at upa91 L91 ⊢
    refine ⟨p, l91, _, rfl, upa91.bag, .inl (.inl L91), lp91, by rw [mv_len, List.length_range]; omega, fun J91 t91 ys91 up391 ft91 pm91 ht91 => ?_⟩
    obtain ⟨m, rfl, pm291⟩ := mv_range_perm pm91
    obtain ⟨hm, lm⟩ := mv_of_perm pm291 n1 n24
    have up491 := upa91.trans up391
    refine ⟨t91, _, rfl, .inl ⟨.inl (.inl ht91), fun a fu91 => ?_⟩⟩
    have up591 := up491.new (o := .tup (mv m)) fu91
    have Sa : SqT K (upd J91 a (.tup (mv m))) a (mv m) := .inl (.inl upd_same)
    clear upa91 up391 up491 fu91 pm91 pm291 ht91 ft91 L91 lp91 fl91
    generalize upd J91 a _ = H91 at up591 Sa ⊢
    have upr2 := Upto.refl up591.bag
    refine ⟨_, rfl, _, rfl, _, rfl, ⟨by omega, by omega, by omega, by omega, by omega⟩, fun l92 fl92 => ?_⟩
    rw [rg_mv]
    have lp92 : l92 ≠ p := (upr2.free fl92).1
    have upa92 := upr2.new (o := .lst (mv (List.range n))) fl92
    have L92 : (upd H91 l92 (.lst (mv (List.range n)))) l92 = some (.lst (mv (List.range n))) := upd_same
    generalize upd H91 l92 _ = G92 at upa92 L92 ⊢
    refine ⟨p, l92, _, rfl, upa92.bag, .inl (.inl L92), lp92, by rw [mv_len, List.length_range]; omega, fun J92 t92 ys92 up392 ft92 pm92 ht92 => ?_⟩
    obtain ⟨g, rfl, pm292⟩ := mv_range_perm pm92
    obtain ⟨hg, lg⟩ := mv_of_perm pm292 n1 n24
    have up492 := upa92.trans up392
    refine ⟨t92, _, rfl, .inl ⟨.inl (.inl ht92), fun b fu92 => ?_⟩⟩
    have up592 := up492.new (o := .tup (mv g)) fu92
    have Sb : SqT K (upd J92 b (.tup (mv g))) b (mv g) := .inl (.inl upd_same)
    clear upa92 up392 up492 fu92 pm92 pm292 ht92 ft92 L92 lp92 fl92
    generalize upd J92 b _ = H92 at up592 Sb ⊢
    replace Sa := up_sqt up592 up591.bag Sa
    have up1 := up591.trans up592
    clear up591 up592 upr1 upr2
    refine ⟨by (show 2 ≤ sizeLine); decide, fun T fT => ?_⟩
    have sT := same_new (o := .tup [V.ref a, V.ref b]) fT
    refine ⟨T, _, rfl, .inl (.inl upd_same), rfl, _, _, rfl, ?_⟩
    refine ⟨_, _, rfl, rfl, ?_⟩
    replace up1 := up1.keep sT
    replace Sa := same_sqt sT Sa
    replace Sb := same_sqt sT Sb
    clear sT fT
    generalize upd H92 T _ = H3 at up1 Sa Sb ⊢
    have upr3 := Upto.refl up1.bag
    refine ⟨_, rfl, _, rfl, _, rfl, ⟨by omega, by omega, by omega, by omega, by omega⟩, fun l93 fl93 => ?_⟩
    rw [rg_mv]
    have lp93 : l93 ≠ p := (upr3.free fl93).1
    have upa93 := upr3.new (o := .lst (mv (List.range n))) fl93
    have L93 : (upd H3 l93 (.lst (mv (List.range n)))) l93 = some (.lst (mv (List.range n))) := upd_same
    generalize upd H3 l93 _ = G93 at upa93 L93 ⊢
    refine ⟨p, l93, _, rfl, upa93.bag, .inl (.inl L93), lp93, by rw [mv_len, List.length_range]; omega, fun J93 t93 ys93 up393 ft93 pm93 ht93 => ?_⟩
    obtain ⟨h, rfl, pm293⟩ := mv_range_perm pm93
    obtain ⟨hh, lh⟩ := mv_of_perm pm293 n1 n24
    have up493 := upa93.trans up393
    refine ⟨t93, _, rfl, .inl ⟨.inl (.inl ht93), fun c fu93 => ?_⟩⟩
    have up593 := up493.new (o := .tup (mv h)) fu93
    have Sc : SqT K (upd J93 c (.tup (mv h))) c (mv h) := .inl (.inl upd_same)
    clear upa93 up393 up493 fu93 pm93 pm293 ht93 ft93 L93 lp93 fl93
    generalize upd J93 c _ = H93 at up593 Sc ⊢
    replace Sa := up_sqt up593 up1.bag Sa
    replace Sb := up_sqt up593 up1.bag Sb
    replace up1 := up1.trans up593
    clear up593 upr3
    have emg : m.length = g.length := by rw [lm, lg]
    refine ⟨_, rfl, _, rfl, a, b, m, g, rfl, Sa, Sb, hm, hg, emg, fun H5 o S5 So => ?_⟩
    have I : N4 K p a b c o m g h H H5 := ⟨up1.keep S5, same_sqt S5 Sa, same_sqt S5 Sb, same_sqt S5 Sc, So⟩
    clear Sa Sb Sc So up1 S5
    refine ⟨_, _, rfl, ?_⟩
    have pm := pm_of hm
    have pg := pm_of hg
    have ht := turn_mv hm hg emg
    have lt : (turnL m g).length = m.length := turn_len emg
    -- the rings, moved and sorted
    refine ⟨_, rfl, a, m, rfl, I.sa, hm, fun H6 R us S6 fR hR rf => ?_⟩
    replace I := I.same S6
    refine ⟨R, rfl, ⟨_, .inl (.inl hR)⟩, fun D nD => ?_⟩
    have lus : us.length = (rings (fn' m) m.length).length := Paired.length rf
    have lle : (rings (fn' m) m.length).length ≤ m.length := ringsTo_len _ _ _
    have nD0 : ∀ b o, H6 b = some o → b ≠ D := fun b o e => ne_of_none e nD
    refine lc_list (xs := us) (Pv := fun i H7 => Same H6 H7 ∧ ∃ zs : List (V × List Int), H7 D = some (.lst (zs.map Prod.fst)) ∧ PL K D H7 zs ∧ zs.map Prod.snd = ((rings (fn' m) m.length).take i).map fun r => S (r.map (fn' g)))
      ⟨same_new nD, [], upd_same, (fun b hb => by cases hb), rfl⟩ (fun i H7 _ e => .inl (.inl (e.1 _ _ hR))) ?_ ?_
    · rintro i x H7 hx ⟨S7, zs, hD, pl, ez⟩
      obtain ⟨r, t, hr, rfl, St⟩ := rf.get hx
      have il : i < m.length := by
        have := (List.getElem?_eq_some_iff.mp hx).1
        omega
      have rm := List.mem_of_getElem? hr
      have rl := len_in pm rm
      have below := (rings_good pm m.length (Nat.le_refl _)).below
      replace St := same_sqt S7 St
      refine ⟨wipe_one, yes_ ?_⟩
      refine ⟨_, rfl, t, rfl, ⟨_, St⟩, fun D2 nD2 => ?_⟩
      refine lc_tpl (vat g) St nD2 (by rw [mv_len]; exact Nat.le_of_lt (small1000 (by omega))) ?_ ?_
      · intro x acc hx Q' q'
        obtain ⟨k, hk, rfl⟩ := List.mem_map.mp hx
        have kl : k < g.length := by
          have := below k (List.mem_flatten.mpr ⟨r, rm, hk⟩)
          omega
        exact ⟨_, rfl, _, rfl, b, _, _, _, rfl, rfl, sqt_new (same_sqt S7 I.sb) nD2, mv_at kl, q'⟩
      rw [mv_comp]
      have s8 := same_new (o := .lst (mv (comp g r))) nD2
      refine ⟨D2, (r.map (fn' g)).map (fun (k : Nat) => (k : Int)), rfl, .inl (.inl (by rw [upd_same]; rw [mv_ints]; rfl)), fun ns' p2 pz pw np => ?_⟩
      have es : ns' = S (r.map (fn' g)) := S_uniq pz pw
      subst es
      have s9 := s8.trans (same_new (o := .lst ((S (r.map (fn' g))).map V.int)) np)
      have pD : p2 ≠ D := (ne_of_none (s8 _ _ hD) np).symm
      have hD2 := s9 _ _ hD
      have lz : zs.length ≤ i := by
        rw [← List.length_map (f := Prod.snd), ez, List.length_map, List.length_take]
        omega
      refine ⟨_, hD2, ?_, ?_⟩
      · rw [List.length_map]
        exact Nat.lt_of_le_of_lt (by omega : _ ≤ 1000) (by decide)
      · refine ⟨fun b o e => (upd_ne (nD0 b o e)).trans ((S7.trans s9) b o e), zs ++ [(.ref p2, S (r.map (fn' g)))], ?_, ?_, ?_⟩
        · rw [upd_same, List.map_append]
          rfl
        · exact ((pl.same s9).snoc pD (.inl (.inl upd_same))).put
        · rw [List.map_append, ez, List.take_add_one, hr, List.map_append]
          rfl
    rintro H7 ⟨S7, zs, hD, pl, ez⟩
    replace I := I.same S7
    rw [lus, List.take_length] at ez
    have lz : zs.length ≤ 24 := by
      rw [← List.length_map (f := Prod.snd), ez, List.length_map]
      omega
    refine ⟨D, zs, rfl, .inl (.inl hD), by omega, fun b hb => ?_, fun ws W pw1 pw2 nW => ?_⟩
    · obtain ⟨t, e, _, St⟩ := pl b hb
      exact ⟨t, e, St⟩
    have s8 := same_new (o := .lst (ws.map Prod.fst)) nW
    replace I := I.same s8
    have hW : SqL K (upd H7 W (.lst (ws.map Prod.fst))) W (ws.map Prod.fst) := .inl (.inl upd_same)
    have lw := (pl.ll pw1).same s8
    have eW : (ws.map Prod.snd).Perm ((rings (fn' m) m.length).map fun r => S (r.map (fn' g))) := by
      rw [← ez]
      exact pw1.map _
    have sW : (ws.map Prod.snd).Pairwise (· ≤ ·) := List.pairwise_map.mpr pw2
    clear pl hD ez lz s8 S7 S6 hR rf fR nD nD0 lus lle pw1 pw2
    generalize upd H7 W _ = H8 at I hW lw ⊢
    -- the turned move
    refine ⟨_, rfl, _, rfl, a, b, m, g, rfl, I.sa, I.sb, hm, hg, emg, fun H9 t1 S9 T1 => ?_⟩
    replace I := I.same S9
    replace hW := S9.seq hW
    replace lw := lw.same S9
    refine ⟨_, rfl, neT T1 I.so ?_⟩
    refine ⟨_, rfl, ?_⟩
    refine ifF (ne_self _) ?_
    clear T1 S9
    refine ⟨_, rfl, _, rfl, a, b, m, g, rfl, I.sa, I.sb, hm, hg, emg, fun H10 t1 S10 T1 => ?_⟩
    replace I := I.same S10
    replace hW := S10.seq hW
    replace lw := lw.same S10
    refine ⟨t1, turnL m g, rfl, T1, ht, fun H11 R us S11 fR hR rf => ?_⟩
    replace I := I.same S11
    replace hW := S11.seq hW
    replace lw := lw.same S11
    clear T1 S10 S11
    have pt := pm_of ht
    refine ⟨R, rfl, ⟨_, .inl (.inl hR)⟩, fun D nD => ?_⟩
    have lus : us.length = (rings (fn' (turnL m g)) (turnL m g).length).length := Paired.length rf
    have lle : (rings (fn' (turnL m g)) (turnL m g).length).length ≤ (turnL m g).length := ringsTo_len _ _ _
    have nD0 : ∀ b o, H11 b = some o → b ≠ D := fun b o e => ne_of_none e nD
    refine lc_list (xs := us) (Pv := fun i H7 => Same H11 H7 ∧ ∃ zs : List (V × List Int), H7 D = some (.lst (zs.map Prod.fst)) ∧ PL K D H7 zs ∧ zs.map Prod.snd = ((rings (fn' (turnL m g)) (turnL m g).length).take i).map S)
      ⟨same_new nD, [], upd_same, (fun b hb => by cases hb), rfl⟩ (fun i H7 _ e => .inl (.inl (e.1 _ _ hR))) ?_ ?_
    · rintro i x H7 hx ⟨S7, zs, hD, pl, ez⟩
      obtain ⟨r, t, hr, rfl, St⟩ := rf.get hx
      have il : i < m.length := by
        have := (List.getElem?_eq_some_iff.mp hx).1
        omega
      have rm := List.mem_of_getElem? hr
      have rl := len_in pt rm
      replace St := same_sqt S7 St
      refine ⟨wipe_one, yes_ ?_⟩
      have St2 := St
      rw [mv_ints] at St2
      refine ⟨_, rfl, t, r.map fun (k : Nat) => (k : Int), rfl, St2, by rw [List.length_map]; omega, fun ns' p2 pz pw np => ?_⟩
      have es : ns' = S r := S_uniq pz pw
      subst es
      have s9 := same_new (o := .lst ((S r).map V.int)) np
      have pD : p2 ≠ D := (ne_of_none hD np).symm
      have hD2 := s9 _ _ hD
      have lz : zs.length ≤ i := by
        rw [← List.length_map (f := Prod.snd), ez, List.length_map, List.length_take]
        omega
      refine ⟨_, hD2, ?_, ?_⟩
      · rw [List.length_map]
        exact Nat.lt_of_le_of_lt (by omega : _ ≤ 1000) (by decide)
      · refine ⟨fun b o e => (upd_ne (nD0 b o e)).trans ((S7.trans s9) b o e), zs ++ [(.ref p2, S r)], ?_, ?_, ?_⟩
        · rw [upd_same, List.map_append]
          rfl
        · exact ((pl.same s9).snoc pD (.inl (.inl upd_same))).put
        · rw [List.map_append, ez, List.take_add_one, hr, List.map_append]
          rfl
    rintro H12 ⟨S7, zs, hD, pl, ez⟩
    replace I := I.same S7
    replace hW := S7.seq hW
    replace lw := lw.same S7
    rw [lus, List.take_length] at ez
    have lz : zs.length ≤ 24 := by
      rw [← List.length_map (f := Prod.snd), ez, List.length_map]
      omega
    refine ⟨D, zs, rfl, .inl (.inl hD), by omega, fun b hb => ?_, fun ws2 W2 pw1 pw2 nW => ?_⟩
    · obtain ⟨t, e, _, St⟩ := pl b hb
      exact ⟨t, e, St⟩
    have s8 := same_new (o := .lst (ws2.map Prod.fst)) nW
    replace I := I.same s8
    have hW2 : SqL K (upd H12 W2 (.lst (ws2.map Prod.fst))) W2 (ws2.map Prod.fst) := .inl (.inl upd_same)
    have lw2 := (pl.ll pw1).same s8
    have eW2 : (ws2.map Prod.snd).Perm ((rings (fn' (turnL m g)) (turnL m g).length).map S) := by
      rw [← ez]
      exact pw1.map _
    have sW2 : (ws2.map Prod.snd).Pairwise (· ≤ ·) := List.pairwise_map.mpr pw2
    have same : ws2.map Prod.snd = ws.map Prod.snd := uniq (fun a b h1 h2 => List.le_antisymm h1 h2) (eW2.trans ((turned_rings hm hg emg).trans eW.symm)) sW2 sW
    refine ⟨_, rfl, neLL hW2 lw2 (s8.seq hW) (lw.same s8) ?_⟩
    rw [same, decide_eq_true rfl]
    refine ⟨_, rfl, ?_⟩
    refine ifF rfl ?_
    clear lw2 hW2 hW lw eW sW eW2 sW2 same pw1 pw2 s8 nW pl hD ez lz S7 lus lle nD nD0 hR rf fR pt
    generalize upd H12 W2 _ = H13 at I ⊢
    -- turning moves
    refine ⟨_, rfl, _, rfl, by (show 2 ≤ sizeLine); decide, fun T fT => ?_⟩
    have sT := same_new (o := .tup [V.ref o, V.ref c]) fT
    have hT : SqT K (upd H13 T (.tup [V.ref o, V.ref c])) T [V.ref o, V.ref c] := .inl (.inl upd_same)
    replace I := I.same sT
    clear sT fT
    generalize upd H13 T _ = H14 at I hT ⊢
    refine ⟨T, rfl, ⟨_, hT⟩, for_tup (K := K) (a := T) (xs := [V.ref o, V.ref c]) (fun i σ H15 => N4 K p a b c o m g h H H15 ∧ SqT K H15 T [V.ref o, V.ref c] ∧
      ∃ x1 x2 x3 x4, σ = [some (.ref p), some (.int (n : Int)), some (.ref a), some (.ref b), some (.ref c), some (.ref o), some (.ref W), none, none, x1, x2, x3, x4])
      ⟨I, hT, _, _, _, _, rfl⟩ (fun i σ H15 _ h => h.2.1) ?_ ?_⟩
    · rintro i x σ H15 hx ⟨I, hT, x1, x2, x3, x4, rfl⟩
      obtain ⟨gl, l, rfl, hl, ll, Sg⟩ : ∃ gl l, x = V.ref gl ∧ Mv l ∧ l.length = n ∧ SqT K H15 gl (mv l) := by
        match i, hx with
        | 0, hx => exact ⟨o, turnL m g, (Option.some.inj hx).symm, ht, by rw [lt, lm], I.so⟩
        | 1, hx => exact ⟨c, h, (Option.some.inj hx).symm, hh, lh, I.sc⟩
        | i + 2, hx => cases hx
      have eml : m.length = l.length := by rw [lm, ll]
      refine ⟨_, rfl, _, rfl, ?_⟩
      simp only [tNil]
      refine turning_cases I.sa Sg hm hl eml fun H16 v S16 tv => ?_
      replace I := I.same S16
      replace hT := same_sqt S16 hT
      replace Sg := same_sqt S16 Sg
      refine ⟨_, rfl, rfl, ?_⟩
      refine ⟨_, rfl, a, m, rfl, I.sa, hm, fun H17 L1 S17 hL1 => ?_⟩
      replace I := I.same S17
      replace hT := same_sqt S17 hT
      replace Sg := same_sqt S17 Sg
      replace tv := tv.same S17
      refine ⟨_, rfl, gl, l, rfl, Sg, hl, fun H18 L2 S18 hL2 => ?_⟩
      replace I := I.same S18
      replace hT := same_sqt S18 hT
      replace Sg := same_sqt S18 Sg
      replace tv := tv.same S18
      refine eqLI (S18.seq hL1) hL2 ?_
      have ev : (!decide (v = V.non)) = decide (lensI m = lensI l) := by
        rcases tv with ⟨t, g', rfl, _, _, _, _, e⟩ | ⟨rfl, e⟩
        · rw [decide_eq_true e]
          rfl
        · rw [decide_eq_false e]
          rfl
      rw [ev]
      refine ⟨rfl, _, rfl, ?_⟩
      refine ifF (by rw [decide_eq_true rfl]; rfl) ?_
      clear hL1 hL2 S16 S17 S18
      refine ⟨_, rfl, rfl, _, rfl, ?_⟩
      rcases tv with ⟨t, g', rfl, St, hg', lg', tg', e⟩ | ⟨rfl, e⟩
      · refine ifT rfl ?_
        refine ⟨_, rfl, _, rfl, _, rfl, a, gl, m, l, .ref t, some (mv g'), rfl, I.sa, Sg, hm, hl, eml, rv_mv St, fun xs e => by rw [← Option.some.inj e, mv_len]; have := hg'.2.2.2; omega, fun H20 S20 => ?_⟩
        refine ⟨_, rfl, ?_⟩
        have yes : isTn m l (some (mv g')) = true := by
          show (isArr m.length (some (mv g')) && decide (turnL m ((mv g').map toN) = l)) = true
          have e1 : (mv g').map toN = g' := by
            unfold mv
            rw [List.map_map]
            exact List.map_id' _
          rw [← lg', arr_mv hg', e1, decide_eq_true tg']
          rfl
        refine ifF (by rw [yes]; rfl) ?_
        have tv : Vl K H20 (.ref t) := ⟨some (mv g'), rv_mv (same_sqt S20 St), fun xs e => by rw [← Option.some.inj e, mv_len]; have := hg'.2.2.2; omega⟩
        replace I := I.same S20
        replace hT := same_sqt S20 hT
        replace Sg := same_sqt S20 Sg
        clear S20 St
        have V0 : Vls K H20 [.ref b] := fun x hx => by rw [List.mem_singleton.mp hx]; exact vl_mv I.sb (by omega)
        replace V0 := V0.snoc (vl_mv I.sc (by omega))
        replace V0 := V0.snoc (vl_mv I.sa (by omega))
        refine ⟨_, rfl, _, rfl, _, rfl, ?_⟩
        refine ⟨_, rfl, _, rfl, b, a, g, m, rfl, I.sb, I.sa, by omega, fun k hk => by rw [← emg]; exact hm.2.1 k hk, fun H21 t2 S21 T2 => ?_⟩
        replace I := I.same S21
        replace hT := same_sqt S21 hT
        replace Sg := same_sqt S21 Sg
        replace tv := tv.same S21
        replace V0 := (V0.same S21).snoc (vl_mv T2 (by rw [comp_len]; omega))
        clear S21 T2
        refine ⟨_, rfl, b, _, rfl, .inr I.sb, fun l2 fl2 => ?_⟩
        have S22 := same_new (o := .lst (mv g)) fl2
        replace I := I.same S22
        replace hT := same_sqt S22 hT
        replace Sg := same_sqt S22 Sg
        replace tv := tv.same S22
        replace V0 := (V0.same S22).snoc (x := .ref l2) (vl_kd (.lst (xs := mv g) (.inl (.inl upd_same))) rfl)
        clear S22 fl2
        generalize upd H21 l2 _ = H22 at I hT Sg tv V0 ⊢
        refine ⟨_, rfl, _, rfl, by (show 1 ≤ sizeLine); decide, fun t3 f3 => ?_⟩
        have S23 := same_new (o := .tup [.int (n : Int)]) f3
        have T3 : SqT K (upd H22 t3 (.tup [.int (n : Int)])) t3 [.int (n : Int)] := .inl (.inl upd_same)
        replace I := I.same S23
        replace hT := same_sqt S23 hT
        replace Sg := same_sqt S23 Sg
        replace tv := tv.same S23
        replace V0 := V0.same S23
        clear S23 f3
        generalize upd H22 t3 _ = H23 at I hT Sg tv V0 T3 ⊢
        refine catA I.sb T3 (by rw [mv_len]; exact Nat.le_of_lt (small1000 (by show _ + 1 ≤ _; omega))) fun H24 t4 S24 T4 => ?_
        replace I := I.same S24
        replace hT := same_sqt S24 hT
        replace Sg := same_sqt S24 Sg
        replace tv := tv.same S24
        replace V0 := (V0.same S24).snoc (x := .ref t4) (vl_tup T4 (fun y hy => by
          rcases List.mem_append.mp hy with z | z
          · obtain ⟨k, _, rfl⟩ := List.mem_map.mp z
            exact ⟨_, .int _⟩
          · rw [List.mem_singleton.mp z]
            exact ⟨_, .int _⟩) (by rw [List.length_append, mv_len]; show _ + 1 ≤ _; omega))
        clear S24 T3 T4
        replace V0 := ((V0.snoc (x := .non) (vl_kd .non rfl)).snoc (x := .int 0) (vl_kd (.int 0) rfl)).snoc (x := .str "move") (vl_kd (.str "move") rfl)
        refine ⟨_, rfl, b, rfl, ⟨_, I.sb⟩, fun D nD => ?_⟩
        refine lc_tpl (fun x => match x with | .int i => .str (toString i) | _ => .non) I.sb nD (by rw [mv_len]; exact Nat.le_of_lt (small1000 (by omega))) ?_ ?_
        · intro x acc hx Q' q'
          obtain ⟨j, hj, rfl⟩ := List.mem_map.mp hx
          have lj := hg.2.1 j hj
          refine ⟨_, rfl, _, rfl, ?_, q'⟩
          rw [Int.natAbs_natCast]
          exact Nat.lt_of_le_of_lt (Nat.log2_le_self j) (by omega)
        have SD := same_new (o := .lst ((mv g).map fun x => match x with | .int i => V.str (toString i) | _ => .non)) nD
        refine ⟨D, _, rfl, .inl ⟨.inl (.inl upd_same), fun t5 ft => ?_⟩⟩
        have S25 := SD.trans (same_new (o := .tup ((mv g).map fun x => match x with | .int i => V.str (toString i) | _ => .non)) ft)
        replace I := I.same S25
        replace hT := same_sqt S25 hT
        replace Sg := same_sqt S25 Sg
        replace tv := tv.same S25
        replace V0 := (V0.same S25).snoc (x := .ref t5) (vl_tup (.inl (.inl upd_same)) (fun y hy => by
          obtain ⟨v, hv, rfl⟩ := List.mem_map.mp hy
          obtain ⟨j, hj, rfl⟩ := List.mem_map.mp hv
          exact ⟨_, .str _⟩) (by rw [List.length_map, mv_len]; omega))
        clear S25 SD ft nD
        generalize upd (upd H24 D _) t5 _ = H25 at I hT Sg tv V0 ⊢
        refine ⟨_, rfl, by (show 1 ≤ sizeLine); decide, fun t6 f6 => ?_⟩
        have S26 := same_new (o := .tup [.ref b]) f6
        replace I := I.same S26
        replace hT := same_sqt S26 hT
        replace Sg := same_sqt S26 Sg
        replace tv := tv.same S26
        replace V0 := (V0.same S26).snoc (x := .ref t6) (vl_tup (xs := [.ref b]) (.inl (.inl upd_same)) (fun y hy => by
          rw [List.mem_singleton.mp hy]
          exact ⟨_, .tup I.sb⟩) (by show 1 ≤ _; omega))
        clear S26 f6
        generalize upd H25 t6 _ = H26 at I hT Sg tv V0 ⊢
        have e11 : [V.ref b] ++ [V.ref c] ++ [V.ref a] ++ [V.ref t2] ++ [V.ref l2] ++ [V.ref t4] ++ [V.non] ++ [V.int 0] ++ [V.str "move"] ++ [V.ref t5] ++ [V.ref t6] = [V.ref b, V.ref c, V.ref a, V.ref t2, V.ref l2, V.ref t4, V.non, V.int 0, V.str "move", V.ref t5, V.ref t6] := rfl
        rw [e11] at V0
        refine ⟨by (show 11 ≤ sizeLine); decide, fun L fL => ?_⟩
        have hL : (upd H26 L (.lst [V.ref b, V.ref c, V.ref a, V.ref t2, V.ref l2, V.ref t4, V.non, V.int 0, V.str "move", V.ref t5, V.ref t6])) L = some (.lst [V.ref b, V.ref c, V.ref a, V.ref t2, V.ref l2, V.ref t4, V.non, V.int 0, V.str "move", V.ref t5, V.ref t6]) := upd_same
        have S27 := same_new (o := .lst [V.ref b, V.ref c, V.ref a, V.ref t2, V.ref l2, V.ref t4, V.non, V.int 0, V.str "move", V.ref t5, V.ref t6]) fL
        replace I := I.same S27
        replace hT := same_sqt S27 hT
        replace Sg := same_sqt S27 Sg
        replace tv := tv.same S27
        replace V0 := V0.same S27
        clear S27 fL e11
        generalize upd H26 L _ = H27 at I hT Sg tv V0 hL ⊢
        have len11 : [V.ref b, V.ref c, V.ref a, V.ref t2, V.ref l2, V.ref t4, V.non, V.int 0, V.str "move", V.ref t5, V.ref t6].length = 11 := rfl
        generalize [V.ref b, V.ref c, V.ref a, V.ref t2, V.ref l2, V.ref t4, V.non, V.int 0, V.str "move", V.ref t5, V.ref t6] = vs at V0 hL len11 ⊢
        refine ⟨_, rfl, _, rfl, by (show 1 ≤ sizeLine); decide, fun M fM => ?_⟩
        have S28 := same_new (o := .lst [V.ref t]) fM
        have hM : (upd H27 M (.lst [V.ref t])) M = some (.lst [V.ref t]) := upd_same
        replace I := I.same S28
        replace hT := same_sqt S28 hT
        replace Sg := same_sqt S28 Sg
        replace V0 := (V0.snoc tv).same S28
        replace hL := S28 _ _ hL
        clear S28 fM tv
        generalize upd H27 M _ = H28 at I hT Sg V0 hL hM ⊢
        refine ⟨L, M, _, _, rfl, rfl, hL, hM, by rw [len11]; exact Nat.le_of_lt (small1000 (by show 11 + 1 ≤ _; decide)), fun O fO => ?_⟩
        have S29 := same_new (o := .lst (vs ++ [V.ref t])) fO
        have hO : (upd H28 O (.lst (vs ++ [V.ref t]))) O = some (.lst (vs ++ [V.ref t])) := upd_same
        replace I := I.same S29
        replace hT := same_sqt S29 hT
        replace Sg := same_sqt S29 Sg
        replace V0 := V0.same S29
        clear S29 fO hL hM len11
        generalize upd H28 O _ = H29 at I hT Sg V0 hO ⊢
        generalize vs ++ [V.ref t] = ws at V0 hO ⊢
        refine ⟨O, rfl, ⟨_, .inl (.inl hO)⟩, for_list (K := K) (a := O) (xs := ws) (fun i σ H30 => (N4 K p a b c o m g h H H30 ∧ SqT K H30 T [V.ref o, V.ref c]) ∧ SqT K H30 gl (mv l) ∧ Vls K H30 ws ∧ H30 O = some (.lst ws) ∧ ∃ x4,
            σ = [some (.ref p), some (.int (n : Int)), some (.ref a), some (.ref b), some (.ref c), some (.ref o), some (.ref W), none, none, some (.ref gl), some (V.ref t), some (.ref L), x4])
          ⟨⟨I, hT⟩, Sg, V0, hO, _, rfl⟩ (fun i σ H30 _ h => .inl (.inl h.2.2.2.1)) ?_ ?_⟩
        · rintro i x σ H30 hx ⟨⟨I, hT⟩, Sg, V0, hO, x4, rfl⟩
          obtain ⟨oo, rv, ol⟩ := V0 x (List.mem_of_getElem? hx)
          refine ⟨_, rfl, _, rfl, _, rfl, a, gl, m, l, x, oo, rfl, I.sa, Sg, hm, hl, eml, rv, ol, fun H31 S31 => ?_⟩
          replace I := I.same S31
          replace hT := same_sqt S31 hT
          replace Sg := same_sqt S31 Sg
          replace V0 := V0.same S31
          replace hO := S31 _ _ hO
          refine ⟨_, .bool (isTn m l oo), rfl, .bl _, rb1 _, rb2 _, rb3 _, ?_⟩
          refine ⟨_, rfl, _, rfl, _, rfl, a, gl, m, l, x, oo, rfl, I.sa, Sg, hm, hl, eml, rv.same S31, ol, fun H32 S32 => ?_⟩
          replace I := I.same S32
          replace hT := same_sqt S32 hT
          replace Sg := same_sqt S32 Sg
          replace V0 := V0.same S32
          replace hO := S32 _ _ hO
          refine ⟨_, .bool (isTn m l oo), rfl, .bl _, rb1 _, rb2 _, rb3 _, ?_⟩
          refine ⟨rfl, _, rfl, ?_⟩
          refine ifF (by rw [decide_eq_true rfl]; rfl) ?_
          exact ⟨⟨I, hT⟩, Sg, V0, hO, _, rfl⟩
        · rintro σ H30 ⟨⟨I, hT⟩, Sg, V0, hO, x4, rfl⟩
          exact ⟨I, hT, _, _, _, _, rfl⟩
      · refine ifF rfl ?_
        refine ifF rfl ?_
        have tv : Vl K H18 .non := ⟨none, .no .non rfl, fun xs e => by cases e⟩
        have V0 : Vls K H18 [.ref b] := fun x hx => by rw [List.mem_singleton.mp hx]; exact vl_mv I.sb (by omega)
        replace V0 := V0.snoc (vl_mv I.sc (by omega))
        replace V0 := V0.snoc (vl_mv I.sa (by omega))
        refine ⟨_, rfl, _, rfl, _, rfl, ?_⟩
        refine ⟨_, rfl, _, rfl, b, a, g, m, rfl, I.sb, I.sa, by omega, fun k hk => by rw [← emg]; exact hm.2.1 k hk, fun H21 t2 S21 T2 => ?_⟩
        replace I := I.same S21
        replace hT := same_sqt S21 hT
        replace Sg := same_sqt S21 Sg
        replace tv := tv.same S21
        replace V0 := (V0.same S21).snoc (vl_mv T2 (by rw [comp_len]; omega))
        clear S21 T2
        refine ⟨_, rfl, b, _, rfl, .inr I.sb, fun l2 fl2 => ?_⟩
        have S22 := same_new (o := .lst (mv g)) fl2
        replace I := I.same S22
        replace hT := same_sqt S22 hT
        replace Sg := same_sqt S22 Sg
        replace tv := tv.same S22
        replace V0 := (V0.same S22).snoc (x := .ref l2) (vl_kd (.lst (xs := mv g) (.inl (.inl upd_same))) rfl)
        clear S22 fl2
        generalize upd H21 l2 _ = H22 at I hT Sg tv V0 ⊢
        refine ⟨_, rfl, _, rfl, by (show 1 ≤ sizeLine); decide, fun t3 f3 => ?_⟩
        have S23 := same_new (o := .tup [.int (n : Int)]) f3
        have T3 : SqT K (upd H22 t3 (.tup [.int (n : Int)])) t3 [.int (n : Int)] := .inl (.inl upd_same)
        replace I := I.same S23
        replace hT := same_sqt S23 hT
        replace Sg := same_sqt S23 Sg
        replace tv := tv.same S23
        replace V0 := V0.same S23
        clear S23 f3
        generalize upd H22 t3 _ = H23 at I hT Sg tv V0 T3 ⊢
        refine catA I.sb T3 (by rw [mv_len]; exact Nat.le_of_lt (small1000 (by show _ + 1 ≤ _; omega))) fun H24 t4 S24 T4 => ?_
        replace I := I.same S24
        replace hT := same_sqt S24 hT
        replace Sg := same_sqt S24 Sg
        replace tv := tv.same S24
        replace V0 := (V0.same S24).snoc (x := .ref t4) (vl_tup T4 (fun y hy => by
          rcases List.mem_append.mp hy with z | z
          · obtain ⟨k, _, rfl⟩ := List.mem_map.mp z
            exact ⟨_, .int _⟩
          · rw [List.mem_singleton.mp z]
            exact ⟨_, .int _⟩) (by rw [List.length_append, mv_len]; show _ + 1 ≤ _; omega))
        clear S24 T3 T4
        replace V0 := ((V0.snoc (x := .non) (vl_kd .non rfl)).snoc (x := .int 0) (vl_kd (.int 0) rfl)).snoc (x := .str "move") (vl_kd (.str "move") rfl)
        refine ⟨_, rfl, b, rfl, ⟨_, I.sb⟩, fun D nD => ?_⟩
        refine lc_tpl (fun x => match x with | .int i => .str (toString i) | _ => .non) I.sb nD (by rw [mv_len]; exact Nat.le_of_lt (small1000 (by omega))) ?_ ?_
        · intro x acc hx Q' q'
          obtain ⟨j, hj, rfl⟩ := List.mem_map.mp hx
          have lj := hg.2.1 j hj
          refine ⟨_, rfl, _, rfl, ?_, q'⟩
          rw [Int.natAbs_natCast]
          exact Nat.lt_of_le_of_lt (Nat.log2_le_self j) (by omega)
        have SD := same_new (o := .lst ((mv g).map fun x => match x with | .int i => V.str (toString i) | _ => .non)) nD
        refine ⟨D, _, rfl, .inl ⟨.inl (.inl upd_same), fun t5 ft => ?_⟩⟩
        have S25 := SD.trans (same_new (o := .tup ((mv g).map fun x => match x with | .int i => V.str (toString i) | _ => .non)) ft)
        replace I := I.same S25
        replace hT := same_sqt S25 hT
        replace Sg := same_sqt S25 Sg
        replace tv := tv.same S25
        replace V0 := (V0.same S25).snoc (x := .ref t5) (vl_tup (.inl (.inl upd_same)) (fun y hy => by
          obtain ⟨v, hv, rfl⟩ := List.mem_map.mp hy
          obtain ⟨j, hj, rfl⟩ := List.mem_map.mp hv
          exact ⟨_, .str _⟩) (by rw [List.length_map, mv_len]; omega))
        clear S25 SD ft nD
        generalize upd (upd H24 D _) t5 _ = H25 at I hT Sg tv V0 ⊢
        refine ⟨_, rfl, by (show 1 ≤ sizeLine); decide, fun t6 f6 => ?_⟩
        have S26 := same_new (o := .tup [.ref b]) f6
        replace I := I.same S26
        replace hT := same_sqt S26 hT
        replace Sg := same_sqt S26 Sg
        replace tv := tv.same S26
        replace V0 := (V0.same S26).snoc (x := .ref t6) (vl_tup (xs := [.ref b]) (.inl (.inl upd_same)) (fun y hy => by
          rw [List.mem_singleton.mp hy]
          exact ⟨_, .tup I.sb⟩) (by show 1 ≤ _; omega))
        clear S26 f6
        generalize upd H25 t6 _ = H26 at I hT Sg tv V0 ⊢
        have e11 : [V.ref b] ++ [V.ref c] ++ [V.ref a] ++ [V.ref t2] ++ [V.ref l2] ++ [V.ref t4] ++ [V.non] ++ [V.int 0] ++ [V.str "move"] ++ [V.ref t5] ++ [V.ref t6] = [V.ref b, V.ref c, V.ref a, V.ref t2, V.ref l2, V.ref t4, V.non, V.int 0, V.str "move", V.ref t5, V.ref t6] := rfl
        rw [e11] at V0
        refine ⟨by (show 11 ≤ sizeLine); decide, fun L fL => ?_⟩
        have hL : (upd H26 L (.lst [V.ref b, V.ref c, V.ref a, V.ref t2, V.ref l2, V.ref t4, V.non, V.int 0, V.str "move", V.ref t5, V.ref t6])) L = some (.lst [V.ref b, V.ref c, V.ref a, V.ref t2, V.ref l2, V.ref t4, V.non, V.int 0, V.str "move", V.ref t5, V.ref t6]) := upd_same
        have S27 := same_new (o := .lst [V.ref b, V.ref c, V.ref a, V.ref t2, V.ref l2, V.ref t4, V.non, V.int 0, V.str "move", V.ref t5, V.ref t6]) fL
        replace I := I.same S27
        replace hT := same_sqt S27 hT
        replace Sg := same_sqt S27 Sg
        replace tv := tv.same S27
        replace V0 := V0.same S27
        clear S27 fL e11
        generalize upd H26 L _ = H27 at I hT Sg tv V0 hL ⊢
        have len11 : [V.ref b, V.ref c, V.ref a, V.ref t2, V.ref l2, V.ref t4, V.non, V.int 0, V.str "move", V.ref t5, V.ref t6].length = 11 := rfl
        generalize [V.ref b, V.ref c, V.ref a, V.ref t2, V.ref l2, V.ref t4, V.non, V.int 0, V.str "move", V.ref t5, V.ref t6] = vs at V0 hL len11 ⊢
        refine ⟨_, rfl, _, rfl, by (show 1 ≤ sizeLine); decide, fun M fM => ?_⟩
        have S28 := same_new (o := .lst [V.non]) fM
        have hM : (upd H27 M (.lst [V.non])) M = some (.lst [V.non]) := upd_same
        replace I := I.same S28
        replace hT := same_sqt S28 hT
        replace Sg := same_sqt S28 Sg
        replace V0 := (V0.snoc tv).same S28
        replace hL := S28 _ _ hL
        clear S28 fM tv
        generalize upd H27 M _ = H28 at I hT Sg V0 hL hM ⊢
        refine ⟨L, M, _, _, rfl, rfl, hL, hM, by rw [len11]; exact Nat.le_of_lt (small1000 (by show 11 + 1 ≤ _; decide)), fun O fO => ?_⟩
        have S29 := same_new (o := .lst (vs ++ [V.non])) fO
        have hO : (upd H28 O (.lst (vs ++ [V.non]))) O = some (.lst (vs ++ [V.non])) := upd_same
        replace I := I.same S29
        replace hT := same_sqt S29 hT
        replace Sg := same_sqt S29 Sg
        replace V0 := V0.same S29
        clear S29 fO hL hM len11
        generalize upd H28 O _ = H29 at I hT Sg V0 hO ⊢
        generalize vs ++ [V.non] = ws at V0 hO ⊢
        refine ⟨O, rfl, ⟨_, .inl (.inl hO)⟩, for_list (K := K) (a := O) (xs := ws) (fun i σ H30 => (N4 K p a b c o m g h H H30 ∧ SqT K H30 T [V.ref o, V.ref c]) ∧ SqT K H30 gl (mv l) ∧ Vls K H30 ws ∧ H30 O = some (.lst ws) ∧ ∃ x4,
            σ = [some (.ref p), some (.int (n : Int)), some (.ref a), some (.ref b), some (.ref c), some (.ref o), some (.ref W), none, none, some (.ref gl), some (V.non), some (.ref L), x4])
          ⟨⟨I, hT⟩, Sg, V0, hO, _, rfl⟩ (fun i σ H30 _ h => .inl (.inl h.2.2.2.1)) ?_ ?_⟩
        · rintro i x σ H30 hx ⟨⟨I, hT⟩, Sg, V0, hO, x4, rfl⟩
          obtain ⟨oo, rv, ol⟩ := V0 x (List.mem_of_getElem? hx)
          refine ⟨_, rfl, _, rfl, _, rfl, a, gl, m, l, x, oo, rfl, I.sa, Sg, hm, hl, eml, rv, ol, fun H31 S31 => ?_⟩
          replace I := I.same S31
          replace hT := same_sqt S31 hT
          replace Sg := same_sqt S31 Sg
          replace V0 := V0.same S31
          replace hO := S31 _ _ hO
          refine ⟨_, .bool (isTn m l oo), rfl, .bl _, rb1 _, rb2 _, rb3 _, ?_⟩
          refine ⟨_, rfl, _, rfl, _, rfl, a, gl, m, l, x, oo, rfl, I.sa, Sg, hm, hl, eml, rv.same S31, ol, fun H32 S32 => ?_⟩
          replace I := I.same S32
          replace hT := same_sqt S32 hT
          replace Sg := same_sqt S32 Sg
          replace V0 := V0.same S32
          replace hO := S32 _ _ hO
          refine ⟨_, .bool (isTn m l oo), rfl, .bl _, rb1 _, rb2 _, rb3 _, ?_⟩
          refine ⟨rfl, _, rfl, ?_⟩
          refine ifF (by rw [decide_eq_true rfl]; rfl) ?_
          exact ⟨⟨I, hT⟩, Sg, V0, hO, _, rfl⟩
        · rintro σ H30 ⟨⟨I, hT⟩, Sg, V0, hO, x4, rfl⟩
          exact ⟨I, hT, _, _, _, _, rfl⟩
    · rintro σ H15 ⟨I, hT, x1, x2, x3, x4, rfl⟩
      exact q _ I.up
end
end K05


set_option Elab.async false
set_option linter.all false
set_option maxRecDepth 100000
set_option maxHeartbeats 2000000
namespace K05
open PySem PySem.Spec PyProof.Rows L2 MM
/-! own words for the readings: a step, its side -/
local macro_rules | `(tactic| walk_at "side") => `(tactic| first
  | omega
  | exact ⟨by omega, by omega⟩
  | exact Or.inl ⟨by omega, by omega⟩
  | exact Or.inr ⟨by omega, by omega⟩
  | (show CPw _ _; decide +kernel)
  | (show (0 : Int) < _; decide +kernel)
  | (show CDivW _ _; first | assumption | exact ⟨by decide, by decide +kernel⟩))
local macro_rules | `(tactic| walk_at "here") => `(tactic| first
  | assumption
  | exact upd_same
  | exact Or.inl (Or.inl upd_same)
  | exact Or.inl upd_same)
local macro_rules | `(tactic| walk_at "one") => `(tactic| first
  | refine ⟨_, rfl, ?_⟩
  | refine Or.inl ⟨_, rfl, ?_⟩
  | refine Or.inr ⟨_, rfl, ?_⟩
  | refine ⟨_, _, rfl, rfl, (by walk_at "side"), ?_⟩
  | refine ⟨_, _, rfl, rfl, ?_⟩
  | refine ⟨_, _, rfl, Or.inl (by walk_at "here"), ?_⟩
  | refine ⟨_, _, rfl, Or.inr (by walk_at "here"), ?_⟩
  | refine ⟨_, _, rfl, (by walk_at "here"), ?_⟩
  | refine ⟨_, _, _, _, rfl, rfl, (by walk_at "here"), rfl, ?_⟩
  | refine ⟨_, _, rfl, ?_⟩
  | refine ifT (by rfl) ?_
  | refine ifF (by rfl) ?_
  | refine ifT (decide_eq_true (by omega)) ?_
  | refine ifF (decide_eq_false (by omega)) ?_)
local macro_rules | `(tactic| walk_at "st") => `(tactic| repeat (walk_at "one"))

section
variable {P : Program} {w : World} {K : PySem.W.Frag} {mg : Str → Option Value} {base : Heap}
theorem keep_script {p a : Addr} {H H1 H2 : Hp} {xs : List V} (sm : Same H H1) (np : H p = none) (up : Upto p H1 H2) (h : SqL K H a xs) : SqL K H2 a xs := by
  rcases h with (h | ⟨o, h⟩) | h
  · exact .inl (.inl (up.same a _ (ne_of_none h np) (sm _ _ h)))
  · exact .inl (.inr ⟨o, up.same a _ (ne_of_none h np) (sm _ _ h)⟩)
  · exact .inr h
theorem SqT.new3 {H : Hp} (m : List Nat) (t : Addr) : SqT K (upd H t (.tup (mv m))) t (mv m) := .inl (.inl upd_same)
theorem m3 {m : List Nat} (h : m.Nodup ∧ (∀ k ∈ m, k < m.length) ∧ 1 ≤ m.length ∧ m.length ≤ 24) : Mv m := h
def spLaw (K : PySem.W.Frag) : Sp := fun vs H Q _ => ∃ (a : Addr) (ns : List Int), vs = [.ref a] ∧ SqL K H a (ns.map V.int) ∧ ns.length ≤ 1000 ∧ ∀ H', Q (.bl true) H'
theorem lens_ne : lensI [1, 0, 2] ≠ lensI [1, 2, 0] := by
  rw [← lensI_uniq (m := [1, 0, 2]) (z := [1, 2]) (List.isPerm_iff.mp (by decide +kernel)) (by decide), ← lensI_uniq (m := [1, 2, 0]) (z := [3]) (List.isPerm_iff.mp (by decide +kernel)) (by decide)]
  decide
theorem lens_ne2 : lensI [1, 0, 2, 3] ≠ lensI [1, 0, 3, 2] := by
  rw [← lensI_uniq (m := [1, 0, 2, 3]) (z := [1, 1, 2]) (List.isPerm_iff.mp (by decide +kernel)) (by decide), ← lensI_uniq (m := [1, 0, 3, 2]) (z := [2, 2]) (List.isPerm_iff.mp (by decide +kernel)) (by decide)]
  decide
theorem tn1 : isTn [1, 0, 2] [0, 2, 1] (some (mv [1, 2, 0])) = true := by decide +kernel
theorem tn2 : isTn [1, 0, 2] [0, 2, 1] (some (mv [0, 1, 2])) = false := by decide +kernel
theorem tl1 : turnL [1, 0, 2] [1, 2, 0] = [0, 2, 1] := by decide +kernel
theorem od1 : ordOf (fn' [1, 0, 2, 3]) ([1, 0, 2, 3] : List Nat).length = 2 := by decide +kernel
theorem od2 : ordOf (fn' [1, 0, 3, 2]) ([1, 0, 3, 2] : List Nat).length = 2 := by decide +kernel
theorem scLaw : FnScope ["_law_script", "_law_spot", "_law_bag_here", "_law_places", "_law_told"] ["_law_script"] (defScope sLaw) :=
  ⟨rfl, rfl, rfl, by decide +kernel, rfl, by decide +kernel, by decide +kernel⟩
theorem dLaw (T : Tx K mg) (DBagL : Def P w K mg base CX0 1 "_law_bag" ["_law_script", "_law_spot"] (spBag K)) (DOneOfL : Def P w K mg base CX0 2 "_law_one_of" ["_law_bag_here", "_law_items"] (spOneOf K)) (DChainRightL : Def P w K mg base CX0 7 "_law_chain_right" ["_law_bag_here", "_law_places"] (spChain K)) (DTurnsRightL : Def P w K mg base CX0 7 "_law_turns_right" ["_law_bag_here", "_law_places"] (spChain K)) (DGrabL : Def P w K mg base CX0 1 "_law_grab" ["_law_bag_here", "_law_total"] spGrab) (DIsTurningMove : Def P w K mg base CX0 6 "is_turning_move" ["one", "other", "value"] (spIsTurning K)) (DTurningMove : Def P w K mg base CX0 6 "turning_move" ["one", "other"] (spTurning K)) (DTurnedMove : Def P w K mg base CX0 6 "turned_move" ["move", "by"] (spTurn K)) (DOrderOf : Def P w K mg base CX0 5 "order_of" ["move"] (spOrd K)) : Def P w K mg base CX0 8 "law" ["_law_script"] (spLaw K) := by
  refine T.t_law.def_ (N := ["_law_script", "_law_spot", "_law_bag_here", "_law_places", "_law_told"]) scLaw (fun _ _ _ _ _ _ us hl => match us, hl with | [_], _ => rfl) ?_ ?_
  · intro vs H Q E h
    obtain ⟨a, ns, rfl, _⟩ := h
    rfl
  · intro f cd A out s H vs Q E hr h
    have hr1 : Rm 7 _ := hr.le (by decide)
    obtain ⟨a, ns, rfl, hS, hl, q⟩ := h
    refine ⟨_, (pss_cons (ps_for PassesOwn.never rfl (pi_range1 rfl T.f_range (pa_cons (pe_callB (call_max2 rfl) rfl T.f_max (by decide +kernel) (pa_cons pe_int (pa_cons (pe_callB (call_min2 rfl) rfl T.f_min (by decide +kernel) (pa_cons pe_int (pa_cons (pe_callB call_len_seq rfl T.f_len (by decide +kernel) (pa_cons (pv 0) pa_nil)) pa_nil))) pa_nil))) pa_nil)) (pg_name (i := 1) scLaw.nd rfl (Or.inl rfl))
        (pss_cons (ps_set (i := 2) scLaw.nd rfl (Or.inl rfl) (pe_d DBagL (hr1.le (by decide)) pass0 (pa_cons (pv 0) (pa_cons (pv 1) pa_nil))))
        (pss_cons (ps_set (i := 3) scLaw.nd rfl (Or.inl rfl) (pe_d DOneOfL (hr1.le (by decide)) pass0 (pa_cons (pv 2) (pa_cons (pe_lst (pa_cons pe_int (pa_cons pe_int (pa_cons pe_int (pa_cons pe_int (pa_cons pe_int (pa_cons pe_int (pa_cons pe_int pa_nil)))))))) pa_nil))))
        (pss_one (ps_if (PW.pt (pw_or (pt_not (pt_val (pe_d DTurnsRightL (hr1.le (by decide)) pass0 (pa_cons (pv 2) (pa_cons (pv 3) pa_nil))))) (pw_or (pt_not (pt_val (pe_d DTurnsRightL (hr1.le (by decide)) pass0 (pa_cons (pv 2) (pa_cons (pe_op op_add pe_int (pe_d DGrabL (hr1.le (by decide)) pass0 (pa_cons (pv 2) (pa_cons pe_int pa_nil)))) pa_nil))))) (pw_or1 (pt_not (pt_val (pe_d DChainRightL (hr1.le (by decide)) pass0 (pa_cons (pv 2) (pa_cons (pv 3) pa_nil))))))))) (pss_one (ps_ret pe_bl)) pss_nil)))))
      (pss_cons (ps_set (i := 4) scLaw.nd rfl (Or.inl rfl) (pe_lst (pa_cons (pe_d DTurnedMove (hr1.le (by decide)) pass0 (pa_cons (pe_tup (pa_cons pe_int (pa_cons pe_int (pa_cons pe_int pa_nil)))) (pa_cons (pe_tup (pa_cons pe_int (pa_cons pe_int (pa_cons pe_int pa_nil)))) pa_nil))) (pa_cons (pe_d DTurningMove (hr1.le (by decide)) pass0 (pa_cons (pe_tup (pa_cons pe_int (pa_cons pe_int (pa_cons pe_int pa_nil)))) (pa_cons (pe_tup (pa_cons pe_int (pa_cons pe_int (pa_cons pe_int pa_nil)))) pa_nil))) (pa_cons (pe_d DIsTurningMove (hr1.le (by decide)) pass0 (pa_cons (pe_tup (pa_cons pe_int (pa_cons pe_int (pa_cons pe_int pa_nil)))) (pa_cons (pe_tup (pa_cons pe_int (pa_cons pe_int (pa_cons pe_int pa_nil)))) (pa_cons (pe_tup (pa_cons pe_int (pa_cons pe_int (pa_cons pe_int pa_nil)))) pa_nil)))) pa_nil)))))
      (pss_cons (ps_if (PW.pt (pw_or (pt_cmpR (op_neD hr.hu) (pv 4) (pe_lst (pa_cons (pe_tup (pa_cons pe_int (pa_cons pe_int (pa_cons pe_int pa_nil)))) (pa_cons pe_non (pa_cons pe_bl pa_nil)))) (nomark _)) (pw_or1 (pt_val (pe_d DIsTurningMove (hr1.le (by decide)) pass0 (pa_cons (pe_tup (pa_cons pe_int (pa_cons pe_int (pa_cons pe_int pa_nil)))) (pa_cons (pe_tup (pa_cons pe_int (pa_cons pe_int (pa_cons pe_int pa_nil)))) (pa_cons (pe_tup (pa_cons pe_int (pa_cons pe_int (pa_cons pe_int pa_nil)))) pa_nil)))))))) (pss_one (ps_ret pe_bl)) pss_nil)
      (pss_one (ps_ret (pe_and (pe_cmpR op_isN (pe_d DTurningMove (hr1.le (by decide)) pass0 (pa_cons (pe_tup (pa_cons pe_int (pa_cons pe_int (pa_cons pe_int (pa_cons pe_int pa_nil))))) (pa_cons (pe_tup (pa_cons pe_int (pa_cons pe_int (pa_cons pe_int (pa_cons pe_int pa_nil))))) pa_nil))) pe_non (nomark _)) (pe_one (pe_chain op_eq op_eq (pe_d DOrderOf (hr1.le (by decide)) pass0 (pa_cons (pe_tup (pa_cons pe_int (pa_cons pe_int (pa_cons pe_int (pa_cons pe_int pa_nil))))) pa_nil)) (pe_d DOrderOf (hr1.le (by decide)) pass0 (pa_cons (pe_tup (pa_cons pe_int (pa_cons pe_int (pa_cons pe_int (pa_cons pe_int pa_nil))))) pa_nil)) pe_int)))))))), ?_⟩
    refine ⟨_, rfl, a, _, rfl, .inl hS, _, _, rfl, _, _, rfl, ?_⟩
    obtain ⟨j, ej, j1, j2⟩ : ∃ j : Int, j = (if (if ((ns.map V.int).length : Int) < 3 then ((ns.map V.int).length : Int) else 3) > 1 then (if ((ns.map V.int).length : Int) < 3 then ((ns.map V.int).length : Int) else 3) else 1) ∧ 1 ≤ j ∧ j ≤ 3 := by
      refine ⟨_, rfl, ?_, ?_⟩
      all_goals
        split
        · split <;> omega
        · omega
    refine ⟨j, by rw [ej], by omega, by omega, for_range (fun i σ H' => SqL K H' a (ns.map V.int) ∧ ∃ y z u, σ = [some (.ref a), y, z, u, none]) ⟨hS, none, none, none, rfl⟩ ?_ ?_⟩
    · rintro i σ H' hi ⟨hS, y, z, u, rfl⟩
      refine ⟨_, rfl, _, rfl, a, i, ns, ?_, hS, by omega, fun H1 p sm np hb => ?_⟩
      · show [V.ref a, V.int (0 + (i : Int))] = _
        rw [Int.zero_add]
      have up := Upto.refl hb
      refine ⟨_, rfl, by (show 7 ≤ sizeLine); decide, fun L fL => ?_⟩
      obtain ⟨g1, g2, g3, eb⟩ := id hb
      have Lp : L ≠ p := (ne_of_none eb fL).symm
      have s3 := same_new (o := .lst [.int 1, .int 2, .int 3, .int 4, .int 6, .int 9, .int 24]) fL
      replace up := up.keep s3
      replace eb := s3 _ _ eb
      refine ⟨p, L, _, _, _, _, rfl, eb, .inl (.inl upd_same), Lp, (by show 0 < 7; decide), (by show 7 ≤ 1000; decide), fun v g' m' c' hv => ?_⟩
      replace up := up.draw (a := g') (b := m') (c := c')
      clear eb s3
      generalize upd (upd H1 L _) p _ = H3 at up ⊢
      obtain ⟨n, rfl, n1, n24⟩ : ∃ n : Nat, v = .int (n : Int) ∧ 1 ≤ n ∧ n ≤ 24 := by
        simp only [List.mem_cons, List.not_mem_nil, or_false] at hv
        rcases hv with h | h | h | h | h | h | h
        · exact ⟨1, h, by decide, by decide⟩
        · exact ⟨2, h, by decide, by decide⟩
        · exact ⟨3, h, by decide, by decide⟩
        · exact ⟨4, h, by decide, by decide⟩
        · exact ⟨6, h, by decide, by decide⟩
        · exact ⟨9, h, by decide, by decide⟩
        · exact ⟨24, h, by decide, by decide⟩
      clear hv
      refine ⟨_, rfl, _, rfl, p, n, rfl, up.bag, n1, n24, fun H4 up4 => ?_⟩
      replace up := up.trans up4
      refine ⟨_, rfl, ?_⟩
      obtain ⟨g1, g2, g3, eb⟩ := up.bag
      refine ⟨_, rfl, _, rfl, p, _, g1, g2, g3, rfl, eb, ⟨by decide, by decide⟩, fun r x1 x2 x3 r0 r1 => ?_⟩
      replace up := up.draw (a := x1) (b := x2) (c := x3)
      clear eb
      generalize upd H4 p _ = H5 at up ⊢
      refine ⟨_, _, rfl, rfl, p, (1 + r).toNat, ?_, up.bag, by omega, by omega, fun H6 up6 => ?_⟩
      · show [V.ref p, V.int (1 + r)] = _
        rw [Int.toNat_of_nonneg (by omega)]
      replace up := up.trans up6
      refine ⟨_, rfl, ?_⟩
      refine ⟨_, rfl, _, rfl, p, n, rfl, up.bag, n1, n24, fun H7 up7 => ?_⟩
      replace up := up.trans up7
      refine ⟨_, rfl, ?_⟩
      exact ⟨keep_script sm np up hS, _, _, _, rfl⟩
    · rintro σ H' ⟨hS, y, z, u, rfl⟩
      clear hS
      refine ⟨by (show 3 ≤ sizeLine); decide, fun t1 f1 => ?_⟩
      refine ⟨by (show 3 ≤ sizeLine); decide, fun t2 f2 => ?_⟩
      refine ⟨t1, t2, [1, 0, 2], [1, 2, 0], rfl, sqt_new (SqT.new3 [1, 0, 2] t1) f2, SqT.new3 [1, 2, 0] t2, m3 (by decide), m3 (by decide), rfl, fun H2 p1 _ T1 => ?_⟩
      rw [tl1] at T1
      clear f1 f2
      refine ⟨by (show 3 ≤ sizeLine); decide, fun t3 f3 => ?_⟩
      replace T1 := sqt_new (o := .tup (mv [1, 0, 2])) T1 f3
      refine ⟨by (show 3 ≤ sizeLine); decide, fun t4 f4 => ?_⟩
      replace T1 := sqt_new (o := .tup (mv [1, 2, 0])) T1 f4
      refine ⟨t3, t4, [1, 0, 2], [1, 2, 0], rfl, sqt_new (SqT.new3 [1, 0, 2] t3) f4, SqT.new3 [1, 2, 0] t4, m3 (by decide), m3 (by decide), rfl, fun e => absurd e lens_ne, fun _ H3 s3 => ?_⟩
      replace T1 := same_sqt s3 T1
      clear s3
      refine ⟨by (show 3 ≤ sizeLine); decide, fun t5 f5 => ?_⟩
      replace T1 := sqt_new (o := .tup (mv [1, 0, 2])) T1 f5
      refine ⟨by (show 3 ≤ sizeLine); decide, fun t6 f6 => ?_⟩
      replace T1 := sqt_new (o := .tup (mv [0, 2, 1])) T1 f6
      refine ⟨by (show 3 ≤ sizeLine); decide, fun t7 f7 => ?_⟩
      replace T1 := sqt_new (o := .tup (mv [1, 2, 0])) T1 f7
      refine ⟨t5, t6, [1, 0, 2], [0, 2, 1], .ref t7, some (mv [1, 2, 0]), rfl, sqt_new (sqt_new (SqT.new3 [1, 0, 2] t5) f6) f7, sqt_new (SqT.new3 [0, 2, 1] t6) f7, m3 (by decide), m3 (by decide), rfl, rv_mv (SqT.new3 [1, 2, 0] t7),
        fun xs e => by rw [← Option.some.inj e, mv_len]; decide, fun H4 s4 => ?_⟩
      rw [tn1]
      replace T1 := same_sqt s4 T1
      clear s4
      refine ⟨by (show 3 ≤ sizeLine); decide, fun L fL => ?_⟩
      have sL := same_new (o := .lst [V.ref p1, V.non, V.bl true]) fL
      have hL : (upd H4 L (.lst [V.ref p1, V.non, V.bl true])) L = some (.lst [V.ref p1, V.non, V.bl true]) := upd_same
      replace T1 := same_sqt sL T1
      clear sL
      generalize upd H4 L _ = H5 at T1 hL ⊢
      refine ⟨_, rfl, ?_⟩
      refine ⟨by (show 3 ≤ sizeLine); decide, fun q1 g1 => ?_⟩
      refine ⟨by (show 3 ≤ sizeLine); decide, fun M fM => ?_⟩
      have c1 := same_new (o := .tup (mv [0, 2, 1])) g1
      have c2 := same_new (o := .lst [V.ref q1, V.non, V.bl true]) fM
      have Q1 : SqT K (upd H5 q1 (.tup (mv [0, 2, 1]))) q1 (mv [0, 2, 1]) := SqT.new3 _ _
      refine ⟨.list [dM [0, 2, 1], .none, .bool true], .list [dM [0, 2, 1], .none, .bool true],
        .lst (.inl (.inl ((c1.trans c2) _ _ hL))) (.cons (dp_mv (same_sqt (c1.trans c2) T1)) (.cons .non (.cons (.bl true) .nil))),
        .lst (.inl (.inl upd_same)) (.cons (dp_mv (same_sqt c2 Q1)) (.cons .non (.cons (.bl true) .nil))), by decide +kernel, by decide +kernel, ?_⟩
      refine ⟨_, rfl, ?_⟩
      refine ifF (by decide +kernel) ?_
      clear c1 c2 Q1 T1 hL
      generalize upd (upd H5 q1 _) M _ = H6
      refine ⟨by (show 3 ≤ sizeLine); decide, fun t5 f5 => ?_⟩
      refine ⟨by (show 3 ≤ sizeLine); decide, fun t6 f6 => ?_⟩
      refine ⟨by (show 3 ≤ sizeLine); decide, fun t7 f7 => ?_⟩
      refine ⟨t5, t6, [1, 0, 2], [0, 2, 1], .ref t7, some (mv [0, 1, 2]), rfl, sqt_new (sqt_new (SqT.new3 [1, 0, 2] t5) f6) f7, sqt_new (SqT.new3 [0, 2, 1] t6) f7, m3 (by decide), m3 (by decide), rfl, rv_mv (SqT.new3 [0, 1, 2] t7),
        fun xs e => by rw [← Option.some.inj e, mv_len]; decide, fun H7 s7 => ?_⟩
      rw [tn2]
      refine ⟨_, rfl, ?_⟩
      refine ifF rfl ?_
      refine ⟨by (show 4 ≤ sizeLine); decide, fun t1 f1 => ?_⟩
      refine ⟨by (show 4 ≤ sizeLine); decide, fun t2 f2 => ?_⟩
      refine ⟨t1, t2, [1, 0, 2, 3], [1, 0, 3, 2], rfl, sqt_new (SqT.new3 [1, 0, 2, 3] t1) f2, SqT.new3 [1, 0, 3, 2] t2, m3 (by decide), m3 (by decide), rfl, fun e => absurd e lens_ne2, fun _ H8 s8 => ?_⟩
      refine ⟨rfl, _, rfl, ?_⟩
      refine ifT rfl ?_
      have hm1 : Mv [1, 0, 2, 3] := m3 (by decide)
      have hm2 : Mv [1, 0, 3, 2] := m3 (by decide)
      refine ⟨by (show 4 ≤ sizeLine); decide, fun t3 f3 => ?_⟩
      refine ⟨t3, [1, 0, 2, 3], rfl, SqT.new3 [1, 0, 2, 3] t3, hm1, fun i => Nat.lt_of_le_of_lt (ord_small (pm_of hm1) hm1.2.2.2 i) (by decide), fun H9 s9 => ?_⟩
      refine ⟨by (show 4 ≤ sizeLine); decide, fun t4 f4 => ?_⟩
      refine ⟨t4, [1, 0, 3, 2], rfl, SqT.new3 [1, 0, 3, 2] t4, hm2, fun i => Nat.lt_of_le_of_lt (ord_small (pm_of hm2) hm2.2.2.2 i) (by decide), fun H10 s10 => ?_⟩
      rw [od1, od2]
      refine ⟨rfl, _, rfl, ?_⟩
      refine ifT rfl ?_
      refine ⟨rfl, ?_⟩
      exact q _
end
end K05


set_option Elab.async false
set_option linter.all false
set_option maxRecDepth 100000
set_option maxHeartbeats 0
namespace K05
open PySem PySem.Spec PyProof.Rows L2 MM
theorem law_def {P : Program} {w : World} {K : PySem.W.Frag} {mg : Str → Option Value} {base : Heap} (T : Tx K mg) : Def P w K mg base CX0 8 "law" ["_law_script"] (spLaw K) := by
  have DBagL := dBagL (P := P) (w := w) (base := base) T 
  have DGrabL := dGrabL (P := P) (w := w) (base := base) T 
  have DOneOfL := dOneOfL (P := P) (w := w) (base := base) T DGrabL
  have DMixedL := dMixedL (P := P) (w := w) (base := base) T DGrabL
  have DIsWhole := dIsWhole (P := P) (w := w) (base := base) T 
  have DIsBetween := dIsBetween (P := P) (w := w) (base := base) T DIsWhole
  have DIsArrangement := dIsArrangement (P := P) (w := w) (base := base) T DIsBetween
  have DNeedMove := dNeedMove (P := P) (w := w) (base := base) T DIsArrangement
  have DNeedPair := dNeedPair (P := P) (w := w) (base := base) T DNeedMove
  have DFollowed := dFollowed (P := P) (w := w) (base := base) T 
  have DTurnedBack := dTurnedBack (P := P) (w := w) (base := base) T 
  have DTurned := dTurned (P := P) (w := w) (base := base) T DFollowed DTurnedBack
  have DTurnedMove := dTurnedMove (P := P) (w := w) (base := base) T DNeedPair DTurned
  have DLotUndoneL := dLotUndoneL (P := P) (w := w) (base := base) T 
  have DLotTimesL := dLotTimesL (P := P) (w := w) (base := base) T 
  have DNeedBetween := dNeedBetween (P := P) (w := w) (base := base) T DIsBetween
  have DCycles := dCycles (P := P) (w := w) (base := base) T 
  have DPowerOf := dPowerOf (P := P) (w := w) (base := base) T DNeedMove DNeedBetween DCycles
  have DChainRightL := dChainRightL (P := P) (w := w) (base := base) T DMixedL DTurnedMove DLotUndoneL DLotTimesL DGrabL DPowerOf
  have DOwnTurnedL := dOwnTurnedL (P := P) (w := w) (base := base) T DLotTimesL DLotUndoneL
  have DOwnRingsL := dOwnRingsL (P := P) (w := w) (base := base) T 
  have DTurningMove := dTurningMove (P := P) (w := w) (base := base) T DNeedPair DCycles
  have DIsTurningL := dIsTurningL (P := P) (w := w) (base := base) T DOwnTurnedL
  have DLengthsL := dLengthsL (P := P) (w := w) (base := base) T DOwnRingsL
  have DIsTurningMove := dIsTurningMove (P := P) (w := w) (base := base) T DNeedPair DIsArrangement DTurned
  have DTurnsRightL := dTurnsRightL (P := P) (w := w) (base := base) T DMixedL DOwnTurnedL DOwnRingsL DTurnedMove DTurningMove DIsTurningL DLengthsL DLotTimesL DIsTurningMove
  have DOrderOf := dOrderOf (P := P) (w := w) (base := base) T DNeedMove DCycles
  exact dLaw T DBagL DOneOfL DChainRightL DTurnsRightL DGrabL DIsTurningMove DTurningMove DTurnedMove DOrderOf
def dd (x : Str) (st : Stmt) : He.DefD := ⟨(x, none), x, x, defArgs st, defBody st, defScope st, [], []⟩
def fn : List He.DefD := [dd "is_whole" sIsWhole, dd "is_between" sIsBetween, dd "need_between" sNeedBetween, dd "is_arrangement" sIsArrangement, dd "_need_move" sNeedMove, dd "_need_pair" sNeedPair, dd "followed" sFollowed, dd "turned_back" sTurnedBack, dd "_cycles" sCycles, dd "power_of" sPowerOf, dd "order_of" sOrderOf, dd "_turned" sTurned, dd "turned_move" sTurnedMove, dd "turning_move" sTurningMove, dd "is_turning_move" sIsTurningMove, dd "_law_bag" sBagL, dd "_law_grab" sGrabL, dd "_law_one_of" sOneOfL, dd "_law_mixed" sMixedL, dd "_law_lot_times" sLotTimesL, dd "_law_lot_undone" sLotUndoneL, dd "_law_own_rings" sOwnRingsL, dd "_law_own_turned" sOwnTurnedL, dd "_law_lengths" sLengthsL, dd "_law_is_turning" sIsTurningL, dd "_law_turns_right" sTurnsRightL, dd "_law_chain_right" sChainRightL, dd "law" sLaw]
def fa : List He.Fa := [.glo "is_whole", .glo "is_between", .glo "need_between", .glo "is_arrangement", .glo "_need_move", .glo "_need_pair", .glo "followed", .glo "turned_back", .glo "_cycles", .glo "power_of", .glo "order_of", .glo "_turned", .glo "turned_move", .glo "turning_move", .glo "is_turning_move", .glo "_law_bag", .glo "_law_grab", .glo "_law_one_of", .glo "_law_mixed", .glo "_law_lot_times", .glo "_law_lot_undone", .glo "_law_own_rings", .glo "_law_own_turned", .glo "_law_lengths", .glo "_law_is_turning", .glo "_law_turns_right", .glo "_law_chain_right", .glo "law", .free "abs", .free "all", .free "bool", .free "enumerate", .free "int", .free "isinstance", .free "len", .free "list", .free "max", .free "min", .free "range", .free "repr", .free "set", .free "sorted", .free "str", .free "sum", .free "tuple", .free "zip", .int "MAX_PLACES" (24), .int "MAX_POWER" (10 ^ 30)]
def ex (K : PySem.W.Frag) : Bool := He.eqO (PySem.W.nsIn K mainGlobals "lcm") (some (some (.builtin "math.lcm")))
theorem tx {K : PySem.W.Frag} {h : Heap} {mg : Str → Option Value} (X : K.In h) (G : h.Ns mainGlobals mg) (c : He.SaysD fa fn K) (e : ex K = true) : Tx K mg := by
  exact {
    t_is_whole := ⟨c.def_ 0 rfl, He.glo_ok X G (c.fact 0 rfl)⟩
    t_is_between := ⟨c.def_ 1 rfl, He.glo_ok X G (c.fact 1 rfl)⟩
    t_need_between := ⟨c.def_ 2 rfl, He.glo_ok X G (c.fact 2 rfl)⟩
    t_is_arrangement := ⟨c.def_ 3 rfl, He.glo_ok X G (c.fact 3 rfl)⟩
    t_need_move := ⟨c.def_ 4 rfl, He.glo_ok X G (c.fact 4 rfl)⟩
    t_need_pair := ⟨c.def_ 5 rfl, He.glo_ok X G (c.fact 5 rfl)⟩
    t_followed := ⟨c.def_ 6 rfl, He.glo_ok X G (c.fact 6 rfl)⟩
    t_turned_back := ⟨c.def_ 7 rfl, He.glo_ok X G (c.fact 7 rfl)⟩
    t_cycles := ⟨c.def_ 8 rfl, He.glo_ok X G (c.fact 8 rfl)⟩
    t_power_of := ⟨c.def_ 9 rfl, He.glo_ok X G (c.fact 9 rfl)⟩
    t_order_of := ⟨c.def_ 10 rfl, He.glo_ok X G (c.fact 10 rfl)⟩
    t_turned := ⟨c.def_ 11 rfl, He.glo_ok X G (c.fact 11 rfl)⟩
    t_turned_move := ⟨c.def_ 12 rfl, He.glo_ok X G (c.fact 12 rfl)⟩
    t_turning_move := ⟨c.def_ 13 rfl, He.glo_ok X G (c.fact 13 rfl)⟩
    t_is_turning_move := ⟨c.def_ 14 rfl, He.glo_ok X G (c.fact 14 rfl)⟩
    t_law_bag := ⟨c.def_ 15 rfl, He.glo_ok X G (c.fact 15 rfl)⟩
    t_law_grab := ⟨c.def_ 16 rfl, He.glo_ok X G (c.fact 16 rfl)⟩
    t_law_one_of := ⟨c.def_ 17 rfl, He.glo_ok X G (c.fact 17 rfl)⟩
    t_law_mixed := ⟨c.def_ 18 rfl, He.glo_ok X G (c.fact 18 rfl)⟩
    t_law_lot_times := ⟨c.def_ 19 rfl, He.glo_ok X G (c.fact 19 rfl)⟩
    t_law_lot_undone := ⟨c.def_ 20 rfl, He.glo_ok X G (c.fact 20 rfl)⟩
    t_law_own_rings := ⟨c.def_ 21 rfl, He.glo_ok X G (c.fact 21 rfl)⟩
    t_law_own_turned := ⟨c.def_ 22 rfl, He.glo_ok X G (c.fact 22 rfl)⟩
    t_law_lengths := ⟨c.def_ 23 rfl, He.glo_ok X G (c.fact 23 rfl)⟩
    t_law_is_turning := ⟨c.def_ 24 rfl, He.glo_ok X G (c.fact 24 rfl)⟩
    t_law_turns_right := ⟨c.def_ 25 rfl, He.glo_ok X G (c.fact 25 rfl)⟩
    t_law_chain_right := ⟨c.def_ 26 rfl, He.glo_ok X G (c.fact 26 rfl)⟩
    t_law := ⟨c.def_ 27 rfl, He.glo_ok X G (c.fact 27 rfl)⟩
    f_abs := He.free_ok X G (c.fact 28 rfl)
    f_all := He.free_ok X G (c.fact 29 rfl)
    f_bool := He.free_ok X G (c.fact 30 rfl)
    f_enumerate := He.free_ok X G (c.fact 31 rfl)
    f_int := He.free_ok X G (c.fact 32 rfl)
    f_isinstance := He.free_ok X G (c.fact 33 rfl)
    f_len := He.free_ok X G (c.fact 34 rfl)
    f_list := He.free_ok X G (c.fact 35 rfl)
    f_max := He.free_ok X G (c.fact 36 rfl)
    f_min := He.free_ok X G (c.fact 37 rfl)
    f_range := He.free_ok X G (c.fact 38 rfl)
    f_repr := He.free_ok X G (c.fact 39 rfl)
    f_set := He.free_ok X G (c.fact 40 rfl)
    f_sorted := He.free_ok X G (c.fact 41 rfl)
    f_str := He.free_ok X G (c.fact 42 rfl)
    f_sum := He.free_ok X G (c.fact 43 rfl)
    f_tuple := He.free_ok X G (c.fact 44 rfl)
    f_zip := He.free_ok X G (c.fact 45 rfl)
    c_MAX_PLACES := by
      obtain ⟨t, e⟩ := He.int_ok X G (c.fact 46 rfl)
      exact ⟨_, e, t, rfl⟩
    c_MAX_POWER := by
      obtain ⟨t, e⟩ := He.int_ok X G (c.fact 47 rfl)
      exact ⟨_, e, t, rfl⟩
    b_lcm := PySem.W.mg_of X G (He.eqO_ok e)
    }
abbrev R : PySem.W.OpenRow := PySem.W.OpenLaw.row PySem.Challenge.rw_movemarks_k05_whole_turned_moves
theorem law_ends {P : Program} {w : World} {K : PySem.W.Frag} {h : Heap} {mg : Str → Option Value} {f : Addr} (X : K.In h) (G : h.Ns mainGlobals mg) (hfa : mg ("law" : Str) = some (.ref f)) (c : He.SaysD fa fn K) (e : ex K = true) :
    ∃ fd : FuncData, (∀ (s : Shared) (v : Value), BindsTo s fd ⟨[v], []⟩ [("_law_script", v)]) ∧ ∀ base : Heap, K.In base → base.Ns mainGlobals mg → FnG P w K mg base CX0 8 f fd ["_law_script"] (spLaw K) := by
  have T : Tx K mg := tx X G c e
  obtain ⟨fd, F⟩ := T.t_law.fn
  have b := FunD.bindsA (ps := ["_law_script"]) F fun _ _ _ _ _ _ us hl => match us, hl with | [_], _ => rfl
  refine ⟨fd, fun s v => b s [v] rfl, fun base _ _ => ?_⟩
  obtain ⟨oc, od, _, _, _, _, _, _, _, osl, _, lk, _⟩ := F.ex
  obtain ⟨f2, fd2, F2, hm, _, _, oc2, od2, sl2, lk2⟩ := law_def (P := P) (w := w) (base := base) T
  have e1 : f2 = f := by
    rw [hfa] at hm
    injection hm with hm
    injection hm with hm
    exact hm.symm
  have e2 : He.ga K "law" = f := by
    have g := T.t_law.glo
    rw [hfa] at g
    injection g with g
    injection g with g
    exact g.symm
  subst e1
  rw [e2] at lk
  rw [lk] at lk2
  injection lk2 with lk2
  injection lk2 with z1 z2 z3 z4
  injection z3 with z3
  subst z3
  exact F2
abbrev hk : PySem.W.Hook := He.hookX 4 fa fn [] [] ex
def ob (s : PySem.W.SharedT) : He.AlX := He.obsX 4 fa fn [] [] ex (HandSHeadRun.getT s)
theorem ob_eq (s : PySem.W.SharedT) : ob s = hk.obs s.abs := He.obsX_eq (HandSHeadRun.getT_eq s)
def names : List PySem.Str := (["MarkError", "InvalidMove", "InvalidOperation", "InvalidNumber", "is_whole", "is_between", "need_between", "MAX_PLACES", "MAX_POWER", "is_arrangement", "_need_move", "_need_pair", "followed", "turned_back", "_cycles", "power_of", "order_of", "_turned", "turned_move", "turning_move", "is_turning_move", "_law_bag", "_law_grab", "_law_one_of", "_law_mixed", "_law_lot_times", "_law_lot_undone", "_law_own_rings", "_law_own_turned", "_law_lengths", "_law_is_turning", "_law_turns_right", "_law_chain_right"] : List String).map PySem.Str.ofString
end K05

set_option Elab.async false
set_option linter.all false
set_option maxRecDepth 100000
set_option maxHeartbeats 0
namespace K05
open PySem PySem.Spec PyProof.Rows L2 MM
theorem run (w : World) : HandSHeadRun.RunEqI R (PySem.W.view R.prog [0, 38]) hk ob 3000 names w := by
  unfold HandSHeadRun.RunEqI
  kernel_rfl
end K05
open PySem PySem.W PySem.Calls PyProof.Rows
theorem PySem.Challenge.cw_movemarks_k05_whole_turned_moves_holds : PySem.Challenge.rw_movemarks_k05_whole_turned_moves.Holds := by
  w_on; o_law
  refine HandSHeadRun.head_imp (r := OpenLaw.row PySem.Challenge.rw_movemarks_k05_whole_turned_moves) (q := view (OpenLaw.row PySem.Challenge.rw_movemarks_k05_whole_turned_moves).prog [0, 38]) (H := K05.hk) (ob := K05.ob) (M := 3000) (loose := K05.names)
    (d := HandSHeadRun.topDef (OpenLaw.row PySem.Challenge.rw_movemarks_k05_whole_turned_moves).prog 38) (kwd := []) K05.ob_eq K05.run (by kernel_rfl) (by kernel_rfl) (by kernel_rfl) (by rfl) (by first | assumption | decide +kernel) (by decide +kernel) ⟨rfl, rfl, rfl, rfl, rfl, by decide +kernel⟩ ?hw ?hc
  case hw => w_witness2
  case hc =>
    refine MM.walk_g (l := PySem.Challenge.rw_movemarks_k05_whole_turned_moves) (n := 63) (k := 8) (x := "_law_script") (CX := L2.CX0) rfl (by decide) (by kernel_rfl) ⟨⟨rfl, by decide, by decide⟩, rfl⟩ ?F (fun _ _ _ _ z => z)
    intro w mg fa h Y G hmg0
    obtain ⟨K, KX, c⟩ := Y
    have hmg : mg ("law" : PySem.Str) = some (.ref fa) := by
      have e : (HandSHeadRun.topDef (OpenLaw.row PySem.Challenge.rw_movemarks_k05_whole_turned_moves).prog 38).name = ("law" : PySem.Str) := by kernel_rfl
      rw [← e]
      exact hmg0
    obtain ⟨fd, hb, hF⟩ := K05.law_ends (P := (PySem.Challenge.rw_movemarks_k05_whole_turned_moves).prog) (w := w) KX G hmg c.t.d c.more
    exact ⟨K, fd, K05.spLaw K, KX, hb, fun H a ns hl hS => ⟨a, ns, rfl, hS, by omega, fun _ => rfl⟩, hF⟩
