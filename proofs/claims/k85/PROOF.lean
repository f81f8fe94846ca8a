import PyProof.Rows.All
import Wide.All
import OpenK.AllK
import Wide.FinOn
import HandS.Words
import HandS.ExcField
import KE.KExcInit
import HandS.ExcInit
import HandS.ExcValue
import HandS.Head0
import HandS.Head1
import HandS.Head2
import HandS.Head3
import HandS.Head4
import HandS.HeadEnd
import HandS.HeadHook1
import HandS.HeadHook2
import HandS.HeadHook3
import HandS.HeadHook4
import KE.KStateDown
import KE.KNestM
import HandS.ForMost
import HandS.Exc
import HandS.Defaults
import HandS.More
import HandS.Flow
import HandS.Wide
import HandS.IsInst
import HandS.Codes
import HandS.Conv
import HandS.SortInts
import HandS.TupAny
import HandS.TupMul
import HandS.DictComp
import HandS.Style
import HandS.Small
import PyProof.ReprRoads
import HandS.Gcd
import PyProof.Rows.RuleB_pow
import KE.GoesEnum
import HandS.Iter
import HandS.Set
import HandS.SetFor
import HandS.Strs
import KE.SortKeyHeap
import HandS.SortKw
import HandS.Zip
import HandS.TryMany
import HandS.Lambda
import HandS.EndTab
import KE.GoesMore
import HandS.Walk
import HandS.RaiseMore
import KE.KExcIs
import PyProof.StrOps2
import HandS.HotCalls
import PyProof.Rows.FactsExc_KeyError
import PyProof.Rows.SetFrom
import HandS.Text
import HandS.ExcBuiltin
import KE.IntTextLaws
import KE.KIntText
import PySem.Challenge.RW_movemarks_k85_whole_texts_with_faults
set_option Elab.async false
set_option linter.all false
set_option maxRecDepth 100000
set_option maxHeartbeats 0
namespace K85
open PySem PySem.Spec PyProof.Rows L2
def topS (i : Nat) : Stmt := PySem.Challenge.pw_movemarks_k85_whole_texts_with_faults.main.body.getD i (.Pass ⟨0, 0, 0, 0⟩)
abbrev sIsWhole : Stmt := topS 10
abbrev sIsInteger : Stmt := topS 11
abbrev sIsBetween : Stmt := topS 12
abbrev sNeedBetween : Stmt := topS 13
abbrev sNeedPlaces : Stmt := topS 16
abbrev sNeedRings : Stmt := topS 17
abbrev sMoveOfCycles : Stmt := topS 18
abbrev sNeedText : Stmt := topS 24
abbrev sIsAt : Stmt := topS 25
abbrev sBehind : Stmt := topS 26
abbrev sIsDigitAt : Stmt := topS 27
abbrev sReadPlain : Stmt := topS 28
abbrev sReadLess : Stmt := topS 29
abbrev sReadRing : Stmt := topS 30
abbrev sReadRings : Stmt := topS 31
abbrev sMoveOf : Stmt := topS 32
abbrev sReadMove : Stmt := topS 33
abbrev sReadSigned : Stmt := topS 34
abbrev sReadRow : Stmt := topS 35
abbrev sReadTerm : Stmt := topS 36
abbrev sReadTerms : Stmt := topS 37
abbrev sReadKinds : Stmt := topS 38
abbrev sBagL : Stmt := topS 40
abbrev sGrabL : Stmt := topS 41
abbrev sOneOfL : Stmt := topS 42
abbrev sCyclesL : Stmt := topS 43
abbrev sMoveDrawnL : Stmt := topS 44
abbrev sFiguresL : Stmt := topS 45
abbrev sCyclesFromL : Stmt := topS 46
abbrev sMoveOfL : Stmt := topS 47
abbrev sMoveTextL : Stmt := topS 48
abbrev sMoveReadL : Stmt := topS 49
abbrev sNearTextL : Stmt := topS 50
abbrev sKindsTextL : Stmt := topS 51
abbrev sMetL : Stmt := topS 52
abbrev sRowReadL : Stmt := topS 53
abbrev sTermFromL : Stmt := topS 54
abbrev sKindsReadL : Stmt := topS 55
abbrev sMovesRightL : Stmt := topS 56
abbrev sNumberL : Stmt := topS 57
abbrev sRowsRightL : Stmt := topS 58
abbrev sKindsRightL : Stmt := topS 59
abbrev sLaw : Stmt := topS 60
abbrev ga (K : PySem.W.Frag) (x : Str) : Addr := He.ga K x
abbrev veTop : List Value := [.type "ValueError", .type "Exception", .type "BaseException", .type "object"]
abbrev ieTop : List Value := [.type "IndexError", .type "LookupError", .type "Exception", .type "BaseException", .type "object"]
def plainB (K : PySem.W.Frag) (x : Str) : Bool :=
  PySem.W.keepIn K (.ref (ga K x)) && PySem.W.excIn K (ga K x) veTop "ValueError.__new__" &&
    decide (PySem.W.subIn K (.ref (ga K x)) (.type "BaseException") = some true) &&
    decide (PySem.W.typeIn K (.ref (ga K x)) = some (.type "type"))
def inClass (s : Stmt) : Stmt := match s with
  | .ClassDef _ _ _ b _ _ _ _ _ _ _ => b.getD 0 (.Pass ⟨0, 0, 0, 0⟩)
  | _ => .Pass ⟨0, 0, 0, 0⟩
abbrev sIniP : Stmt := inClass (topS 6)
abbrev sIniN : Stmt := inClass (topS 7)
def cns : List Str := (["ParseError", "InvalidMove", "InvalidRow", "InvalidKinds"] : List String).map PySem.Str.ofString
/-- the name of the i-th class that is caught -/
def cn (i : Nat) : Str := cns.getD i ""
abbrev sMr : Str := "_law_moves_right"
abbrev sRr : Str := "_law_rows_right"
abbrev sKr : Str := "_law_kinds_right"
abbrev sLw : Str := "law"
/-- the addresses of a def's code object and its table -/
abbrev cd1 (K : PySem.W.Frag) : Addr × Addr := He.cT K (sMr, none)
abbrev cd2 (K : PySem.W.Frag) : Addr × Addr := He.cT K (sRr, none)
abbrev cd3 (K : PySem.W.Frag) : Addr × Addr := He.cT K (sKr, none)
abbrev cd4 (K : PySem.W.Frag) : Addr × Addr := He.cT K (sLw, none)
/-- the row of a class with a field, asked -/
def kepRow (K : PySem.W.Frag) (C : Addr) (top : List Value) (newId : String) : Bool :=
  match K.lookup C with
  | some ⟨.type "type", _, .cls cd, sl⟩ =>
    (match cd.mro with
     | .ref C' :: bm => decide (C' = C) && PySem.W.excTail top bm
     | _ => false) && (match sl.toList with
     | [_, _, _, _, some (.builtin n), _] => decide (n = newId)
     | _ => false) && !cd.hasDel && cd.hasDict
  | _ => false
def kepB (K : PySem.W.Frag) (x f : Str) (top : List Value) (newId : String) : Bool :=
  kepRow K (ga K x) top newId && decide (PySem.W.findIn K (.ref (ga K x)) "__setattr__" = some (some (.builtin "object.__setattr__"))) &&
    decide (PySem.W.subIn K (.ref (ga K x)) (.type "BaseException") = some true) &&
    decide (PySem.W.typeIn K (.ref (ga K x)) = some (.type "type")) && PySem.W.keepIn K (.ref (ga K x)) &&
    decide (PySem.W.findIn K (.ref (ga K x)) f = some none) && xfB K (ga K x) &&
    decide (PySem.W.findIn K (.ref (ga K x)) "__init__" = some (some (.ref (He.ma K (ga K x) "__init__")))) &&
    decide (PySem.W.typeIn K (.ref (He.ma K (ga K x) "__init__")) = some (.type "function"))
def askB (K : PySem.W.Frag) : Bool :=
  decide (PySem.W.specialIn K (.ref (ga K "MarkError")) "__getattribute__" = some (some (.builtin "type.__getattribute__"))) &&
    PySem.W.readsIn K (ga K "MarkError") (.type "type") &&
    (match PySem.W.findCls K (.ref (ga K "MarkError")) (.type "type") "__init__" with
     | some (.val (.builtin n)) => decide (n = "ValueError.__init__")
     | _ => false)
def allB (K : PySem.W.Frag) : Bool :=
  plainB K "InvalidMove" && (plainB K "InvalidRow" && (plainB K "InvalidKinds" && (askB K && (kepB K "ParseError" "index" veTop "ValueError.__new__" && (kepB K "InvalidNumber" "given" ieTop "IndexError.__new__" &&
    (((List.range 4).all fun i => (List.range (i + 1)).all fun j => decide (PySem.W.exmOne K (.ref (ga K (cn i))) (.ref (ga K (cn j))) = some (decide (i = j)))) &&
    (decide ((cd1 K).2 ≠ (cd2 K).2) && (decide ((cd1 K).2 ≠ (cd3 K).2) && (decide ((cd1 K).2 ≠ (cd4 K).2) && (decide ((cd2 K).2 ≠ (cd3 K).2) && (decide ((cd2 K).2 ≠ (cd4 K).2) && decide ((cd3 K).2 ≠ (cd4 K).2))))))))))))
def di (x : Str) (st : Stmt) : He.DefD := ⟨(x, some "__init__"), "__init__", x ++ ".__init__", defArgs st, defBody st, defScope st, [], []⟩
def dd (x : Str) (st : Stmt) : He.DefD := ⟨(x, none), x, x, defArgs st, defBody st, defScope st, [], []⟩
def fn : List He.DefD := [dd "is_whole" sIsWhole, dd "is_integer" sIsInteger, dd "is_between" sIsBetween, dd "need_between" sNeedBetween, dd "need_places" sNeedPlaces, dd "_need_rings" sNeedRings, dd "move_of_cycles" sMoveOfCycles, dd "_need_text" sNeedText, dd "_is_at" sIsAt, dd "_behind" sBehind, dd "_is_digit_at" sIsDigitAt, dd "_read_plain" sReadPlain, dd "_read_less" sReadLess, dd "_read_ring" sReadRing, dd "_read_rings" sReadRings, dd "_move_of" sMoveOf, dd "read_move" sReadMove, dd "_read_signed" sReadSigned, dd "read_row" sReadRow, dd "_read_term" sReadTerm, dd "_read_terms" sReadTerms, dd "read_kinds" sReadKinds, dd "_law_bag" sBagL, dd "_law_grab" sGrabL, dd "_law_one_of" sOneOfL, dd "_law_cycles" sCyclesL, dd "_law_move_drawn" sMoveDrawnL, dd "_law_figures" sFiguresL, dd "_law_cycles_from" sCyclesFromL, dd "_law_move_of" sMoveOfL, dd "_law_move_text" sMoveTextL, dd "_law_move_read" sMoveReadL, dd "_law_near_text" sNearTextL, dd "_law_kinds_text" sKindsTextL, dd "_law_met" sMetL, dd "_law_row_read" sRowReadL, dd "_law_term_from" sTermFromL, dd "_law_kinds_read" sKindsReadL, dd "_law_moves_right" sMovesRightL, dd "_law_number" sNumberL, dd "_law_rows_right" sRowsRightL, dd "_law_kinds_right" sKindsRightL, dd "law" sLaw, di "ParseError" sIniP, di "InvalidNumber" sIniN]
def fa : List He.Fa := [.glo "is_whole", .glo "is_integer", .glo "is_between", .glo "need_between", .glo "need_places", .glo "_need_rings", .glo "move_of_cycles", .glo "_need_text", .glo "_is_at", .glo "_behind", .glo "_is_digit_at", .glo "_read_plain", .glo "_read_less", .glo "_read_ring", .glo "_read_rings", .glo "_move_of", .glo "read_move", .glo "_read_signed", .glo "read_row", .glo "_read_term", .glo "_read_terms", .glo "read_kinds", .glo "_law_bag", .glo "_law_grab", .glo "_law_one_of", .glo "_law_cycles", .glo "_law_move_drawn", .glo "_law_figures", .glo "_law_cycles_from", .glo "_law_move_of", .glo "_law_move_text", .glo "_law_move_read", .glo "_law_near_text", .glo "_law_kinds_text", .glo "_law_met", .glo "_law_row_read", .glo "_law_term_from", .glo "_law_kinds_read", .glo "_law_moves_right", .glo "_law_number", .glo "_law_rows_right", .glo "_law_kinds_right", .glo "law", .free "IndexError", .free "abs", .free "all", .free "bool", .free "enumerate", .free "int", .free "isinstance", .free "len", .free "list", .free "max", .free "min", .free "range", .free "set", .free "str", .free "sum", .free "tuple", .int "_TOO_LONG" (10 ^ 60), .int "MAX_PLACES" (24), .int "MOST_SIGNS" (3000), .int "MOST_MEMBERS" (60), .str "_DIGITS" "0123456789", .int "_MOST_DIGITS" (60), .glo "InvalidMove", .glo "InvalidRow", .glo "InvalidKinds", .glo "MarkError", .glo "ParseError", .glo "InvalidNumber"]
def ex (K : PySem.W.Frag) : Bool := allB K && (true)
abbrev tf : List He.Defn := [(sMr, none), (sRr, none), (sKr, none), (sLw, none)]
abbrev cs (K : PySem.W.Frag) : List (Addr × Addr) := [cd1 K, cd2 K, cd3 K, cd4 K]
abbrev R : PySem.W.OpenRow := PySem.W.OpenLaw.row PySem.Challenge.rw_movemarks_k85_whole_texts_with_faults
/-- the addresses that the head's facts look at -/
def asL : List Addr := [2, 3, 24, 37, 49, 61, 92, 111, 121, 128, 135, 142, 149, 156, 163, 170, 177, 184, 191, 198, 205, 212, 219, 224, 231, 238, 245, 252, 259, 264, 271, 278, 285, 292, 299, 306, 313, 318, 323, 330, 337, 344, 351, 358, 365, 370, 377, 384, 389, 394, 401, 23, 36, 48, 60, 91, 110, 120, 127, 134, 141, 148, 155, 162, 169, 176, 183, 190, 197, 204, 211, 218, 223, 230, 237, 244, 251, 258, 263, 270, 277, 284, 291, 298, 305, 312, 317, 322, 329, 336, 343, 350, 357, 364, 369, 376, 383, 388, 393, 400, 89, 108, 88, 107]
abbrev KS (g : Addr → Option Obj) : PySem.W.Frag := He.frT g asL
def obsS (g : Addr → Option Obj) : He.AlX := (He.obsT fa fn [] (KS g), ex (KS g) && He.tabsB g tf (KS g))
theorem saysS {w : World} {h : Heap} (e : obsS h.get? = He.valX fn [] w) : He.SaysX fa fn [] tf ex w h (KS h.get?) := by
  obtain ⟨e1, e2⟩ := Prod.mk.inj e
  obtain ⟨h1, h2⟩ := He.ba e2
  rw [He.tabsB, List.all_eq_true] at h2
  refine ⟨e1, h1, fun p hp => (He.ba (h2 p hp)).1, fun p hp => ?_, fun p hp => ?_⟩
  all_goals
    have z := (He.ba (h2 p hp)).2
    split at z
    case h_2 => cases z
    rename_i o q
  · exact He.frT_none q z
  · rw [q, He.emptyTab_eq z]
def hk : PySem.W.Hook where
  α := He.AlX
  obs := fun s => obsS s.heap.get?
  val := fun w => He.valX fn [] w
  says := fun w h => ∃ K : PySem.W.Frag, K.In h ∧ He.SaysX fa fn [] tf ex w h K
  of := fun w s e => ⟨KS s.heap.get?, He.frT_in, saysS e⟩
  keeps := fun _ _ _ z k => by
    obtain ⟨K, hK, c⟩ := z
    exact ⟨K, PySem.W.Frag.In.keeps hK k, ⟨c.t, c.more, c.hd, c.out, fun p hp => k _ _ (c.empty p hp)⟩⟩
def ob (s : PySem.W.SharedT) : He.AlX := obsS (HandSHeadRun.getT s)
theorem ob_eq (s : PySem.W.SharedT) : ob s = hk.obs s.abs := by
  have e : HandSHeadRun.getT s = s.abs.heap.get? := funext (HandSHeadRun.getT_eq s)
  unfold ob
  rw [e]
  rfl
def names : List PySem.Str := (["MarkError", "InvalidMove", "InvalidRow", "InvalidKinds", "InvalidOperation", "ParseError", "InvalidNumber", "_TOO_LONG", "is_whole", "is_integer", "is_between", "need_between", "MAX_PLACES", "need_places", "_need_rings", "move_of_cycles", "MOST_SIGNS", "MOST_MEMBERS", "_DIGITS", "_MOST_DIGITS", "_need_text", "_is_at", "_behind", "_is_digit_at", "_read_plain", "_read_less", "_read_ring", "_read_rings", "_move_of", "read_move", "_read_signed", "read_row", "_read_term", "_read_terms", "read_kinds", "_law_bag", "_law_grab", "_law_one_of", "_law_cycles", "_law_move_drawn", "_law_figures", "_law_cycles_from", "_law_move_of", "_law_move_text", "_law_move_read", "_law_near_text", "_law_kinds_text", "_law_met", "_law_row_read", "_law_term_from", "_law_kinds_read", "_law_moves_right", "_law_number", "_law_rows_right", "_law_kinds_right"] : List String).map PySem.Str.ofString
theorem run9 (w : World) : HandSHeadRun.RunEqI R (PySem.W.view R.prog [60]) hk ob 20000 names w := by
  unfold HandSHeadRun.RunEqI
  kernel_rfl
end K85

set_option Elab.async false
set_option maxRecDepth 100000
set_option maxHeartbeats 2000000
set_option linter.all false
namespace MM
open PySem PySem.Spec PyProof.Rows L2

/-! room, with nothing under way that is being shown -/
structure Rm (k : Nat) (A : Around) : Prop where
  room : Room k A
  still : A.guards = some []
theorem Rm.le {j k : Nat} {A : Around} (h : Rm k A) (le : j ≤ k) : Rm j A := ⟨h.room.mono le, h.still⟩
theorem Rm.down {k : Nat} {A : Around} {v : Env} (h : Rm (k + 1) A) : Rm k (A.deeper v) := ⟨h.room.deeper v, h.still⟩
theorem Rm.hu {k : Nat} {A : Around} (h : Rm k A) : A.units + 64 < cLine := h.room.units
theorem Rm.hu66 {k : Nat} {A : Around} (h : Rm k A) : A.units + 66 < cLine := by have := h.room.un; omega
theorem Rm.hu1 {k : Nat} {A : Around} (h : Rm k A) : A.units + 1 < cLine := by have := h.room.un; omega

/-- a def keeps its promise wherever nothing is being shown -/
structure FnG (P : Program) (w : World) (K : PySem.W.Frag) (mg : Str → Option Value) (base : Heap)
    (CX : CXT) (k : Nat) (f : Addr) (fd : FuncData) (ps : List Str) (sp : Sp) : Prop where
  arity : ∀ {vs H Q E}, sp vs H Q E → vs.length = ps.length
  runs : ∀ {A : Around} {out : List Env} {s : Shared} {H : Hp} {ar : Args} {us : List Value} {vs : List V} {Q : VK} {E : XK},
    Rm k A → Env0 P w K mg base A out s H → BindsTo s fd ar (ps.zip us) → Vals vs us → sp vs H Q E →
      codeAny (model P w) A (.call (.ref f) ar) (CR CX out P w H s Q E) s

section
variable {P : Program} {w : World} {K : PySem.W.Frag} {mg : Str → Option Value} {base : Heap} {CX : CXT}
  {j k : Nat} {f : Addr} {fd : FuncData} {ps : List Str} {sp : Sp}
theorem FnG.le (F : FnG P w K mg base CX j f fd ps sp) (h : j ≤ k) : FnG P w K mg base CX k f fd ps sp :=
  ⟨F.arity, fun r => F.runs (r.le h)⟩
theorem FnG.of (F : FnOk P w K mg base CX k f fd ps sp) : FnG P w K mg base CX k f fd ps sp :=
  ⟨fun h => F.len _ _ _ _ h, fun r e b v h => F.run _ _ _ _ _ _ _ _ _ r.room e b v h⟩

/-- by its body -/
theorem FnG.body {x qual : Str} {pa : Arguments} {bd : List Stmt} {sc : Scope} {N : List Str}
    (F : FunD K x qual pa bd sc [] [] f fd) (S : FnScope N ps sc)
    (arity : ∀ vs H Q E, sp vs H Q E → vs.length = ps.length)
    (hb : ∀ (cd : Value) (A : Around) (out : List Env) (s : Shared) (H : Hp) (vs : List V) (Q : VK) (E : XK),
      Rm k (A.deeper (envOfC qual sc s.heap.objs.size f cd)) → sp vs H Q E →
      ∃ t, PSs (cxOf CX P w K mg base N qual sc f cd A out s H E) bd t ∧
        t { nx := fun _ H' => Q .non H', rt := Q } (start N vs) H) :
    FnG P w K mg base CX (k + 1) f fd ps sp := by
  obtain ⟨oc, od, dV, kV, doc, pm, an, cd, ct, osl, rfl, lk, hcd, _, _⟩ := F.ex
  refine ⟨fun h => arity _ _ _ _ h, ?_⟩
  intro A out s H ar us vs Q E hr e0 hbd hv h
  have nv := arity _ _ _ _ h
  have inK : K.In s.heap := e0.mod.kin.keeps (fun b o e => (e0.bs b o e).1)
  have nl : s.heap.NoLimit := e0.mod.nolimit.keeps (fun b o e => (e0.bs b o e).1)
  have kd : ∀ y ∈ ps.zip us, sc.names.lookup y.1 = some .local ∨
      (sc.names.lookup y.1 = some .cell ∧ ((cellsFrom (s.heap.objs.size + 1) sc.names []).lookup y.1).isSome = true) := by
    rintro ⟨n, v⟩ hy
    cases S.par n (List.of_mem_zip hy).1 with
    | inl q => exact .inl q
    | inr q => exact .inr ⟨q, PySem.W.cellsFrom_some _ _ _ (.inl q)⟩
  refine codeAny_call_function hr.room.depth (inK _ _ lk) rfl S.co S.gen rfl (PySem.W.codeRec_of inK hcd) (hbd _ _ _ _ ?_)
  refine wpAny_newFunctionEnv_cells S.kind kd (fun env he s1 xc => ?_)
  subst he
  refine ⟨nl.keeps xc.toInCall.keep, codeAny_func ?_⟩
  obtain ⟨t, ht, hq⟩ := hb cd A out s H vs Q E hr.down h
  have I := inv_start (CX := CX) (P := P) (w := w) (qual := qual) (cd := cd) (f := f) (E := E) S hr.room.hd e0 nv hv xc
  refine wpAny_mono (ht.run [] s1 (start N vs) H _ I hq) (fun fl s' hs => ?_) (fun e s' hs => hs)
  cases fl with
  | ret u =>
    obtain ⟨v, σ', H', J, rv, q⟩ := hs
    exact ⟨v, H', J.os, J.bare, J.base, J.hok, rv, q⟩
  | next =>
    obtain ⟨σ', H', J, q⟩ := hs
    exact ⟨.non, H', J.os, J.bare, J.base, J.hok, rfl, q⟩
  | brk =>
    obtain ⟨_, _, _, q⟩ := hs
    exact q.elim
  | cont =>
    obtain ⟨_, _, _, q⟩ := hs
    exact q.elim
end

section
variable {X : Cx} {CX : CXT} {k : Nat} {f : Addr} {fd : FuncData} {ps : List Str} {sp : Sp} {E : XK}
  {x : Str} {p pos : Pos} {e : Expr} {es : List Expr} {t : TA}
theorem call_g {pins : List (Addr × Obj)} {σ : L2.St} {H : Hp} {s : Shared} {Q : VK} {us : List Value} {vs : List V}
    (F : FnG X.prog X.w X.K X.mg X.base CX k f fd ps sp) (hr : Rm k X.A) (hb : Binds X.K fd ps [])
    (hx : Passes CX X E) (I : Inv X pins σ H s) (r : Vals vs us) (h : sp vs H Q E) :
    wpAny (model X.prog X.w) X.A (call (.ref f) us) (EP X pins σ Q) X.xe s := by
  have nl : (us ++ []).length = ps.length := by
    rw [List.append_nil, ← r.length]
    exact F.arity h
  have bd := hb s us I.kIn nl
  rw [List.append_nil] at bd
  refine wpAny_call (codeAny_mono (F.runs hr I.env0 bd r h) ?_)
  intro res s' hq
  cases res with
  | error e => exact hx pins σ H s e s' I hq
  | ok fl =>
    cases fl with
    | ret u => exact I.after hq
    | next => exact hq.elim
    | brk => exact hq.elim
    | cont => exact hq.elim
/-- f(e, ..), f a def of the text -/
theorem pe_g (F : FnG X.prog X.w X.K X.mg X.base CX k f fd ps sp) (hr : Rm k X.A) (hm : X.mg x = some (.ref f))
    (hk : PySem.W.keepIn X.K (.ref f) = true) (hb : Binds X.K fd ps []) (hx : Passes CX X E) (ha : PA X (e :: es) t) (hg : Gl X x := by rfl)
    (hdb : (x == ("__debug__" : Str)) = false := by decide)
    (he : starEach (e :: es) X.env = (false, eval e X.env) :: starEach es X.env := by rfl)
    (hpl : (backTo pos (starEach es X.env)).any (·.1) = false := by rfl) :
    PE X (.Call (.Name x p) (e :: es) [] pos) (fun σ H Q => t σ H fun vs H1 => sp vs H1 Q E) := by
  constructor
  intro pins s σ H Q I h
  refine wpAny_Call_Name_kw (ld_glob I hg hm ?_ hdb)
  refine PySem.W.callWith_K (h₀ := X.base) I.ok.mod.kin hk ?_ he hpl
  exact thn (ha.run pos pins s σ H _ I h) fun us s1 ⟨vs, H1, I1, r, q⟩ => ⟨I1.kIn, call_g F hr hb hx I1 r q⟩
end

/-! the law's own end: its def is called where nothing is under way -/
section
variable {P : Program} {w : World} {K : PySem.W.Frag} {mg mb : Str → Option Value} {CX : CXT} {k : Nat} {fa a : Addr}
  {fd : FuncData} {x : Str} {sp : Sp} {s : Shared} {vs : List Value} {ns : List Int}
/-- the goal behind the call -/
def LawEnd (s : Shared) (r : Result) (t : Shared) : Prop :=
  r = .ok (.ret (.bool true)) ∧ OldK s.heap t.heap ∧ t.os = s.os ∧ AllBare t.gens
theorem law_core {H : Hp}
    (KX : K.In s.heap) (hns : s.heap.Ns mainGlobals mg) (hb : s.heap.Ns builtinsNs mb)
    (hbb : ∀ y : Str, y ≠ "__name__" → mb y = bootBuiltins y) (nl : s.heap.NoLimit) (hg : s.gens = #[])
    (ha : s.heap.get? a = some { cls := .type "list", data := .seq vs.toArray }) (hr : Rm k callerA)
    (F : ∀ base : Heap, K.In base → base.Ns mainGlobals mg → FnG P w K mg base CX k fa fd [x] sp)
    (hbind : ∀ (s : Shared) (u : Value), BindsTo s fd ⟨[u], []⟩ [(x, u)])
    (hsp : sp [.ref a] H (fun v _ => v = .bl true) fun _ _ _ => False)
    (hCX : ∀ e s', CX [] H s (fun _ _ _ => False) e s' → False)
    (only : Only H) (ok : HOk P w H s.heap) (at_a : ∀ b, H b ≠ none → b = a) (out : H a ≠ none → K.lookup a = none) :
    codeAny (model P w) callerA (.call (.ref fa) ⟨[.ref a], []⟩) (LawEnd s) s := by
  have ne_a : ∀ {b : Addr} {o : Obj}, s.heap.get? b = some o → (∀ y n, o.data ≠ .seq y n) → H b = none := by
    intro b o e no
    by_cases hb : H b = none
    · exact hb
    · rw [at_a b hb, ha] at e
      exact absurd (congrArg Obj.data (Option.some.inj e)).symm (no _ _)
  have sees : ∀ {b : Addr} {m : Str → Option Value}, s.heap.Ns b m → (hidT s.heap H).Ns b m := by
    rintro b m ⟨o, es, ep, e, d, r⟩
    refine ⟨o, es, ep, hidT_get e (ne_a e ?_), d, r⟩
    intro y n z
    rw [d] at z
    cases z
  have inB : K.In (hidT s.heap H) := by
    intro b o e
    refine hidT_get (KX b o e) ?_
    by_cases hb : H b = none
    · exact hb
    · have eb := at_a b hb
      subst eb
      rw [out hb] at e
      cases e
  obtain ⟨mc, l1, l2⟩ := nl
  have md : Mod K mg (hidT s.heap H) := ⟨inB, sees hns, ⟨mb, sees hb, hbb⟩, ⟨mc, sees l1, l2⟩⟩
  have e0 : Env0 P w K mg (hidT s.heap H) callerA [] s H := by
    refine ⟨rfl, md, fun b o e => of_hidT e, Nat.le_of_eq (hidT_size _ _), trivial, ?_, ok, .of_eq hg⟩
    intro b z
    cases z
  have vv : Vals [V.ref a] [Value.ref a] := .cons rfl .nil
  refine codeAny_mono ((F _ inB (sees hns)).runs (us := [.ref a]) hr e0 (hbind s (.ref a)) vv hsp) ?_
  intro r t h
  cases r with
  | error e => exact (hCX e t h).elim
  | ok fl =>
    cases fl with
    | next => exact h.elim
    | brk => exact h.elim
    | cont => exact h.elim
    | ret u =>
      obtain ⟨v, H', os, bare, un, ok', rv, q⟩ := h
      have q2 : v = .bl true := q
      subst q2
      have eu : u = Value.bool true := rv
      subst eu
      refine ⟨rfl, OldK.of_keep ?_, os, bare⟩
      intro b o e
      cases hb : H b with
      | none => exact un.keep b o e hb (by intro z; cases z) (by intro z; cases z)
      | some y =>
        cases only b with
        | inl z => exact absurd (hb.symm.trans z) (by intro z; cases z)
        | inr z =>
          obtain ⟨ob, xs, z⟩ := z
          have e1 := (ok b _ z).1
          have e2 := (ok' b _ (un.frzs b ob _ z)).1
          rw [e] at e1
          cases e1
          exact e2
theorem law_g
    (KX : K.In s.heap) (hns : s.heap.Ns mainGlobals mg) (hb : s.heap.Ns builtinsNs mb)
    (hbb : ∀ y : Str, y ≠ "__name__" → mb y = bootBuiltins y) (nl : s.heap.NoLimit) (hg : s.gens = #[])
    (ha : s.heap.get? a = some { cls := .type "list", data := .seq vs.toArray }) (hi : IntsAre vs ns) (hl : ns.length ≤ sizeLine)
    (hr : Rm k callerA)
    (F : ∀ base : Heap, K.In base → base.Ns mainGlobals mg → FnG P w K mg base CX k fa fd [x] sp)
    (hbind : ∀ (s : Shared) (u : Value), BindsTo s fd ⟨[u], []⟩ [(x, u)])
    (hsp : ∀ H : Hp, Only H → SqL K H a (ns.map V.int) → sp [.ref a] H (fun v _ => v = .bl true) fun _ _ _ => False)
    (hCX : ∀ H e s', CX [] H s (fun _ _ _ => False) e s' → False) :
    codeAny (model P w) callerA (.call (.ref fa) ⟨[.ref a], []⟩) (LawEnd s) s := by
  have rv := vals_ints hi
  have nv := hi.length
  cases free : K.lookup a with
  | some o =>
    have e := KX a o free
    rw [ha] at e
    cases e
    have only : Only (fun _ => none) := fun _ => .inl rfl
    refine law_core KX hns hb hbb nl hg ha hr F hbind (hsp _ only (.inr ⟨_, vs.toArray, _, free, rfl, rfl, rfl, ?_, by simpa using rv⟩))
      (hCX _) only (fun b u z => nomatch (show (none : Option HO) = some u from z)) (fun b z => absurd rfl z) (fun z => absurd rfl z)
    rw [List.size_toArray, nv]
    exact hl
  | none =>
    have only : Only (fun b => if b = a then some (.frz { cls := .type "list", data := .seq vs.toArray } (.lst (ns.map V.int))) else none) := by
      intro b
      by_cases e : b = a
      · exact .inr ⟨_, _, if_pos e⟩
      · exact .inl (if_neg e)
    refine law_core KX hns hb hbb nl hg ha hr F hbind (hsp _ only (.inl (.inr ⟨_, if_pos rfl⟩))) (hCX _) only ?_ ?_ (fun _ => free)
    · intro b u z
      by_cases e : b = a
      · have z1 := (if_pos e).symm.trans z
        cases z1
        subst e
        refine ⟨ha, ?_, vs, _, rv, ha⟩
        rw [List.length_map]
        exact hl
      · have z1 := (if_neg e).symm.trans z
        cases z1
    · intro b z
      by_cases e : b = a
      · exact e
      · exact absurd (if_neg e) z
end
/-- the head's end: what is known behind the top gives the law's promise -/
theorem walk_g {l : PySem.W.OpenLaw} {n k : Nat} {q : Program} {loose : List Str} {XP : (Str → Option Value) → Heap → Prop}
    {YP : World → Heap → Prop} {d : DefRec} {CX : CXT} {x : Str}
    (hn : l.most = some n) (hn2 : n ≤ sizeLine) (hdf : d.params.defaults = []) (hr : Rm k callerA)
    (F : ∀ (w : World) (mg : Str → Option Value) (fa : Addr) (h : Heap), YP w h → h.Ns mainGlobals mg → mg d.name = some (.ref fa) →
      ∃ (K : PySem.W.Frag) (fd : FuncData) (sp : Sp), K.In h ∧ (∀ (s : Shared) (u : Value), BindsTo s fd ⟨[u], []⟩ [(x, u)]) ∧
        (∀ (H : Hp) (a : Addr) (ns : List Int), ns.length ≤ n → SqL K H a (ns.map V.int) →
          sp [.ref a] H (fun v _ => v = .bl true) fun _ _ _ => False) ∧
        ∀ base : Heap, K.In base → base.Ns mainGlobals mg → FnG l.prog w K mg base CX k fa fd [x] sp)
    (hCX : ∀ (H : Hp) (s : Shared) (e : Value) (s' : Shared), CX [] H s (fun _ _ _ => False) e s' → False) :
    PySem.W.WalkO q loose XP YP l.row.toRowW d [] (fun f vs => PySem.call f vs) := by
  refine Att.attach_call hn hdf ?_
  intro w s0 s1 mg mb fa o pm cd doc a vs ns G Y ho hd hcd hmg hobj hints hlen hg
  obtain ⟨K, fd, sp, KX, hb, hsp, hF⟩ := F w mg fa _ Y G.T.g hmg
  exact law_g KX G.T.g G.T.b G.T.builtins G.T.nolimit hg hobj hints (Nat.le_trans hlen hn2) hr hF hb
    (fun H _ hS => hsp H a ns hlen hS) (fun H e s' => hCX H s1 e s')
end MM

set_option Elab.async false
set_option maxRecDepth 100000
set_option maxHeartbeats 2000000
set_option linter.all false
namespace MM
open PySem PySem.Spec PyProof.Rows L2

/-! a def of the text under its name -/
def Def (P : Program) (w : World) (K : PySem.W.Frag) (mg : Str → Option Value) (base : Heap) (CX : CXT) (k : Nat) (x : Str) (ps : List Str) (sp : Sp) : Prop :=
  ∃ f fd, FnG P w K mg base CX k f fd ps sp ∧ mg x = some (.ref f) ∧ PySem.W.keepIn K (.ref f) = true ∧ L2.Binds K fd ps [] ∧ ∃ oc od sl, K.lookup f = some ⟨oc, od, .func fd, sl⟩
/-- a def of the text as it stands behind the top -/
structure At (K : PySem.W.Frag) (mg : Str → Option Value) (x : Str) (st : Stmt) : Prop where
  fn : ∃ fd, FunD K x x (defArgs st) (defBody st) (defScope st) [] [] (He.ga K x) fd
  glo : mg x = some (.ref (He.ga K x))
section
variable {P : Program} {w : World} {K : PySem.W.Frag} {mg : Str → Option Value} {base : Heap} {CX : CXT} {j k : Nat} {x : Str} {ps : List Str} {sp : Sp} {st : Stmt}
theorem Def.le (D : Def P w K mg base CX j x ps sp) (h : j ≤ k) : Def P w K mg base CX k x ps sp :=
  let ⟨f, fd, F, r⟩ := D
  ⟨f, fd, F.le h, r⟩
theorem At.defX {N : List Str} (T : At K mg x st) (S : FnScope N ps (defScope st))
    (hb : ∀ (kV doc pm : Value) (an : Option Addr) (cd ct : Value) (us : List Value), us.length = ps.length →
      bindArgs (PySem.W.fnOf x x (defArgs st) (defBody st) (defScope st) .none kV doc pm an cd ct) ⟨us, []⟩ = pure (ps.zip us))
    (arity : ∀ vs H Q E, sp vs H Q E → vs.length = ps.length)
    (body : ∀ (f : Addr) (cd : Value) (A : Around) (out : List Env) (s : Shared) (H : Hp) (vs : List V) (Q : VK) (E : XK),
      Rm k (A.deeper (envOfC x (defScope st) s.heap.objs.size f cd)) → sp vs H Q E →
      ∃ t, PSs (cxOf CX P w K mg base N x (defScope st) f cd A out s H E) (defBody st) t ∧
        t { nx := fun _ H' => Q .non H', rt := Q } (start N vs) H) : Def P w K mg base CX (k + 1) x ps sp := by
  obtain ⟨fd, F⟩ := T.fn
  obtain ⟨oc, od, _, _, _, _, _, _, _, osl, _, lk, _⟩ := F.ex
  exact ⟨_, fd, FnG.body F S arity (body _), T.glo, F.kp, F.bindsN hb, oc, od, osl, lk⟩
/-- the same for a def that nothing leaves -/
theorem At.def_ {N : List Str} (T : At K mg x st) (S : FnScope N ps (defScope st))
    (hb : ∀ (kV doc pm : Value) (an : Option Addr) (cd ct : Value) (us : List Value), us.length = ps.length →
      bindArgs (PySem.W.fnOf x x (defArgs st) (defBody st) (defScope st) .none kV doc pm an cd ct) ⟨us, []⟩ = pure (ps.zip us))
    (arity : ∀ vs H Q E, sp vs H Q E → vs.length = ps.length)
    (body : ∀ (f : Addr) (cd : Value) (A : Around) (out : List Env) (s : Shared) (H : Hp) (vs : List V) (Q : VK) (E : XK),
      Rm k (A.deeper (envOfC x (defScope st) s.heap.objs.size f cd)) → sp vs H Q E →
      ∃ t, PSs (cxOf CX P w K mg base N x (defScope st) f cd A out s H E).nox (defBody st) t ∧
        t { nx := fun _ H' => Q .non H', rt := Q } (start N vs) H) : Def P w K mg base CX (k + 1) x ps sp := by
  refine T.defX S hb arity (fun f cd A out s H vs Q E hr h => ?_)
  obtain ⟨t, d, q⟩ := body f cd A out s H vs Q E hr h
  exact ⟨t, d.nox, q⟩
end
section
variable {X : Cx} {CX : CXT} {k : Nat} {ps : List Str} {sp : Sp} {E : XK} {x : Str} {p pos : Pos} {e : Expr} {es : List Expr} {t : TA}
/-- f(e, ..) -/
def tD (sp : Sp) (E : XK) (t : TA) : TE := fun σ H Q => t σ H fun vs H1 => sp vs H1 Q E
theorem pe_d (D : Def X.prog X.w X.K X.mg X.base CX k x ps sp) (hr : Rm k X.A) (hx : Passes CX X E) (ha : PA X (e :: es) t) (hg : Gl X x := by rfl)
    (hdb : (x == ("__debug__" : Str)) = false := by decide)
    (he : starEach (e :: es) X.env = (false, eval e X.env) :: starEach es X.env := by rfl)
    (hpl : (backTo pos (starEach es X.env)).any (·.1) = false := by rfl) : PE X (.Call (.Name x p) (e :: es) [] pos) (tD sp E t) := by
  obtain ⟨f, fd, F, hm, hk, hb, _⟩ := D
  exact pe_g F hr hm hk hb hx ha hg hdb he hpl
end

/-! tests whose answer is known -/
theorem ifT {c : Bool} {A B : Prop} (h : c = true) (a : A) : if c = true then A else B := by
  rw [if_pos h]
  exact a
theorem ifF {c : Bool} {A B : Prop} (h : c = false) (b : B) : if c = true then A else B := by
  rw [h, if_neg Bool.false_ne_true]
  exact b
theorem dInt (a b : Int) : decide (V.int a = V.int b) = decide (a = b) := by
  by_cases e : a = b
  · rw [e, decide_eq_true rfl, decide_eq_true rfl]
  · rw [decide_eq_false e, decide_eq_false (fun z => e (V.int.inj z))]
/-! more rules by values -/
section
variable {X : Cx}
/-- ** of great numbers -/
def CPw (i j : Int) : Prop := 0 ≤ j ∧ (Builtin.Int.intBits i : Int) * j ≤ 2 ^ 27
instance (i j : Int) : Decidable (CPw i j) := inferInstanceAs (Decidable (_ ∧ _))
instance (i j : Int) : Decidable (CDivW i j) := inferInstanceAs (Decidable (_ ∧ _))
theorem op_pw : OpR X (binaryOp .Pow) (rI CPw fun i j => .int (i ^ j.toNat)) := opI fun _ _ _ _ _ _ _ hc q => pow_int hc.1 hc.2 q
/-- repr of data -/
def rRepr (K : PySem.W.Frag) : List V → Hp → VK → Prop := fun xs H Q =>
  ∃ x d, xs = [x] ∧ Dp K H x d ∧ SeqAt.shaped d = true ∧ d.showable = true ∧ d.shown.length ≤ sizeLine ∧ Q (.str d.shown) H
theorem cr_repr (hg : X.A.guards = some []) (hu : X.A.units + 66 < cLine) : CallR X (.builtin "repr") (rRepr X.K) := by
  intro pins s σ H xs us Q I r h
  obtain ⟨x, d, rfl, hd, hs, hw, hz, q⟩ := h
  obtain ⟨u, rfl, ru⟩ := vals1 r
  have hdep := SeqAt.depth_of_shaped hs
  have hno := PyData.hasDict_of_canLay d (SeqAt.canLay_of_shaped hs)
  obtain ⟨as, rd⟩ := Dp.reads I d x u hd ru
  have fin : ∀ (h' : Heap) (z : Tok) (tk : Nat), (∀ b o, s.heap.get? b = some o → h'.get? b = some o) →
      EP X pins σ Q (.str d.shown z) { s with heap := h', toks := tk } := fun h' z tk hk => ⟨.str _, H, I.kept hk, ⟨_, rfl⟩, q⟩
  cases hd with
  | non =>
    cases ru
    exact PySem.P.repr_of_none (fin s.heap _ _ fun _ _ e => e)
  | bl b =>
    cases ru
    exact PySem.P.repr_of_bool (fin s.heap _ _ fun _ _ e => e)
  | int i =>
    obtain ⟨t, rfl⟩ := ru
    exact PySem.P.repr_of_int (of_decide_eq_true hw) (fin s.heap _ _ fun _ _ e => e)
  | str z =>
    obtain ⟨t, rfl⟩ := ru
    exact PySem.P.repr_of_str (fin s.heap _ _ fun _ _ e => e) hz
  | lst h1 h2 =>
    cases ru
    exact repr_of_reads' rd hw (PyData.noDict_hsm hno) hg (by omega) (fun _ _ e => e) (fun h' z tk hk => fin h' z tk hk) hz
  | tup h1 h2 =>
    cases ru
    exact repr_of_reads' rd hw (PyData.noDict_hsm hno) hg (by omega) (fun _ _ e => e) (fun h' z tk hk => fin h' z tk hk) hz
end
end MM

set_option Elab.async false
set_option maxRecDepth 100000
set_option maxHeartbeats 2000000
set_option linter.all false
namespace MM
open PySem PySem.Spec PyProof.Rows L2
/-! what kind a value is of -/
inductive Kn where
  | non | bl | int | str | lst | tup | dct
def Kn.name : Kn → String
  | .non => "NoneType"
  | .bl => "bool"
  | .int => "int"
  | .str => "str"
  | .lst => "list"
  | .tup => "tuple"
  | .dct => "dict"
def Kn.isa : Kn → Kn → Bool
  | .bl, .int => true
  | .non, .non => true
  | .bl, .bl => true
  | .int, .int => true
  | .str, .str => true
  | .lst, .lst => true
  | .tup, .tup => true
  | .dct, .dct => true
  | _, _ => false
theorem Kn.isa_ok (n m : Kn) : kitB n.name m.name = some (n.isa m) := by cases n <;> cases m <;> decide +kernel
inductive Kd (K : PySem.W.Frag) (H : Hp) : V → Kn → Prop where
  | non : Kd K H .non .non
  | bl (b : Bool) : Kd K H (.bl b) .bl
  | int (i : Int) : Kd K H (.int i) .int
  | str (z : Str) : Kd K H (.str z) .str
  | lst {a : Addr} {xs : List V} (h : SqL K H a xs) : Kd K H (.ref a) .lst
  | tup {a : Addr} {xs : List V} (h : SqT K H a xs) : Kd K H (.ref a) .tup
  | dct {a : Addr} {kvs : List (Key × V)} (h : H a = some (.dK kvs)) : Kd K H (.ref a) .dct
theorem Kd.ty {K : PySem.W.Frag} {H : Hp} {x : V} {n : Kn} (h : Kd K H x n) : TyX K H x (.type n.name) := by
  cases h with
  | non => exact .base .non
  | bl b => exact .base (.bl b)
  | int i => exact .base (.int i)
  | str z => exact .base (.str z)
  | lst h =>
    rcases h with (h | ⟨o, h⟩) | ⟨o, its, k, h, c, _⟩
    · exact .base (.lst h)
    · exact .base (.frz h)
    · exact .kList h c
  | tup h =>
    rcases h with h | h
    · rcases h with h | ⟨o, h⟩
      · exact .base (.tup h)
      · exact .fTuple h
    · obtain ⟨o, its, k, h, c, _⟩ := h
      exact .kTuple h c
  | dct h => exact .base (.dK h)
/-- an int, and no bool -/
def isW : V → Bool
  | .int _ => true
  | _ => false
section
variable {X : Cx}
def rIs (K : PySem.W.Frag) (m : Kn) : List V → Hp → VK → Prop := fun xs H Q => ∃ x n, xs = [x, .ty m.name] ∧ Kd K H x n ∧ Q (.bl (n.isa m)) H
theorem cr_is (m : Kn) : CallR X (.builtin "isinstance") (rIs X.K m) := by
  intro pins s σ H xs us Q I r h
  obtain ⟨x, n, rfl, hk, q⟩ := h
  exact call_isi pins s σ H _ us Q I r ⟨x, .ty m.name, .type n.name, .type m.name, n.isa m, rfl, .ty _, hk.ty, kit_ty (n.isa_ok m), q⟩
/-- a built-in class by its name -/
theorem pe_ty (m : Kn) {x : Str} {pos : Pos} (hm : X.mg x = none) (hv : bootBuiltins x = some (.type m.name)) (hg : Gl X x := by rfl) (hn : x ≠ "__name__" := by decide)
    (hdb : (x == ("__debug__" : Str)) = false := by decide) : PE X (.Name x pos) (tC (.ty m.name)) := pe_bltn hg hm hv rfl hn hdb
end
/-! heaps -/
theorem same_new {H : Hp} {p : Addr} {o : HO} (h : H p = none) : Same H (upd H p o) := fun b x e => by
  rw [upd_ne (ne_of_none e h)]
  exact e
theorem sql_new {K : PySem.W.Frag} {H : Hp} {p l : Addr} {xs : List V} {o : HO} (h : SqL K H l xs) (n : H p = none) : SqL K (upd H p o) l xs := (same_new n).seq h
theorem same_sqt {K : PySem.W.Frag} {H H' : Hp} {a : Addr} {xs : List V} (e : Same H H') (h : SqT K H a xs) : SqT K H' a xs := by
  rcases h with (h | ⟨o, h⟩) | h
  · exact .inl (.inl (e _ _ h))
  · exact .inl (.inr ⟨o, e _ _ h⟩)
  · exact .inr h
theorem sqt_new {K : PySem.W.Frag} {H : Hp} {p l : Addr} {xs : List V} {o : HO} (h : SqT K H l xs) (n : H p = none) : SqT K (upd H p o) l xs := same_sqt (same_new n) h
theorem sql_upd {K : PySem.W.Frag} {H : Hp} {p l : Addr} {xs : List V} {o : HO} (h : SqL K H l xs) (ne : l ≠ p) : SqL K (upd H p o) l xs := by
  rcases h with (h | ⟨u, h⟩) | h
  · exact .inl (.inl (by rw [upd_ne ne]; exact h))
  · exact .inl (.inr ⟨u, by rw [upd_ne ne]; exact h⟩)
  · exact .inr h
theorem sqt_upd {K : PySem.W.Frag} {H : Hp} {p l : Addr} {xs : List V} {o : HO} (h : SqT K H l xs) (ne : l ≠ p) : SqT K (upd H p o) l xs := by
  rcases h with (h | ⟨u, h⟩) | h
  · exact .inl (.inl (by rw [upd_ne ne]; exact h))
  · exact .inl (.inr ⟨u, by rw [upd_ne ne]; exact h⟩)
  · exact .inr h
theorem Kd.same {K : PySem.W.Frag} {H H' : Hp} {x : V} {n : Kn} (e : Same H H') (h : Kd K H x n) : Kd K H' x n := by
  cases h with
  | non => exact .non
  | bl b => exact .bl b
  | int i => exact .int i
  | str z => exact .str z
  | lst h => exact .lst (e.seq h)
  | tup h => exact .tup (same_sqt e h)
  | dct h => exact .dct (e _ _ h)
/-! a list comprehension whose elements are reckoned without a new object -/
section
variable {K : PySem.W.Frag} {v : Nat} {te : TE} {σ : L2.St} {H1 : Hp} {D : Addr} {Qd : Hp → Prop} {n : Nat}
/-- what tLc asks of its walk -/
def LcW (J : It) (g : TG) (tt : TT) (te : TE) (vs : List Nat) (σ : L2.St) (H1 : Hp) (D : Addr) (Qd : Hp → Prop) : Prop :=
  ∃ W : Nat → Nat → Hp → Prop, (∃ m, W 0 m (upd H1 D (.lst []))) ∧ ∀ i m H, W i m H →
    (J.stop i H ∧ Qd H) ∨ (J.go i H ∧ ∃ Nx : Hp → Prop, (∀ H', Nx H' → ∃ m', m' < m ∧ W (i + 1) m' H') ∧
      ∀ x H', J.yld i H x H' → g x (wipe σ vs) H' fun σ2 H2 => wipe σ2 vs = wipe σ vs ∧ tt σ2 H2 fun b H3 =>
        if b = true then te σ2 H3 fun y H4 => ∃ acc, H4 D = some (.lst acc) ∧ acc.length < sizeLine ∧ Nx (upd H4 D (.lst (acc ++ [y]))) else Nx H3)
theorem yes_ {H : Hp} {A B : Hp → Prop} (h : A H) : tYes σ H fun b H3 => if b = true then A H3 else B H3 := by
  show (if true = true then A H else B H)
  rw [if_pos rfl]
  exact h
theorem wipe_one {x : Option V} : wipe ((wipe σ [v]).set v x) [v] = wipe σ [v] := by
  show ((σ.set v none).set v x).set v none = σ.set v none
  rw [List.set_set, List.set_set]
theorem lc_rng {lo : Int} (f : Nat → V) (hn : n ≤ sizeLine)
    (hs : ∀ i acc, i < n → ∀ Q : VK, Q (f i) (upd H1 D (.lst acc)) → te ((wipe σ [v]).set v (some (.int (lo + i)))) (upd H1 D (.lst acc)) Q)
    (hd : Qd (upd H1 D (.lst ((List.range n).map f)))) : LcW (Itr lo n) (gName v) tYes te [v] σ H1 D Qd := by
  refine lc_range (Pv := fun i H => H = upd H1 D (.lst ((List.range i).map f))) rfl ?_ (fun H e => by rw [e]; exact hd)
  intro i H hi e
  subst e
  refine ⟨wipe_one, yes_ ?_⟩
  refine hs i _ hi _ ⟨_, upd_same, ?_, ?_⟩
  · rw [List.length_map, List.length_range]
    exact Nat.lt_of_lt_of_le hi hn
  · rw [upd_upd, List.range_succ, List.map_append]
    rfl
theorem lc_seq {a : Addr} {xs : List V} (f : V → V) (hx : SqL K H1 a xs) (nD : H1 D = none) (hn : xs.length ≤ sizeLine)
    (hs : ∀ x acc, x ∈ xs → ∀ Q : VK, Q (f x) (upd H1 D (.lst acc)) → te ((wipe σ [v]).set v (some x)) (upd H1 D (.lst acc)) Q)
    (hd : Qd (upd H1 D (.lst (xs.map f)))) : LcW (Itl K a) (gName v) tYes te [v] σ H1 D Qd := by
  refine lc_list (xs := xs) (Pv := fun i H => H = upd H1 D (.lst ((xs.take i).map f))) rfl (fun i H _ e => by rw [e]; exact sql_new hx nD) ?_ (fun H e => by rw [e, List.take_length]; exact hd)
  intro i x H hi e
  subst e
  have lt : i < xs.length := (List.getElem?_eq_some_iff.mp hi).1
  refine ⟨wipe_one, yes_ ?_⟩
  refine hs x _ (List.mem_of_getElem? hi) _ ⟨_, upd_same, ?_, ?_⟩
  · rw [List.length_map, List.length_take]
    omega
  · rw [upd_upd, List.take_add_one, hi, List.map_append]
    rfl
theorem lc_tpl {a : Addr} {xs : List V} (f : V → V) (hx : SqT K H1 a xs) (nD : H1 D = none) (hn : xs.length ≤ sizeLine)
    (hs : ∀ x acc, x ∈ xs → ∀ Q : VK, Q (f x) (upd H1 D (.lst acc)) → te ((wipe σ [v]).set v (some x)) (upd H1 D (.lst acc)) Q)
    (hd : Qd (upd H1 D (.lst (xs.map f)))) : LcW (Itt K a) (gName v) tYes te [v] σ H1 D Qd := by
  refine lc_tup (xs := xs) (Pv := fun i H => H = upd H1 D (.lst ((xs.take i).map f))) rfl (fun i H _ e => by rw [e]; exact sqt_new hx nD) ?_ (fun H e => by rw [e, List.take_length]; exact hd)
  intro i x H hi e
  subst e
  have lt : i < xs.length := (List.getElem?_eq_some_iff.mp hi).1
  refine ⟨wipe_one, yes_ ?_⟩
  refine hs x _ (List.mem_of_getElem? hi) _ ⟨_, upd_same, ?_, ?_⟩
  · rw [List.length_map, List.length_take]
    omega
  · rw [upd_upd, List.take_add_one, hi, List.map_append]
    rfl
/-- with a test -/
theorem lc_rngF {tt : TT} {lo : Int} (p : Nat → Bool) (f : Nat → V) (hn : n ≤ sizeLine)
    (ht : ∀ i acc, i < n → ∀ Q : Bool → Hp → Prop, Q (p i) (upd H1 D (.lst acc)) → tt ((wipe σ [v]).set v (some (.int (lo + i)))) (upd H1 D (.lst acc)) Q)
    (hs : ∀ i acc, i < n → p i = true → ∀ Q : VK, Q (f i) (upd H1 D (.lst acc)) → te ((wipe σ [v]).set v (some (.int (lo + i)))) (upd H1 D (.lst acc)) Q)
    (hd : Qd (upd H1 D (.lst (((List.range n).filter p).map f)))) : LcW (Itr lo n) (gName v) tt te [v] σ H1 D Qd := by
  refine lc_range (Pv := fun i H => H = upd H1 D (.lst (((List.range i).filter p).map f))) rfl ?_ (fun H e => by rw [e]; exact hd)
  intro i H hi e
  subst e
  have le : (((List.range i).filter p).map f).length ≤ i := by
    rw [List.length_map]
    exact Nat.le_trans (List.length_filter_le _ _) (Nat.le_of_eq List.length_range)
  refine ⟨wipe_one, ht i _ hi _ ?_⟩
  cases e : p i with
  | true =>
    rw [if_pos rfl]
    refine hs i _ hi e _ ⟨_, upd_same, Nat.lt_of_le_of_lt le (Nat.lt_of_lt_of_le hi hn), ?_⟩
    rw [upd_upd, List.range_succ, List.filter_append, List.map_append]
    simp [e]
  | false =>
    rw [if_neg Bool.false_ne_true, List.range_succ, List.filter_append, List.map_append]
    simp [e]
end
/-! data: ints and bools in lists and tuples -/
section
variable {K : PySem.W.Frag} {H : Hp}
theorem dp_ints : ∀ ns : List Int, DpAll K H (ns.map V.int) (ns.map PyData.int)
  | [] => .nil
  | n :: r => .cons (.int n) (dp_ints r)
theorem dp_bools : ∀ bs : List Bool, DpAll K H (bs.map V.bl) (bs.map PyData.bool)
  | [] => .nil
  | b :: r => .cons (.bl b) (dp_bools r)
end
theorem lay_ints : ∀ ns : List Int, PyData.canLayAll0 (ns.map PyData.int) = true
  | [] => rfl
  | n :: r => by
    show (PyData.canLay0 (.int n) && PyData.canLayAll0 (r.map PyData.int)) = true
    rw [lay_ints r]
    rfl
theorem dep_ints : ∀ ns : List Int, PyData.depthAll (ns.map PyData.int) ≤ 1
  | [] => by decide
  | n :: r => by
    have := dep_ints r
    simp only [List.map_cons, PyData.depthAll, PyData.depth]
    omega
theorem shaped_ints (ns : List Int) : SeqAt.shaped (.list (ns.map PyData.int)) = true := by
  unfold SeqAt.shaped
  have h := dep_ints ns
  rw [show PyData.canLay0 (.list (ns.map PyData.int)) = true from lay_ints ns, Bool.true_and]
  refine decide_eq_true ?_
  simp only [PyData.depth]
  omega
theorem lay_bools : ∀ bs : List Bool, PyData.canLayAll0 (bs.map PyData.bool) = true
  | [] => rfl
  | b :: r => by
    show (PyData.canLay0 (.bool b) && PyData.canLayAll0 (r.map PyData.bool)) = true
    rw [lay_bools r]
    rfl
theorem dep_bools : ∀ bs : List Bool, PyData.depthAll (bs.map PyData.bool) ≤ 1
  | [] => by decide
  | n :: r => by
    have := dep_bools r
    simp only [List.map_cons, PyData.depthAll, PyData.depth]
    omega
theorem shaped_bools (bs : List Bool) : SeqAt.shaped (.list (bs.map PyData.bool)) = true := by
  unfold SeqAt.shaped
  have h := dep_bools bs
  rw [show PyData.canLay0 (.list (bs.map PyData.bool)) = true from lay_bools bs, Bool.true_and]
  refine decide_eq_true ?_
  simp only [PyData.depth]
  omega
theorem shapedT_ints (ns : List Int) : SeqAt.shaped (.tuple (ns.map PyData.int)) = true := by
  unfold SeqAt.shaped
  have h := dep_ints ns
  rw [show PyData.canLay0 (.tuple (ns.map PyData.int)) = true from lay_ints ns, Bool.true_and]
  refine decide_eq_true ?_
  simp only [PyData.depth]
  omega
theorem eqvAll_ints : ∀ ns ms : List Int, PyData.eqvAll (ns.map PyData.int) (ms.map PyData.int) = decide (ns = ms)
  | [], [] => rfl
  | [], _ :: _ => rfl
  | _ :: _, [] => rfl
  | n :: r, m :: q => by
    show (PyData.eqv (.int n) (.int m) && PyData.eqvAll (r.map PyData.int) (q.map PyData.int)) = _
    rw [eqvAll_ints r q]
    show ((n == m) && decide (r = q)) = _
    by_cases e : n = m
    · subst e
      by_cases f : r = q
      · subst f
        simp
      · simp [f]
    · simp [e]
end MM

set_option Elab.async false
set_option linter.all false
set_option maxRecDepth 100000
set_option maxHeartbeats 2000000
/-! enumerate over a tuple -/
namespace MM
open PySem PySem.Spec PyProof.Rows L2
theorem made_enum {v : Value} {o : Obj} {G : Heap → Prop} (B : Begins v o G) :
    Meets (Builtin.«enumerate.__new__» ⟨[.type "enumerate", v], []⟩) (fun _ R t => G t.heap ∧
      R (.ok (.ret (.ref (t.heap.push o).objs.size))) { t with heap := (t.heap.push o).push { cls := .type "enumerate", data := .fields #[.none, .bool false, .ref t.heap.objs.size, rawInt 0, .none, .none] } }) :=
  .of_wp fun prog w A R t both => by
    obtain ⟨h0, g0, d0, k0, o0⟩ := t
    obtain ⟨at_v, out⟩ := both
    have sub := sub_enumerate
    have road : ∀ {A' : Around} {E : Value → Shared → Prop} {Q : Value → Shared → Prop}, Q (.ref h0.objs.size) ⟨h0.push o, g0, d0, k0, o0⟩ → wpAny (model prog w) A' (pyIter v) Q E ⟨h0, g0, d0, k0, o0⟩ :=
      fun q => B.iter prog w _ _ ⟨h0, g0, d0, k0, o0⟩ _ at_v q
    wp_walk using road
    refine wpAny_stack_any fun st => wpAny_pure ?_
    split
    · rename_i c _ _ _ _ _
      cases (c == Value.type "enumerate")
      all_goals
        wp_walk using road
        exact ⟨_, rfl, out⟩
    · wp_walk using road
      exact ⟨_, rfl, out⟩
theorem call_enumT {prog : Program} {w : World} {A : Around} {E : Value → Shared → Prop} {s : Shared} {a : Addr} {its : Array Value} {Q : Value → Shared → Prop} (ht : s.heap.IsTuple a its)
    (q : ∀ h', IsEnum h' (s.heap.objs.size + 1) s.heap.objs.size 0 .none → h'.IsTupleIter s.heap.objs.size a 0 → (∀ b o, s.heap.get? b = some o → h'.get? b = some o) →
      Q (.ref (s.heap.objs.size + 1)) { s with heap := h' }) : wpAny (model prog w) A (call (.type "enumerate") [.ref a]) Q E s := by
  have B := begins_tuple a its
  refine callType_new F.called_enumerate (by decide) (F.typeCall_enumerate_1 _) (F.newCall_enumerate_1 _) (fun obj => F.args_object_init_2 obj _) F.entry_enumerate_new (made_enum B) ⟨ht, ?_⟩
  have z : (s.heap.push { cls := .type "tuple_iterator", data := .fields #[.ref a, .int 0 0] }).objs.size = s.heap.objs.size + 1 := Heap.size_push ..
  show _ ∧ _
  rw [z]
  have at_e : IsEnum ((s.heap.push { cls := .type "tuple_iterator", data := .fields #[.ref a, .int 0 0] }).push { cls := .type "enumerate", data := .fields #[.none, .bool false, .ref s.heap.objs.size, rawInt 0, .none, .none] }) (s.heap.objs.size + 1) s.heap.objs.size 0 .none := by
    rw [← z]
    exact Heap.get?_push_size _ rfl
  exact ⟨⟨_, at_e, rfl⟩, q _ at_e ⟨_, Heap.get?_push_of_some _ (Heap.get?_push_size _ rfl), rfl, rfl⟩ fun b o k => Heap.get?_push_of_some _ (Heap.get?_push_of_some _ k)⟩
/-- the tuple at a, each item in a new pair -/
def Itu (K : PySem.W.Frag) (a : Addr) : It :=
  ⟨fun i H => ∃ xs x, SqT K H a xs ∧ xs[i]? = some x, fun i H v H' => ∃ T x, v = .ref T ∧ H T = none ∧ H' = upd H T (.tup [.int (i : Nat), x]) ∧ ∀ xs, SqT K H a xs → xs[i]? = some x, fun i H => ∃ xs, SqT K H a xs ∧ xs.length ≤ i⟩
theorem turn_enumT {P : Program} {w : World} {K : PySem.W.Frag} {elts : List Expr} {kk : Nat} {tpos : Pos} (a e it : Addr) :
    Turn P w K (.Tuple elts kk tpos) (Itu K a) [e, it] e (fun i h => (∃ old, IsEnum h e it ((i : Nat) : Int) old) ∧ h.IsTupleIter it a i ∧ e ≠ it) where
  mem := by simp
  obj := fun i h st b hb => by
    obtain ⟨⟨old, he⟩, ⟨o, ho, hc, hd⟩, _⟩ := st
    have two : b = e ∨ b = it := by simpa using hb
    rcases two with z | z
    · subst z
      exact ⟨_, he, fun v q => nomatch q⟩
    · subst z
      exact ⟨o, ho, fun v q => by rw [hd] at q; cases q⟩
  keep := fun i h h' st k => let ⟨⟨old, he⟩, hi, hne⟩ := st; ⟨⟨old, k e (by simp) _ he⟩, hi.at fun o q => k it (by simp) o q, hne⟩
  item := by
    intro X hP hw hK hc i pins s σ H E I hf st hg
    subst hP hw hK
    obtain ⟨⟨old, he⟩, hit, hne⟩ := st
    obtain ⟨xs, x, hq, hx⟩ := hg
    obtain ⟨its, rv, p, hz⟩ := I.tuple hq
    obtain ⟨u, hu, ru⟩ := rv.get hx
    have el : e < s.heap.objs.size := Heap.lt_size he
    have il : it < s.heap.objs.size := by obtain ⟨_, q, _⟩ := hit; exact Heap.lt_size q
    have pt : s.heap.IsTuple a its.toArray := p
    have ait : a ≠ it := fun z => by
      obtain ⟨o1, g1, c1, _⟩ := id pt
      obtain ⟨o2, g2, c2, _⟩ := id hit
      rw [z, g2] at g1
      cases g1
      rw [c2] at c1
      exact absurd (Value.type.inj c1) (by decide)
    have ae : a ≠ e := fun z => by
      obtain ⟨o1, g1, c1, _⟩ := id pt
      rw [z, show s.heap.get? e = some _ from he] at g1
      cases g1
      exact absurd (Value.type.inj c1) (by decide)
    have D := Draws.tuple (prog := X.prog) (w := X.w) (A := X.A.in1) (I.ok.hd hc) it a ait its.toArray
    have lt : i < its.toArray.size := by
      have := (List.getElem?_eq_some_iff.mp hu).1
      rw [List.size_toArray]
      exact this
    refine wpAny_pyNext_enum_itemC D he ⟨hit, pt⟩ lt hne (by simp [hne, ae.symm]) fun y h' tk hy ho st' hT hsz hk => ?_
    have ey : y = u := by
      have hy' : its.toArray[i]? = some y := hy
      rw [List.getElem?_toArray, hu] at hy'
      exact (Option.some.inj hy').symm
    subst ey
    refine ⟨_, rfl, wpAny_letOwnedTupleGo_enum (s := { s with heap := h', toks := tk + 1 }) ho fun h'' he' sb => ?_⟩
    have hT2 : h''.get? s.heap.objs.size = some { cls := .type "tuple", data := .seq #[.int i tk, y] } := (sb.2 _ (Nat.ne_of_gt el)).trans hT
    have new : ObjOk X.prog X.w (upd H s.heap.objs.size (.tup [.int (i : Nat), x])) h'' s.heap.objs.size (.tup [.int (i : Nat), x]) :=
      ⟨(by decide : 2 ≤ sizeLine), [.int i tk, y], .cons ⟨_, rfl⟩ (.cons ru .nil), ⟨_, hT2, rfl, _, rfl⟩⟩
    have I1 : Inv X pins σ (upd H s.heap.objs.size (.tup [.int (i : Nat), x])) { s with heap := h'', toks := tk + 1 } :=
      I.turnedNew (ch := [e, it]) (fun b ob hb q => (sb.2 b fun z => hb (by simp [z])).trans (hk b ob (fun z => hb (by simp [z])) (fun z => hb (by simp [z])) q)) hf (Nat.le_refl _) new
    have it2 : h''.IsTupleIter it a (i + 1) := st'.1.at fun o q => (sb.2 it (Ne.symm hne)).trans q
    refine ⟨.ref s.heap.objs.size, _, I1, rfl, ⟨_, x, rfl, I.hok.fresh (Nat.le_refl _), rfl, fun ys hy => by rw [I.tuple_inj hy hq]; exact hx⟩, ⟨⟨y, he'⟩, it2, hne⟩, fun b hb => ?_⟩
    have bl : b < s.heap.objs.size := by
      have two : b = e ∨ b = it := by simpa using hb
      rcases two with z | z <;> subst z <;> assumption
    rw [upd_ne (Nat.ne_of_lt bl)]
    exact (hf b hb).1
  done := by
    intro X hP hw hK hc i pins s σ H E I hf st hg
    subst hP hw hK
    obtain ⟨⟨old, he⟩, hit, hne⟩ := st
    obtain ⟨xs, hq, hx⟩ := hg
    obtain ⟨its, rv, p, hz⟩ := I.tuple hq
    have pt : s.heap.IsTuple a its.toArray := p
    obtain ⟨f0, f1, f2, f3, f4, f5⟩ := hf it (by simp)
    have over : its.toArray[i]? = none := by
      have := rv.length
      rw [List.getElem?_toArray]
      exact List.getElem?_eq_none (by omega)
    have D : Draws X.prog X.w X.A.in1 it [it, a] i (fun _ _ => True) (fun j h => j = i ∧ h.IsTupleIter it a j ∧ h.IsTuple a its.toArray) :=
      { live := fun _ _ st => let ⟨o, ho, _⟩ := st.2.1; ⟨o, ho⟩
        frame := fun _ _ _ st k => ⟨st.1, st.2.1.at fun o e => k it (by simp) o e, st.2.2.at fun o e => k a (by simp) o e⟩
        item := fun j s Q E lt st _ => absurd st.1 (Nat.ne_of_lt lt)
        done := fun s Q E st out => wpAny_nextOf_tuple_end (I.ok.hd hc) st.2.1 st.2.2 (by rw [st.1]; exact over) out }
    exact wpAny_pyNext_enum_endD D he ⟨rfl, hit, pt⟩ fun h' eb => ⟨rfl, I.turned (t' := s.toks) (fun b o hb q => eb b o hb q) f0 f1 f3 f4 f5⟩
  self := fun A i s Q E st h => let ⟨⟨_, he⟩, _⟩ := st; wpAny_pyIter_enum he h
def iEnumT (K : PySem.W.Frag) (ta : TA) : TI := fun σ H R => ta σ H fun vs H1 => ∃ a xs, vs = [.ref a] ∧ SqT K H1 a xs ∧ R (Itu K a) H1
theorem pi_enumT {X : Cx} {e : Expr} {ta : TA} {p pos tpos : Pos} {elts : List Expr} {kk : Nat} (hg : Gl X "enumerate") (hm : X.mg "enumerate" = none) (ha : PA X [e] ta)
    (hs : starEach [e] X.env = [(false, eval e X.env)] := by rfl) : PI X (.Tuple elts kk tpos) (.Call (.Name "enumerate" p) [e] [] pos) (iEnumT X.K ta) := by
  refine ⟨fun pins s σ H R I h => ?_⟩
  refine Call_ (ld_blt I hg hm boot_enumerate (PyProof.Rows.callWith_type1 (thn (ha.run pos pins s σ H _ I h) fun us s1 ⟨vs, H1, I1, r1, a, xs, ex, hq, q⟩ => ?_) hs rfl))
  subst ex
  obtain ⟨u, rfl, ru⟩ := vals1 r1
  cases ru
  obtain ⟨its, rv, p', hz⟩ := I1.tuple hq
  refine call_enumT (its := its.toArray) p' fun h' he hit hk => wpAny_pyIter_enum he ?_
  refine ⟨s1.heap.objs.size + 1, [s1.heap.objs.size + 1, s1.heap.objs.size], _, _, H1, rfl, I1.kept (t' := s1.toks) hk, turn_enumT a (s1.heap.objs.size + 1) s1.heap.objs.size, ⟨⟨.none, he⟩, hit, Nat.succ_ne_self _⟩, fun b hb => ?_, q⟩
  have two : b = s1.heap.objs.size + 1 ∨ b = s1.heap.objs.size := by simpa using hb
  have le : s1.heap.objs.size ≤ b := by
    rcases two with z | z <;> rw [z]
    · exact Nat.le_add_right _ _
    · exact Nat.le_refl _
  exact I1.fpOk le (I1.hok.fresh le)
section
variable {K : PySem.W.Frag} {a : Addr} {xs : List V} {g : TG} {tb : TS} {D : Ends} {σ : L2.St} {H : Hp}
/-- what a for asks of its walk -/
def ForW (J : It) (g : TG) (tb : TS) (D : Ends) (σ : L2.St) (H : Hp) : Prop :=
  ∃ W : Nat → Nat → L2.St → Hp → Prop, (∃ m, W 0 m σ H) ∧ ∀ i m σ H, W i m σ H →
    (J.stop i H ∧ D.nx σ H) ∨ (J.go i H ∧ ∃ N : L2.St → Hp → Prop, (∀ σ' H', N σ' H' → ∃ m', m' < m ∧ W (i + 1) m' σ' H') ∧
      ∀ x H', J.yld i H x H' → g x σ H' fun σ2 H2 => tb { D with nx := N, ct := N, bk := D.nx } σ2 H2)
theorem for_enumT (Pv : Nat → L2.St → Hp → Prop) (h0 : Pv 0 σ H) (at_a : ∀ i σ H, i ≤ xs.length → Pv i σ H → SqT K H a xs)
    (turn : ∀ i x σ H T, xs[i]? = some x → Pv i σ H → H T = none → g (.ref T) σ (upd H T (.tup [.int (i : Nat), x])) fun σ2 H2 => tb { D with nx := Pv (i + 1), ct := Pv (i + 1), bk := D.nx } σ2 H2)
    (fin : ∀ σ H, Pv xs.length σ H → D.nx σ H) : ForW (Itu K a) g tb D σ H := by
  refine ⟨fun i m σ H => m = xs.length - i ∧ i ≤ xs.length ∧ Pv i σ H, ⟨_, rfl, Nat.zero_le _, h0⟩, ?_⟩
  rintro i m σ H ⟨rfl, le, p⟩
  by_cases lt : i < xs.length
  · have ex := List.getElem?_eq_getElem lt
    refine .inr ⟨⟨xs, _, at_a i σ H le p, ex⟩, Pv (i + 1), fun σ' H' p' => ⟨_, by omega, rfl, lt, p'⟩, ?_⟩
    rintro v H' ⟨T, x, rfl, free, rfl, all⟩
    exact turn i x σ H T (all xs (at_a i σ H le p)) p free
  · have e : i = xs.length := by omega
    subst e
    exact .inl ⟨⟨xs, at_a _ σ H le p, Nat.le_refl _⟩, fin σ H p⟩
theorem for_enumL (Pv : Nat → L2.St → Hp → Prop) (h0 : Pv 0 σ H) (at_a : ∀ i σ H, i ≤ xs.length → Pv i σ H → SqL K H a xs)
    (turn : ∀ i x σ H T, xs[i]? = some x → Pv i σ H → H T = none → g (.ref T) σ (upd H T (.tup [.int (i : Nat), x])) fun σ2 H2 => tb { D with nx := Pv (i + 1), ct := Pv (i + 1), bk := D.nx } σ2 H2)
    (fin : ∀ σ H, Pv xs.length σ H → D.nx σ H) : ForW (Ite K a) g tb D σ H := by
  refine ⟨fun i m σ H => m = xs.length - i ∧ i ≤ xs.length ∧ Pv i σ H, ⟨_, rfl, Nat.zero_le _, h0⟩, ?_⟩
  rintro i m σ H ⟨rfl, le, p⟩
  by_cases lt : i < xs.length
  · have ex := List.getElem?_eq_getElem lt
    refine .inr ⟨⟨xs, _, at_a i σ H le p, ex⟩, Pv (i + 1), fun σ' H' p' => ⟨_, by omega, rfl, lt, p'⟩, ?_⟩
    rintro v H' ⟨T, x, rfl, free, rfl, all⟩
    exact turn i x σ H T (all xs (at_a i σ H le p)) p free
  · have e : i = xs.length := by omega
    subst e
    exact .inl ⟨⟨xs, at_a _ σ H le p, Nat.le_refl _⟩, fin σ H p⟩
end
end MM

set_option Elab.async false
set_option linter.all false
set_option maxRecDepth 100000
set_option maxHeartbeats 2000000
/-! set(t) of a tuple of ints; its length -/
namespace MM
open PySem PySem.Spec PyProof.Rows L2
theorem count_keys {ks ns : List Int} (nk : ks.Nodup) (mem : ∀ k, k ∈ ns ↔ k ∈ ks) : ks.length = ns.length ↔ ns.Nodup := by
  constructor
  · intro e
    by_cases h : ns.Nodup
    · exact h
    · exfalso
      rw [List.nodup_iff_count] at h
      obtain ⟨a, ha⟩ := Classical.not_forall.mp h
      have am : a ∈ ns := List.count_pos_iff.mp (by omega)
      have sub : ks ⊆ ns.erase a := by
        intro b hb
        by_cases z : b = a
        · subst z
          refine List.count_pos_iff.mp ?_
          rw [List.count_erase_self]
          omega
        · exact (List.mem_erase_of_ne z).mpr ((mem b).mpr hb)
      have le := List.Nodup.length_le_of_subset nk sub
      rw [List.length_erase_of_mem am] at le
      have pos : 0 < ns.length := List.length_pos_of_mem am
      omega
  · intro nn
    exact ((List.perm_ext_iff_of_nodup nk nn).mpr fun a => (mem a).symm).length_eq
section
variable {X : Cx}
def rSetI (K : PySem.W.Frag) : List V → Hp → VK → Prop := fun xs H Q => ∃ (p : Addr) (ns : List Int), xs = [.ref p] ∧ SqT K H p (ns.map V.int) ∧ ns.length ≤ 1000 ∧
  ∀ t n, H t = none → (n = ns.length ↔ ns.Nodup) → n ≤ ns.length → Q (.ref t) (upd H t (.set (fun j => decide (j ∈ ns)) n))
theorem ints_of : ∀ {ns : List Int} {its : List Value}, Vals (ns.map V.int) its → IntsAre its ns
  | [], _, r => by
    cases r
    exact .nil
  | n :: _, _, r => by
    cases r with
    | cons h t =>
      obtain ⟨k, rfl⟩ := h
      exact .cons n k (ints_of t)
theorem cr_setI (hc : X.calm = true) : CallR X (.type "set") (rSetI X.K) := by
  intro pins s σ H xs us Q I r h
  obtain ⟨p, ns, rfl, hp, hl, q⟩ := h
  obtain ⟨u, rfl, ru⟩ := vals1 r
  cases ru
  obtain ⟨its, rv, ht, hz⟩ := I.tuple hp
  have pt : s.heap.IsTuple p its.toArray := ht
  refine call_set_tupI (P := X.prog) ns (I.ok.hd hc) pt (by simpa using ints_of rv) (by show ns.length + 1 < 4096; omega) fun h' tk c R le keep => ?_
  have cnt : c = ns.length ↔ ns.Nodup := by
    obtain ⟨o, es, ep, t, ho, hx, hd, g, nd, hm, hb, hf, hn, _⟩ := R
    rw [← hn]
    have := count_keys (ks := es.toList.map keyOf) (ns := ns) nd fun k => by
      rw [← hm k]
      exact decide_eq_true_iff.symm
    rw [List.length_map, Array.length_toList] at this
    exact this
  refine ⟨.ref _, _, I.laid (t' := tk) (o := .set (fun j => decide (j ∈ ns)) c) keep (Nat.le_refl _) ?_, rfl, q _ c (I.hok.fresh (Nat.le_refl _)) cnt le⟩
  exact R.setOf
theorem cr_lenSet : CallR X (.builtin "len") (fun xs H Q => ∃ a S n, xs = [V.ref a] ∧ H a = some (.set S n) ∧ Q (.int (n : Nat)) H) := by
  intro pins s σ H xs us Q I r h
  obtain ⟨a, S, n, rfl, ha, q⟩ := h
  obtain ⟨u, rfl, ru⟩ := vals1 r
  cases ru
  obtain ⟨o, es, ep, t, ho, hx, hd, _, _, hb, hf, hn⟩ := (show s.heap.SetOf (intKind X.prog X.w) a S n from I.hok a _ ha)
  subst hn
  have small : es.size < 4096 := hb
  exact PySem.call_len_set ho hx hd hf (by omega) ⟨.int _, H, I.tok _, ⟨_, rfl⟩, q⟩
def rLenK (K : PySem.W.Frag) : List V → Hp → VK → Prop := fun xs H Q => ∃ p ys, xs = [.ref p] ∧ (SqL K H p ys ∨ SqT K H p ys) ∧ Q (.int ys.length) H
theorem cr_lenK {K : PySem.W.Frag} (e : X.K = K) : CallR X (.builtin "len") (rLenK K) := by
  subst e
  exact call_len_seq
end
end MM

set_option Elab.async false
set_option linter.all false
set_option maxRecDepth 100000
set_option maxHeartbeats 2000000
/-! sets of ints that grow: the rules with the world by its name -/
namespace MM
open PySem PySem.Spec PyProof.Rows L2
section
variable {X : Cx} {w : World}
theorem cr_set0W (e : X.w = w) : CallR X (.type "set") (rSet0 w) := by
  subst e
  exact cr_set0
theorem or_sinW (e : X.w = w) : OpR X (compareOp .In) (rSIn w) := by
  subst e
  exact or_sin
theorem or_snotinW (e : X.w = w) : OpR X (compareOp .NotIn) (rSNotIn w) := by
  subst e
  exact or_snotin
variable {o e : Expr} {es : List Expr} {to : TE} {t : TA} {apos cpos : Pos}
theorem pe_saddW (ew : X.w = w) (ho : PE X o to) (ha : PA X (e :: es) t)
    (hbase : attributeBase o "add" X.env (eval o X.env) = eval o X.env := by rfl)
    (hfew : ((backTo cpos (starEach (e :: es) X.env)).all (fun x => !x.1) && (backToKw cpos (keywordEach [] X.env)).all (fun x => x.1.isSome)
      && decide ((e :: es).length + ([] : List Keyword).length + (if ([] : List Keyword).isEmpty then 0 else 1) < 30)) = true := by rfl)
    (hline : (apos.endLine == cpos.line) = true := by rfl) (hs : starEach (e :: es) X.env = (false, eval e X.env) :: starEach es X.env := by rfl) (hplain : (backTo cpos (starEach es X.env)).any (·.1) = false := by rfl) :
    PE X (.Call (.Attribute o "add" apos) (e :: es) [] cpos) (tSAdd w to t) := by
  subst ew
  exact pe_sadd ho ha hbase hfew hline hs hplain
end
end MM

set_option Elab.async false
set_option linter.all false
set_option maxRecDepth 100000
set_option maxHeartbeats 2000000
namespace MM
open PySem PySem.Spec PyProof.Rows L2
/-! math.lcm -/
section
variable {X : Cx}
def rLcm : List V → Hp → VK → Prop := fun vs H Q => ∃ a b : Int, vs = [.int a, .int b] ∧ a.natAbs < 2 ^ 13000 ∧ b.natAbs < 2 ^ 13000 ∧ Q (.int ((Nat.lcm a.natAbs b.natAbs : Nat) : Int)) H
theorem log_ok {n : Nat} (h : n < 2 ^ 13000) : ¬ n.log2 / 30 + 1 > 450 := by
  have := PySem.W.mg_log (n := n) (k := 12999) h
  omega
theorem lcm_ok {a b : Nat} (ha : a < 2 ^ 13000) (hb : b < 2 ^ 13000) : (Nat.lcm a b).log2 < bitsLine := by
  have h1 : Nat.lcm a b ≤ a * b := Nat.div_le_self _ _
  have h2 : a * b < 2 ^ 26000 := by
    rw [show (26000 : Nat) = 13000 + 13000 from rfl, Nat.pow_add]
    exact Nat.mul_lt_mul'' ha hb
  have h3 := PySem.W.mg_log (n := Nat.lcm a b) (k := 25999) (Nat.lt_of_le_of_lt h1 h2)
  exact Nat.lt_of_le_of_lt h3 (by decide +kernel)
theorem cr_lcm : CallR X (.builtin "math.lcm") rLcm := by
  intro pins s σ H vs us Q I r h
  obtain ⟨a, b, rfl, ha, hb, q⟩ := h
  obtain ⟨t, u, rfl⟩ := Vals.int2 r
  have e : (Nat.lcm 1 a.natAbs).lcm b.natAbs = Nat.lcm a.natAbs b.natAbs := by rw [Nat.lcm_one_left]
  refine PySem.call_function_meets PySem.W.MGF.kind_lcm PySem.W.MGF.plain_lcm PySem.W.MGF.entry_lcm (PySem.W.MGF.args_lcm _ _) (PySem.W.mg_run_lcm a t b u (log_ok ?_) (log_ok ?_) ?_).meets ?_
  · exact Nat.max_lt.mpr ⟨by exact Nat.one_lt_two_pow (by decide), ha⟩
  · exact Nat.max_lt.mpr ⟨ha, hb⟩
  · rw [e, Int.natAbs_natCast]
    exact lcm_ok ha hb
  · rw [e]
    exact ⟨.int _, H, I.tok _, ⟨_, rfl⟩, q⟩
/-- // by a divisor that is not 0 -/
def CDivG (_ j : Int) : Prop := j ≠ 0 ∧ j.natAbs.log2 < 9000
theorem op_fdivG : OpR X (binaryOp .FloorDiv) (rI CDivG fun i j => .int (i.fdiv j)) := opI fun i j _ _ _ _ _ hc q =>
  floordiv_int hc.1 q (.inl (PyProof.noPylong_of_log2 hc.2))
theorem divG {i j : Int} (h0 : j ≠ 0) (h : j.natAbs < 2 ^ 8999) : CDivG i j := ⟨h0, Nat.lt_of_lt_of_le (PySem.Flt.log2_lt_of (by decide) h) (by decide)⟩
end
end MM

set_option Elab.async false
set_option linter.all false
set_option maxRecDepth 100000
set_option maxHeartbeats 2000000
/-! more comprehensions: over enumerate, with a test -/
namespace MM
open PySem PySem.Spec PyProof.Rows L2
section
variable {K : PySem.W.Frag} {v : Nat} {g : TG} {tt : TT} {te : TE} {vs : List Nat} {σ : L2.St} {H1 : Hp} {D : Addr} {Qd : Hp → Prop} {n : Nat} {a : Addr} {xs : List V}
/-- what a comprehension asks of a turn with the item x -/
def LcT (g : TG) (tt : TT) (te : TE) (vs : List Nat) (σ : L2.St) (D : Addr) (Nx : Hp → Prop) (x : V) (H : Hp) : Prop :=
  g x (wipe σ vs) H fun σ2 H2 => wipe σ2 vs = wipe σ vs ∧ tt σ2 H2 fun b H3 =>
    if b = true then te σ2 H3 fun y H4 => ∃ acc, H4 D = some (.lst acc) ∧ acc.length < sizeLine ∧ Nx (upd H4 D (.lst (acc ++ [y]))) else Nx H3
theorem lc_enumT (Pv : Nat → Hp → Prop) (h0 : Pv 0 (upd H1 D (.lst []))) (at_a : ∀ i H, i ≤ xs.length → Pv i H → SqT K H a xs)
    (hs : ∀ i x H T, xs[i]? = some x → Pv i H → H T = none → LcT g tt te vs σ D (Pv (i + 1)) (.ref T) (upd H T (.tup [.int (i : Nat), x])))
    (hd : ∀ H, Pv xs.length H → Qd H) : LcW (Itu K a) g tt te vs σ H1 D Qd := by
  refine ⟨fun i m H => m = xs.length - i ∧ i ≤ xs.length ∧ Pv i H, ⟨_, rfl, Nat.zero_le _, h0⟩, ?_⟩
  rintro i m H ⟨rfl, le, p⟩
  by_cases lt : i < xs.length
  · have ex := List.getElem?_eq_getElem lt
    refine .inr ⟨⟨xs, _, at_a i H le p, ex⟩, Pv (i + 1), fun H' p' => ⟨_, by omega, rfl, lt, p'⟩, ?_⟩
    rintro v H' ⟨T, x, rfl, free, rfl, all⟩
    exact hs i x H T (all xs (at_a i H le p)) p free
  · have e : i = xs.length := by omega
    subst e
    exact .inl ⟨⟨xs, at_a _ H le p, Nat.le_refl _⟩, hd H p⟩
theorem lc_enumL (Pv : Nat → Hp → Prop) (h0 : Pv 0 (upd H1 D (.lst []))) (at_a : ∀ i H, i ≤ xs.length → Pv i H → SqL K H a xs)
    (hs : ∀ i x H T, xs[i]? = some x → Pv i H → H T = none → LcT g tt te vs σ D (Pv (i + 1)) (.ref T) (upd H T (.tup [.int (i : Nat), x])))
    (hd : ∀ H, Pv xs.length H → Qd H) : LcW (Ite K a) g tt te vs σ H1 D Qd := by
  refine ⟨fun i m H => m = xs.length - i ∧ i ≤ xs.length ∧ Pv i H, ⟨_, rfl, Nat.zero_le _, h0⟩, ?_⟩
  rintro i m H ⟨rfl, le, p⟩
  by_cases lt : i < xs.length
  · have ex := List.getElem?_eq_getElem lt
    refine .inr ⟨⟨xs, _, at_a i H le p, ex⟩, Pv (i + 1), fun H' p' => ⟨_, by omega, rfl, lt, p'⟩, ?_⟩
    rintro v H' ⟨T, x, rfl, free, rfl, all⟩
    exact hs i x H T (all xs (at_a i H le p)) p free
  · have e : i = xs.length := by omega
    subst e
    exact .inl ⟨⟨xs, at_a _ H le p, Nat.le_refl _⟩, hd H p⟩
theorem filt_step {xs : List V} {i : Nat} {x : V} (hi : xs[i]? = some x) (p : V → Bool) (f : V → V) :
    ((xs.take (i + 1)).filter p).map f = ((xs.take i).filter p).map f ++ (if p x = true then [f x] else []) := by
  rw [List.take_add_one, hi, List.filter_append, List.map_append]
  cases e : p x <;> simp [e]
/-- with a test -/
theorem lc_seqF (p : V → Bool) (f : V → V) (hx : SqL K H1 a xs) (nD : H1 D = none) (hn : xs.length ≤ sizeLine)
    (ht : ∀ x acc, x ∈ xs → ∀ Q : Bool → Hp → Prop, Q (p x) (upd H1 D (.lst acc)) → tt ((wipe σ [v]).set v (some x)) (upd H1 D (.lst acc)) Q)
    (hs : ∀ x acc, x ∈ xs → p x = true → ∀ Q : VK, Q (f x) (upd H1 D (.lst acc)) → te ((wipe σ [v]).set v (some x)) (upd H1 D (.lst acc)) Q)
    (hd : Qd (upd H1 D (.lst ((xs.filter p).map f)))) : LcW (Itl K a) (gName v) tt te [v] σ H1 D Qd := by
  refine lc_list (xs := xs) (Pv := fun i H => H = upd H1 D (.lst (((xs.take i).filter p).map f))) rfl (fun i H _ e => by rw [e]; exact sql_new hx nD) ?_ (fun H e => by rw [e, List.take_length]; exact hd)
  intro i x H hi e
  subst e
  have lt : i < xs.length := (List.getElem?_eq_some_iff.mp hi).1
  have le : (((xs.take i).filter p).map f).length ≤ i := by
    rw [List.length_map]
    exact Nat.le_trans (List.length_filter_le _ _) (by rw [List.length_take]; omega)
  refine ⟨wipe_one, ht x _ (List.mem_of_getElem? hi) _ ?_⟩
  have st := filt_step hi p f
  cases e : p x with
  | true =>
    rw [if_pos rfl]
    refine hs x _ (List.mem_of_getElem? hi) e _ ⟨_, upd_same, Nat.lt_of_le_of_lt le (Nat.lt_of_lt_of_le lt hn), ?_⟩
    rw [upd_upd, st, if_pos e]
  | false =>
    rw [if_neg Bool.false_ne_true, st, if_neg (by rw [e]; exact Bool.false_ne_true), List.append_nil]
theorem lc_tplF (p : V → Bool) (f : V → V) (hx : SqT K H1 a xs) (nD : H1 D = none) (hn : xs.length ≤ sizeLine)
    (ht : ∀ x acc, x ∈ xs → ∀ Q : Bool → Hp → Prop, Q (p x) (upd H1 D (.lst acc)) → tt ((wipe σ [v]).set v (some x)) (upd H1 D (.lst acc)) Q)
    (hs : ∀ x acc, x ∈ xs → p x = true → ∀ Q : VK, Q (f x) (upd H1 D (.lst acc)) → te ((wipe σ [v]).set v (some x)) (upd H1 D (.lst acc)) Q)
    (hd : Qd (upd H1 D (.lst ((xs.filter p).map f)))) : LcW (Itt K a) (gName v) tt te [v] σ H1 D Qd := by
  refine lc_tup (xs := xs) (Pv := fun i H => H = upd H1 D (.lst (((xs.take i).filter p).map f))) rfl (fun i H _ e => by rw [e]; exact sqt_new hx nD) ?_ (fun H e => by rw [e, List.take_length]; exact hd)
  intro i x H hi e
  subst e
  have lt : i < xs.length := (List.getElem?_eq_some_iff.mp hi).1
  have le : (((xs.take i).filter p).map f).length ≤ i := by
    rw [List.length_map]
    exact Nat.le_trans (List.length_filter_le _ _) (by rw [List.length_take]; omega)
  refine ⟨wipe_one, ht x _ (List.mem_of_getElem? hi) _ ?_⟩
  have st := filt_step hi p f
  cases e : p x with
  | true =>
    rw [if_pos rfl]
    refine hs x _ (List.mem_of_getElem? hi) e _ ⟨_, upd_same, Nat.lt_of_le_of_lt le (Nat.lt_of_lt_of_le lt hn), ?_⟩
    rw [upd_upd, st, if_pos e]
  | false =>
    rw [if_neg Bool.false_ne_true, st, if_neg (by rw [e]; exact Bool.false_ne_true), List.append_nil]
end
end MM
namespace MM
open PySem PySem.Spec PyProof.Rows L2
section
variable {K : PySem.W.Frag} {H : Hp} {Q : VK}
theorem slA {a : Addr} {xs : List V} {lo hi : Option Int} (S : SqT K H a xs) (q : ∀ H' t, Same H H' → SqT K H' t (cutV xs lo hi) → Q (.ref t) H') : rSlA K (.ref a) lo hi H Q := by
  refine ⟨a, xs, rfl, S, fun h => ?_, fun _ p np => q _ p (same_new np) (.inl (.inl upd_same))⟩
  refine q H a (Same.refl H) ?_
  have : cutV xs lo hi = xs := by
    unfold cutV
    rw [h.1, h.2, List.drop_zero, Nat.sub_zero, List.take_length]
  rw [this]
  exact S
theorem catA {a b : Addr} {xs ys : List V} (S : SqT K H a xs) (S2 : SqT K H b ys) (z : xs.length + ys.length ≤ sizeLine) (q : ∀ H' t, Same H H' → SqT K H' t (xs ++ ys) → Q (.ref t) H') : rCatA K (.ref a) (.ref b) H Q := by
  refine ⟨a, b, xs, ys, rfl, rfl, S, S2, z, fun h => ?_, fun _ h => ?_, fun _ _ p np => q _ p (same_new np) (.inl (.inl upd_same))⟩
  · exact q H b (Same.refl H) (by rw [h]; exact S2)
  · exact q H a (Same.refl H) (by rw [h, List.append_nil]; exact S)
end
end MM
namespace MM
open PySem PySem.Spec PyProof.Rows L2
def rTupOf (K : PySem.W.Frag) : List V → Hp → VK → Prop := fun xs H Q => ∃ p ys, xs = [V.ref p] ∧ ((SqL K H p ys ∧ ∀ (l : Addr), H l = none → Q (.ref l) (upd H l (.tup ys))) ∨ SqT K H p ys ∧ Q (.ref p) H)
end MM

set_option Elab.async false
set_option linter.all false
set_option maxRecDepth 100000
set_option maxHeartbeats 2000000
/-! sorted of tuples of ints, of lists of lists of ints, of tuples of tuples by their lengths; walks over two at once -/
namespace MM
open PySem PySem.Spec PyProof.Rows L2 PySem.Calls PySem.W
section
variable {prog : Program} {w : World} {A : Around} {E : Value → Shared → Prop} {s : Shared}
theorem collect_tuple {l : Addr} {vs : List Value} {Q : List Value → Shared → Prop} (hl : s.heap.IsTuple l vs.toArray)
    (h : Q vs { s with heap := (s.heap.push (seqObj "list" #[] 0)).update s.heap.objs.size (Obj.mapSeq (· ++ vs.toArray)) }) (hsz : vs.length ≤ sizeLine) :
    wpAny (model prog w) A (collect (.ref l)) Q E s := by
  obtain ⟨o, ho, hc, n, hd⟩ := id hl
  unfold collect
  refine wpAny_bind (wpAny_runValue (codeAny_builtin entry_proto_collect' ?_))
  show wpAny _ _ (do again (.builtin "list.__iadd__" ⟨[← newList [], .ref l], []⟩)) _ _ s
  refine wpAny_bind (wpAny_newList (wpAny_pure ⟨Code.quiet_builtin _ (by decide +kernel), codeAny_builtin entry_list_iadd' ?_⟩))
  show wpAny _ _ (Builtin.List.listExtendWith (.ref s.heap.objs.size) (.ref l) (.ref s.heap.objs.size)) _ _ { s with heap := s.heap.push (seqObj "list" #[] 0) }
  unfold Builtin.List.listExtendWith
  have ho' : (s.heap.push (seqObj "list" #[] 0)).get? l = some o := Heap.get?_push_of_some _ ho
  refine wpAny_bind (wpAny_typeOf (T := "tuple") ⟨o, ho', hc⟩ ?_)
  have ht : (Value.type "tuple" == Value.type "tuple") = true := by rfl
  rw [if_pos (by rw [ht]; simp)]
  refine wpAny_bind (listItems_at ho' hd ?_)
  refine wpAny_bind (listItems_at (xs := #[]) (n := 0) (Heap.get?_push_size _ rfl) rfl ?_)
  rw [if_neg (by simp)]
  refine wpAny_bind (listUpdate_at (xs := #[]) (n := 0) (Heap.get?_push_size _ rfl) rfl ?_ (Nat.zero_le _) (by show (#[] ++ vs.toArray).size ≤ sizeLine + 1; simp only [Array.size_append, List.size_toArray, List.length_nil]; omega))
  refine wpAny_pure ?_
  show wpAny (model prog w) A (do
      let o ← load s.heap.objs.size
      match o.data with
      | .seq xs _ => pure xs.toList
      | _ => unsupported "internal:collect") Q E { s with heap := (s.heap.push (seqObj "list" #[] 0)).update s.heap.objs.size (Obj.mapSeq (· ++ vs.toArray)) }
  refine wpAny_bind (wpAny_load (get?_update_seq (Heap.get?_push_size _ rfl) _) ?_)
  show wpAny _ _ (pure ((#[] : Array Value) ++ vs.toArray).toList) Q E _
  rw [show ((#[] : Array Value) ++ vs.toArray).toList = vs by simp]
  exact wpAny_pure h
theorem sorted_of_tup {l : Addr} {vs : List Value} {kw : List (Str × Value)} {Q : Value → Shared → Prop} (hl : s.heap.IsTuple l vs.toArray) (hL : vs.length ≤ sizeLine) (ha1 : argsOk "sorted" ⟨[.ref l], kw⟩) (ha2 : ∀ x, argsOk "list.sort" ⟨[.ref x], kw⟩)
    (body : ∀ E' : Value → Shared → Prop, wpAny (model prog w) A.in1.in1 (Builtin.«list.sort» ⟨[.ref (s.heap.objs.size + 1)], kw⟩) (fun f s' => f = .done (.ret .none) ∧ Q (.ref (s.heap.objs.size + 1)) s') E' { s with heap := copyHeap s.heap vs }) :
    wpAny (model prog w) A (call (.builtin "sorted") [.ref l] kw) Q E s := by
  refine call_function_entry_kw kind_sorted plain_sorted entry_sorted ha1 ?_
  unfold Builtin.«sorted»
  refine wpAny_bind (m := checkCount "sorted" 1 1 _) (wpAny_pure ?_)
  refine wpAny_bind (collect_tuple hl ?_ hL)
  refine wpAny_bind (wpAny_newList ?_ hL)
  have hsz : ((s.heap.push (seqObj "list" #[] 0)).update s.heap.objs.size (Obj.mapSeq (· ++ vs.toArray))).objs.size = s.heap.objs.size + 1 := by
    rw [Heap.size_update, size_push']
  show wpAny _ _ _ _ _ { s with heap := copyHeap s.heap vs }
  rw [hsz]
  refine wpAny_bind (wpAny_holding (wpAny_call_entry_kw slot_list_sort ⟨_, copyHeap_at s.heap vs, rfl⟩ entry_list_sort ?body (ha2 _)))
  case body =>
    show wpAny (model prog w) A.in1.in1 (Builtin.«list.sort» ⟨[.ref (s.heap.objs.size + 1)], kw⟩) _ _ _
    refine wpAny_mono (body _) (fun f s' hf => ?_) fun _ _ e => e
    obtain ⟨rfl, hq⟩ := hf
    exact ⟨_, rfl, wpAny_pure ⟨_, rfl, hq⟩⟩
variable {β : Type} {vs : List Value} {bs : List β} {enc : β → PyData} {R : Value → β → Prop}
theorem sorted_tup_data {l : Addr} {Q : Value → Shared → Prop} (hl : s.heap.IsTuple l vs.toArray) (e : EachIs R vs bs) (er : EachIs (fun v b => ∃ as, Reads s.heap v (enc b) as) vs bs) (hal : AllAlike (bs.map enc)) (hk : Sortable (bs.map enc)) (hL : bs.length ≤ sizeLine)
    (hu : ∀ b, b ∈ bs → A.units + 2 + (enc b).depth < cLine) (h : ∀ out, out.length = bs.length → EachIs R out (bs.mergeSort (dataLe false enc)) → Q (.ref (s.heap.objs.size + 1)) { s with heap := sortedAll s.heap vs (List.toArray out) }) :
    wpAny (model prog w) A (call (.builtin "sorted") [.ref l]) Q E s := by
  have er' : EachIs (fun v b => ∃ as, Reads (sortingHeap (copyHeap s.heap vs) (s.heap.objs.size + 1) vs) v (enc b) as) vs bs := er.mono fun _ _ ⟨as, r⟩ => ⟨as, PyProof.Rows.Reads.keeps (fun _ _ => sorting_copy_old) r⟩
  have hL' : vs.length ≤ sizeLine := by rw [e.length]; exact hL
  exact sorted_of_tup hl hL' (args_sorted1 _) (fun _ => args_list_sort _) fun _ => list_sort_vals (s := { s with heap := copyHeap s.heap vs }) (copyHeap_at s.heap vs)
    (SortsAt.data (s := { s with heap := sortingHeap (copyHeap s.heap vs) (s.heap.objs.size + 1) vs }) (each_map (R := fun v d => ∃ as, Reads (sortingHeap (copyHeap s.heap vs) (s.heap.objs.size + 1) vs) v d as) enc er') hal hk (bound_map hu)) hL' ⟨rfl, h _ (by rw [sortVals_length false rfl]; exact e.length) (sortVals_data false e er' hal)⟩
theorem sorted_tup_key {l : Addr} {f : Value} {kw : List (Str × Value)} {b : Bool} {Q : Value → Shared → Prop} (k : β → PyData) (hl : s.heap.IsTuple l vs.toArray) (e : EachIs R vs bs) (hal : AllAlike (bs.map k)) (hk : Sortable (bs.map k)) (hL : bs.length ≤ sizeLine)
    (hu : ∀ x, x ∈ bs → A.units + 2 + (k x).depth < cLine) (ha1 : argsOk "sorted" ⟨[.ref l], kw⟩) (ha2 : ∀ x, argsOk "list.sort" ⟨[.ref x], kw⟩) (ht : ∀ x, Builtin.«list.sort» ⟨[.ref x], kw⟩ = ksk_tree x f b)
    (turn : ∀ (v : Value) (x : β), R v x → x ∈ bs → ∀ (h : Heap) (tk : Nat), (∀ b o, s.heap.get? b = some o → h.get? b = some o) →
      wpAny (model prog w) A.in1.in1 (call f [v]) (KeyPure (k x) { s with heap := h, toks := tk }) (fun _ _ => False) { s with heap := h, toks := tk })
    (h : ∀ out c h' tk, (∀ b o, s.heap.get? b = some o → h'.get? b = some o) → s.heap.get? (s.heap.objs.size + 1) = none → h'.get? (s.heap.objs.size + 1) = some (seqObj "list" (List.toArray out) c) → out.length = bs.length → EachIs R out (bs.mergeSort (dataLe b k)) →
      Q (.ref (s.heap.objs.size + 1)) { s with heap := h', toks := tk }) :
    wpAny (model prog w) A (call (.builtin "sorted") [.ref l] kw) Q E s := by
  have fresh : s.heap.get? (s.heap.objs.size + 1) = none := Heap.get?_none_of_le (Nat.le_succ _)
  have up : ∀ {g : Heap}, KeepsBut (s.heap.objs.size + 1) (copyHeap s.heap vs) g → ∀ b o, s.heap.get? b = some o → g.get? b = some o := fun {g} kp b o q =>
    kp b o (Nat.ne_of_lt (Nat.lt_succ_of_lt (Heap.lt_size q))) (copyHeap_old q)
  refine sorted_of_tup hl (by rw [e.length]; exact hL) ha1 ha2 fun E' => ?_
  rw [ht]
  refine keyH_tree (kz := bs.map k) (s := { s with heap := copyHeap s.heap vs }) (copyHeap_at s.heap vs) (by rw [List.length_map]; exact e.length.symm) (by rw [e.length]; exact hL) hal hk (bound_map (A := A.in1.in1) hu)
    (keyH_turns (s := { s with heap := copyHeap s.heap vs }) e fun v x hR hx h tk kp => turn v x hR hx h tk (up kp)) fun h' tk out c kp hD ko => ⟨rfl, ?_⟩
  exact h out c h' tk (up kp) fresh hD ((ko.length (by rw [List.length_map]; exact e.length.symm)).trans e.length) (keyedOut_each k ko e)
end
/-! by values -/
section
variable {X : Cx}
theorem each_of {R : V → Value → Prop} : ∀ {xs : List V} {us : List Value}, Paired R xs us → ∀ {β : Type} {bs : List (V × β)}, xs = bs.map Prod.fst → EachIs (fun v b => R b.1 v) us bs
  | _, _, .nil, _, [], _ => .nil
  | _, _, .nil, _, _ :: _, e => by cases e
  | _, _, .cons _ _, _, [], e => by cases e
  | _, _, .cons r t, _, b :: bs, e => by
    rw [List.map_cons] at e
    obtain ⟨e1, e2⟩ := List.cons.inj e
    subst e1
    exact .cons r (each_of t e2)
theorem vals_of_each {β : Type} : ∀ {us : List Value} {bs : List (V × β)}, EachIs (fun v b => RelV b.1 v) us bs → Vals (bs.map Prod.fst) us
  | _, _, .nil => .nil
  | _, _, .cons h t => .cons h (vals_of_each t)
theorem each_and {α β : Type} {R S : α → β → Prop} : ∀ {us : List α} {bs : List β}, EachIs R us bs → (∀ u b, R u b → b ∈ bs → S u b) → EachIs S us bs
  | _, _, .nil, _ => .nil
  | _, _, .cons h t, f => .cons (f _ _ h (by simp)) (each_and t fun u b r m => f u b r (by simp [m]))
/-- sorted(xs), xs a list of lists of ints -/
def rSortedLI (K : PySem.W.Frag) : List V → Hp → VK → Prop := fun vs H Q => ∃ (a : Addr) (bs : List (V × List Int)), vs = [.ref a] ∧ SqL K H a (bs.map Prod.fst) ∧ bs.length ≤ 1000 ∧ (∀ b ∈ bs, ∃ t, b.1 = .ref t ∧ SqL K H t (b.2.map V.int)) ∧
  ∀ (zs : List (V × List Int)) (p : Addr), zs.Perm bs → zs.Pairwise (fun x y => x.2 ≤ y.2) → H p = none → Q (.ref p) (upd H p (.lst (zs.map Prod.fst)))
theorem cr_sortedLI (hu : X.A.units + 64 < cLine) : CallR X (.builtin "sorted") (rSortedLI X.K) := by
  intro pins s σ H vs us Q I r h
  obtain ⟨a, bs, rfl, hs, hl, hb, q⟩ := h
  obtain ⟨its, rv, pl, hz⟩ := I.list hs
  rw [Vals.ref1 r]
  have e := each_of rv rfl
  have sml : ∀ n, n ≤ 1000 → n ≤ sizeLine := fun n h => Nat.le_of_lt (Nat.lt_of_le_of_lt h (by decide))
  refine sorted_data (enc := fun b : V × List Int => .list (b.2.map .int)) pl.isList e (each_and e fun u b ru hm => ?_) (AllAlike.of fun b b' => by rw [alike]; exact alike_ints _ _) (Sortable.others fun b => ⟨by simp, by simp⟩) (sml _ hl) (fun b _ => ?_) fun out lo eo => ?_
  · obtain ⟨t, et, St⟩ := hb b hm
    rw [et] at ru
    obtain ⟨as, rd⟩ := Dp.reads I (.list (b.2.map .int)) (.ref t) u (.lst St (dp_ints _)) ru
    exact ⟨as, rd⟩
  · have := depth_ints b.2
    simp only [PyData.depth]
    omega
  obtain ⟨ep, he'⟩ := PyProof.Rows.sortedAll_at s.heap its out.toArray
  rw [dataLe_rows (fun b : V × List Int => b.2)] at eo
  have pm := List.mergeSort_perm bs (fun p q : V × List Int => decide (p.2 ≤ q.2))
  have pw := List.pairwise_mergeSort (le := fun p q : V × List Int => decide (p.2 ≤ q.2)) (fun a b c h1 h2 => decide_eq_true (List.le_trans (of_decide_eq_true h1) (of_decide_eq_true h2)))
    (fun a b => by
      rcases List.le_total a.2 b.2 with h | h
      · simp [h]
      · simp [h]) bs
  have hlen : ((bs.mergeSort fun p q => decide (p.2 ≤ q.2)).map Prod.fst).length ≤ sizeLine := by
    rw [List.length_map, pm.length_eq]
    exact sml _ hl
  exact ⟨.ref _, upd H (s.heap.objs.size + 1) (.lst ((bs.mergeSort fun p q => decide (p.2 ≤ q.2)).map Prod.fst)), I.laid (t' := s.toks) (fun _ _ => PyProof.Rows.sortedAll_old) (Nat.le_succ _) ⟨hlen, out, ep, vals_of_each eo, he'⟩, rfl,
    q _ _ pm (pw.imp fun h => of_decide_eq_true h) (I.hok.fresh (Nat.le_succ _))⟩
/-- sorted(t), t a tuple of ints -/
def rSortedIT (K : PySem.W.Frag) : List V → Hp → VK → Prop := fun vs H Q => ∃ (a : Addr) (ns : List Int), vs = [.ref a] ∧ SqT K H a (ns.map V.int) ∧ ns.length ≤ 1000 ∧
  ∀ (zs : List Int) (p : Addr), zs.Perm ns → zs.Pairwise (· ≤ ·) → H p = none → Q (.ref p) (upd H p (.lst (zs.map V.int)))
theorem each_ints : ∀ {us : List Value} {ns : List Int}, Vals (ns.map V.int) us → EachIs (fun v n => RelV (.int n) v) us ns
  | _, [], r => by
    cases r
    exact .nil
  | _, n :: ns, r => by
    cases r with
    | cons h t => exact .cons h (each_ints t)
theorem vals_each_ints : ∀ {us : List Value} {ns : List Int}, EachIs (fun v n => RelV (.int n) v) us ns → Vals (ns.map V.int) us
  | _, _, .nil => .nil
  | _, _, .cons h t => .cons h (vals_each_ints t)
theorem cr_sortedIT (hu : X.A.units + 64 < cLine) : CallR X (.builtin "sorted") (rSortedIT X.K) := by
  intro pins s σ H vs us Q I r h
  obtain ⟨a, ns, rfl, hs, hl, q⟩ := h
  obtain ⟨its, rv, pl, hz⟩ := I.tuple hs
  rw [Vals.ref1 r]
  have e := each_ints rv
  have sml : ∀ n, n ≤ 1000 → n ≤ sizeLine := fun n h => Nat.le_of_lt (Nat.lt_of_le_of_lt h (by decide))
  refine sorted_tup_data (enc := fun n : Int => .int n) pl e (each_and e fun u b ru hm => ?_) (AllAlike.of fun b b' => by simp [alike]) (Sortable.others fun b => ⟨by simp, by simp⟩) (sml _ hl) (fun b _ => ?_) fun out lo eo => ?_
  · obtain ⟨t, rfl⟩ := ru
    exact ⟨_, Reads.int b t⟩
  · simp only [PyData.depth]
    omega
  obtain ⟨ep, he'⟩ := PyProof.Rows.sortedAll_at s.heap its out.toArray
  rw [dataLe_int (fun b : Int => b)] at eo
  have pm := List.mergeSort_perm ns (fun p q : Int => decide (p ≤ q))
  have pw := List.pairwise_mergeSort (le := fun p q : Int => decide (p ≤ q)) (fun a b c h1 h2 => decide_eq_true (Int.le_trans (of_decide_eq_true h1) (of_decide_eq_true h2)))
    (fun a b => by
      rcases Int.le_total a b with h | h
      · simp [h]
      · simp [h]) ns
  have hlen : ((ns.mergeSort fun p q => decide (p ≤ q)).map V.int).length ≤ sizeLine := by
    rw [List.length_map, pm.length_eq]
    exact sml _ hl
  exact ⟨.ref _, upd H (s.heap.objs.size + 1) (.lst ((ns.mergeSort fun p q => decide (p ≤ q)).map V.int)), I.laid (t' := s.toks) (fun _ _ => PyProof.Rows.sortedAll_old) (Nat.le_succ _) ⟨hlen, out, ep, vals_each_ints eo, he'⟩, rfl,
    q _ _ pm (pw.imp fun h => of_decide_eq_true h) (I.hok.fresh (Nat.le_succ _))⟩
/-- sorted(t, key=len), t a tuple of tuples -/
def rSortLen (K : PySem.W.Frag) : List V → Hp → VK → Prop := fun vs H Q => ∃ (β : Type) (n : β → Nat) (a : Addr) (bs : List (V × β)), vs = [.ref a] ∧ SqT K H a (bs.map Prod.fst) ∧ bs.length ≤ 1000 ∧ (∀ b ∈ bs, ∃ t ys, b.1 = .ref t ∧ SqT K H t ys ∧ ys.length = n b.2) ∧
  ∀ (zs : List (V × β)) (p : Addr), zs.Perm bs → zs.Pairwise (fun x y => n x.2 ≤ n y.2) → H p = none → Q (.ref p) (upd H p (.lst (zs.map Prod.fst)))
theorem run_sortLen (hu : X.A.units + 64 < cLine) {pins : List (Addr × Obj)} {s : Shared} {σ : L2.St} {H : Hp} {vs : List V} {us : List Value} {Q : VK} (I : Inv X pins σ H s) (r : Vals vs us) (h : rSortLen X.K vs H Q) :
    wpAny (model X.prog X.w) X.A (call (.builtin "sorted") us [(Str.ofString "key", .builtin "len")]) (EP X pins σ Q) X.xe s := by
  obtain ⟨β, n, a, bs, rfl, hs, hl, hb, q⟩ := h
  obtain ⟨its, rv, pl, hz⟩ := I.tuple hs
  rw [Vals.ref1 r]
  have e := each_of rv rfl
  have sml : ∀ n, n ≤ 1000 → n ≤ sizeLine := fun n h => Nat.le_of_lt (Nat.lt_of_le_of_lt h (by decide))
  refine sorted_tup_key (b := false) (fun b : V × β => .int (n b.2 : Int)) pl e (AllAlike.of fun b b' => by simp [alike]) (Sortable.others fun b => ⟨by simp, by simp⟩) (sml _ hl) (fun b _ => ?_) (ksk_s1 _ _) (fun _ => ksk_l1 _ _) (fun _ => ksk_t4 _ _) (fun v x rx hx h tk kp => ?_) fun out c h' tk kp fr hD lo eo => ?_
  · simp only [PyData.depth]
    omega
  · obtain ⟨t, ys, et, St, el⟩ := hb x hx
    rw [et] at rx
    cases rx
    obtain ⟨its2, rv2, p2, hz2⟩ := I.tuple St
    have hlen := rv2.length
    have p3 : h.IsTuple t its2.toArray := by
      obtain ⟨o, ho, hc, hd⟩ := p2
      exact ⟨o, kp _ _ ho, hc, hd⟩
    have hn := line63
    refine len_tuple (s := { s with heap := h, toks := tk }) p3 (by simp only [List.size_toArray] <;> omega) ⟨h, tk + 1 + 1, rfl, fun b o e => e, ?_⟩
    rw [List.size_toArray, ← hlen, el]
    exact Reads.int _ _
  rw [dataLe_int (fun b : V × β => (n b.2 : Int))] at eo
  have pm := List.mergeSort_perm bs (fun p q : V × β => decide ((n p.2 : Int) ≤ (n q.2 : Int)))
  have pw := List.pairwise_mergeSort (le := fun p q : V × β => decide ((n p.2 : Int) ≤ (n q.2 : Int))) (fun a b c h1 h2 => decide_eq_true (Int.le_trans (of_decide_eq_true h1) (of_decide_eq_true h2)))
    (fun a b => by
      rcases Int.le_total (n a.2 : Int) (n b.2 : Int) with h | h
      · simp [h]
      · simp [h]) bs
  have hlen : ((bs.mergeSort fun p q => decide ((n p.2 : Int) ≤ (n q.2 : Int))).map Prod.fst).length ≤ sizeLine := by
    rw [List.length_map, pm.length_eq]
    exact sml _ hl
  exact ⟨.ref _, upd H (s.heap.objs.size + 1) (.lst ((bs.mergeSort fun p q => decide ((n p.2 : Int) ≤ (n q.2 : Int))).map Prod.fst)), I.laid (t' := tk) kp (Nat.le_succ _) ⟨hlen, out, c, vals_of_each eo, hD⟩, rfl,
    q _ _ pm (pw.imp fun h => by have := of_decide_eq_true h; omega) (I.hok.fresh (Nat.le_succ _))⟩
theorem pe_sortLen {e : Expr} {t : TA} {p p2 kpos pos : Pos} (hu : X.A.units + 64 < cLine) (hg : Gl X "sorted") (hm : X.mg "sorted" = none) (hg2 : Gl X "len") (hm2 : X.mg "len" = none) (ha : PA X [e] t)
    (he : backTo pos (starEach [e] X.env) = (false, eval e X.env) :: backTo pos (starEach [] X.env) := by rfl) (hpl : (backTo pos (starEach [e] X.env)).any (·.1) = false := by rfl)
    (hall : (backToKw pos (keywordEach [⟨some (Str.ofString "key"), .Name "len" p2, kpos⟩] X.env)).all (·.1.isSome) = true := by rfl) (hnone : (backToKw pos (keywordEach [⟨some (Str.ofString "key"), .Name "len" p2, kpos⟩] X.env)).any (·.1.isNone) = false := by rfl)
    (hks : (backToKw pos (keywordEach [⟨some (Str.ofString "key"), .Name "len" p2, kpos⟩] X.env)).filterMap (·.1) = [Str.ofString "key"] := by rfl) :
    PE X (.Call (.Name "sorted" p) [e] [⟨some (Str.ofString "key"), .Name "len" p2, kpos⟩] pos) (tCB (rSortLen X.K) t) := by
  refine ⟨fun pins s σ H Q I h => ?_⟩
  refine wpAny_Call_Name_kw (ld_blt I hg hm (u := .builtin "sorted") (by decide +kernel) ?_ (by decide) (by decide))
  refine PyProof.Rows.callWith_kw (thn (ha.run pos pins s σ H _ I h) fun us s1 ⟨vs, H1, I1, r1, q1⟩ => ?_) he hpl hall hnone
  show wpAny _ _ (evalAll [do let v ← eval (.Name "len" p2) X.env; standAt pos; pure v]) _ _ s1
  refine wpAny_evalAll_cons (wpAny_bind (ld_blt I1 hg2 hm2 (u := .builtin "len") (by decide +kernel) (wpAny_bind (wpAny_standAt (wpAny_pure (wpAny_evalAll_nil ?_)))) (by decide) (by decide)))
  rw [hks]
  exact run_sortLen hu I1 r1 q1
end
end MM
namespace MM
open PySem PySem.Spec PyProof.Rows L2
section
variable {K : PySem.W.Frag} {a b : Addr} {xs ys : List V} {g : TG} {tb : TS} {D : Ends} {σ : L2.St} {H : Hp}
theorem for_zipM (Pv : Nat → L2.St → Hp → Prop) (h0 : Pv 0 σ H) (hq : ∀ i σ H, Pv i σ H → SqL K H a xs ∧ SqL K H b ys)
    (hs : ∀ (i : Nat) (x y : V) (T : Addr) (σ : L2.St) (H : Hp), xs[i]? = some x → ys[i]? = some y → Pv i σ H → H T = none → g (.ref T) σ (upd H T (.tup [x, y])) fun σ2 H2 => tb { D with nx := Pv (i + 1), ct := Pv (i + 1), bk := D.nx } σ2 H2)
    (hd : ∀ σ H, Pv (min xs.length ys.length) σ H → D.nx σ H) : ForW (Itz K a b) g tb D σ H := by
  refine ⟨fun i m σ H => m = min xs.length ys.length - i ∧ i ≤ min xs.length ys.length ∧ Pv i σ H, ⟨_, rfl, Nat.zero_le _, h0⟩, ?_⟩
  rintro i m σ H ⟨rfl, le, p⟩
  obtain ⟨q1, q2⟩ := hq i σ H p
  by_cases lt : i < min xs.length ys.length
  · have e1 : xs[i]? = some (xs[i]'(by omega)) := List.getElem?_eq_getElem (by omega)
    have e2 : ys[i]? = some (ys[i]'(by omega)) := List.getElem?_eq_getElem (by omega)
    refine .inr ⟨⟨xs, ys, _, _, q1, q2, e1, e2⟩, Pv (i + 1), fun σ' H' p' => ⟨_, by omega, rfl, lt, p'⟩, ?_⟩
    rintro v H' ⟨T, x, y, rfl, free, rfl, h1, h2⟩
    exact hs i x y T σ H (h1 xs q1) (h2 ys q2) p free
  · have e : i = min xs.length ys.length := by omega
    subst e
    exact .inl ⟨⟨xs, ys, q1, q2, by omega⟩, hd σ H p⟩
end
end MM

set_option Elab.async false
set_option maxRecDepth 100000
set_option maxHeartbeats 2000000
set_option linter.all false
/-! own exceptions over any built-in base, whose own __init__ asks the base's and keeps one field -/
namespace ME
open PySem PySem.Spec PyProof.Rows L2

/-- the class at C stands over B, by own classes between, or none -/
structure Over (K : PySem.W.Frag) (C : Addr) (B newId initId : String) (top : List Value) : Prop where
  base : ExcBaseFacts B newId initId top
  put : StoreFacts B top "object.__setattr__" "object"
  row : ∃ nm q N bs bm sn sub ab col dd k0 k1 k2 k3 k5,
    K.lookup C = some (excClassObj nm q C N bs bm true sn sub ab col dd k0 k1 k2 k3 k5 newId) ∧ PySem.W.excTail top bm = true
  hook : PySem.W.findIn K (.ref C) "__setattr__" = some (some (.builtin "object.__setattr__"))
  isE : PySem.W.subIn K (.ref C) (.type "BaseException") = some true
  meta_ : PySem.W.typeIn K (.ref C) = some (.type "type")
  keep : PySem.W.keepIn K (.ref C) = true

section
open Builtin Builtin.ObjectAttr
variable {prog : Program} {w : World} {A : Around} {R : Result → Shared → Prop} {hp : Heap} {g : Array GenState} {d : Drawn}
  {t : Nat} {os : OsState} {K : PySem.W.Frag} {C x : Addr} {B newId initId : String} {top : List Value}
/-- the first field of an exception lays its dict -/
theorem first_put {name : Str} {tk : Tok} {v : Value} {fv : Array Value} (T : Over K C B newId initId top) (X : K.In hp)
    (hx : hp.get? x = some { cls := .ref C, data := .fields fv })
    (ha : PySem.W.findIn K (.ref C) name = some none)
    (hq : ∀ h' tk' dx, (∀ b o, b ≠ x → hp.get? b = some o → h'.get? b = some o) → hp.objs.size ≤ dx → dx ≠ x →
      h'.get? x = some { cls := .ref C, dict := some dx, data := .fields fv } →
      h'.Ns1 dx (fun y => if y = name then some v else none) → R (.ok (.ret .none)) ⟨h', g, d, tk', os⟩) :
    codeAny (model prog w) A (.call (.builtin "object.__setattr__") ⟨[.ref x, .str name tk, v], []⟩) R ⟨hp, g, d, t, os⟩ := by
  obtain ⟨nm, q, N, bs, bm, sn, sub, ab, col, dd, k0, k1, k2, k3, k5, hC, hbm⟩ := T.row
  have hcd : PySem.W.clsIn K C = some { name := nm, bases := bs, mro := .ref C :: bm, ns := N, qualname := q, hasDict := true, slotNames := sn, subclasses := sub, abstract := ab, collection := col, hasDel := false } := by
    unfold PySem.W.clsIn
    rw [hC] <;> rfl
  have hall : PySem.W.excTail top (.ref C :: bm) = true := hbm
  have inst : PySem.W.InstAt hp x { cls := .ref C, data := .fields fv } C none := ⟨hx, rfl, rfl, trivial⟩
  have S := PySem.F.store_object
  have far : x ≠ hp.objs.size := Nat.ne_of_lt (Heap.lt_size hx)
  have obj : (Value.ref C :: bm).contains (.type "object") = true :=
    (PySem.W.excTail_contains "object" _ hall).trans T.put.hasOwner
  have mro : PySem.W.mroIn K C (.type "object") = some true := by
    unfold PySem.W.mroIn
    rw [hcd, Option.bind_some]
    simp only [List.isEmpty_cons, obj, Bool.false_eq_true, if_false]
  have isObj : PySem.W.Looks (model prog w) hp (isInstance (.ref x) (.type "object")) true :=
    inst.type.andThen (PySem.W.looks_mroIn X mro)
  have rd : PySem.W.Looks (model prog w) hp (classData C) _ := PySem.W.looks_clsIn X hcd
  have rm : PySem.W.Looks (model prog w) hp (mroOf (.ref C)) (.ref C :: bm) := rd.andThen .now
  have none_ : PySem.W.Looks (model prog w) hp (storeTaker? none) none := .now
  refine codeAny_call_builtin S.slot.plain S.entry (@PySem.W.check_slot (model prog w) _ _ ⟨hp, g, d, t, os⟩
    "object.__setattr__" "object" "__setattr__" (.ref x) [.str name tk, v] [] _ S.kind S.split isObj (S.args (.ref x) (.str name tk) v) ?_)
  rw [PySem.W.osa_eq, refuse_eq]
  refine wpAny_bind (wpAny_bind (inst.type.at (wpAny_bind (rm.at ?_))))
  rw [PySem.W.excTail_pass _ (T.put.passes _) _ hall]
  refine wpAny_pure (wpAny_bind (inst.type.at (wpAny_bind ((PySem.W.looks_findIn X ha).at (wpAny_bind (none_.at ?_))))))
  show wpAny _ _ (storeInOwnDict (.ref x) (.ref C) (.str name tk) name v false) _ _ _
  unfold storeInOwnDict ownDictForStores
  repeat (first
    | with_reducible refine PySem.HandSPX.store_in_new ?_ ?_
    | with_reducible refine wpAny_loadPart_at hx ?_
    | with_reducible refine rd.at ?_
    | wp_step)
  · refine ⟨_, #[], _, (Heap.get?_update_ne _ _ _ _ far.symm).trans (Heap.get?_push_at rfl rfl), rfl, ?_, fun _ => rfl⟩
    intro e he
    simp at he
  · intro h' tk' hn' hs
    have there : (hp.push { cls := .type "dict", data := .dict #[] }).get? x = some { cls := .ref C, data := .fields fv } :=
      Heap.get?_push_of_some _ hx
    refine hq h' tk' hp.objs.size ?_ (Nat.le_refl _) far.symm ((hs.2 x far).trans (Heap.get?_update_self _ there rfl)) hn'
    intro b o hb ho
    have nb : b ≠ hp.objs.size := Nat.ne_of_lt (Heap.lt_size ho)
    rw [hs.2 b nb, Heap.get?_update_ne _ _ _ _ hb]
    exact Heap.get?_push_of_some _ ho
end

section
variable {X : Cx} {pins : List (Addr × Obj)} {σ : L2.St} {H : Hp} {s : Shared} {a C : Addr} {f : Str} {y : V} {u : Value}
  {E : Value → Shared → Prop} {A : Around} {B newId initId : String} {top : List Value}
/-- self.f = y, the first field -/
theorem put_new {Q : Unit → Shared → Prop} (T : Over X.K C B newId initId top) (I : Inv X pins σ H s)
    (ea : H a = some (exo a C none)) (no : PySem.W.findIn X.K (.ref C) f = some none) (ry : RelV y u)
    (h : ∀ dx s', H dx = none → dx ≠ a →
      Inv X pins σ (upd (upd H dx (exd dx [(f, y)])) a (exo a C (some dx))) s' → Q () s') :
    wpAny (model X.prog X.w) A (setAttr (.ref a) f u) Q E s := by
  obtain ⟨t1, ho⟩ := exo_at I.hok ea
  obtain ⟨hp, g, d, t, os⟩ := s
  refine PySem.W.set_plain I.kIn (od := none) ⟨ho, rfl, rfl, trivial⟩ T.hook ?_
  refine first_put T I.kIn ho no (fun h' tk' dx kp ge ne hx hn => ?_)
  have free : H dx = none := I.hok.fresh ge
  have old : ∀ {b : Addr} {o : Obj}, hp.get? b = some o → b ≠ dx := by
    intro b o hb
    exact Nat.ne_of_lt (Nat.lt_of_lt_of_le (Heap.lt_size hb) ge)
  have nota : ∀ {b : Addr}, H b = none → b ≠ a := by
    rintro b hb rfl
    rw [ea] at hb
    cases hb
  have same : ∀ {b : Addr} {v : HO}, H b = some v → b ≠ a →
      upd (upd H dx (exd dx [(f, y)])) a (exo a C (some dx)) b = some v := by
    intro b v hb ba
    rw [upd_ne ba, upd_ne (ne_of_none hb free)]
    exact hb
  have un : Un X.fs [] H (upd (upd H dx (exd dx [(f, y)])) a (exo a C (some dx))) hp h' := by
    constructor
    case keep => exact fun b o hb hn _ _ => kp b o (nota hn) hb
    case slot => exact fun b o hb hn _ _ => ⟨o.slots, kp b o (nota hn) hb⟩
    case free =>
      intro b o hb hn _
      rw [upd_ne (nota hn), upd_ne (old hb)]
      exact hn
    case there =>
      intro b o hb _
      by_cases ba : b = a
      · exact ⟨_, ba ▸ hx⟩
      · exact ⟨o, kp b o ba hb⟩
    case tups => exact fun b xs hb => same hb (at_ne ea hb exo_tup)
    case frzs => exact fun b o v hb => same hb (at_ne ea hb exo_frz)
    case tbls =>
      intro b ps hb
      refine ⟨#[], ?_⟩
      rw [same hb (at_ne ea hb exo_tbl)]
      simp
  refine h dx _ free ne (I.un (t' := tk') un fun b o hb => ?_)
  by_cases ba : b = a
  · subst ba
    rw [upd_same] at hb
    cases hb
    exact exo_ok hx
  rw [upd_ne ba] at hb
  by_cases bd : b = dx
  · subst bd
    rw [upd_same] at hb
    cases hb
    exact exd_ok hn (relO_put (fs := []) ry fun _ => True.intro)
  rw [upd_ne bd] at hb
  refine (I.hok b o hb).stay ?_ (fun c hc => same hc (at_ne ea hc exo_own)) (fun c xs hc => same hc (at_ne ea hc exo_tup))
  rintro c v hc z
  refine kp c v ?_ z
  rcases hc with rfl | hc
  · exact ba
  · exact at_ne ea hc exo_own

/-- B.__init__(self, ..) -/
theorem ask_ok {us : List Value} {Q : Value → Shared → Prop} (T : Over X.K C B newId initId top) (I : Inv X pins σ H s)
    (ea : H a = some (exo a C none)) (hl : us.length ≤ sizeLine) (h : ∀ s', Inv X pins σ H s' → Q .none s') :
    wpAny (model X.prog X.w) A (call (.builtin initId) (.ref a :: us)) Q E s := by
  obtain ⟨nm, q, N, bs, bm, sn, sub, ab, col, dd, k0, k1, k2, k3, k5, hC, hbm⟩ := T.row
  obtain ⟨t1, ho⟩ := exo_at I.hok ea
  obtain ⟨hp, g, d, t, os⟩ := s
  refine wpAny_call (PySem.HandSPX.init_base T.base (fun Y => PySem.W.excTail_contains Y bm hbm) (I.kIn _ _ hC) ho hl ?_)
  intro h' t2 kp hx
  have J := I.write (t' := t) (x := a) (e := a) (o := exo a C none) (by rw [ea]; exact True.intro) (.inl rfl) kp ⟨_, hx⟩ (exo_ok hx)
  have same : upd H a (exo a C none) = H := by
    funext b
    by_cases hb : b = a
    · subst hb
      rw [upd_same, ea]
    · rw [upd_ne hb]
  rw [same] at J
  exact h _ J
end

/-- B.__init__(self, ..): nothing of it is told -/
def tAsk (K : PySem.W.Frag) (B newId initId : String) (top : List Value) (ta : TA) : TE := fun σ H Q =>
  ta σ H fun vs H1 => ∃ (a C : Addr) (ws : List V), vs = .ref a :: ws ∧ ws.length ≤ 1000 ∧ Over K C B newId initId top ∧
    H1 a = some (exo a C none) ∧ Q .non H1
/-- self.f = e, the first field -/
def tPut (K : PySem.W.Frag) (B newId initId : String) (top : List Value) (f : Str) (to te : TE) : TS := fun D σ H =>
  te σ H fun y H1 => to σ H1 fun x H2 => ∃ a C : Addr, x = .ref a ∧ Over K C B newId initId top ∧
    PySem.W.findIn K (.ref C) f = some none ∧ H2 a = some (exo a C none) ∧
    ∀ dx, H2 dx = none → dx ≠ a → D.nx σ (upd (upd H2 dx (exd dx [(f, y)])) a (exo a C (some dx)))
section
variable {X : Cx} {o e : Expr} {es : List Expr} {to te : TE} {ta : TA} {f : Str} {p p' p1 p2 pos : Pos}
  {B newId initId : String} {top : List Value}
theorem ps_put (ho : PE X o to) (he : PE X e te)
    (hs : swapsWith e (some (.Attribute o f p')) pos.line X.env = pure false := by rfl) :
    PS X (.Assign [.Attribute o f p'] e pos) (tPut X.K B newId initId top f to te) := by
  constructor
  intro pins s σ H D I h
  refine plainObj_wpAny_Assign_Attribute (thn (he.run pins s σ H _ I h) ?_) hs
  rintro v s1 ⟨y, H1, I1, r1, q1⟩
  refine thn (ho.run pins s1 σ H1 _ I1 q1) ?_
  rintro u s2 ⟨x, H2, I2, r2, a, C, rfl, T, no, ea, q⟩
  obtain rfl : u = Value.ref a := r2
  exact put_new T I2 ea no r1 fun dx s' n ne J => ⟨σ, _, J, q dx n ne⟩
theorem pe_ask {pl : Sem Bool} (hg : Gl X B) (hm : X.mg B = none) (hv : bootBuiltins B = some (.type B))
    (ty : typeOf (.type B) = pure (.type "type")) (st : Manifest.isStub B = false)
    (vV : PySem.W.findCls X.K (.type B) (.type "type") "__init__" = some (.val (.builtin initId)))
    (hi : PySem.W.handedIn (.builtin initId) = true)
    (ha : PA X (e :: es) ta) (hn : (B : Str) ≠ "__name__" := by decide) (hdb : ((B : Str) == ("__debug__" : Str)) = false := by decide)
    (hc : eval (.Call (.Attribute (.Name B p1) "__init__" p2) (e :: es) [] pos) X.env = (do
      let ov ← eval (.Name B p1) X.env
      standAt p2.atName
      let (f, first) ← holding [ov] (getMethod ov "__init__" pl)
      callWith pos f first (backTo pos (starEach (e :: es) X.env)) (backToKw pos (keywordEach [] X.env))) := by rfl)
    (he : starEach (e :: es) X.env = (false, eval e X.env) :: starEach es X.env := by rfl)
    (hpl : (backTo pos (starEach es X.env)).any (·.1) = false := by rfl) :
    PE X (.Call (.Attribute (.Name B p1) "__init__" p2) (e :: es) [] pos) (tAsk X.K B newId initId top ta) := by
  constructor
  intro pins s σ H Q I h
  refine PySem.W.methodCall_KW (ld_blt I hg hm hv ?_ hn hdb) hc
  obtain ⟨m, fr⟩ := I.fr
  refine PySem.W.method_type fr I.ok.mod.kin ty st vV hi ?_
  show wpAny _ _ (callWith pos (Value.builtin initId) [] (backTo pos (starEach (e :: es) X.env)) []) _ _ _
  refine PyProof.Rows.callWith_method1 (thn (ha.run pos pins _ σ H _ (I.tok _) h) ?_) he hpl
  rintro us s1 ⟨vs, H1, I1, r1, a, C, ws, rfl, hl, T, ea, q⟩
  cases r1 with
  | @cons _ u0 _ ur ra rw' =>
    obtain rfl : u0 = Value.ref a := ra
    refine ask_ok T I1 ea ?_ fun s' J => ⟨.non, H1, J, rfl, q⟩
    rw [← Paired.length rw', sizeLine_eq]
    omega
end

/-- what __init__ of such a class keeps: one field, called f -/
def spKeep (C : Addr) (f : Str) : Sp := fun vs H Q _ => ∃ (a : Addr) (y : V), vs = [.ref a, y] ∧ H a = some (exo a C none) ∧
  ∀ dx, H dx = none → dx ≠ a → Q .non (upd (upd H dx (exd dx [(f, y)])) a (exo a C (some dx)))
/-- C(e) is made: its class, its dict, which keeps e under f -/
def tMade (C : Addr) (f : Str) (ta : TA) : L2.St → Hp → XK → Prop := fun σ H Q => ta σ H fun vs H1 => ∃ y, vs = [y] ∧
  ∀ d, H1 d = none → Q (.ref C) (some d) (upd H1 d (.xd [(f, y)]))
section
variable {X : Cx} {e : Expr} {es : List Expr} {ta : TA} {p pos : Pos} {CX : CXT} {x f : Str} {C fI : Addr} {k : Nat} {fd : FuncData}
  {ps : List Str} {B newId initId : String} {top : List Value}
theorem room_make {A : Around} (r : MM.Rm (k + 1) A) (C : Addr) (us : List Value) (kw : List (Str × Value)) :
    MM.Rm k (A.under (.builtin "type.__call__" ⟨.ref C :: us, kw⟩)) := ⟨r.room.make C us kw, r.still⟩
theorem pmk_made (T : Over X.K C B newId initId top) (iC : PySem.W.findIn X.K (.ref C) "__init__" = some (some (.ref fI)))
    (tI : PySem.W.typeIn X.K (.ref fI) = some (.type "function"))
    (F : MM.FnG X.prog X.w X.K X.mg X.base CX k fI fd ps (spKeep C f)) (hr : MM.Rm (k + 1) X.A) (hb : Binds X.K fd ps [])
    (hx : Passes CX X (fun _ _ _ => False)) (hm : X.mg x = some (.ref C)) (ha : PA X (e :: es) ta) (hg : Gl X x := by rfl)
    (hdb : (x == ("__debug__" : Str)) = false := by decide)
    (he : starEach (e :: es) X.env = (false, eval e X.env) :: starEach es X.env := by rfl)
    (hpl : (backTo pos (starEach es X.env)).any (·.1) = false := by rfl) :
    PMk X (.Call (.Name x p) (e :: es) [] pos) (tMade C f ta) := by
  intro pins s σ H Q I h
  obtain ⟨nm, q, N, bs, bm, sn, sub, ab, col, dd, k0, k1, k2, k3, k5, hC, hbm⟩ := T.row
  refine wpAny_Call_Name_kw (ld_glob I hg hm ?_ hdb)
  refine PySem.W.callWith_K (h₀ := X.base) I.ok.mod.kin T.keep (thn (ha.run pos pins s σ H _ I h) ?_) he hpl
  rintro us s1 ⟨vs, H1, I1, r1, y, rfl, q1⟩
  refine ⟨I1.kIn, ?_⟩
  obtain ⟨u, rfl, ry⟩ := vals1 r1
  show wpAny _ _ (call (.ref C) [u]) _ _ _
  obtain ⟨hp, g, dr, tk, os⟩ := s1
  have size : hp.objs.size ≤ hp.objs.size + 1 := Nat.le_succ _
  have new : H1 (hp.objs.size + 1) = none := I1.hok.fresh size
  have kept : ∀ b o, hp.get? b = some o →
      ((hp.push (PySem.W.kdv_tup [u])).push (PySem.HandSPX.excO C hp.objs.size)).get? b = some o := by
    intro b o z
    exact Heap.get?_push_of_some _ (Heap.get?_push_of_some _ z)
  have lies : ((hp.push (PySem.W.kdv_tup [u])).push (PySem.HandSPX.excO C hp.objs.size)).get? (hp.objs.size + 1) =
      some (PySem.HandSPX.excO C hp.objs.size) := by heap_get
  have I2 := I1.laid (t' := tk) (a := hp.objs.size + 1) (o := exo (hp.objs.size + 1) C none) kept size (exo_ok lies)
  have r2 : Vals [V.ref (hp.objs.size + 1), y] [Value.ref (hp.objs.size + 1), u] := .cons rfl (.cons ry .nil)
  have sp : spKeep C f [V.ref (hp.objs.size + 1), y] (upd H1 (hp.objs.size + 1) (exo (hp.objs.size + 1) C none))
      (fun v H2 => v = .non ∧ ∃ d, H1 d = none ∧ d ≠ hp.objs.size + 1 ∧
        H2 = upd (upd (upd H1 (hp.objs.size + 1) (exo (hp.objs.size + 1) C none)) d (exd d [(f, y)])) (hp.objs.size + 1) (exo (hp.objs.size + 1) C (some d)))
      (fun _ _ _ => False) := by
    refine ⟨_, y, rfl, upd_same, fun dx n ne => ⟨rfl, dx, ?_, ne, rfl⟩⟩
    rw [upd_ne ne] at n
    exact n
  have len := F.arity sp
  have bd := hb ⟨_, g, dr, tk, os⟩ [Value.ref (hp.objs.size + 1), u] I2.kIn (by rw [List.append_nil]; exact len)
  rw [List.append_nil] at bd
  refine wpAny_call (PySem.HandSPX.call_own T.base (fun Y => PySem.W.excTail_contains Y bm hbm) (I1.kIn _ _ hC)
    (PySem.W.looks_findIn I1.kIn iC) (fun self => PySem.W.bind_fn I1.kIn self tI) (by show 1 ≤ sizeLine; rw [sizeLine_eq]; omega)
    (codeAny_mono (F.runs (out := X.stack) (room_make hr C [u] []) (I2.env0.make C [u] []) bd r2 sp) ?_))
  intro r s' hq
  cases r with
  | error er => exact hx pins σ _ _ er s' I2 hq
  | ok fl =>
    cases fl with
    | next => exact hq.elim
    | brk => exact hq.elim
    | cont => exact hq.elim
    | ret u' =>
      obtain ⟨v, H2, os2, bare2, un2, hok2, rv, rfl, d, nd, ne, rfl⟩ := hq
      obtain ⟨h2, g2, d2, t2, os'⟩ := s'
      have ed : (upd (upd (upd H1 (hp.objs.size + 1) (exo (hp.objs.size + 1) C none)) d (exd d [(f, y)])) (hp.objs.size + 1)
          (exo (hp.objs.size + 1) C (some d))) d = some (exd d [(f, y)]) := by
        rw [upd_ne ne, upd_same]
      refine ⟨rv, mk_end (raises_own T.isE T.meta_) I1 size kept un2 hok2 os2 bare2 upd_same ed nd ?_⟩
      have same : upd (del (upd (upd (upd H1 (hp.objs.size + 1) (exo (hp.objs.size + 1) C none)) d (exd d [(f, y)])) (hp.objs.size + 1)
          (exo (hp.objs.size + 1) C (some d))) (hp.objs.size + 1)) d (.xd [(f, y)]) = upd H1 d (.xd [(f, y)]) := by
        funext b
        by_cases b1 : b = d
        · subst b1
          rw [upd_same, upd_same]
        rw [upd_ne b1, upd_ne b1]
        by_cases b2 : b = hp.objs.size + 1
        · subst b2
          rw [del_same, new]
        rw [del_ne b2, upd_ne b2, upd_ne b1, upd_ne b2]
      rw [same]
      exact q1 d nd
end
end ME

set_option Elab.async false
set_option maxRecDepth 100000
set_option maxHeartbeats 2000000
set_option linter.all false
/-! try with several clauses, with and without a name -/
namespace ME
open PySem PySem.Spec PyProof.Rows L2
/-- where slot i is emptied behind the suite -/
def Ends.drop (D : Ends) (i : Nat) : Ends where
  nx := fun σ H => D.nx (σ.set i none) H
  rt := D.rt
  bk := fun σ H => D.bk (σ.set i none) H
  ct := fun σ H => D.ct (σ.set i none) H
/-- clauses, one after the other; W: what is wished of the exception that the body lets out -/
inductive Cl (X : Cx) (Wout : WX) : List ExceptHandler → (Ends → WX) → Prop where
  | nil : Cl X Wout [] (fun _ => Wout)
  | no {x : Str} {c : Value} {ts : Addr → Value → Option Addr → TS} {b₀ : Stmt} {suite : List Stmt} {np pos : Pos}
      {hds : List ExceptHandler} {W : Ends → WX} (hc : Names X x c)
      (su : ∀ (a : Addr) (oe : Obj) (cls : Value) (d : Option Addr) (pn : List (Addr × Obj)), Zc cls d oe →
        (∃ vs, oe.data = .fields vs) → PSs (X.suite a ((a, oe) :: pn)) (b₀ :: suite) (ts a cls d))
      (r : Cl X Wout hds W) :
      Cl X Wout (.ExceptHandler (some (.Name x np)) none (b₀ :: suite) pos :: hds) (fun D cls d σ H =>
        ∃ b, PySem.W.exmOne X.K cls c = some b ∧ (b = true → ∀ a, H a = none → ts a cls d D σ H) ∧ (b = false → W D cls d σ H))
  | as_ {x n : Str} {i : Nat} {c : Value} {ts : Addr → Value → Option Addr → TS} {b₀ : Stmt} {suite : List Stmt} {np pos : Pos}
      {hds : List ExceptHandler} {W : Ends → WX} (hc : Names X x c) (hN : X.N.Nodup) (hi : X.N[i]? = some n)
      (hl : X.env.kindOf n = some .local)
      (su : ∀ (a : Addr) (oe : Obj) (cls : Value) (d : Option Addr) (pn : List (Addr × Obj)), Zc cls d oe →
        (∃ vs, oe.data = .fields vs) → PSs (X.suite a ((a, oe) :: pn)) (b₀ :: suite) (ts a cls d))
      (r : Cl X Wout hds W) :
      Cl X Wout (.ExceptHandler (some (.Name x np)) (some n) (b₀ :: suite) pos :: hds) (fun D cls d σ H =>
        ∃ b, PySem.W.exmOne X.K cls c = some b ∧ (b = true → ∀ a, H a = none → σ.length = X.N.length → ts a cls d (Ends.drop D i) (σ.set i (some (.ref a))) H) ∧
          (b = false → W D cls d σ H))

/-- the exception at a has landed in X: h is the heap now, sI the state without it -/
structure Lands (X : Cx) (pins : List (Addr × Obj)) (σ : L2.St) (H : Hp) (cls : Value) (d : Option Addr) (a : Addr) (B : Heap)
    (sI s : Shared) (h : Heap) : Prop where
  inv : Inv X pins σ H sI
  ground : ∀ b o, sI.heap.get? b = some o → b ∉ frs X.stack → B.get? b = some o
  up : sI.heap.UpToSlots h
  fly : HandSPX.FlyingZ B (X.env :: X.outer) a (Zc cls d) h
  none_ : H a = none
  os : s.os = sI.os
  bare : AllBare s.gens
section
variable {X : Cx} {pins : List (Addr × Obj)} {σ : L2.St} {H : Hp} {cls : Value} {d : Option Addr} {a : Addr} {B : Heap}
  {sI s : Shared} {h : Heap} {D : Ends} {Wout : WX} {hds : List ExceptHandler} {W : Ends → WX}
theorem Lands.here (L : Lands X pins σ H cls d a B sI s h) : Inv X pins σ H { s with heap := h } :=
  L.inv.landed (s' := { s with heap := h }) L.ground L.fly.1 L.up L.os L.bare
theorem Lands.later (L : Lands X pins σ H cls d a B sI s h) {h' : Heap} (f : HandSPX.FlyingZ B (X.env :: X.outer) a (Zc cls d) h')
    (u : h.UpToSlots h') : Lands X pins σ H cls d a B sI s h' :=
  { L with up := L.up.trans u, fly := f }
/-- the exception as it lies, in the suite's context -/
theorem Lands.suite (L : Lands X pins σ H cls d a B sI s h) (hf : X.env.frame = some X.env.locals) :
    ∃ (oe : Obj) (vs : Array Value), h.get? a = some oe ∧ Zc cls d oe ∧ oe.data = .fields vs ∧
      Inv (X.suite a ((a, oe) :: (X.pn ++ pins))) [] σ H { s with heap := h } := by
  obtain ⟨oe, vs, he, hz, hd⟩ := L.fly.there
  have away : a ∉ frs (X.env :: X.outer) := by
    intro hm
    obtain ⟨_, o', e', no⟩ := L.fly.2.2.1.mem hm
    rw [he] at e'
    cases e'
    exact no _ hd
  have nL : a ≠ X.env.locals := fun z => away (List.mem_filterMap.mpr ⟨X.env, List.mem_cons_self, by rw [hf, z]⟩)
  have nF : a ∉ X.fs := by
    intro hm
    obtain ⟨e, he', q⟩ := List.mem_filterMap.mp hm
    exact away (List.mem_filterMap.mpr ⟨e, List.mem_cons_of_mem _ he', q⟩)
  exact ⟨oe, vs, he, hz, hd, L.here.suite he hd L.none_ nL nF⟩
/-- a suite's end -/
theorem Lands.out {oe : Obj} {f : Flow} {s6 : Shared} (ok : X.Ok)
    (q : SP (X.suite a ((a, oe) :: (X.pn ++ pins))) [] D f s6) : SP X pins D f s6 := by
  cases f with
  | ret u =>
    obtain ⟨v, σ6, H6, S, r, z⟩ := q
    exact ⟨v, σ6, H6, S.unsuite ok, r, z⟩
  | next =>
    obtain ⟨σ6, H6, S, z⟩ := q
    exact ⟨σ6, H6, S.unsuite ok, z⟩
  | brk =>
    obtain ⟨σ6, H6, S, z⟩ := q
    exact ⟨σ6, H6, S.unsuite ok, z⟩
  | cont =>
    obtain ⟨σ6, H6, S, z⟩ := q
    exact ⟨σ6, H6, S.unsuite ok, z⟩
theorem handled (hs : X.stack = X.env :: X.outer) (hf : X.env.frame = some X.env.locals) (tk : Takes X Wout)
    (C : Cl X Wout hds W) : ∀ {h : Heap}, Lands X pins σ H cls d a B sI s h → W D cls d σ H →
      wpAny (model X.prog X.w) X.A (handleBy (.ref a) X.env hds) (SP X pins D) X.xe { s with heap := h } := by
  induction C with
  | nil =>
    intro h L w
    have L0 := L
    refine wpAny_handleBy_nil ?_
    obtain ⟨k1, k2, k3, oe, vs, T, oT, ts', he, hz, hd, h1, hr⟩ := L.fly
    unfold PySem.passOn
    refine wpAny_bind (wpAny_field he hd h1 ?_)
    rw [if_neg (show ¬ ((Value.ref T == Value.none) = true) from by simp)]
    have on : wpAny (model X.prog X.w) X.A (setFlight (.ref a) X.env.frame)
        (fun _ s4 => wpAny (model X.prog X.w) X.A (throw (.ref a) : Sem Flow) (SP X pins D) X.xe s4) X.xe { s with heap := h } := by
      rw [hf]
      refine HandSPX.setFlight_upZ L0.fly fun h4 hh4 up4 => wpAny_throw (tk _ _ ?_)
      exact ⟨a, B, sI, pins, σ, H, cls, d, rfl, L0.inv, L0.ground, L0.up.trans up4, .inr (.inr (by rw [hs]; exact hh4)), L0.none_, L0.os,
        L0.bare, w⟩
    first
      | exact wpAny_bind (wpAny_pure (wpAny_bind on))
      | exact wpAny_bind on
  | @no x c ts b₀ suite np pos hds' W' hc su r ih =>
    intro h L w
    obtain ⟨b, e, yes, no⟩ := w
    obtain ⟨oe, vs, he, hz, hd, S⟩ := L.suite hf
    refine wpAny_handleBy_cons (codeAny_handlers_test ?_) (by intro q; cases q)
    have ty : PySem.W.Looks (model X.prog X.w) h (typeOf (.ref a)) cls := fun A Q E s k q =>
      wpAny_typeOf_ref (k _ _ he) (by rw [hz.1]; exact q)
    have ask := PySem.W.exm_one (M := model X.prog X.w) L.here.kIn ty e
    have name : ∀ {Q : Value → Shared → Prop} {E : Value → Shared → Prop}, Q c { s with heap := h } →
        wpAny (model X.prog X.w) (X.A.mark (some (.ref a))) (eval (.Name x np) X.env) Q E { s with heap := h } := by
      intro Q E q
      obtain ⟨hg, hdb, hm | ⟨hm, hv, hn⟩⟩ := hc
      · exact ld_glob (X := X.suite a ((a, oe) :: (X.pn ++ pins))) S hg hm q hdb
      · exact ld_blt (X := X.suite a ((a, oe) :: (X.pn ++ pins))) S hg hm hv q hn hdb
    refine name (ask.here ?_)
    cases b with
    | false => exact ih L (no rfl)
    | true =>
      refine codeAny_handlers_suite (HandSPX.lands_againZ L.fly fun h4 f4 u4 => ?_)
      obtain ⟨oe4, vs4, _, hz4, hd4, S4⟩ := (L.later f4 u4).suite hf
      refine wpAny_mono ((su a oe4 cls d (X.pn ++ pins) hz4 ⟨_, hd4⟩).run [] _ _ H _ S4 (yes rfl a L.none_))
        (fun f s6 q => Lands.out L.inv.ok q) (fun _ _ z => False.elim z)
  | @as_ x n i c ts b₀ suite np pos hds' W' hc hN hi hl su r ih =>
    intro h L w
    obtain ⟨b, e, yes, no⟩ := w
    obtain ⟨oe, vs, he, hz, hd, S⟩ := L.suite hf
    refine wpAny_handleBy_cons (codeAny_handlers_test ?_) (by intro q; cases q)
    have ty : PySem.W.Looks (model X.prog X.w) h (typeOf (.ref a)) cls := fun A Q E s k q =>
      wpAny_typeOf_ref (k _ _ he) (by rw [hz.1]; exact q)
    have ask := PySem.W.exm_one (M := model X.prog X.w) L.here.kIn ty e
    have name : ∀ {Q : Value → Shared → Prop} {E : Value → Shared → Prop}, Q c { s with heap := h } →
        wpAny (model X.prog X.w) (X.A.mark (some (.ref a))) (eval (.Name x np) X.env) Q E { s with heap := h } := by
      intro Q E q
      obtain ⟨hg, hdb, hm | ⟨hm, hv, hn⟩⟩ := hc
      · exact ld_glob (X := X.suite a ((a, oe) :: (X.pn ++ pins))) S hg hm q hdb
      · exact ld_blt (X := X.suite a ((a, oe) :: (X.pn ++ pins))) S hg hm hv q hn hdb
    refine name (ask.here ?_)
    cases b with
    | false => exact ih L (no rfl)
    | true =>
      refine codeAny_handlers_suite_as (HandSPX.lands_againZ L.fly fun h4 f4 u4 => ?_)
      obtain ⟨oe4, vs4, _, hz4, hd4, S4⟩ := (L.later f4 u4).suite hf
      refine store_ok (X := X.suite a ((a, oe4) :: (X.pn ++ pins))) (v := .ref a) S4 hN hi (.inl hl) rfl (fun s5 S5 => ?_) (.inr hl)
      refine wpAny_mono ((su a oe4 cls d (X.pn ++ pins) hz4 ⟨_, hd4⟩).run [] s5 _ H _ S5 (yes rfl a L.none_ L.inv.len))
        (fun f s6 q => ?_) (fun _ _ z => False.elim z)
      have q' := Lands.out L.inv.ok q
      cases f with
      | ret u =>
        obtain ⟨v, σ6, H6, J, r6, z⟩ := q'
        exact gone_ok J hN hi hl fun s7 J7 => ⟨v, _, H6, J7, r6, z⟩
      | next =>
        obtain ⟨σ6, H6, J, z⟩ := q'
        exact gone_ok J hN hi hl fun s7 J7 => ⟨_, H6, J7, z⟩
      | brk =>
        obtain ⟨σ6, H6, J, z⟩ := q'
        exact gone_ok J hN hi hl fun s7 J7 => ⟨_, H6, J7, z⟩
      | cont =>
        obtain ⟨σ6, H6, J, z⟩ := q'
        exact gone_ok J hN hi hl fun s7 J7 => ⟨_, H6, J7, z⟩
/-- try: body / the clauses -/
theorem ps_try_cl {body : List Stmt} {h₀ : ExceptHandler} {pos : Pos} {tb : WX → TS} (hs : X.stack = X.env :: X.outer)
    (hf : X.env.frame = some X.env.locals) (tk : Takes X Wout) (C : Cl X Wout (h₀ :: hds) W)
    (hb : ∀ (W : WX) (pn : List (Addr × Obj)) (xe : Value → Shared → Prop), Takes (X.tr pn xe) W →
      PassesOwn (model X.prog X.w) X.A X.env xe → PSs (X.tr pn xe) body (tb W)) :
    PS X (.Try body (h₀ :: hds) [] [] pos) (fun D σ H => tb (W D) D σ H) := by
  constructor
  intro pins s σ H D I h
  have ok := I.ok
  have fr : X.A.frames = some (X.env :: X.outer) := by rw [ok.frames, hs]
  refine wpAny_Try_except ?_
  refine wpAny_mono ((hb (W D) (X.pn ++ pins) (fun e s₁ => wpAny (model X.prog X.w) X.A (noteFrame e X.env)
    (fun _ s₂ => wpAny (model X.prog X.w) X.A (setFlight e none) (fun _ s₃ =>
      wpAny (model X.prog X.w) X.A (handleBy e X.env (h₀ :: hds)) (SP X pins D) X.xe s₃) X.xe s₂) X.xe s₁) ?_
    PassesOwn.looking).run [] s σ H D (I.toTry _) h) ?_ (fun e s1 he => he)
  · rintro u s' ⟨a, B, sI, pins', σ', H', cls, d, rfl, J', nb, up, sky, na, os, ag, w⟩
    have J : Inv X pins σ' H' sI := J'.ofTry ok
    have sky' : Sky B (X.env :: X.outer) a (Zc cls d) X.env.locals s'.heap := by
      rw [← hs]
      exact sky
    show wpAny (model X.prog X.w) X.A (noteFrame (.ref a) X.env) _ _ _
    refine Sky.land Zc.steady fr hf sky' fun h3 f3 u3 => ?_
    exact handled hs hf tk C ⟨J, nb, up.trans u3, f3, na, os, ag⟩ w
  · intro f s1 q
    cases f with
    | ret u =>
      obtain ⟨v, σ', H', J, r, z⟩ := q
      exact ⟨v, σ', H', J.ofTry ok, r, z⟩
    | next =>
      obtain ⟨σ', H', J, z⟩ := q
      exact wpAny_execs_nil ⟨σ', H', J.ofTry ok, z⟩
    | brk =>
      obtain ⟨σ', H', J, z⟩ := q
      exact ⟨σ', H', J.ofTry ok, z⟩
    | cont =>
      obtain ⟨σ', H', J, z⟩ := q
      exact ⟨σ', H', J.ofTry ok, z⟩
end
end ME

set_option Elab.async false
set_option maxRecDepth 100000
set_option maxHeartbeats 2000000
set_option linter.all false
/-! calls that may raise; a lambda handed to a def, where nothing is being shown; a def in a variable -/
namespace ME
open PySem PySem.Spec PyProof.Rows L2 LamX MM

section
variable {X : Cx} {CX : CXT} {k : Nat} {ps : List Str} {sp : Sp} {E : L2.St → XK} {x a : Str} {p pos : Pos} {e : Expr} {es : List Expr} {t : TA}
/-- f(e, ..), f a def of the text that may raise -/
def tDS (sp : Sp) (E : L2.St → XK) (t : TA) : TE := fun σ H Q => t σ H fun vs H1 => sp vs H1 Q (E σ)
theorem call_gS {f : Addr} {fd : FuncData} {pins : List (Addr × Obj)} {σ : L2.St} {H : Hp} {s : Shared} {Q : VK} {us : List Value} {vs : List V}
    (F : FnG X.prog X.w X.K X.mg X.base CX k f fd ps sp) (hr : Rm k X.A) (hb : Binds X.K fd ps []) (hx : PassesAt CX X σ (E σ))
    (I : Inv X pins σ H s) (r : Vals vs us) (h : sp vs H Q (E σ)) :
    wpAny (model X.prog X.w) X.A (call (.ref f) us) (EP X pins σ Q) X.xe s := by
  have nl : (us ++ []).length = ps.length := by
    rw [List.append_nil, ← r.length]
    exact F.arity h
  have bd := hb s us I.kIn nl
  rw [List.append_nil] at bd
  refine wpAny_call (codeAny_mono (F.runs hr I.env0 bd r h) ?_)
  intro res s' hq
  cases res with
  | error e => exact hx pins H s e s' I hq
  | ok fl =>
    cases fl with
    | ret u => exact I.after hq
    | next => exact hq.elim
    | brk => exact hq.elim
    | cont => exact hq.elim
theorem pe_dS (D : Def X.prog X.w X.K X.mg X.base CX k x ps sp) (hr : Rm k X.A) (hx : ∀ σ, PassesAt CX X σ (E σ)) (ha : PA X (e :: es) t)
    (hg : Gl X x := by rfl) (hdb : (x == ("__debug__" : Str)) = false := by decide)
    (he : starEach (e :: es) X.env = (false, eval e X.env) :: starEach es X.env := by rfl)
    (hpl : (backTo pos (starEach es X.env)).any (·.1) = false := by rfl) : PE X (.Call (.Name x p) (e :: es) [] pos) (tDS sp E t) := by
  obtain ⟨f, fd, F, hm, hk, hb, _⟩ := D
  constructor
  intro pins s σ H Q I h
  refine wpAny_Call_Name_kw (ld_glob I hg hm ?_ hdb)
  refine PySem.W.callWith_K (h₀ := X.base) I.ok.mod.kin hk ?_ he hpl
  exact thn (ha.run pos pins s σ H _ I h) fun us s1 ⟨vs, H1, I1, r, q⟩ => ⟨I1.kIn, call_gS F hr hb (hx σ) I1 r q⟩
/-- a(e, ..), a a variable that holds a def of the text: G tells which, and what it promises -/
def tVia (K : PySem.W.Frag) (i : Nat) (G : Addr → Sp → Prop) (E : L2.St → XK) (t : TA) : TE := fun σ H Q =>
  ∃ f sp, σ[i]? = some (some (.ref f)) ∧ G f sp ∧ t σ H fun vs H1 => sp vs H1 Q (E σ)
theorem pe_via {i : Nat} {G : Addr → Sp → Prop}
    (hG : ∀ f sp, G f sp → PySem.W.keepIn X.K (.ref f) = true ∧ ∃ fd k ps, FnG X.prog X.w X.K X.mg X.base CX k f fd ps sp ∧ Rm k X.A ∧ Binds X.K fd ps [])
    (hx : ∀ σ, PassesAt CX X σ (E σ)) (ha : PA X (e :: es) t) (hN : X.N[i]? = some a) (hv : Vis X.env.scope a)
    (hdb : (a == ("__debug__" : Str)) = false := by decide) (hcd : (a == ("__classdict__" : Str)) = false := by decide)
    (he : starEach (e :: es) X.env = (false, eval e X.env) :: starEach es X.env := by rfl)
    (hpl : (backTo pos (starEach es X.env)).any (·.1) = false := by rfl) :
    PE X (.Call (.Name a p) (e :: es) [] pos) (tVia X.K i G E t) := by
  constructor
  intro pins s σ H Q I h
  obtain ⟨f, sp, hs, g, h⟩ := h
  obtain ⟨hk, fd, k, ps, F, hr, hb⟩ := hG f sp g
  refine wpAny_Call_Name_kw (thn ((pe_var (pos := p) (i := i) hN hv hdb hcd).run pins s σ H (fun v H1 => v = .ref f ∧ H1 = H) I ⟨.ref f, hs, rfl, rfl⟩) ?_)
  rintro u s1 ⟨v, H1, I1, r1, rfl, rfl⟩
  obtain rfl : u = Value.ref f := r1
  refine PySem.W.callWith_K (h₀ := X.base) I1.ok.mod.kin hk ?_ he hpl
  exact thn (ha.run pos pins s1 σ H1 _ I1 h) fun us s2 ⟨vs, H2, I2, r, q⟩ => ⟨I2.kIn, call_gS F hr hb (hx σ) I2 r q⟩
end

section
variable {X : Cx} {pins : List (Addr × Obj)} {σ : L2.St} {H : Hp} {s : Shared}
/-- the def that got the lambda calls it -/
theorem act {Eg : XK} {CXg : CXT} {Ng : List Str} {qg : Str} {sg : Scope} {g f c' : Addr} {cdg pm ctv : Value} {params : Arguments}
    {body : Expr} {scope : Scope} {k i : Nat} {a : Str} {pn : List (Addr × Obj)} {xe : Value → Shared → Prop} {W : WX} {E : XK} {tb : TE}
    {p1 p2 : Pos} (I : Inv X pins σ H s) (L : LamS X.env.scope scope)
    (hf : s.heap.get? f = some (PySem.W.kla_obj "<lambda>" (X.env.qual ++ "<lambda>") params body scope (cloFrom X.env.cells scope.names []) pm c' ctv))
    (hfn : H f = none) (hfr : f ∉ frs X.stack)
    (hbind : bindArgs (PySem.W.kla_fn "<lambda>" (X.env.qual ++ "<lambda>") params body scope (cloFrom X.env.cells scope.names []) pm (.ref c') ctv) ⟨[], []⟩ = pure [])
    (tk : Takes ((cxOf CXg X.prog X.w X.K X.mg X.base Ng qg sg g cdg X.A X.stack s H Eg).tr pn xe) W)
    (hW : ∀ cls d σ' H', E cls d H' → W cls d σ' H') (hr : Rm (k + 1) (X.A.deeper (envOfC qg sg s.heap.objs.size g cdg)))
    (hbody : ∀ (A : Around) (outer : List Env) (s : Shared) (H : Hp), Rm k (A.deeper (lamEnv X scope s.heap.objs.size f c')) →
      PE (lamCx X A outer s H E scope f c') body tb)
    (hN : Ng[i]? = some a) (hv : Vis sg a) (hd : (a == ("__debug__" : Str)) = false := by decide)
    (hcd : (a == ("__classdict__" : Str)) = false := by decide) :
    PE ((cxOf CXg X.prog X.w X.K X.mg X.base Ng qg sg g cdg X.A X.stack s H Eg).tr pn xe) (.Call (.Name a p1) [] [] p2)
      (fun σZ HZ Q => σZ[i]? = some (some (.ref f)) ∧ HZ c' = some (CodeO c' (X.env.qual ++ "<lambda>")) ∧ tb σ HZ Q) := by
  constructor
  intro pinsZ sZ σZ HZ Q IZ h
  obtain ⟨hs, hc, ht⟩ := h
  refine wpAny_Call_Name_kw (thn ((pe_var (pos := p1) (i := i) hN hv hd hcd).run pinsZ sZ σZ HZ (fun v H1 => v = .ref f ∧ H1 = HZ) IZ ⟨.ref f, hs, rfl, rfl⟩) ?_)
  rintro u s1 ⟨v, H1, I1, r1, rfl, eH⟩
  rw [eH] at I1
  obtain rfl : u = Value.ref f := r1
  have there := I1.base.keep f _ hf hfn hfr (fun z => nomatch (show f ∈ ([] : List Addr) from z))
  refine PySem.W.callWith_F0 ⟨_, _, _, _, there⟩ ?_
  obtain ⟨⟨oc, vs, t, hoc, hdc, hvc⟩, _, _⟩ := I1.hok c' _ hc
  have run : codeAny (model X.prog X.w) (X.A.deeper (envOfC qg sg s.heap.objs.size g cdg)) (.call (.ref f) ⟨[], []⟩)
      (CR (L2.CX X.prog X.w) (envOfC qg sg s.heap.objs.size g cdg :: X.stack) X.prog X.w HZ s1 Q E) s1 := by
    refine PySem.W.kla_callFunE hr.room.depth there rfl L.co L.gen rfl ⟨c', oc, vs, t, rfl, hoc, hdc, hvc⟩ ?_
    rw [hbind]
    refine wpAny_pure (wpAny_newFunctionEnv (fun y hy => (L.own y hy).2) (fun y hy => absurd hy (by simp)) (fun h₁ hns hsb => ⟨I1.nolimit.fresh _ hsb, ?_⟩) L.kind)
    show codeAny _ _ (.expr body (lamEnv X scope s1.heap.objs.size f c')) _ _
    have kp : ∀ b o, s1.heap.get? b = some o → h₁.get? b = some o := by
      intro b o z
      exact hsb.extBut b o (Nat.ne_of_lt (Heap.lt_size z)) (Heap.get?_push_of_some _ z)
    have J := lam_start2 (E := E) (f := f) (c' := c') (tk := s1.toks + ([] : List (Str × Value)).length) I L I1.env0 hr.room.hd I1.base hns kp
    refine PySem.W.kla_codeExpr (wpAny_mono ((hbody _ _ s1 HZ hr.down).run [] _ _ HZ Q J ht) ?_ fun e s' hq => hq)
    rintro v s' ⟨w', H', J', rv, q⟩
    exact ⟨w', H', J'.os, J'.bare, J'.base, J'.hok, rv, q⟩
  refine wpAny_call (codeAny_mono run fun r s' hq => ?_)
  cases r with
  | error e => exact passes_call tk hW pinsZ σZ HZ s1 e s' I1 hq
  | ok fl =>
    cases fl with
    | ret u => exact I1.after hq
    | next => exact hq.elim
    | brk => exact hq.elim
    | cont => exact hq.elim
/-- x(lambda: body), x a def of the text -/
theorem pe_lam {T : List (Addr × Str)} {TT : (XK → Hp → VK → Prop) → Hp → VK → Prop} {x a : Str} {c P : Addr} {k : Nat} {st : Stmt}
    {Ng : List Str} {params : Arguments} {body : Expr} {scope : Scope} {t : XK → TE} {p lpos pos : Pos} (D : At X.K X.mg x st)
    (hb : ∀ (kV doc pm : Value) (an : Option Addr) (cd ct : Value) (us : List Value), us.length = [a].length →
      bindArgs (PySem.W.fnOf x x (defArgs st) (defBody st) (defScope st) .none kV doc pm an cd ct) ⟨us, []⟩ = pure ([a].zip us))
    (Sg : FnScope Ng [a] (defScope st)) (hNg : Ng[0]? = some a) (hva : Vis (defScope st) a)
    (hG : ∀ g cd, GivesTo X Ng x (defScope st) g cd (defBody st) a (X.env.qual ++ "<lambda>") TT)
    (TB : TabB X.base X.mg c P) (hcode : X.env.code = .ref c) (hmT : (P, X.env.qual ++ "<lambda>") ∈ T)
    (hu : ∀ p ∈ T, p.1 = P → p.2 = X.env.qual ++ "<lambda>") (hr : Rm (k + 2) X.A) (L : LamS X.env.scope scope)
    (hdef : defaultsOf params X.env = ([], []))
    (hbind : ∀ (q : Str) (cl : List (Str × Addr)) (pm cv ctv : Value), bindArgs (PySem.W.kla_fn "<lambda>" q params body scope cl pm cv ctv) ⟨[], []⟩ = pure [])
    (hbody : ∀ (A : Around) (outer : List Env) (s : Shared) (H : Hp) (E : XK) (f c' : Addr), Rm k (A.deeper (lamEnv X scope s.heap.objs.size f c')) →
      PE (lamCx X A outer s H E scope f c') body (t E))
    (hg : Gl X x := by rfl) (hdb : (x == ("__debug__" : Str)) = false := by decide) (hd : (a == ("__debug__" : Str)) = false := by decide)
    (hcd : (a == ("__classdict__" : Str)) = false := by decide) :
    PE X (.Call (.Name x p) [.Lambda params body scope lpos] [] pos) (tLam T TT t) := by
  obtain ⟨fd, F⟩ := D.fn
  have bnd := F.bindsN hb
  obtain ⟨oc, od, dV, kV, doc, pm, an, cdv, ct, osl, rfl, lk, hcg, _⟩ := F.ex
  constructor
  intro pins s σ H Q I h
  obtain ⟨hT, h⟩ := h
  refine wpAny_Call_Name_kw (ld_glob I hg D.glo ?_ hdb)
  refine PySem.W.callWith_K (h₀ := X.base) I.ok.mod.kin F.kp ?_ (by rfl) (by rfl)
  show wpAny _ _ (spliced ((false, eval (.Lambda params body scope lpos) X.env) :: backTo pos (starEach [] X.env))) _ _ s
  refine Calls.spliced_cons (lam_make2 I TB hcode hmT hu hT hdef (L.has I.ok) ?_)
  intro f c' pm' ctv H1 s' I1 eN T1 hf hfn hfr hco
  refine Calls.spliced_nil ⟨I1.kIn, ?_⟩
  have run : codeAny (model X.prog X.w) X.A (.call (.ref (He.ga X.K x)) ⟨[.ref f], []⟩) (CR C8.CX0 X.stack X.prog X.w H1 s' Q C8.E0) s' := by
    refine run_ofS (N := Ng) (ps := [a]) (us := [.ref f]) (vs := [.ref f]) lk hcg Sg (hr.le (Nat.le_refl _)).room I1.env0 (bnd s' [.ref f] I1.kIn rfl) (.cons rfl .nil) rfl fun _ => ?_
    obtain ⟨t', ht', hq'⟩ := hG _ _ f c' s' H1 Q (fun E H' Q' => t E σ H' Q')
      (fun W pn xe E p1 p2 tk hW => act (i := 0) I1 L hf hfn hfr (hbind _ _ _ _ _) tk hW hr.down (fun A outer s H hr2 => hbody A outer s H E f c' hr2) hNg hva hd hcd)
      hco (h H1 eN T1)
    exact ⟨t', ht'.nox, hq'⟩
  refine wpAny_call (codeAny_mono run fun r s2 hq => ?_)
  cases r with
  | error e => exact (show False from hq).elim
  | ok fl =>
    cases fl with
    | ret u => exact I1.after hq
    | next => exact hq.elim
    | brk => exact hq.elim
    | cont => exact hq.elim
end
end ME

set_option Elab.async false
set_option maxRecDepth 100000
set_option maxHeartbeats 2000000
set_option linter.all false
/-! the law's end where its text makes lambdas: the tables of their code objects are written -/
namespace ME
open PySem PySem.Spec PyProof.Rows L2 LamX MM

/-- the heap as it is told: the script, and empty tables -/
structure Told (cs : List (Addr × Addr)) (a : Addr) (ns : List Int) (K : PySem.W.Frag) (H : Hp) : Prop where
  tabs : ∀ p ∈ cs, H p.2 = some (.tbl #[])
  seq : SqL K H a (ns.map V.int)
  each : ∀ b, H b = none ∨ b ∈ cs.map (·.2) ∨ (b = a ∧ ∃ o xs, H b = some (.frz o (.lst xs)))
  out : H a ≠ none → K.lookup a = none
section
variable {P : Program} {w : World} {K : PySem.W.Frag} {mg mb : Str → Option Value} {CX : CXT} {k : Nat} {fa a : Addr}
  {fd : FuncData} {x : Str} {sp : Sp} {s : Shared} {vs : List Value} {ns : List Int} {cs : List (Addr × Addr)}
theorem tab_core {H : Hp} (KX : K.In s.heap) (hns : s.heap.Ns mainGlobals mg) (hb : s.heap.Ns builtinsNs mb)
    (hbb : ∀ y : Str, y ≠ "__name__" → mb y = bootBuiltins y) (nl : s.heap.NoLimit) (hg : s.gens = #[])
    (hT : ∀ p ∈ cs, s.heap.get? p.2 = some { cls := .none, data := .fields #[] }) (nT : ∀ p ∈ cs, K.lookup p.2 = none)
    (C : ∀ p ∈ cs, PySem.W.CodeHd s.heap p.1 p.2)
    (hbm : ∃ (bm : Addr) (ob : Obj), mg "__builtins__" = some (.ref bm) ∧ bm ≠ builtinsNs ∧ s.heap.get? bm = some ob ∧
      ob.cls = .type "module" ∧ ob.dict = some builtinsNs ∧ ob.data = .plain)
    (ha : s.heap.get? a = some { cls := .type "list", data := .seq vs.toArray }) (hr : Rm k callerA)
    (F : ∀ base : Heap, K.In base → base.Ns mainGlobals mg → (∀ p ∈ cs, TabB base mg p.1 p.2) → FnG P w K mg base CX k fa fd [x] sp)
    (hbind : ∀ (s : Shared) (u : Value), BindsTo s fd ⟨[u], []⟩ [(x, u)])
    (hsp : sp [.ref a] H (fun v _ => v = .bl true) fun _ _ _ => False)
    (hCX : ∀ e s', CX [] H s (fun _ _ _ => False) e s' → False) (T : Told cs a ns K H) (ok : HOk P w H s.heap) :
    codeAny (model P w) callerA (.call (.ref fa) ⟨[.ref a], []⟩) (LawEnd s) s := by
  have isTab : ∀ b, b ∈ cs.map (·.2) → ∃ p ∈ cs, b = p.2 := by
    intro b hb
    obtain ⟨p, hp, rfl⟩ := List.mem_map.mp hb
    exact ⟨p, hp, rfl⟩
  -- what is neither a list nor an empty record is not told
  have free : ∀ {b : Addr} {o : Obj}, s.heap.get? b = some o → (∀ y n, o.data ≠ .seq y n) → o.data ≠ .fields #[] → H b = none := by
    intro b o e n1 n2
    rcases T.each b with z | z | ⟨rfl, _⟩
    · exact z
    · obtain ⟨p, hp, rfl⟩ := isTab b z
      rw [hT p hp] at e
      cases e
      exact absurd rfl n2
    · rw [ha] at e
      cases e
      exact absurd rfl (n1 _ _)
  have dict : ∀ {b : Addr} {o : Obj} {es : Array DictEntry} {ep : Nat}, s.heap.get? b = some o → o.data = .dict es ep → H b = none := by
    intro b o es ep e d
    refine free e ?_ ?_
    · intro y n z
      rw [d] at z
      cases z
    · intro z
      rw [d] at z
      cases z
  have sees : ∀ {b : Addr} {m : Str → Option Value}, s.heap.Ns b m → (hidT s.heap H).Ns b m := by
    rintro b m ⟨o, es, ep, e, d, r⟩
    exact ⟨o, es, ep, hidT_get e (dict e d), d, r⟩
  have inB : K.In (hidT s.heap H) := by
    intro b o e
    refine hidT_get (KX b o e) ?_
    rcases T.each b with z | z | ⟨rfl, o', xs, z⟩
    · exact z
    · obtain ⟨p, hp, rfl⟩ := isTab b z
      rw [nT p hp] at e
      cases e
    · rw [T.out (by rw [z]; exact Option.some_ne_none _)] at e
      cases e
  have md : Mod K mg (hidT s.heap H) := by
    obtain ⟨mc, l1, l2⟩ := nl
    exact ⟨inB, sees hns, ⟨mb, sees hb, hbb⟩, ⟨mc, sees l1, l2⟩⟩
  have glob : ∀ {b : Addr} {o : Obj}, s.heap.get? b = some o → (∀ es ep, o.data ≠ .dict es ep) → b ≠ mainGlobals := by
    rintro b o e no rfl
    obtain ⟨o', es, ep, e', d, _⟩ := hns
    rw [e] at e'
    cases e'
    exact no _ _ d
  have TB : ∀ p ∈ cs, TabB (hidT s.heap H) mg p.1 p.2 := by
    intro p hp
    constructor
    · obtain ⟨o, us, file, tf, flags, tg, inF, text, tt, e1, r1, r2, r3, rest⟩ := C p hp
      refine ⟨o, us, file, tf, flags, tg, inF, text, tt, hidT_get e1 (free e1 ?_ ?_), r1, r2, r3, rest⟩
      · intro y n z
        rw [r2] at z
        cases z
      · intro z
        rw [r2] at z
        cases z
        simp at r3
    · obtain ⟨bm, ob, b1, b2, b3, b4, b5, b6⟩ := hbm
      have n1 : bm ≠ mainGlobals := by
        refine glob b3 ?_
        intro es ep z
        rw [b6] at z
        cases z
      have n2 : bm ≠ p.2 := by
        rintro rfl
        rw [hT p hp] at b3
        cases b3
        cases b6
      refine ⟨bm, ob, b1, b2, n1, n2, hidT_get b3 (free b3 ?_ ?_), b4, b5, b6⟩
      · intro y n z
        rw [b6] at z
        cases z
      · intro z
        rw [b6] at z
        cases z
    · have := glob (hT p hp) (by intro es ep z; cases z)
      exact fun z => this z.symm
  have e0 : Env0 P w K mg (hidT s.heap H) callerA [] s H := by
    refine ⟨rfl, md, fun b o e => of_hidT e, Nat.le_of_eq (hidT_size _ _), trivial, ?_, ok, .of_eq hg⟩
    intro b z
    cases z
  have vv : Vals [V.ref a] [Value.ref a] := .cons rfl .nil
  refine codeAny_mono ((F _ inB (sees hns) TB).runs (us := [.ref a]) hr e0 (hbind s (.ref a)) vv hsp) ?_
  intro r t h
  cases r with
  | error e => exact (hCX e t h).elim
  | ok fl =>
    cases fl with
    | next => exact h.elim
    | brk => exact h.elim
    | cont => exact h.elim
    | ret u =>
      obtain ⟨v, H', os, bare, un, ok', rv, q⟩ := h
      have q2 : v = .bl true := q
      subst q2
      have eu : u = Value.bool true := rv
      subst eu
      have grown : ∀ p ∈ cs, ∃ more : Array Value, t.heap.get? p.2 = some { cls := .none, data := .fields more } := by
        intro p hp
        obtain ⟨more, z⟩ := un.tbls p.2 #[] (T.tabs p hp)
        exact ⟨_, ok' p.2 _ z⟩
      have kept : ∀ b o, b ∉ cs.map (·.2) → s.heap.get? b = some o → t.heap.get? b = some o := by
        intro b o nb e
        rcases T.each b with z | z | ⟨rfl, o', xs, z⟩
        · exact un.keep b o e z (by intro z; cases z) (by intro z; cases z)
        · exact absurd z nb
        · have e1 := (ok b _ z).1
          have e2 := (ok' b _ (un.frzs b o' _ z)).1
          rw [e] at e1
          cases e1
          exact e2
      refine ⟨rfl, ⟨?_, ?_⟩, os, bare⟩
      · intro b o e
        by_cases hb : b ∈ cs.map (·.2)
        · obtain ⟨p, hp, rfl⟩ := isTab b hb
          obtain ⟨more, hm⟩ := grown p hp
          rw [hT p hp] at e
          cases e
          exact .inr (.inl ⟨((C p hp).tab (hT p hp)).isCodeTable, rfl, #[], more, rfl, by rw [Array.empty_append]; exact hm⟩)
        · exact .inl (kept b o hb e)
      · intro b o e
        by_cases hb : b ∈ cs.map (·.2)
        · obtain ⟨p, hp, rfl⟩ := isTab b hb
          obtain ⟨more, hm⟩ := grown p hp
          exact ⟨_, hm⟩
        · exact ⟨o, kept b o hb e⟩
theorem law_tab (KX : K.In s.heap) (hns : s.heap.Ns mainGlobals mg) (hb : s.heap.Ns builtinsNs mb)
    (hbb : ∀ y : Str, y ≠ "__name__" → mb y = bootBuiltins y) (nl : s.heap.NoLimit) (hg : s.gens = #[])
    (hT : ∀ p ∈ cs, s.heap.get? p.2 = some { cls := .none, data := .fields #[] }) (nT : ∀ p ∈ cs, K.lookup p.2 = none)
    (C : ∀ p ∈ cs, PySem.W.CodeHd s.heap p.1 p.2)
    (hbm : ∃ (bm : Addr) (ob : Obj), mg "__builtins__" = some (.ref bm) ∧ bm ≠ builtinsNs ∧ s.heap.get? bm = some ob ∧
      ob.cls = .type "module" ∧ ob.dict = some builtinsNs ∧ ob.data = .plain)
    (ha : s.heap.get? a = some { cls := .type "list", data := .seq vs.toArray }) (hi : IntsAre vs ns) (hl : ns.length ≤ sizeLine)
    (hr : Rm k callerA)
    (F : ∀ base : Heap, K.In base → base.Ns mainGlobals mg → (∀ p ∈ cs, TabB base mg p.1 p.2) → FnG P w K mg base CX k fa fd [x] sp)
    (hbind : ∀ (s : Shared) (u : Value), BindsTo s fd ⟨[u], []⟩ [(x, u)])
    (hsp : ∀ H : Hp, (∀ p ∈ cs, H p.2 = some (.tbl #[])) → SqL K H a (ns.map V.int) → sp [.ref a] H (fun v _ => v = .bl true) fun _ _ _ => False)
    (hCX : ∀ H e s', CX [] H s (fun _ _ _ => False) e s' → False) :
    codeAny (model P w) callerA (.call (.ref fa) ⟨[.ref a], []⟩) (LawEnd s) s := by
  have rv := vals_ints hi
  have nv := hi.length
  have apart : a ∉ cs.map (·.2) := by
    intro z
    obtain ⟨p, hp, e⟩ := List.mem_map.mp z
    have h1 := hT p hp
    rw [e, ha] at h1
    cases h1
  have mem : ∀ p ∈ cs, p.2 ∈ cs.map (·.2) := fun p hp => List.mem_map.mpr ⟨p, hp, rfl⟩
  have tabOk : ∀ b, b ∈ cs.map (·.2) → s.heap.get? b = some { cls := .none, data := .fields #[] } := by
    intro b hb
    obtain ⟨p, hp, rfl⟩ := List.mem_map.mp hb
    exact hT p hp
  have go : ∀ H, Told cs a ns K H → HOk P w H s.heap → codeAny (model P w) callerA (.call (.ref fa) ⟨[.ref a], []⟩) (LawEnd s) s :=
    fun H T ok => tab_core KX hns hb hbb nl hg hT nT C hbm ha hr F hbind (hsp H T.tabs T.seq) (hCX H) T ok
  cases fr : K.lookup a with
  | some o =>
    have e := KX a o fr
    rw [ha] at e
    cases e
    refine go (fun b => if b ∈ cs.map (·.2) then some (.tbl #[]) else none) ⟨fun p hp => if_pos (mem p hp), ?_, ?_, ?_⟩ ?_
    · refine .inr ⟨_, vs.toArray, _, fr, rfl, rfl, rfl, ?_, by simpa using rv⟩
      rw [List.size_toArray, nv]
      exact hl
    · intro b
      by_cases hb : b ∈ cs.map (·.2)
      · exact .inr (.inl hb)
      · exact .inl (if_neg hb)
    · intro z
      exact absurd (if_neg apart) z
    · intro b u z
      by_cases hb : b ∈ cs.map (·.2)
      · have z1 := (if_pos hb).symm.trans z
        cases z1
        exact tabOk b hb
      · have z1 := (if_neg hb).symm.trans z
        cases z1
  | none =>
    refine go (fun b => if b = a then some (.frz { cls := .type "list", data := .seq vs.toArray } (.lst (ns.map V.int)))
      else if b ∈ cs.map (·.2) then some (.tbl #[]) else none) ⟨?_, ?_, ?_, ?_⟩ ?_
    · intro p hp
      have ne : ¬ p.2 = a := fun z => apart (z ▸ mem p hp)
      exact (if_neg ne).trans (if_pos (mem p hp))
    · exact .inl (.inr ⟨_, if_pos rfl⟩)
    · intro b
      by_cases e : b = a
      · exact .inr (.inr ⟨e, _, _, if_pos e⟩)
      · by_cases hb : b ∈ cs.map (·.2)
        · exact .inr (.inl hb)
        · exact .inl ((if_neg e).trans (if_neg hb))
    · exact fun _ => fr
    · intro b u z
      by_cases e : b = a
      · have z1 := (if_pos e).symm.trans z
        cases z1
        subst e
        refine ⟨ha, ?_, vs, _, rv, ha⟩
        rw [List.length_map]
        exact hl
      · have z1 := (if_neg e).symm.trans z
        by_cases hb : b ∈ cs.map (·.2)
        · have z2 := (if_pos hb).symm.trans z1
          cases z2
          exact tabOk b hb
        · have z2 := (if_neg hb).symm.trans z1
          cases z2
end
/-- the head's end, with tables -/
theorem walk_tab {l : PySem.W.OpenLaw} {n k : Nat} {q : Program} {loose : List Str} {XP : (Str → Option Value) → Heap → Prop}
    {YP : World → Heap → Prop} {d : DefRec} {CX : World → CXT} {x : Str}
    (hn : l.most = some n) (hn2 : n ≤ sizeLine) (hdf : d.params.defaults = []) (hr : Rm k callerA)
    (F : ∀ (w : World) (mg : Str → Option Value) (fa : Addr) (h : Heap), YP w h → h.Ns mainGlobals mg → mg d.name = some (.ref fa) →
      ∃ (K : PySem.W.Frag) (fd : FuncData) (sp : Sp) (cs : List (Addr × Addr)), K.In h ∧
        (∀ p ∈ cs, h.get? p.2 = some { cls := .none, data := .fields #[] }) ∧ (∀ p ∈ cs, K.lookup p.2 = none) ∧
        (∀ p ∈ cs, PySem.W.CodeHd h p.1 p.2) ∧ (∀ (s : Shared) (u : Value), BindsTo s fd ⟨[u], []⟩ [(x, u)]) ∧
        (∀ (H : Hp) (a : Addr) (ns : List Int), ns.length ≤ n → (∀ p ∈ cs, H p.2 = some (.tbl #[])) → SqL K H a (ns.map V.int) →
          sp [.ref a] H (fun v _ => v = .bl true) fun _ _ _ => False) ∧
        ∀ base : Heap, K.In base → base.Ns mainGlobals mg → (∀ p ∈ cs, TabB base mg p.1 p.2) → FnG l.prog w K mg base (CX w) k fa fd [x] sp)
    (hCX : ∀ (w : World) (H : Hp) (s : Shared) (e : Value) (s' : Shared), CX w [] H s (fun _ _ _ => False) e s' → False) :
    PySem.W.WalkO q loose XP YP l.row.toRowW d [] (fun f vs => PySem.call f vs) := by
  refine Att.attach_callB hn hdf ?_
  intro w s0 s1 mg mb fa o pm cd doc a vs ns G Y ho hd hcd hmg hobj hints hlen hbits hg
  obtain ⟨K, fd, sp, cs, KX, hT, nT, C, hb, hsp, hF⟩ := F w mg fa _ Y G.T.g hmg
  exact law_tab KX G.T.g G.T.b G.T.builtins G.T.nolimit hg hT nT C G.T.bmain hobj hints (Nat.le_trans hlen hn2) hr hF hb
    (fun H t hS => hsp H a ns hlen t hS) (fun H e s' => hCX w H s1 e s')
end ME

set_option Elab.async false
set_option linter.all false
set_option maxRecDepth 100000
set_option maxHeartbeats 2000000
/-! zip of a tuple and a list -/
namespace MM
open PySem PySem.Spec PyProof.Rows L2
/-- a tuple at a beside a list at b -/
def ItzM (K : PySem.W.Frag) (a b : Addr) : It where
  go i H := ∃ (us ws : List V) (p q : V), SqT K H a us ∧ SqL K H b ws ∧ us[i]? = some p ∧ ws[i]? = some q
  yld i H v H' := ∃ T p q, v = .ref T ∧ H T = none ∧ H' = upd H T (.tup [p, q]) ∧ (∀ us, SqT K H a us → us[i]? = some p) ∧ ∀ ws, SqL K H b ws → ws[i]? = some q
  stop i H := ∃ us ws : List V, SqT K H a us ∧ SqL K H b ws ∧ i ≤ us.length ∧ i ≤ ws.length ∧ (i = us.length ∨ i = ws.length)
abbrev tnM (a b z TI TO i1 i2 : Addr) (i : Nat) (h : Heap) : Prop :=
  IsZip h z TI TO .none ∧ IsTupOf2 h TI (.ref i1) (.ref i2) ∧ (∃ p q, IsTupOf2 h TO p q) ∧ h.IsTupleIter i1 a i ∧ h.IsListIter i2 b i
theorem sepM {a b z TI TO i1 i2 : Addr} (D : ZipApart z TI TO i1 i2 a b) : ZipSep2 z TI TO i1 i2 [i1, a] [i2, b] := by
  obtain ⟨h1, h2, h3, h4, h5, h6, h7, h8, h9, h10, h11, h12, h13, h14, h15, h16, h17, h18⟩ := D
  constructor <;> simp only [List.mem_cons, List.not_mem_nil, or_false, true_or, not_or, ne_eq]
  · exact h1
  · exact h2
  · exact h5
  · exact h6
  · exact ⟨Ne.symm h3, Ne.symm h11⟩
  · exact ⟨h8, Ne.symm h12⟩
  · exact h7
  · exact ⟨Ne.symm h4, Ne.symm h15⟩
  · exact ⟨h9, Ne.symm h16⟩
  · exact ⟨h10, Ne.symm h17⟩
  · exact ⟨Ne.symm h10, Ne.symm h14⟩
theorem turn_zipM {P : Program} {w : World} {K : PySem.W.Frag} {tgs : List Expr} {n : Nat} {ps : Pos} {a b z TI TO i1 i2 : Addr} (D : ZipApart z TI TO i1 i2 a b) :
    Turn P w K (.Tuple tgs n ps) (ItzM K a b) [z, TI, TO, i1, i2] z (tnM a b z TI TO i1 i2) where
  mem := List.mem_cons_self
  obj := by
    rintro i h ⟨e1, e2, ⟨p, q, e3⟩, ⟨o1, e4, _, d1⟩, ⟨o2, e5, _, d2⟩⟩ c hc
    simp only [List.mem_cons, List.not_mem_nil, or_false] at hc
    rcases hc with rfl | rfl | rfl | rfl | rfl
    · exact ⟨_, e1, nofun⟩
    · exact ⟨_, e2, nofun⟩
    · exact ⟨_, e3, nofun⟩
    · exact ⟨o1, e4, fun v e => by rw [d1] at e; cases e⟩
    · exact ⟨o2, e5, fun v e => by rw [d2] at e; cases e⟩
  keep := by
    rintro i h h' ⟨e1, e2, ⟨p, q, e3⟩, e4, e5⟩ k
    exact ⟨k _ (by simp) _ e1, k _ (by simp) _ e2, ⟨p, q, k _ (by simp) _ e3⟩, e4.at (k _ (by simp)), e5.at (k _ (by simp))⟩
  item := by
    rintro X rfl rfl rfl calm i pins s σ H E I fp ⟨ez, eTI, ⟨p0, q0, eTO⟩, e1, e2⟩ ⟨us, ws, p, q, S1, S2, hp, hq⟩
    obtain ⟨as_, r1, c1, _⟩ := I.tuple S1
    obtain ⟨bs, r2, c2, _⟩ := I.list S2
    obtain ⟨u1, hu1, ru1⟩ := r1.get hp
    obtain ⟨u2, hu2, ru2⟩ := r2.get hq
    have zlt : z < s.heap.objs.size := Heap.lt_size ez
    have hd := I.ok.hd calm
    have l1 : i < as_.toArray.size := by
      rw [List.size_toArray]
      exact (List.getElem?_eq_some_iff.mp hu1).1
    have l2 : i < bs.toArray.size := by
      rw [List.size_toArray]
      exact (List.getElem?_eq_some_iff.mp hu2).1
    refine wpAny_pyNext_zipD2_item (sepM D) (Draws.tuple (A := X.A.in1) hd i1 a D.l1i1 as_.toArray) (Draws.list (A := X.A.in1) hd i2 b D.l2i2 bs.toArray) ez eTI eTO ⟨e1, c1⟩ ⟨e2, c2.isList⟩ l1 l2
      fun x1 x2 h' tk y1 y2 f1 f2 f3 f4 f5 f6 kp => ?_
    have y1' : some u1 = some x1 := by
      rw [← hu1, ← y1]
      simp
    have y2' : some u2 = some x2 := by
      rw [← hu2, ← y2]
      simp
    cases y1'
    cases y2'
    refine ⟨_, rfl, wpAny_letOwnedTupleGo_zip (s := { s with heap := h', toks := tk }) f1 fun h2 g1 sb => ?_⟩
    have zn : s.heap.objs.size ≠ z := Nat.ne_of_gt zlt
    have T2 : h2.get? s.heap.objs.size = some { cls := .type "tuple", data := .seq #[u1, u2] } := (sb.2 _ zn).trans f5
    have new : ObjOk X.prog X.w (upd H s.heap.objs.size (.tup [p, q])) h2 s.heap.objs.size (.tup [p, q]) :=
      ⟨by show 2 ≤ sizeLine; decide, [u1, u2], .cons ru1 (.cons ru2 .nil), ⟨_, T2, rfl, _, rfl⟩⟩
    have I2 : Inv X pins σ (upd H s.heap.objs.size (.tup [p, q])) { s with heap := h2, toks := tk } := by
      refine I.turnedNew (t' := tk) (ch := [z, TI, TO, i1, i2]) (fun c o nc e => ?_) fp (Nat.le_refl _) new
      simp only [List.mem_cons, List.not_mem_nil, or_false, not_or] at nc
      exact (sb.2 c nc.1).trans (kp c o nc.1 nc.2.2.1 nc.2.2.2.1 nc.2.2.2.2 e)
    refine ⟨.ref s.heap.objs.size, _, I2, rfl, ⟨_, p, q, rfl, I.hok.fresh (Nat.le_refl _), rfl, ?_, ?_⟩, ⟨g1, (sb.2 _ D.TIz).trans (kp _ _ D.TIz D.TITO D.TIi1 D.TIi2 eTI), ⟨u1, u2, (sb.2 _ D.TOz).trans f2⟩, f3.1.at fun o e => (sb.2 _ D.i1z).trans e, f4.1.at fun o e => (sb.2 _ D.i2z).trans e⟩, fun c hc => ?_⟩
    · intro l hl
      rw [I.tuple_inj hl S1]
      exact hp
    · intro l hl
      rw [I.list_inj hl S2]
      exact hq
    · have lt : c < s.heap.objs.size := by
        obtain ⟨_, q1, _⟩ := e1
        obtain ⟨_, q2, _⟩ := e2
        have hc2 := hc
        simp only [List.mem_cons, List.not_mem_nil, or_false] at hc2
        rcases hc2 with rfl | rfl | rfl | rfl | rfl
        · exact zlt
        · exact Heap.lt_size eTI
        · exact Heap.lt_size eTO
        · exact Heap.lt_size q1
        · exact Heap.lt_size q2
      rw [upd_ne (Nat.ne_of_lt lt)]
      exact (fp c hc).1
  done := by
    rintro X rfl rfl rfl calm i pins s σ H E I fp ⟨ez, eTI, ⟨p0, q0, eTO⟩, e1, e2⟩ ⟨us, ws, S1, S2, m1, m2, le⟩
    obtain ⟨as_, r1, c1, _⟩ := I.tuple S1
    obtain ⟨bs, r2, c2, _⟩ := I.list S2
    have hd := I.ok.hd calm
    have n1 := r1.length
    have n2 := r2.length
    refine wpAny_pyNext_zipD2_end (sepM D) (Draws.tuple (A := X.A.in1) hd i1 a D.l1i1 as_.toArray) (Draws.list (A := X.A.in1) hd i2 b D.l2i2 bs.toArray) ez eTI eTO ⟨e1, c1⟩ ⟨e2, c2.isList⟩
      (by rw [List.size_toArray]; omega) (by rw [List.size_toArray]; omega) (by rw [List.size_toArray, List.size_toArray]; omega) fun h' tk kp => ⟨rfl, I.turnedL (t' := tk) (ch := [z, TI, TO, i1, i2]) (fun c o nc e => ?_) fp⟩
    simp only [List.mem_cons, List.not_mem_nil, or_false, not_or] at nc
    exact kp c o nc.1 nc.2.2.1 nc.2.2.2.1 nc.2.2.2.2 e
  self := fun A i s Q E st h => wpAny_pyIter_zip st.1 h
def iZipM (K : PySem.W.Frag) (ta : TA) : TI := fun σ H R => ta σ H fun vs H1 => ∃ a b us ws, vs = [.ref a, .ref b] ∧ SqT K H1 a us ∧ SqL K H1 b ws ∧ R (ItzM K a b) H1
theorem pi_zipM {X : Cx} {e e2 : Expr} {ta : TA} {p pos ps : Pos} {tgs : List Expr} {n : Nat} (hg : Gl X "zip") (hm : X.mg "zip" = none) (ha : PA X [e, e2] ta)
    (hs : starEach [e, e2] X.env = (false, eval e X.env) :: starEach [e2] X.env := by rfl) (hpl : (backTo pos (starEach [e2] X.env)).any (·.1) = false := by rfl) :
    PI X (.Tuple tgs n ps) (.Call (.Name "zip" p) [e, e2] [] pos) (iZipM X.K ta) := by
  refine ⟨fun pins s σ H R I h => Call_ (ld_blt I hg hm PyProof.Rows.boot_zip (PyProof.Rows.callWith_type1 (thn (ha.run pos pins s σ H _ I h) fun vals s1 hx => ?_) hs hpl))⟩
  obtain ⟨vs, H1, I1, rs, a, b, us, ws, rfl, S1, S2, q⟩ := hx
  cases rs with
  | cons h1 rs1 =>
  cases rs1 with
  | cons h2 t =>
    cases t
    cases h1
    cases h2
    obtain ⟨as_, r1, c1, _⟩ := I1.tuple S1
    obtain ⟨bs, r2, c2, _⟩ := I1.list S2
    have nw : ∀ k : Nat, FpOk X pins H1 (s1.heap.objs.size + k) := fun k => I1.fpOk (Nat.le_add_right _ _) (I1.hok.fresh (Nat.le_add_right _ _))
    refine zip_begins2 (begins_tuple a as_.toArray) (begins_list b bs.toArray) c1 c2.isList fun h' g1 g2 g3 g4 g5 _ kp => wpAny_pyIter_zip g1 ?_
    have I2 : Inv X pins σ H1 { s1 with heap := h' } := I1.kept (t' := s1.toks) kp
    have la : a < s1.heap.objs.size := by
      obtain ⟨_, z, _⟩ := id c1
      exact Heap.lt_size z
    refine ⟨s1.heap.objs.size + 4, [s1.heap.objs.size + 4, s1.heap.objs.size + 2, s1.heap.objs.size + 3, s1.heap.objs.size, s1.heap.objs.size + 1], _, _, H1, rfl, I2, turn_zipM (PySem.W.ktu_apart s1.heap.objs.size a b la c2.lt), ⟨g1, g2, ⟨_, _, g3⟩, ⟨_, g4, rfl, rfl⟩, ⟨_, g5, rfl, rfl⟩⟩, fun c hc => ?_, q⟩
    simp only [List.mem_cons, List.not_mem_nil, or_false] at hc
    rcases hc with rfl | rfl | rfl | rfl | rfl
    · exact nw 4
    · exact nw 2
    · exact nw 3
    · exact nw 0
    · exact nw 1
section
variable {K : PySem.W.Frag} {a b : Addr} {us ws : List V}
theorem walk_zipM {n : Nat} (hn : n = min us.length ws.length) : Walk (ItzM K a b) n (fun H => SqT K H a us ∧ SqL K H b ws) (YPair (fun i => us[i]?) (fun i => ws[i]?)) := by
  refine ⟨fun i H lt q => ?_, fun H q => ?_, fun i H x H' lt q y => ?_⟩
  · exact ⟨us, ws, us[i]'(by omega), ws[i]'(by omega), q.1, q.2, List.getElem?_eq_getElem _, List.getElem?_eq_getElem _⟩
  · exact ⟨us, ws, q.1, q.2, by omega, by omega, by omega⟩
  · obtain ⟨T, p, r, rfl, fr, rfl, f1, f2⟩ := y
    exact ⟨T, p, r, rfl, fr, rfl, f1 us q.1, f2 ws q.2⟩
variable {v : Nat} {g : TG} {tt : TT} {te : TE} {vs : List Nat} {σ : L2.St} {H1 : Hp} {D : Addr} {Qd : Hp → Prop} {n : Nat}
theorem lc_zipM (hn : n = min us.length ws.length) (Pv : Nat → Hp → Prop) (h0 : Pv 0 (upd H1 D (.lst []))) (hq : ∀ i H, i ≤ n → Pv i H → SqT K H a us ∧ SqL K H b ws)
    (hs : ∀ i x y H T, us[i]? = some x → ws[i]? = some y → Pv i H → H T = none → LcT g tt te vs σ D (Pv (i + 1)) (.ref T) (upd H T (.tup [x, y])))
    (hd : ∀ H, Pv n H → Qd H) : LcW (ItzM K a b) g tt te vs σ H1 D Qd := by
  refine lc_it (walk_zipM hn) Pv h0 hq (fun i x H H' lt p y => ?_) hd
  obtain ⟨T, p1, q1, rfl, fr, rfl, e1, e2⟩ := y
  exact hs i p1 q1 H T e1 e2 p fr
end
end MM

set_option Elab.async false
set_option linter.all false
set_option maxRecDepth 100000
set_option maxHeartbeats 2000000
/-! repr of data, and of the dict without keys -/
namespace MM
open PySem PySem.Spec PyProof.Rows L2
/-- data, or a dict without keys -/
def Dq (K : PySem.W.Frag) (H : Hp) (v : V) (d : PyData) : Prop := (Dp K H v d ∧ SeqAt.shaped d = true) ∨ ∃ a, v = .ref a ∧ H a = some (.dK []) ∧ d = .dict []
def rReprO (K : PySem.W.Frag) : List V → Hp → VK → Prop := fun xs H Q =>
  ∃ x d, xs = [x] ∧ Dq K H x d ∧ d.showable = true ∧ d.shown.length ≤ sizeLine ∧ Q (.str d.shown) H
theorem cr_reprO {X : Cx} (hg : X.A.guards = some []) (hu : X.A.units + 66 < cLine) : CallR X (.builtin "repr") (rReprO X.K) := by
  intro pins s σ H xs us Q I r h
  obtain ⟨x, d, rfl, ⟨hd, hs⟩ | ⟨a, rfl, ha, rfl⟩, hw, hz, q⟩ := h
  · exact cr_repr hg hu pins s σ H _ us Q I r ⟨x, d, rfl, hd, hs, hw, hz, q⟩
  · obtain ⟨u, rfl, ru⟩ := vals1 r
    cases ru
    obtain ⟨_, lo, vs, kv, o, es, n, e1, e2, e3, _, e5, _⟩ := dk_of I.hok ha
    cases kv
    have em : es.toList = [] := List.eq_nil_of_length_eq_zero e5.length
    have rd : Reads s.heap (.ref a) (.dict []) (a :: [] ++ []) := by
      refine Reads.dict e1 e2.1 e3 ?_ ?_
      · rw [em]
        exact .nil
      · rw [em]
        exact .nil
    have ns : sysModules ∉ (a :: [] ++ [] : List Addr) := by
      intro z
      rw [show (a :: [] ++ [] : List Addr) = [a] from rfl, List.mem_singleton] at z
      rw [z, beq_self_eq_true] at lo
      cases lo
    exact repr_of_reads' rd hw (fun _ => ns) hg (Nat.lt_of_le_of_lt (Nat.add_le_add_left (by decide) _) hu) (fun _ _ e => e) (fun h' z tk hk => ⟨.str _, H, I.kept hk, ⟨_, rfl⟩, q⟩) hz
end MM
namespace MM
open PySem PySem.Spec PyProof.Rows L2
/-- a short tuple, many times -/
def rRepW (K : PySem.W.Frag) : R2 := fun x y H Q => ∃ l k xs, x = .ref l ∧ y = .int k ∧ SqT K H l xs ∧ xs ≠ [] ∧ 2 ≤ k ∧ k ≤ 10000 ∧ xs.length ≤ 100 ∧ ∀ p, H p = none → Q (.ref p) (upd H p (.tup (List.replicate k.toNat xs).flatten))
theorem op_repW {X : Cx} : OpR X (binaryOp .Mult) (rRepW X.K) := by
  rintro pins s σ H _ _ v u Q I rx ry ⟨l, k, xs, rfl, rfl, hT, some_, k2, kb, lb, q⟩
  cases rx
  obtain ⟨tok, rfl⟩ := ry
  obtain ⟨vals, r, ⟨⟨cls, dd, data, sl⟩, ho, hc, n, hd⟩, _⟩ := I.tuple hT
  dsimp only at hc hd
  cases hc
  cases hd
  have len : vals.length = xs.length := r.length.symm
  have pos : 0 < vals.length := by
    rw [len]
    exact List.length_pos_iff.mpr some_
  have ie : vals.toArray.isEmpty = false := by
    cases vals with
    | nil => cases pos
    | cons a b => rfl
  have sz : vals.toArray.size = xs.length := by rw [List.size_toArray, len]
  have prod : ((vals.toArray.size : Nat) : Int) * k ≤ 1000000 := by
    rw [sz]
    have : ((xs.length : Nat) : Int) * k ≤ 100 * k := Int.mul_le_mul_of_nonneg_right (by omega) (by omega)
    omega
  have fl : (List.replicate k.toNat vals).flatten.length ≤ sizeLine := by
    rw [PyProof.Rows.lm_len_rep_flat, len, sizeLine_eq]
    have : k.toNat * xs.length ≤ 10000 * 100 := Nat.mul_le_mul (by omega) lb
    omega
  have g0 : (decide (k < -(2 ^ 63)) || decide (k ≥ 2 ^ 63)) = false := by
    rw [Bool.or_eq_false_iff]
    exact ⟨decide_eq_false (by omega), decide_eq_false (by omega)⟩
  have g1 : (vals.toArray.isEmpty || k == 1) = false := by
    rw [Bool.or_eq_false_iff]
    exact ⟨ie, beq_eq_false_iff_ne.mpr (by omega)⟩
  have g2 : (decide (k ≤ 0) || vals.toArray.isEmpty) = false := by
    rw [Bool.or_eq_false_iff]
    exact ⟨decide_eq_false (by omega), ie⟩
  have g3 : Builtin.Tuple.tupleTooMany (((vals.toArray.size : Nat) : Int) * k) = false := by
    unfold Builtin.Tuple.tupleTooMany
    rw [sizeLine_eq]
    exact decide_eq_false (by omega)
  have M := tuple_mulW l vals.toArray n dd sl k tok g0 g1 g2 (by omega) g3 (by rw [size_rep, List.size_toArray]; exact fl)
  have isT : s.TypeIs (.ref l) "tuple" := ⟨_, ho, rfl⟩
  have new : L2.Inv X pins σ (upd H s.heap.objs.size (.tup (List.replicate k.toNat xs).flatten)) { s with heap := s.heap.push { cls := .type "tuple", data := .seq (List.replicate k.toNat vals).flatten.toArray } } := by
    refine I.laid (t' := s.toks) (fun _ _ e => Heap.get?_push_of_some _ e) (Nat.le_refl _) ⟨?_, _, r.rep k.toNat, IsTup.new _ _⟩
    rw [← len] at lb
    rw [PyProof.Rows.lm_len_rep_flat, sizeLine_eq, ← len]
    have : k.toNat * vals.length ≤ 10000 * 100 := Nat.mul_le_mul (by omega) lb
    omega
  refine wpAny_binaryOp_repeat_ref (U := "int") (by decide) isT (fun s' => typeIs_int s' k tok) noFill_tuple_mul F.fills_int_mul
    F.slot_int_rmul repeat_tuple F.slot_int_index.lookup ?_
  refine call_meets F.slot_int_rmul (typeIs_int s k tok) F.entry_int_rmul (F.args_int_rmul_2 _ _)
    (int_rmul_tuple k tok l vals.toArray n dd sl) ⟨ho, rfl, isT, ?_⟩
  refine call_meets F.slot_tuple_mul isT F.entry_tuple_mul (F.args_tuple_mul_2 _ _) M ⟨ho, ?_⟩
  rw [size_rep]
  exact ⟨.ref s.heap.objs.size, _, new, rfl, q _ (I.hok.fresh (Nat.le_refl _))⟩
end MM

set_option Elab.async false
set_option maxRecDepth 100000
set_option maxHeartbeats 2000000
set_option linter.all false
/-! an exception that was caught and is handed on: tracked in the suite, asked by isinstance in another def, its field read -/
namespace ME
open PySem PySem.Spec PyProof.Rows L2
/-- a caught exception of the class cls, its dict at d, at a -/
def ExH (cls : Value) (d : Option Addr) (a : Addr) : HO := .ext fun h => ∃ (oe : Obj) (vs : Array Value), h.get? a = some oe ∧ Zc cls d oe ∧ oe.data = .fields vs
theorem exH_ok {P : Program} {w : World} {H : Hp} {h : Heap} {a : Addr} {cls : Value} {d : Option Addr} {oe : Obj} {vs : Array Value}
    (e : h.get? a = some oe) (z : Zc cls d oe) (hd : oe.data = .fields vs) : ObjOk P w H h a (ExH cls d a) :=
  ⟨⟨oe, vs, e, z, hd⟩, ⟨oe, e⟩, fun _ _ ⟨o, v, q, r⟩ k => ⟨o, v, k o q, r⟩⟩
theorem exH_at {P : Program} {w : World} {H : Hp} {h : Heap} {a : Addr} {cls : Value} {d : Option Addr} (x : HOk P w H h) (e : H a = some (ExH cls d a)) :
    ∃ (oe : Obj) (vs : Array Value), h.get? a = some oe ∧ Zc cls d oe ∧ oe.data = .fields vs := by
  have z : ObjOk P w H h a (ExH cls d a) := x a _ e
  exact z.1
section
variable {X : Cx} {pins : List (Addr × Obj)} {σ : L2.St} {H : Hp} {s : Shared}
/-- an object that is new since the entry is tracked from now on -/
theorem Inv.track {a : Addr} {o : HO} (I : Inv X pins σ H s) (n0 : X.s_0.heap.get? a = none) (hn : H a = none) (ne : a ≠ X.env.locals)
    (nc : ∀ x c, X.env.cells.lookup x = some c → c ≠ a) (np : ∀ p ∈ X.pn ++ pins, p.1 ≠ a) (new : ObjOk X.prog X.w (upd H a o) s.heap a o) :
    Inv X pins σ (upd H a o) s := by
  have b0 : ∀ b u, X.s_0.heap.get? b = some u → b ≠ a := fun b u q z => by
    rw [z, n0] at q
    cases q
  refine ⟨I.ok, I.os, I.bare, ⟨I.base.keep, I.base.slot, fun b u q n hx' => ?_, I.base.there, fun b xs q => ?_, fun b u xs q => ?_, fun b ps q => ?_⟩, I.loc, I.cell, ?_, fun x c e => ?_, fun p hp => ?_, ?_, I.len⟩
  · rw [upd_ne (b0 b u q)]
    exact I.base.free b u q n hx'
  · have z := I.base.tups b xs q
    rw [upd_ne (ne_of_none z hn)]
    exact z
  · have z := I.base.frzs b u xs q
    rw [upd_ne (ne_of_none z hn)]
    exact z
  · obtain ⟨m, z⟩ := I.base.tbls b ps q
    exact ⟨m, by rw [upd_ne (ne_of_none z hn)]; exact z⟩
  · rw [upd_ne ne.symm]
    exact I.free
  · rw [upd_ne (nc x c e)]
    exact I.freeC x c e
  · obtain ⟨e, n, r⟩ := I.pin p hp
    exact ⟨e, by rw [upd_ne (np p hp)]; exact n, r⟩
  · exact HOk.laidN I.hok (fun _ _ q => q) hn new
theorem Inv.inT (I : Inv X pins σ H s) (a : Addr) : Inv (X.suite a X.pn) pins σ H s :=
  ⟨I.ok.suite _ _, I.os, I.bare, I.base, I.loc, I.cell, I.free, I.freeC, I.pin, I.hok, I.len⟩
theorem Inv.outT {a : Addr} (I : Inv (X.suite a X.pn) pins σ H s) (ok : X.Ok) : Inv X pins σ H s :=
  ⟨ok, I.os, I.bare, I.base, I.loc, I.cell, I.free, I.freeC, I.pin, I.hok, I.len⟩
end
section
variable {X : Cx} {pins : List (Addr × Obj)} {σ : L2.St} {H : Hp} {cls : Value} {d : Option Addr} {a : Addr} {B : Heap}
  {sI s : Shared} {h : Heap} {D : Ends} {Wout : WX} {hds : List ExceptHandler} {W : Ends → WX}
/-- the exception as it lies, tracked -/
theorem Lands.tracked (L : Lands X pins σ H cls d a B sI s h) (hs : X.stack = X.env :: X.outer) (hf : X.env.frame = some X.env.locals) (hx : X.ex = []) :
    Inv (X.suite a X.pn) pins σ (upd H a (ExH cls d a)) { s with heap := h } := by
  obtain ⟨oe, vs, he, hz, hd⟩ := L.fly.there
  have away : a ∉ frs (X.env :: X.outer) := by
    intro hm
    obtain ⟨_, o', e', no⟩ := L.fly.2.2.1.mem hm
    rw [he] at e'
    cases e'
    exact no _ hd
  have nL : a ≠ X.env.locals := fun z => away (List.mem_filterMap.mpr ⟨X.env, List.mem_cons_self, by rw [hf, z]⟩)
  have nI : sI.heap.get? a = none := by
    cases e : sI.heap.get? a with
    | none => rfl
    | some o =>
      have z := L.ground a o e (by rw [hs]; exact away)
      rw [L.fly.2.1] at z
      cases z
  have n0 : X.s_0.heap.get? a = none := by
    cases e : X.s_0.heap.get? a with
    | none => rfl
    | some o =>
      obtain ⟨o', z⟩ := L.inv.base.there a o e (by rw [hx]; exact fun z => nomatch z)
      rw [nI] at z
      cases z
  have nc : ∀ x c, X.env.cells.lookup x = some c → c ≠ a := by
    intro x c e z
    obtain ⟨v, o, ho, _⟩ := L.inv.cell x c e
    rw [z, nI] at ho
    cases ho
  have np : ∀ p ∈ X.pn ++ pins, p.1 ≠ a := by
    intro p hp z
    obtain ⟨ho, _⟩ := L.inv.pin p hp
    rw [z, nI] at ho
    cases ho
  exact Inv.inT (Inv.track L.here n0 L.none_ nL nc np (exH_ok he hz hd)) a
end
/-- clauses with a name, the exception tracked in the suite -/
inductive ClT (X : Cx) (Wout : WX) : List ExceptHandler → (Ends → WX) → Prop where
  | nil : ClT X Wout [] (fun _ => Wout)
  | as_ {x n : Str} {i : Nat} {c : Value} {ts : Addr → TS} {b₀ : Stmt} {suite : List Stmt} {np pos : Pos}
      {hds : List ExceptHandler} {W : Ends → WX} (hc : Names X x c) (hN : X.N.Nodup) (hi : X.N[i]? = some n)
      (hl : X.env.kindOf n = some .local)
      (su : ∀ (a : Addr), PSs (X.suite a X.pn) (b₀ :: suite) (ts a))
      (r : ClT X Wout hds W) :
      ClT X Wout (.ExceptHandler (some (.Name x np)) (some n) (b₀ :: suite) pos :: hds) (fun D cls d σ H =>
        ∃ b, PySem.W.exmOne X.K cls c = some b ∧ (b = true → ∀ a, H a = none → σ.length = X.N.length →
          ts a (Ends.drop D i) (σ.set i (some (.ref a))) (upd H a (ExH cls d a))) ∧
          (b = false → W D cls d σ H))
section
variable {X : Cx} {pins : List (Addr × Obj)} {σ : L2.St} {H : Hp} {cls : Value} {d : Option Addr} {a : Addr} {B : Heap}
  {sI s : Shared} {h : Heap} {D : Ends} {Wout : WX} {hds : List ExceptHandler} {W : Ends → WX}
theorem handledT (hs : X.stack = X.env :: X.outer) (hf : X.env.frame = some X.env.locals) (hx : X.ex = []) (tk : Takes X Wout)
    (C : ClT X Wout hds W) : ∀ {h : Heap}, Lands X pins σ H cls d a B sI s h → W D cls d σ H →
      wpAny (model X.prog X.w) X.A (handleBy (.ref a) X.env hds) (SP X pins D) X.xe { s with heap := h } := by
  induction C with
  | nil =>
    intro h L w
    have L0 := L
    refine wpAny_handleBy_nil ?_
    obtain ⟨k1, k2, k3, oe, vs, T, oT, ts', he, hz, hd, h1, hr⟩ := L.fly
    unfold PySem.passOn
    refine wpAny_bind (wpAny_field he hd h1 ?_)
    rw [if_neg (show ¬ ((Value.ref T == Value.none) = true) from by simp)]
    have on : wpAny (model X.prog X.w) X.A (setFlight (.ref a) X.env.frame)
        (fun _ s4 => wpAny (model X.prog X.w) X.A (throw (.ref a) : Sem Flow) (SP X pins D) X.xe s4) X.xe { s with heap := h } := by
      rw [hf]
      refine HandSPX.setFlight_upZ L0.fly fun h4 hh4 up4 => wpAny_throw (tk _ _ ?_)
      exact ⟨a, B, sI, pins, σ, H, cls, d, rfl, L0.inv, L0.ground, L0.up.trans up4, .inr (.inr (by rw [hs]; exact hh4)), L0.none_, L0.os,
        L0.bare, w⟩
    first
      | exact wpAny_bind (wpAny_pure (wpAny_bind on))
      | exact wpAny_bind on
  | @as_ x n i c ts b₀ suite np pos hds' W' hc hN hi hl su r ih =>
    intro h L w
    obtain ⟨b, e, yes, no⟩ := w
    obtain ⟨oe, vs, he, hz, hd, S⟩ := L.suite hf
    refine wpAny_handleBy_cons (codeAny_handlers_test ?_) (by intro q; cases q)
    have ty : PySem.W.Looks (model X.prog X.w) h (typeOf (.ref a)) cls := fun A Q E s k q =>
      wpAny_typeOf_ref (k _ _ he) (by rw [hz.1]; exact q)
    have ask := PySem.W.exm_one (M := model X.prog X.w) L.here.kIn ty e
    have name : ∀ {Q : Value → Shared → Prop} {E : Value → Shared → Prop}, Q c { s with heap := h } →
        wpAny (model X.prog X.w) (X.A.mark (some (.ref a))) (eval (.Name x np) X.env) Q E { s with heap := h } := by
      intro Q E q
      obtain ⟨hg, hdb, hm | ⟨hm, hv, hn⟩⟩ := hc
      · exact ld_glob (X := X.suite a ((a, oe) :: (X.pn ++ pins))) S hg hm q hdb
      · exact ld_blt (X := X.suite a ((a, oe) :: (X.pn ++ pins))) S hg hm hv q hn hdb
    refine name (ask.here ?_)
    cases b with
    | false => exact ih L (no rfl)
    | true =>
      refine codeAny_handlers_suite_as (HandSPX.lands_againZ L.fly fun h4 f4 u4 => ?_)
      have S4 := (L.later f4 u4).tracked hs hf hx
      refine store_ok (X := X.suite a X.pn) (v := .ref a) S4 hN hi (.inl hl) rfl (fun s5 S5 => ?_) (.inr hl)
      refine wpAny_mono ((su a).run pins s5 _ _ _ S5 (yes rfl a L.none_ L.inv.len))
        (fun f s6 q => ?_) (fun _ _ z => False.elim z)
      cases f with
      | ret u =>
        obtain ⟨v, σ6, H6, J, r6, z⟩ := q
        exact gone_ok (Inv.outT J L.inv.ok) hN hi hl fun s7 J7 => ⟨v, _, H6, J7, r6, z⟩
      | next =>
        obtain ⟨σ6, H6, J, z⟩ := q
        exact gone_ok (Inv.outT J L.inv.ok) hN hi hl fun s7 J7 => ⟨_, H6, J7, z⟩
      | brk =>
        obtain ⟨σ6, H6, J, z⟩ := q
        exact gone_ok (Inv.outT J L.inv.ok) hN hi hl fun s7 J7 => ⟨_, H6, J7, z⟩
      | cont =>
        obtain ⟨σ6, H6, J, z⟩ := q
        exact gone_ok (Inv.outT J L.inv.ok) hN hi hl fun s7 J7 => ⟨_, H6, J7, z⟩
/-- try: body / the clauses -/
theorem ps_try_T {body : List Stmt} {h₀ : ExceptHandler} {pos : Pos} {tb : WX → TS} (hs : X.stack = X.env :: X.outer)
    (hf : X.env.frame = some X.env.locals) (hx : X.ex = []) (tk : Takes X Wout) (C : ClT X Wout (h₀ :: hds) W)
    (hb : ∀ (W : WX) (pn : List (Addr × Obj)) (xe : Value → Shared → Prop), Takes (X.tr pn xe) W →
      PassesOwn (model X.prog X.w) X.A X.env xe → PSs (X.tr pn xe) body (tb W)) :
    PS X (.Try body (h₀ :: hds) [] [] pos) (fun D σ H => tb (W D) D σ H) := by
  constructor
  intro pins s σ H D I h
  have ok := I.ok
  have fr : X.A.frames = some (X.env :: X.outer) := by rw [ok.frames, hs]
  refine wpAny_Try_except ?_
  refine wpAny_mono ((hb (W D) (X.pn ++ pins) (fun e s₁ => wpAny (model X.prog X.w) X.A (noteFrame e X.env)
    (fun _ s₂ => wpAny (model X.prog X.w) X.A (setFlight e none) (fun _ s₃ =>
      wpAny (model X.prog X.w) X.A (handleBy e X.env (h₀ :: hds)) (SP X pins D) X.xe s₃) X.xe s₂) X.xe s₁) ?_
    PassesOwn.looking).run [] s σ H D (I.toTry _) h) ?_ (fun e s1 he => he)
  · rintro u s' ⟨a, B, sI, pins', σ', H', cls, d, rfl, J', nb, up, sky, na, os, ag, w⟩
    have J : Inv X pins σ' H' sI := J'.ofTry ok
    have sky' : Sky B (X.env :: X.outer) a (Zc cls d) X.env.locals s'.heap := by
      rw [← hs]
      exact sky
    show wpAny (model X.prog X.w) X.A (noteFrame (.ref a) X.env) _ _ _
    refine Sky.land Zc.steady fr hf sky' fun h3 f3 u3 => ?_
    exact handledT hs hf hx tk C ⟨J, nb, up.trans u3, f3, na, os, ag⟩ w
  · intro f s1 q
    cases f with
    | ret u =>
      obtain ⟨v, σ', H', J, r, z⟩ := q
      exact ⟨v, σ', H', J.ofTry ok, r, z⟩
    | next =>
      obtain ⟨σ', H', J, z⟩ := q
      exact wpAny_execs_nil ⟨σ', H', J.ofTry ok, z⟩
    | brk =>
      obtain ⟨σ', H', J, z⟩ := q
      exact ⟨σ', H', J.ofTry ok, z⟩
    | cont =>
      obtain ⟨σ', H', J, z⟩ := q
      exact ⟨σ', H', J.ofTry ok, z⟩
end
/-! the field of a tracked exception -/
def tXfT (K : PySem.W.Frag) (f : Str) (te : TE) : TE := fun σ H Q => te σ H fun x H1 => ∃ (a C dd : Addr) (fs : List (Str × V)) (v : V),
  x = .ref a ∧ H1 a = some (ExH (.ref C) (some dd) a) ∧ XfC K C ∧ PySem.W.findIn K (.ref C) f = some none ∧ H1 dd = some (.xd fs) ∧ fs.lookup f = some v ∧ Q v H1
theorem pe_xfT {X : Cx} {e : Expr} {te : TE} {pos : Pos} {n : Str} (he : PE X e te) (hb : attributeBase e n X.env (eval e X.env) = eval e X.env := by rfl) :
    PE X (.Attribute e n pos) (tXfT X.K n te) := by
  constructor
  intro pins s σ H Q I h
  refine attr_of hb (thn (he.run pins s σ H _ I h) ?_)
  rintro w s1 ⟨x, H1, I1, rx, a, C, dd, fs, v, rfl, ea, F, own, ed, fnd, q⟩
  cases rx
  obtain ⟨oe, vs, at_, ⟨ec, edd⟩, dat⟩ := exH_at I1.hok ea
  have held : ObjOk X.prog X.w H1 s1.heap dd (.xd fs) := I1.hok dd _ ed
  obtain ⟨mA, ns, rel⟩ := held
  obtain ⟨od, ho, seen⟩ := lookIn_ns ns
  obtain ⟨u, eu, ru⟩ := RelO.some_of (v := v) (o := mA n) (fnd ▸ rel n)
  have plain : PySem.W.notCls oe = true := by
    unfold PySem.W.notCls
    rw [dat]
  have inst : PySem.W.InstAt s1.heap a oe C (some od) := ⟨at_, ec, plain, by rw [edd]; exact ho⟩
  refine HandSPX.exc_get I1.kIn inst F.ga F.gg F.exC (PySem.W.findObj_own F.hdC own rfl ?_) (handed_of ru) ⟨v, H1, I1.tok _, ru, q⟩
  rw [seen, eu]
/-! isinstance of a tracked exception -/
structure Kx (K : PySem.W.Frag) (C : Addr) : Prop where
  cl : (PySem.W.clsIn K C).isSome = true
  ga : PySem.W.findIn K (.ref C) "__getattribute__" = some (some (.builtin "BaseException.__getattribute__"))
  gt : PySem.W.findIn K (.ref C) "__getattr__" = some none
  sub : PySem.W.subIn K (.ref C) (.type "BaseException") = some true
  att : PySem.W.findIn K (.ref C) "__class__" = some (some (.builtin "object.__class__"))
  get : PySem.W.specialIn K (.builtin "object.__class__") "__get__" = some (some (.builtin "getset_descriptor.__get__"))
  tak : PySem.W.takesIn K (.builtin "object.__class__") = some true
  ob : PySem.W.mroIn K C (.type "object") = some true
def kxB (K : PySem.W.Frag) (C : Addr) : Bool :=
  (PySem.W.clsIn K C).isSome && (decide (PySem.W.findIn K (.ref C) "__getattribute__" = some (some (.builtin "BaseException.__getattribute__"))) &&
  (decide (PySem.W.findIn K (.ref C) "__getattr__" = some none) && (decide (PySem.W.subIn K (.ref C) (.type "BaseException") = some true) &&
  (decide (PySem.W.findIn K (.ref C) "__class__" = some (some (.builtin "object.__class__"))) &&
  (decide (PySem.W.specialIn K (.builtin "object.__class__") "__get__" = some (some (.builtin "getset_descriptor.__get__"))) &&
  (decide (PySem.W.takesIn K (.builtin "object.__class__") = some true) && decide (PySem.W.mroIn K C (.type "object") = some true)))))))
theorem kxB_ok {K : PySem.W.Frag} {C : Addr} (h : kxB K C = true) : Kx K C := by
  unfold kxB at h
  simp only [Bool.and_eq_true, decide_eq_true_eq] at h
  obtain ⟨a, b, c, d, e, f, g, i⟩ := h
  exact ⟨a, b, c, d, e, f, g, i⟩
/-- isinstance(e, C') of a tracked exception e -/
def rIsE (K : PySem.W.Frag) : List V → Hp → VK → Prop := fun xs H Q => ∃ (a C : Addr) (d : Option Addr) (c : V) (u : Value) (b : Bool),
  xs = [.ref a, c] ∧ H a = some (ExH (.ref C) d a) ∧ (∀ dd, d = some dd → ∃ fs, H dd = some (.xd fs)) ∧ Kx K C ∧ ClsV c u ∧ PySem.W.kitOne K (.ref C) u = some b ∧ Q (.bl b) H
theorem cr_isE {X : Cx} : CallR X (.builtin "isinstance") (rIsE X.K) := by
  intro pins s σ H xs us Q I r h
  obtain ⟨a, C, d, c, u, b, rfl, ea, ed, T, k, e, q⟩ := h
  obtain ⟨u1, u2, rfl, r1, r2⟩ := vals2 r
  have e2 := k.eq r2
  subst e2
  obtain rfl : u1 = Value.ref a := r1
  obtain ⟨oe, vs, ha, hz, hd⟩ := exH_at I.hok ea
  have nc : PySem.W.notCls oe = true := by
    unfold PySem.W.notCls
    rw [hd]
  cases d with
  | none =>
    have J : PySem.W.InstAt s.heap a oe C none := ⟨ha, hz.1, nc, by rw [hz.2]; trivial⟩
    exact PySem.W.kia_one (PySem.W.kitx_exc T.cl T.ga T.gt T.sub T.att T.get T.tak T.ob) I.kIn J e (fun z => nomatch z) fun tk => ⟨.bl b, H, I.tok tk, rfl, q⟩
  | some dd =>
    obtain ⟨fs, edd⟩ := ed dd rfl
    have hx : ObjOk X.prog X.w H s.heap dd (.xd fs) := I.hok dd _ edd
    obtain ⟨mA, ⟨od, _, _, ho, _⟩, _⟩ := hx
    have J : PySem.W.InstAt s.heap a oe C (some od) := ⟨ha, hz.1, nc, by rw [hz.2]; exact ho⟩
    exact PySem.W.kia_one (PySem.W.kitx_exc T.cl T.ga T.gt T.sub T.att T.get T.tak T.ob) I.kIn J e (fun z => nomatch z) fun tk => ⟨.bl b, H, I.tok tk, rfl, q⟩
end ME

set_option Elab.async false
set_option maxRecDepth 100000
set_option maxHeartbeats 2000000
set_option linter.all false
/-! own exceptions over any built-in base, whose own __init__ asks the base's and keeps one field -/
namespace PySem
namespace HandSPX
/-! an own class of exceptions, by what stands in its row: its __new__ is some base's, its __init__ asks perhaps another base's -/
/-- the row at C: made by mk, above it just the built-in classes of up -/
def Row (h : Heap) (C : Addr) (mk : String) (up : List Value) : Prop :=
  ∃ (nm q : Str) (N : Addr) (bs bm : List Value) (hdct : Bool) (sn : List Str) (sub : List Value) (ab : Bool) (col : Option Bool) (dd : Option Addr)
    (k0 k1 k2 k3 k5 : Option Value), h.get? C = some (excClassObj nm q C N bs bm hdct sn sub ab col dd k0 k1 k2 k3 k5 mk) ∧
      ∀ T : String, (Value.ref C :: bm).contains (.type T) = up.contains (.type T)
theorem Row.of {h : Heap} {C : Addr} {mk : String} {up : List Value} {nm q : Str} {N : Addr} {bs bm : List Value} {hdct : Bool} {sn : List Str} {sub : List Value}
    {ab : Bool} {col : Option Bool} {dd : Option Addr} {k0 k1 k2 k3 k5 : Option Value} (lies : h.get? C = some (excClassObj nm q C N bs bm hdct sn sub ab col dd k0 k1 k2 k3 k5 mk))
    (tl : PySem.W.excTail up bm = true) : Row h C mk up :=
  ⟨nm, q, N, bs, bm, hdct, sn, sub, ab, col, dd, k0, k1, k2, k3, k5, lies, fun T => by
    rw [List.contains_cons]
    exact PySem.W.excTail_contains T bm tl⟩
/-- whose __new__ makes it -/
structure Makes (mk : String) (up : List Value) : Prop where
  by_ : ∃ (Bn initN : String) (bmN : List Value), ExcBaseFacts Bn mk initN bmN ∧ up.contains (.type Bn) = true
  noA : up.contains (.type "AttributeError") = false
  noN : up.contains (.type "NameError") = false
/-- whose __init__ is asked -/
structure Inits (B ini : String) (up : List Value) : Prop where
  has : up.contains (.type B) = true
  star : (B != "*") = true
  quiet : plainId ini = true
  code : entryFor table ini = some Builtin.«BaseException.__init__»
  name : splitId ini = some (B, "__init__")
  kind : builtinKind ini = some .slot
  sig : Manifest.signature? ini = some ⟨.positional, "*", B, .self, [⟨"args", .varPos, false⟩]⟩
structure Bs (B newId initId : String) (top : List Value) : Prop where
  make : Makes newId top
  ini : Inits B initId top
theorem Bs.of {B newId initId : String} {top : List Value} (F : ExcBaseFacts B newId initId top) : Bs B newId initId top :=
  ⟨⟨⟨B, initId, top, F, F.hasB⟩, F.noAttr, F.noName⟩, F.hasB, F.noStar, F.init.plain, F.initEntry, F.initSplit, F.initKind, F.initRow⟩
section
variable {prog : Program} {w : World} {A : Around} {R : Result → Shared → Prop} {h : Heap} {g : Array GenState} {d : Drawn} {t : Nat} {os : OsState}
  {C : Addr} {mk B ini : String} {up : List Value} {us : List Value}
/-- mk(C, ..): the new exception behind its tuple -/
theorem made_by (M : Makes mk up) (r : Row h C mk up) (few : us.length ≤ sizeLine)
    (hR : R (.ok (.ret (.ref (h.objs.size + 1)))) ⟨(h.push (PySem.W.kdv_tup us)).push (excO C h.objs.size), g, d, t, os⟩) :
    codeAny (model prog w) A (.call (.builtin mk) ⟨.ref C :: us, []⟩) R ⟨h, g, d, t, os⟩ := by
  obtain ⟨nm, q, N, bs, bm, hdct, sn, sub, ab, col, dd, k0, k1, k2, k3, k5, lies, tells⟩ := r
  obtain ⟨Bn, initN, bmN, F, hb⟩ := M.by_
  have yes := (tells Bn).trans hb
  have noA := (tells "AttributeError").trans M.noA
  have noN := (tells "NameError").trans M.noN
  have star := F.noStar
  have ends := F.ends
  refine codeAny_call_builtin_code (Code.quiet_builtin _ F.quiet) ?_
  -- the receiver's look
  simp only [F.newRow, F.newSplit, F.newKind, checkBuiltinCall]
  repeat (first
    | (refine wpAny_isSubtype_exc lies ?_; rw [yes])
    | refine wpAny_madeBy_exc lies ?_
    | refine wpAny_staticBase_exc lies ?_
    | refine wpAny_loadPart_at lies ?_
    | simp only [if_false, Bool.false_eq_true, bne_self_eq_false]
    | wp_step)
  -- the making itself
  refine codeAny_builtinAt F.entry ?_
  delta Builtin.«BaseException.__new__»
  refine wpAt_bind ?_
  change wpAt _ _ _ (stack >>= _) _ _ _
  refine wpAt_bind (wpAt_stack fun _ _ => wpAt_of_wpAny ?_)
  wp_walk
  refine wpAt_of_wpAny ?_
  rw [F.owner]
  repeat (first
    | (with_reducible refine wpAny_isSubtype_exc lies ?_; first | rw [yes] | rw [noA] | rw [noN])
    | with_reducible refine wpAny_loadPart_at lies ?_
    | with_reducible refine wpAny_madeHere_exc F.canon lies ?_
    | wp_step)
  change R _ _
  rw [Heap.size_push]
  exact hR
/-- C(..) where C has an own __init__ at fI -/
theorem called_own {fI : Addr} (M : Makes mk up) (r : Row h C mk up) (few : us.length ≤ sizeLine)
    (ini_ : PySem.W.Looks (model prog w) h (typeLookup (.ref C) "__init__") (some (.ref fI)))
    (bnd : ∀ self, PySem.W.Looks (model prog w) h (bindSpecial (.ref fI) self) (.ref fI, [self]))
    (go : codeAny (model prog w) (A.under (.builtin "type.__call__" ⟨.ref C :: us, []⟩)) (.call (.ref fI) ⟨.ref (h.objs.size + 1) :: us, []⟩)
      (PySem.W.InitBack (h.objs.size + 1) R) ⟨(h.push (PySem.W.kdv_tup us)).push (excO C h.objs.size), g, d, t, os⟩) :
    codeAny (model prog w) A (.call (.ref C) ⟨us, []⟩) R ⟨h, g, d, t, os⟩ := by
  have r0 := r
  obtain ⟨nm, q, N, bs, bm, hdct, sn, sub, ab, col, dd, k0, k1, k2, k3, k5, lies, tells⟩ := r
  have look := tc_lookup
  have bind_ := tc_bind (.ref C)
  have meta_ : (⟨h, g, d, t, os⟩ : Shared).TypeIs (.ref C) "type" := ⟨_, lies, rfl⟩
  have stay : ∀ b o, h.get? b = some o → ((h.push (PySem.W.kdv_tup us)).push (excO C h.objs.size)).get? b = some o := by
    intro b o e
    exact Heap.get?_push_of_some _ (Heap.get?_push_of_some _ e)
  have still := stay _ _ lies
  have new : ((h.push (PySem.W.kdv_tup us)).push (excO C h.objs.size)).get? (h.objs.size + 1) = some (excO C h.objs.size) := by heap_get
  have self_ : (Value.ref C :: bm).contains (.ref C) = true := by simp
  refine codeAny_of_tree ?_
  change wpAny _ _ (callAny (.ref C) _) _ _ _
  repeat (any_goals (first | assumption | with_reducible refine wpAny_loadPart_at lies ?_ | wp_step))
  refine ⟨rfl, codeAny_call_builtin_at (Code.quiet_builtin _ (by decide +kernel)) entry_typeCall (wpAny_check_type_call_sub lies ?_)⟩
  change wpAny _ _ (Builtin.«type.__call__» ⟨.ref C :: us, []⟩) _ _ _
  repeat (first | with_reducible refine wpAny_madeBy_exc lies ?_ | with_reducible refine wpAny_loadPart_at lies ?_ | wp_step)
  refine made_by M r0 few ?_
  change wpAny _ _ _ _ _ _
  unfold isInstance
  repeat (first | (with_reducible refine wpAny_isSubtype_exc still ?_; rw [self_]) | with_reducible refine wpAny_loadPart_at new ?_ | wp_step)
  change wpAny _ _ (typeLookup (.ref C) _) _ _ _
  refine (ini_.keeps stay).at (wpAny_holding (wpAny_bind (((bnd (.ref (h.objs.size + 1))).keeps stay).at (wpAny_bind (wpAny_call (codeAny_mono go fun r s' z => ?_))))))
  cases r with
  | error e => exact z
  | ok fl =>
    cases fl with
    | ret v =>
      obtain ⟨rfl, z⟩ := z
      first
        | exact wpAny_pure (wpAny_pure z)
        | (wp_walk; exact z)
    | next => exact z.elim
    | brk => exact z.elim
    | cont => exact z.elim
/-- B.__init__(e, ..) of a new exception e -/
theorem asked_base {e t0 : Addr} (I : Inits B ini up) (r : Row h C mk up) (lie : h.get? e = some (excO C t0)) (few : us.length ≤ sizeLine)
    (hR : ∀ h' t1, (∀ b o, b ≠ e → h.get? b = some o → h'.get? b = some o) → h'.get? e = some (excO C t1) → R (.ok (.ret .none)) ⟨h', g, d, t, os⟩) :
    codeAny (model prog w) A (.call (.builtin ini) ⟨.ref e :: us, []⟩) R ⟨h, g, d, t, os⟩ := by
  obtain ⟨nm, q, N, bs, bm, hdct, sn, sub, ab, col, dd, k0, k1, k2, k3, k5, lies, tells⟩ := r
  have yes := (tells B).trans I.has
  have star := I.star
  refine codeAny_call_builtin I.quiet I.code ?_
  simp only [I.sig, I.name, I.kind, checkBuiltinCall]
  repeat (first
    | (with_reducible refine wpAny_isSubtype_exc lies ?_; rw [yes])
    | (with_reducible refine wpAny_loadPart_at lie ?_; rw [show (excO C t0).cls = .ref C from rfl])
    | with_reducible refine wpAny_loadPart_at lies ?_
    | wp_step)
  refine wpAny_onRaise ?_
  have passes : ∀ (x y : String) (n : Nat), Bind.check ⟨.positional, "*", B, .self, [⟨"args", .varPos, false⟩]⟩ x y n
      (List.map (fun z => z.fst) ({ pos := Value.ref e :: us } : Args).kw) = pure () := fun x y n => check_star_args _ _ _ _ _ _
  rw [passes]
  refine wpAny_pure ?_
  wp_walk
  refine hR _ h.objs.size (fun b o ne ho => ?_) ?_
  · exact (Heap.get?_update_other _ _ (Ne.symm ne)).trans (Heap.get?_push_of_some _ ho)
  · rw [Heap.get?_update_self _ (Heap.get?_push_of_some _ lie) rfl]
    rfl
end
end HandSPX
end PySem
namespace MD
open PySem PySem.Spec PyProof.Rows L2 MM PySem.HandSPX

/-- the class at C stands over B, by own classes between, or none -/
structure Ov (K : PySem.W.Frag) (C : Addr) (B newId initId : String) (top : List Value) : Prop where
  base : Bs B newId initId top
  put : StoreFacts B top "object.__setattr__" "object"
  row : ∃ nm q N bs bm sn sub ab col dd k0 k1 k2 k3 k5,
    K.lookup C = some (excClassObj nm q C N bs bm true sn sub ab col dd k0 k1 k2 k3 k5 newId) ∧ PySem.W.excTail top bm = true
  hook : PySem.W.findIn K (.ref C) "__setattr__" = some (some (.builtin "object.__setattr__"))
  isE : PySem.W.subIn K (.ref C) (.type "BaseException") = some true
  meta_ : PySem.W.typeIn K (.ref C) = some (.type "type")
  keep : PySem.W.keepIn K (.ref C) = true

section
open Builtin Builtin.ObjectAttr
variable {prog : Program} {w : World} {A : Around} {R : Result → Shared → Prop} {hp : Heap} {g : Array GenState} {d : Drawn}
  {t : Nat} {os : OsState} {K : PySem.W.Frag} {C x : Addr} {B newId initId : String} {top : List Value}
/-- the first field of an exception lays its dict -/
theorem first_put {name : Str} {tk : Tok} {v : Value} {fv : Array Value} (T : Ov K C B newId initId top) (X : K.In hp)
    (hx : hp.get? x = some { cls := .ref C, data := .fields fv })
    (ha : PySem.W.findIn K (.ref C) name = some none)
    (hq : ∀ h' tk' dx, (∀ b o, b ≠ x → hp.get? b = some o → h'.get? b = some o) → hp.objs.size ≤ dx → dx ≠ x →
      h'.get? x = some { cls := .ref C, dict := some dx, data := .fields fv } →
      h'.Ns1 dx (fun y => if y = name then some v else none) → R (.ok (.ret .none)) ⟨h', g, d, tk', os⟩) :
    codeAny (model prog w) A (.call (.builtin "object.__setattr__") ⟨[.ref x, .str name tk, v], []⟩) R ⟨hp, g, d, t, os⟩ := by
  obtain ⟨nm, q, N, bs, bm, sn, sub, ab, col, dd, k0, k1, k2, k3, k5, hC, hbm⟩ := T.row
  have hcd : PySem.W.clsIn K C = some { name := nm, bases := bs, mro := .ref C :: bm, ns := N, qualname := q, hasDict := true, slotNames := sn, subclasses := sub, abstract := ab, collection := col, hasDel := false } := by
    unfold PySem.W.clsIn
    rw [hC] <;> rfl
  have hall : PySem.W.excTail top (.ref C :: bm) = true := hbm
  have inst : PySem.W.InstAt hp x { cls := .ref C, data := .fields fv } C none := ⟨hx, rfl, rfl, trivial⟩
  have S := PySem.F.store_object
  have far : x ≠ hp.objs.size := Nat.ne_of_lt (Heap.lt_size hx)
  have obj : (Value.ref C :: bm).contains (.type "object") = true :=
    (PySem.W.excTail_contains "object" _ hall).trans T.put.hasOwner
  have mro : PySem.W.mroIn K C (.type "object") = some true := by
    unfold PySem.W.mroIn
    rw [hcd, Option.bind_some]
    simp only [List.isEmpty_cons, obj, Bool.false_eq_true, if_false]
  have isObj : PySem.W.Looks (model prog w) hp (isInstance (.ref x) (.type "object")) true :=
    inst.type.andThen (PySem.W.looks_mroIn X mro)
  have rd : PySem.W.Looks (model prog w) hp (classData C) _ := PySem.W.looks_clsIn X hcd
  have rm : PySem.W.Looks (model prog w) hp (mroOf (.ref C)) (.ref C :: bm) := rd.andThen .now
  have none_ : PySem.W.Looks (model prog w) hp (storeTaker? none) none := .now
  refine codeAny_call_builtin S.slot.plain S.entry (@PySem.W.check_slot (model prog w) _ _ ⟨hp, g, d, t, os⟩
    "object.__setattr__" "object" "__setattr__" (.ref x) [.str name tk, v] [] _ S.kind S.split isObj (S.args (.ref x) (.str name tk) v) ?_)
  rw [PySem.W.osa_eq, refuse_eq]
  refine wpAny_bind (wpAny_bind (inst.type.at (wpAny_bind (rm.at ?_))))
  rw [PySem.W.excTail_pass _ (T.put.passes _) _ hall]
  refine wpAny_pure (wpAny_bind (inst.type.at (wpAny_bind ((PySem.W.looks_findIn X ha).at (wpAny_bind (none_.at ?_))))))
  show wpAny _ _ (storeInOwnDict (.ref x) (.ref C) (.str name tk) name v false) _ _ _
  unfold storeInOwnDict ownDictForStores
  repeat (first
    | with_reducible refine PySem.HandSPX.store_in_new ?_ ?_
    | with_reducible refine wpAny_loadPart_at hx ?_
    | with_reducible refine rd.at ?_
    | wp_step)
  · refine ⟨_, #[], _, (Heap.get?_update_ne _ _ _ _ far.symm).trans (Heap.get?_push_at rfl rfl), rfl, ?_, fun _ => rfl⟩
    intro e he
    simp at he
  · intro h' tk' hn' hs
    have there : (hp.push { cls := .type "dict", data := .dict #[] }).get? x = some { cls := .ref C, data := .fields fv } :=
      Heap.get?_push_of_some _ hx
    refine hq h' tk' hp.objs.size ?_ (Nat.le_refl _) far.symm ((hs.2 x far).trans (Heap.get?_update_self _ there rfl)) hn'
    intro b o hb ho
    have nb : b ≠ hp.objs.size := Nat.ne_of_lt (Heap.lt_size ho)
    rw [hs.2 b nb, Heap.get?_update_ne _ _ _ _ hb]
    exact Heap.get?_push_of_some _ ho
end

section
variable {X : Cx} {pins : List (Addr × Obj)} {σ : L2.St} {H : Hp} {s : Shared} {a C : Addr} {f : Str} {y : V} {u : Value}
  {E : Value → Shared → Prop} {A : Around} {B newId initId : String} {top : List Value}
/-- self.f = y, the first field -/
theorem put_new {Q : Unit → Shared → Prop} (T : Ov X.K C B newId initId top) (I : Inv X pins σ H s)
    (ea : H a = some (exo a C none)) (no : PySem.W.findIn X.K (.ref C) f = some none) (ry : RelV y u)
    (h : ∀ dx s', H dx = none → dx ≠ a →
      Inv X pins σ (upd (upd H dx (exd dx [(f, y)])) a (exo a C (some dx))) s' → Q () s') :
    wpAny (model X.prog X.w) A (setAttr (.ref a) f u) Q E s := by
  obtain ⟨t1, ho⟩ := exo_at I.hok ea
  obtain ⟨hp, g, d, t, os⟩ := s
  refine PySem.W.set_plain I.kIn (od := none) ⟨ho, rfl, rfl, trivial⟩ T.hook ?_
  refine first_put T I.kIn ho no (fun h' tk' dx kp ge ne hx hn => ?_)
  have free : H dx = none := I.hok.fresh ge
  have old : ∀ {b : Addr} {o : Obj}, hp.get? b = some o → b ≠ dx := by
    intro b o hb
    exact Nat.ne_of_lt (Nat.lt_of_lt_of_le (Heap.lt_size hb) ge)
  have nota : ∀ {b : Addr}, H b = none → b ≠ a := by
    rintro b hb rfl
    rw [ea] at hb
    cases hb
  have same : ∀ {b : Addr} {v : HO}, H b = some v → b ≠ a →
      upd (upd H dx (exd dx [(f, y)])) a (exo a C (some dx)) b = some v := by
    intro b v hb ba
    rw [upd_ne ba, upd_ne (ne_of_none hb free)]
    exact hb
  have un : Un X.fs [] H (upd (upd H dx (exd dx [(f, y)])) a (exo a C (some dx))) hp h' := by
    constructor
    case keep => exact fun b o hb hn _ _ => kp b o (nota hn) hb
    case slot => exact fun b o hb hn _ _ => ⟨o.slots, kp b o (nota hn) hb⟩
    case free =>
      intro b o hb hn _
      rw [upd_ne (nota hn), upd_ne (old hb)]
      exact hn
    case there =>
      intro b o hb _
      by_cases ba : b = a
      · exact ⟨_, ba ▸ hx⟩
      · exact ⟨o, kp b o ba hb⟩
    case tups => exact fun b xs hb => same hb (at_ne ea hb exo_tup)
    case frzs => exact fun b o v hb => same hb (at_ne ea hb exo_frz)
    case tbls =>
      intro b ps hb
      refine ⟨#[], ?_⟩
      rw [same hb (at_ne ea hb exo_tbl)]
      simp
  refine h dx _ free ne (I.un (t' := tk') un fun b o hb => ?_)
  by_cases ba : b = a
  · subst ba
    rw [upd_same] at hb
    cases hb
    exact exo_ok hx
  rw [upd_ne ba] at hb
  by_cases bd : b = dx
  · subst bd
    rw [upd_same] at hb
    cases hb
    exact exd_ok hn (relO_put (fs := []) ry fun _ => True.intro)
  rw [upd_ne bd] at hb
  refine (I.hok b o hb).stay ?_ (fun c hc => same hc (at_ne ea hc exo_own)) (fun c xs hc => same hc (at_ne ea hc exo_tup))
  rintro c v hc z
  refine kp c v ?_ z
  rcases hc with rfl | hc
  · exact ba
  · exact at_ne ea hc exo_own

/-- B.__init__(self, ..) -/
theorem ask_ok {us : List Value} {Q : Value → Shared → Prop} (T : Ov X.K C B newId initId top) (I : Inv X pins σ H s)
    (ea : H a = some (exo a C none)) (hl : us.length ≤ sizeLine) (h : ∀ s', Inv X pins σ H s' → Q .none s') :
    wpAny (model X.prog X.w) A (call (.builtin initId) (.ref a :: us)) Q E s := by
  obtain ⟨nm, q, N, bs, bm, sn, sub, ab, col, dd, k0, k1, k2, k3, k5, hC, hbm⟩ := T.row
  obtain ⟨t1, ho⟩ := exo_at I.hok ea
  obtain ⟨hp, g, d, t, os⟩ := s
  refine wpAny_call (asked_base T.base.ini (Row.of (I.kIn _ _ hC) hbm) ho hl ?_)
  intro h' t2 kp hx
  have J := I.write (t' := t) (x := a) (e := a) (o := exo a C none) (by rw [ea]; exact True.intro) (.inl rfl) kp ⟨_, hx⟩ (exo_ok hx)
  have same : upd H a (exo a C none) = H := by
    funext b
    by_cases hb : b = a
    · subst hb
      rw [upd_same, ea]
    · rw [upd_ne hb]
  rw [same] at J
  exact h _ J
end

/-- B.__init__(self, ..): nothing of it is told -/
def tAsk (K : PySem.W.Frag) (B newId initId : String) (top : List Value) (ta : TA) : TE := fun σ H Q =>
  ta σ H fun vs H1 => ∃ (a C : Addr) (ws : List V), vs = .ref a :: ws ∧ ws.length ≤ 1000 ∧ Ov K C B newId initId top ∧
    H1 a = some (exo a C none) ∧ Q .non H1
/-- self.f = e, the first field -/
def tPut (K : PySem.W.Frag) (B newId initId : String) (top : List Value) (f : Str) (to te : TE) : TS := fun D σ H =>
  te σ H fun y H1 => to σ H1 fun x H2 => ∃ a C : Addr, x = .ref a ∧ Ov K C B newId initId top ∧
    PySem.W.findIn K (.ref C) f = some none ∧ H2 a = some (exo a C none) ∧
    ∀ dx, H2 dx = none → dx ≠ a → D.nx σ (upd (upd H2 dx (exd dx [(f, y)])) a (exo a C (some dx)))
section
variable {X : Cx} {o e : Expr} {es : List Expr} {to te : TE} {ta : TA} {f : Str} {p p' p1 p2 pos : Pos}
  {B newId initId : String} {top : List Value}
theorem ps_put (ho : PE X o to) (he : PE X e te)
    (hs : swapsWith e (some (.Attribute o f p')) pos.line X.env = pure false := by rfl) :
    PS X (.Assign [.Attribute o f p'] e pos) (tPut X.K B newId initId top f to te) := by
  constructor
  intro pins s σ H D I h
  refine plainObj_wpAny_Assign_Attribute (thn (he.run pins s σ H _ I h) ?_) hs
  rintro v s1 ⟨y, H1, I1, r1, q1⟩
  refine thn (ho.run pins s1 σ H1 _ I1 q1) ?_
  rintro u s2 ⟨x, H2, I2, r2, a, C, rfl, T, no, ea, q⟩
  obtain rfl : u = Value.ref a := r2
  exact put_new T I2 ea no r1 fun dx s' n ne J => ⟨σ, _, J, q dx n ne⟩
theorem pe_ask {pl : Sem Bool} (hg : Gl X B) (hm : X.mg B = none) (hv : bootBuiltins B = some (.type B))
    (ty : typeOf (.type B) = pure (.type "type")) (st : Manifest.isStub B = false)
    (vV : PySem.W.findCls X.K (.type B) (.type "type") "__init__" = some (.val (.builtin initId)))
    (hi : PySem.W.handedIn (.builtin initId) = true)
    (ha : PA X (e :: es) ta) (hn : (B : Str) ≠ "__name__" := by decide) (hdb : ((B : Str) == ("__debug__" : Str)) = false := by decide)
    (hc : eval (.Call (.Attribute (.Name B p1) "__init__" p2) (e :: es) [] pos) X.env = (do
      let ov ← eval (.Name B p1) X.env
      standAt p2.atName
      let (f, first) ← holding [ov] (getMethod ov "__init__" pl)
      callWith pos f first (backTo pos (starEach (e :: es) X.env)) (backToKw pos (keywordEach [] X.env))) := by rfl)
    (he : starEach (e :: es) X.env = (false, eval e X.env) :: starEach es X.env := by rfl)
    (hpl : (backTo pos (starEach es X.env)).any (·.1) = false := by rfl) :
    PE X (.Call (.Attribute (.Name B p1) "__init__" p2) (e :: es) [] pos) (tAsk X.K B newId initId top ta) := by
  constructor
  intro pins s σ H Q I h
  refine PySem.W.methodCall_KW (ld_blt I hg hm hv ?_ hn hdb) hc
  obtain ⟨m, fr⟩ := I.fr
  refine PySem.W.method_type fr I.ok.mod.kin ty st vV hi ?_
  show wpAny _ _ (callWith pos (Value.builtin initId) [] (backTo pos (starEach (e :: es) X.env)) []) _ _ _
  refine PyProof.Rows.callWith_method1 (thn (ha.run pos pins _ σ H _ (I.tok _) h) ?_) he hpl
  rintro us s1 ⟨vs, H1, I1, r1, a, C, ws, rfl, hl, T, ea, q⟩
  cases r1 with
  | @cons _ u0 _ ur ra rw' =>
    obtain rfl : u0 = Value.ref a := ra
    refine ask_ok T I1 ea ?_ fun s' J => ⟨.non, H1, J, rfl, q⟩
    rw [← Paired.length rw', sizeLine_eq]
    omega
end

/-- what __init__ of such a class keeps: one field, called f -/
def spKeep (C : Addr) (f : Str) : Sp := fun vs H Q _ => ∃ (a : Addr) (y : V), vs = [.ref a, y] ∧ H a = some (exo a C none) ∧
  ∀ dx, H dx = none → dx ≠ a → Q .non (upd (upd H dx (exd dx [(f, y)])) a (exo a C (some dx)))
/-- C(e) is made: its class, its dict, which keeps e under f -/
def tMade (C : Addr) (f : Str) (ta : TA) : L2.St → Hp → XK → Prop := fun σ H Q => ta σ H fun vs H1 => ∃ y, vs = [y] ∧
  ∀ d, H1 d = none → Q (.ref C) (some d) (upd H1 d (.xd [(f, y)]))
section
variable {X : Cx} {e : Expr} {es : List Expr} {ta : TA} {p pos : Pos} {CX : CXT} {x f : Str} {C fI : Addr} {k : Nat} {fd : FuncData}
  {ps : List Str} {B newId initId : String} {top : List Value}
theorem room_make {A : Around} (r : MM.Rm (k + 1) A) (C : Addr) (us : List Value) (kw : List (Str × Value)) :
    MM.Rm k (A.under (.builtin "type.__call__" ⟨.ref C :: us, kw⟩)) := ⟨r.room.make C us kw, r.still⟩
theorem pmk_made (T : Ov X.K C B newId initId top) (iC : PySem.W.findIn X.K (.ref C) "__init__" = some (some (.ref fI)))
    (tI : PySem.W.typeIn X.K (.ref fI) = some (.type "function"))
    (F : MM.FnG X.prog X.w X.K X.mg X.base CX k fI fd ps (spKeep C f)) (hr : MM.Rm (k + 1) X.A) (hb : Binds X.K fd ps [])
    (hx : Passes CX X (fun _ _ _ => False)) (hm : X.mg x = some (.ref C)) (ha : PA X (e :: es) ta) (hg : Gl X x := by rfl)
    (hdb : (x == ("__debug__" : Str)) = false := by decide)
    (he : starEach (e :: es) X.env = (false, eval e X.env) :: starEach es X.env := by rfl)
    (hpl : (backTo pos (starEach es X.env)).any (·.1) = false := by rfl) :
    PMk X (.Call (.Name x p) (e :: es) [] pos) (tMade C f ta) := by
  intro pins s σ H Q I h
  obtain ⟨nm, q, N, bs, bm, sn, sub, ab, col, dd, k0, k1, k2, k3, k5, hC, hbm⟩ := T.row
  refine wpAny_Call_Name_kw (ld_glob I hg hm ?_ hdb)
  refine PySem.W.callWith_K (h₀ := X.base) I.ok.mod.kin T.keep (thn (ha.run pos pins s σ H _ I h) ?_) he hpl
  rintro us s1 ⟨vs, H1, I1, r1, y, rfl, q1⟩
  refine ⟨I1.kIn, ?_⟩
  obtain ⟨u, rfl, ry⟩ := vals1 r1
  show wpAny _ _ (call (.ref C) [u]) _ _ _
  obtain ⟨hp, g, dr, tk, os⟩ := s1
  have size : hp.objs.size ≤ hp.objs.size + 1 := Nat.le_succ _
  have new : H1 (hp.objs.size + 1) = none := I1.hok.fresh size
  have kept : ∀ b o, hp.get? b = some o →
      ((hp.push (PySem.W.kdv_tup [u])).push (PySem.HandSPX.excO C hp.objs.size)).get? b = some o := by
    intro b o z
    exact Heap.get?_push_of_some _ (Heap.get?_push_of_some _ z)
  have lies : ((hp.push (PySem.W.kdv_tup [u])).push (PySem.HandSPX.excO C hp.objs.size)).get? (hp.objs.size + 1) =
      some (PySem.HandSPX.excO C hp.objs.size) := by heap_get
  have I2 := I1.laid (t' := tk) (a := hp.objs.size + 1) (o := exo (hp.objs.size + 1) C none) kept size (exo_ok lies)
  have r2 : Vals [V.ref (hp.objs.size + 1), y] [Value.ref (hp.objs.size + 1), u] := .cons rfl (.cons ry .nil)
  have sp : spKeep C f [V.ref (hp.objs.size + 1), y] (upd H1 (hp.objs.size + 1) (exo (hp.objs.size + 1) C none))
      (fun v H2 => v = .non ∧ ∃ d, H1 d = none ∧ d ≠ hp.objs.size + 1 ∧
        H2 = upd (upd (upd H1 (hp.objs.size + 1) (exo (hp.objs.size + 1) C none)) d (exd d [(f, y)])) (hp.objs.size + 1) (exo (hp.objs.size + 1) C (some d)))
      (fun _ _ _ => False) := by
    refine ⟨_, y, rfl, upd_same, fun dx n ne => ⟨rfl, dx, ?_, ne, rfl⟩⟩
    rw [upd_ne ne] at n
    exact n
  have len := F.arity sp
  have bd := hb ⟨_, g, dr, tk, os⟩ [Value.ref (hp.objs.size + 1), u] I2.kIn (by rw [List.append_nil]; exact len)
  rw [List.append_nil] at bd
  refine wpAny_call (called_own T.base.make (Row.of (I1.kIn _ _ hC) hbm) (by show 1 ≤ sizeLine; rw [sizeLine_eq]; omega)
    (PySem.W.looks_findIn I1.kIn iC) (fun self => PySem.W.bind_fn I1.kIn self tI)
    (codeAny_mono (F.runs (out := X.stack) (room_make hr C [u] []) (I2.env0.make C [u] []) bd r2 sp) ?_))
  intro r s' hq
  cases r with
  | error er => exact hx pins σ _ _ er s' I2 hq
  | ok fl =>
    cases fl with
    | next => exact hq.elim
    | brk => exact hq.elim
    | cont => exact hq.elim
    | ret u' =>
      obtain ⟨v, H2, os2, bare2, un2, hok2, rv, rfl, d, nd, ne, rfl⟩ := hq
      obtain ⟨h2, g2, d2, t2, os'⟩ := s'
      have ed : (upd (upd (upd H1 (hp.objs.size + 1) (exo (hp.objs.size + 1) C none)) d (exd d [(f, y)])) (hp.objs.size + 1)
          (exo (hp.objs.size + 1) C (some d))) d = some (exd d [(f, y)]) := by
        rw [upd_ne ne, upd_same]
      refine ⟨rv, mk_end (raises_own T.isE T.meta_) I1 size kept un2 hok2 os2 bare2 upd_same ed nd ?_⟩
      have same : upd (del (upd (upd (upd H1 (hp.objs.size + 1) (exo (hp.objs.size + 1) C none)) d (exd d [(f, y)])) (hp.objs.size + 1)
          (exo (hp.objs.size + 1) C (some d))) (hp.objs.size + 1)) d (.xd [(f, y)]) = upd H1 d (.xd [(f, y)]) := by
        funext b
        by_cases b1 : b = d
        · subst b1
          rw [upd_same, upd_same]
        rw [upd_ne b1, upd_ne b1]
        by_cases b2 : b = hp.objs.size + 1
        · subst b2
          rw [del_same, new]
        rw [del_ne b2, upd_ne b2, upd_ne b1, upd_ne b2]
      rw [same]
      exact q1 d nd
end
/-! Base.__init__(self, ..), Base an own class -/
structure Asks (K : PySem.W.Frag) (C : Addr) (initId : String) : Prop where
  sp : PySem.W.specialIn K (.ref C) "__getattribute__" = some (some (.builtin "type.__getattribute__"))
  rd : PySem.W.readsIn K C (.type "type") = true
  fi : PySem.W.findCls K (.ref C) (.type "type") "__init__" = some (.val (.builtin initId))
section
variable {X : Cx} {x : Str} {C : Addr} {e : Expr} {es : List Expr} {ta : TA} {p1 p2 pos : Pos} {B newId initId : String} {top : List Value}
theorem pe_askC {pl : Sem Bool} (T0 : Asks X.K C initId) (hg : Gl X x) (hm : X.mg x = some (.ref C))
    (hi : PySem.W.handedIn (.builtin initId) = true)
    (ha : PA X (e :: es) ta) (hdb : (x == ("__debug__" : Str)) = false := by decide)
    (hc : eval (.Call (.Attribute (.Name x p1) "__init__" p2) (e :: es) [] pos) X.env = (do
      let ov ← eval (.Name x p1) X.env
      standAt p2.atName
      let (f, first) ← holding [ov] (getMethod ov "__init__" pl)
      callWith pos f first (backTo pos (starEach (e :: es) X.env)) (backToKw pos (keywordEach [] X.env))) := by rfl)
    (he : starEach (e :: es) X.env = (false, eval e X.env) :: starEach es X.env := by rfl)
    (hpl : (backTo pos (starEach es X.env)).any (·.1) = false := by rfl) :
    PE X (.Call (.Attribute (.Name x p1) "__init__" p2) (e :: es) [] pos) (tAsk X.K B newId initId top ta) := by
  constructor
  intro pins s σ H Q I h
  refine PySem.W.methodCall_KW (ld_glob I hg hm ?_ hdb) hc
  refine PySem.W.method_cls I.kIn T0.sp (PySem.W.cls_value I.kIn T0.rd T0.fi hi ?_)
  show wpAny _ _ (callWith pos (Value.builtin initId) [] (backTo pos (starEach (e :: es) X.env)) []) _ _ _
  refine PyProof.Rows.callWith_method1 (thn (ha.run pos pins _ σ H _ (I.tok _) h) ?_) he hpl
  rintro us s1 ⟨vs, H1, I1, r1, a, C', ws, rfl, hl, T, ea, q⟩
  cases r1 with
  | @cons _ u0 _ ur ra rw' =>
    obtain rfl : u0 = Value.ref a := ra
    refine ask_ok T I1 ea ?_ fun s' J => ⟨.non, H1, J, rfl, q⟩
    rw [← Paired.length rw', sizeLine_eq]
    omega
end
end MD

set_option Elab.async false
set_option maxRecDepth 100000
set_option maxHeartbeats 2000000
set_option linter.all false
/-! a def that raises nothing, called where an exception is being handled -/
namespace MM
open PySem PySem.Spec PyProof.Rows L2
structure RmT (k : Nat) (A : Around) : Prop where
  room : L2H.RoomH k A
  still : A.guards = some []
theorem RmT.le {j k : Nat} {A : Around} (h : RmT k A) (le : j ≤ k) : RmT j A := ⟨h.room.mono le, h.still⟩
theorem Rm.hot {k : Nat} {A : Around} (h : Rm k A) (x : Option Value) : RmT k (A.mark x) := ⟨⟨h.room.dp, h.room.un⟩, h.still⟩
structure FnT (P : Program) (w : World) (K : PySem.W.Frag) (mg : Str → Option Value) (base : Heap)
    (k : Nat) (f : Addr) (fd : FuncData) (ps : List Str) (sp : Sp) : Prop where
  arity : ∀ {vs H Q E}, sp vs H Q E → vs.length = ps.length
  runs : ∀ {A : Around} {out : List Env} {s : Shared} {H : Hp} {ar : Args} {us : List Value} {vs : List V} {Q : VK} {E : XK},
    RmT k A → Env0 P w K mg base A out s H → BindsTo s fd ar (ps.zip us) → Vals vs us → sp vs H Q E →
      codeAny (model P w) A (.call (.ref f) ar) (CR CX0 out P w H s Q E) s
/-- its body's context: nothing may be raised in it -/
def cxT (P : Program) (w : World) (K : PySem.W.Frag) (mg : Str → Option Value) (base : Heap) (N : List Str) (qual : Str) (scope : Scope) (f : Addr) (cd : Value) (A : Around) (outer : List Env) (s : Shared) (H : Hp) (E : XK) : Cx :=
  { cxOf CX0 P w K mg base N qual scope f cd A outer s H E with calm := false }
theorem inv_startT {P : Program} {w : World} {K : PySem.W.Frag} {mg : Str → Option Value} {base : Heap} {N ps : List Str} {qual : Str} {scope : Scope} {f : Addr} {cd : Value} {A : Around} {outer : List Env} {s s1 : Shared} {H : Hp} {E : XK} {us : List Value} {vs : List V}
    (S : FnScope N ps scope) (e0 : Env0 P w K mg base A outer s H) (hl : vs.length = ps.length) (r : Vals vs us)
    (x : InCallC s s.heap.objs.size (bindL (envOfC qual scope s.heap.objs.size f cd).kindOf (ps.zip us) fun _ => none) (cellsFrom (s.heap.objs.size + 1) scope.names []) (bindC (envOfC qual scope s.heap.objs.size f cd).kindOf (ps.zip us) fun _ => none) s1) :
    Inv (cxT P w K mg base N qual scope f cd A outer s H E) [] (L2.start N vs) H s1 := by
  have e1 : Env0 P w K mg base { A with handled := none } outer s H := ⟨e0.frames, e0.mod, e0.bs, e0.bsz, e0.funs, e0.frf, e0.hok, e0.bare⟩
  have J := inv_start (CX := CX0) (E := E) (qual := qual) (f := f) (cd := cd) S (A := { A with handled := none }) rfl e1 hl r x
  exact ⟨⟨J.ok.mod, J.ok.kind, J.ok.glob, J.ok.blt, J.ok.above, J.ok.inj, J.ok.has, J.ok.cab, (fun z => Bool.noConfusion (show false = true from z)), J.ok.frames, J.ok.stk, J.ok.exf, J.ok.bs, J.ok.bsz, J.ok.noex, J.ok.exfs, J.ok.funs, J.ok.frf⟩,
    J.os, J.bare, J.base, J.loc, J.cell, J.free, J.freeC, J.pin, J.hok, J.len⟩
def DefT (P : Program) (w : World) (K : PySem.W.Frag) (mg : Str → Option Value) (base : Heap) (k : Nat) (x : Str) (ps : List Str) (sp : Sp) : Prop :=
  ∃ f fd, FnT P w K mg base k f fd ps sp ∧ mg x = some (.ref f) ∧ PySem.W.keepIn K (.ref f) = true ∧ L2.Binds K fd ps []
section
variable {P : Program} {w : World} {K : PySem.W.Frag} {mg : Str → Option Value} {base : Heap} {k : Nat} {x : Str} {ps : List Str} {sp : Sp} {st : Stmt}
theorem At.defT {N : List Str} (T : At K mg x st) (S : FnScope N ps (defScope st))
    (hb : ∀ (kV doc pm : Value) (an : Option Addr) (cd ct : Value) (us : List Value), us.length = ps.length →
      bindArgs (PySem.W.fnOf x x (defArgs st) (defBody st) (defScope st) .none kV doc pm an cd ct) ⟨us, []⟩ = pure (ps.zip us))
    (arity : ∀ vs H Q E, sp vs H Q E → vs.length = ps.length)
    (body : ∀ (f : Addr) (cd : Value) (A : Around) (out : List Env) (s : Shared) (H : Hp) (vs : List V) (Q : VK) (E : XK),
      RmT k (A.deeper (envOfC x (defScope st) s.heap.objs.size f cd)) → sp vs H Q E →
      ∃ t, PSs (cxT P w K mg base N x (defScope st) f cd A out s H E).nox (defBody st) t ∧
        t { nx := fun _ H' => Q .non H', rt := Q } (start N vs) H) : DefT P w K mg base (k + 1) x ps sp := by
  obtain ⟨fd, F⟩ := T.fn
  have bnd := F.bindsN hb
  have kp := F.kp
  obtain ⟨oc, od, dV, kV, doc, pm, an, cd, ct, osl, rfl, lk, hcd, _, _⟩ := F.ex
  refine ⟨_, _, ⟨fun h => arity _ _ _ _ h, ?_⟩, T.glo, kp, bnd⟩
  intro A out s H ar us vs Q E hr e0 hbd hv h
  have nv := arity _ _ _ _ h
  have inK : K.In s.heap := e0.mod.kin.keeps (fun b o e => (e0.bs b o e).1)
  have nl : s.heap.NoLimit := e0.mod.nolimit.keeps (fun b o e => (e0.bs b o e).1)
  have kd : ∀ y ∈ ps.zip us, (defScope st).names.lookup y.1 = some .local ∨
      ((defScope st).names.lookup y.1 = some .cell ∧ ((cellsFrom (s.heap.objs.size + 1) (defScope st).names []).lookup y.1).isSome = true) := by
    rintro ⟨n, v⟩ hy
    cases S.par n (List.of_mem_zip hy).1 with
    | inl q => exact .inl q
    | inr q => exact .inr ⟨q, PySem.W.cellsFrom_some _ _ _ (.inl q)⟩
  refine codeAny_call_function hr.room.depth (inK _ _ lk) rfl S.co S.gen rfl (PySem.W.codeRec_of inK hcd) (hbd _ _ _ _ ?_)
  refine wpAny_newFunctionEnv_cells S.kind kd (fun env he s1 xc => ?_)
  subst he
  refine ⟨nl.keeps xc.toInCall.keep, codeAny_func ?_⟩
  obtain ⟨t, ht, hq⟩ := body _ cd A out s H vs Q E ⟨hr.room.deeper _, hr.still⟩ h
  have I := inv_startT (P := P) (w := w) (qual := x) (cd := cd) (f := He.ga K x) (E := E) S e0 nv hv xc
  refine wpAny_mono (ht.nox.run [] s1 (start N vs) H _ I hq) (fun fl s' hs => ?_) (fun e s' hs => hs)
  cases fl with
  | ret u =>
    obtain ⟨v, σ', H', J, rv, q⟩ := hs
    exact ⟨v, H', J.os, J.bare, J.base, J.hok, rv, q⟩
  | next =>
    obtain ⟨σ', H', J, q⟩ := hs
    exact ⟨.non, H', J.os, J.bare, J.base, J.hok, rfl, q⟩
  | brk =>
    obtain ⟨_, _, _, q⟩ := hs
    exact q.elim
  | cont =>
    obtain ⟨_, _, _, q⟩ := hs
    exact q.elim
end
section
variable {X : Cx} {k : Nat} {ps : List Str} {sp : Sp} {x : Str} {p pos : Pos} {e : Expr} {es : List Expr} {t : TA}
theorem pe_dT (D : DefT X.prog X.w X.K X.mg X.base k x ps sp) (hr : RmT k X.A) (hx : Passes CX0 X (fun _ _ _ => False)) (ha : PA X (e :: es) t) (hg : Gl X x := by rfl)
    (hdb : (x == ("__debug__" : Str)) = false := by decide)
    (he : starEach (e :: es) X.env = (false, eval e X.env) :: starEach es X.env := by rfl)
    (hpl : (backTo pos (starEach es X.env)).any (·.1) = false := by rfl) : PE X (.Call (.Name x p) (e :: es) [] pos) (tD sp (fun _ _ _ => False) t) := by
  obtain ⟨f, fd, F, hm, hk, hb⟩ := D
  constructor
  intro pins s σ H Q I h
  refine wpAny_Call_Name_kw (ld_glob I hg hm ?_ hdb)
  refine PySem.W.callWith_K (h₀ := X.base) I.ok.mod.kin hk ?_ he hpl
  refine thn (ha.run pos pins s σ H _ I h) fun us s1 ⟨vs, H1, I1, r, q⟩ => ⟨I1.kIn, ?_⟩
  have nl : (us ++ []).length = ps.length := by
    rw [List.append_nil, ← r.length]
    exact F.arity q
  have bd := hb s1 us I1.kIn nl
  rw [List.append_nil] at bd
  refine wpAny_call (codeAny_mono (F.runs hr I1.env0 bd r q) ?_)
  intro res s' hq
  cases res with
  | error e => exact hx pins σ H1 s1 e s' I1 hq
  | ok fl =>
    cases fl with
    | ret u => exact I1.after hq
    | next => exact hq.elim
    | brk => exact hq.elim
    | cont => exact hq.elim
end
end MM

set_option Elab.async false
set_option maxRecDepth 100000
set_option maxHeartbeats 2000000
set_option linter.all false
namespace PySem
namespace HandSPX
/-! KeyError as a base: its __new__ is LookupError's -/
theorem bs_KeyError : Bs "KeyError" "LookupError.__new__" "KeyError.__init__" [.type "KeyError", .type "LookupError", .type "Exception", .type "BaseException", .type "object"] :=
  ⟨⟨⟨_, _, _, PySem.F.excBase_LookupError, by decide +kernel⟩, by decide +kernel, by decide +kernel⟩, by decide +kernel, PyProof.Rows.excClass_KeyError.notStar,
    PyProof.Rows.excClass_KeyError.init.plain, PyProof.Rows.excClass_KeyError.initEntry, PyProof.Rows.excClass_KeyError.initSplit, PyProof.Rows.excClass_KeyError.initKind,
    PyProof.Rows.excClass_KeyError.initSig⟩
theorem store_KeyError : StoreFacts "KeyError" [.type "KeyError", .type "LookupError", .type "Exception", .type "BaseException", .type "object"] "object.__setattr__" "object" where
  mro := by kernel_rfl
  slot := .of (owner := "object") (n := "__setattr__") (by rw [typeLookup_type, builtinLookup_eq_fast]; kernel_rfl) (by decide +kernel) (by decide +kernel) (by decide +kernel)
    (by first | exact .inl (by decide +kernel) | exact .inr (by decide +kernel)) (by rw [isSubtype_type]; kernel_rfl)
  entry := PySem.F.store_IndexError.entry
  kind := by decide +kernel
  split := by decide +kernel
  hasOwner := by decide +kernel
  args := fun a b c => by unfold argsOk; kernel_rfl
  passes := fun self => by kernel_rfl
end HandSPX
end PySem
namespace MM
open PySem PySem.Spec PyProof.Rows L2
/-! z * n of a text -/
def rRepS : V → V → Hp → VK → Prop := fun x y H Q => ∃ (z : Str) (n : Int), x = .str z ∧ y = .int n ∧ 1 ≤ n ∧ n ≤ 1000 ∧ 1 ≤ z.length ∧ z.length ≤ 1000 ∧ ∀ t : Str, t.length ≤ 1000000 → Q (.str t) H
theorem foldl_size (l : List (Array Nat)) (acc : Array Nat) : (l.foldl (· ++ ·) acc).size = acc.size + (l.map (·.size)).sum := by
  induction l generalizing acc with
  | nil => simp
  | cons a r ih =>
    rw [List.foldl_cons, ih, Array.size_append, List.map_cons, List.sum_cons]
    omega
theorem op_repS {X : Cx} : OpR X (binaryOp .Mult) rRepS := by
  intro pins s σ H x y v u Q I rx ry h
  obtain ⟨z, n, rfl, rfl, n1, n2, z1, z2, q⟩ := h
  obtain ⟨t, rfl⟩ := rx
  obtain ⟨t', rfl⟩ := ry
  have small : z.length * n.toNat ≤ 1000 * 1000 := Nat.mul_le_mul z2 (by omega)
  refine PySem.P.mul_str ?_ (fun _ _ => ?_) (fun _ _ => ?_) ?_
  · rw [decide_eq_false (by omega), decide_eq_false (by omega)]
    rfl
  · have e : ((n.toNat : Nat) : Int) = n := Int.toNat_of_nonneg (by omega)
    have sm : (z.length : Int) * n ≤ 2 ^ 63 - 1 := by
      rw [← e, ← Int.natCast_mul]
      omega
    have := Int.le_ediv_of_mul_le (by omega) sm
    omega
  · show decide (_ > sizeLine) = false
    refine decide_eq_false ?_
    rw [sizeLine_eq]
    omega
  · rw [if_neg (by omega)]
    split
    · exact ⟨.str z, H, I, ⟨t, rfl⟩, q z (by omega)⟩
    · have len : (List.foldl (· ++ ·) #[] (List.replicate n.toNat z.cps)).size = z.length * n.toNat := by
        rw [foldl_size, List.map_replicate, List.sum_replicate_nat]
        show 0 + n.toNat * z.cps.size = z.cps.size * n.toNat
        rw [Nat.mul_comm, Nat.zero_add]
      refine ⟨?_, .str _, H, I.tok _, ⟨_, rfl⟩, q _ ?_⟩
      · show (List.foldl (· ++ ·) #[] (List.replicate n.toNat z.cps)).size ≤ sizeLine
        rw [len, sizeLine_eq]
        omega
      · show (List.foldl (· ++ ·) #[] (List.replicate n.toNat z.cps)).size ≤ 1000000
        rw [len]
        omega
/-! repr of a dict of texts and tuples of ints -/
/-- a tuple of ints -/
def TupI (K : PySem.W.Frag) (H : Hp) (v : V) (ns : List Int) : Prop := ∃ a, v = .ref a ∧ SqT K H a (ns.map V.int)
section
variable {X : Cx} {pins : List (Addr × Obj)} {σ : L2.St} {H : Hp} {s : Shared}
theorem reads_ints {h : Heap} : ∀ (ns : List Int) (us : List Value), Vals (ns.map V.int) us → ReadsAll h us (ns.map PyData.int) []
  | [], _, r => by
    cases r
    exact .nil
  | n :: r, _, q => by
    cases q with
    | cons r1 r2 =>
      obtain ⟨t, rfl⟩ := r1
      exact ReadsAll.cons (Reads.int n t) (reads_ints r _ r2)
theorem reads_tupI (I : Inv X pins σ H s) {v : V} {u : Value} {ns : List Int} (h : TupI X.K H v ns) (r : RelV v u) : Reads s.heap u (.tuple (ns.map PyData.int)) [] := by
  obtain ⟨a, rfl, S⟩ := h
  cases r
  obtain ⟨its, rv, ⟨o, ho, hc, n, hd⟩, _⟩ := I.tuple S
  exact Reads.tuple ho hc hd (reads_ints ns its (by simpa using rv))
/-- the pairs of the dict: texts, tuples of ints -/
inductive DkI (K : PySem.W.Frag) (H : Hp) : List (Key × V) → List (Str × List Int) → Prop
  | nil : DkI K H [] []
  | cons {k : Str} {v : V} {ns : List Int} {r : List (Key × V)} {q : List (Str × List Int)} (h : TupI K H v ns) (t : DkI K H r q) : DkI K H ((.inr k, v) :: r) ((k, ns) :: q)
def dkD (q : List (Str × List Int)) : PyData := .dict (q.map fun p => (.str p.1, .tuple (p.2.map PyData.int)))
theorem reads_dk (I : Inv X pins σ H s) : ∀ {kvs : List (Key × V)} {q : List (Str × List Int)} {vs : List (Key × Value)} {es : List DictEntry}, DkI X.K H kvs q → KV kvs vs → Pairs (mixKind X.prog X.w) es vs →
    ReadsAll s.heap (es.map (·.key)) (q.map fun p => .str p.1) [] ∧ ReadsAll s.heap (es.map (·.val)) (q.map fun p => .tuple (p.2.map PyData.int)) [] := by
  intro kvs q vs es h
  induction h generalizing vs es with
  | nil =>
    intro r p
    cases r
    cases p
    exact ⟨.nil, .nil⟩
  | @cons k v ns rr qq hv _ ih =>
    intro r p
    cases r with
    | @cons _ kv _ vs' r1 r2 =>
      cases p with
      | @cons e _ es' _ p1 p2 p3 =>
        obtain ⟨e1, e2⟩ := r1
        obtain ⟨i1, i2⟩ := ih r2 p3
        have p1' : keyIs kv.1 e.key = true := p1
        rw [← e1] at p1'
        have ek : ∃ t, e.key = Value.str k t := by
          rcases keyIs_shape p1' with ⟨i, t, z, _⟩ | ⟨x, t, z, ek⟩
          · cases z
          · cases z
            exact ⟨t, ek⟩
        obtain ⟨t, ek⟩ := ek
        refine ⟨?_, ?_⟩
        · show ReadsAll s.heap (e.key :: _) (.str _ :: _) _
          rw [ek]
          exact ReadsAll.cons (Reads.str _ t) i1
        · show ReadsAll s.heap (e.val :: _) (.tuple _ :: _) _
          rw [p2]
          exact ReadsAll.cons (reads_tupI I hv e2) i2
end
def rReprK (K : PySem.W.Frag) : List V → Hp → VK → Prop := fun xs H Q => ∃ (a : Addr) (kvs : List (Key × V)) (q : List (Str × List Int)), xs = [.ref a] ∧ H a = some (.dK kvs) ∧ DkI K H kvs q ∧
  (dkD q).showable = true ∧ (dkD q).depth ≤ 60 ∧ (dkD q).shown.length ≤ sizeLine ∧ Q (.str (dkD q).shown) H
theorem cr_reprK {X : Cx} (hg : X.A.guards = some []) (hu : X.A.units + 66 < cLine) : CallR X (.builtin "repr") (rReprK X.K) := by
  intro pins s σ H xs us Q I r h
  obtain ⟨a, kvs, q, rfl, ha, hk, hw, hdp, hz, hq⟩ := h
  obtain ⟨u, rfl, ru⟩ := vals1 r
  cases ru
  obtain ⟨_, ns, vs, kv, o, es, ep, ho, hx, hd, _, hp, _⟩ := (show ObjOk X.prog X.w H s.heap a (.dK kvs) from I.hok a _ ha)
  obtain ⟨r1, r2⟩ := reads_dk I hk kv hp
  have rd : Reads s.heap (.ref a) (dkD q) (a :: [] ++ []) := Reads.dict ho hx.1 hd (by rw [List.map_map]; exact r1) (by rw [List.map_map]; exact r2)
  refine repr_of_reads' rd hw (fun _ => ?_) hg (by omega) (fun _ _ e => e) (fun h' z tk hk => ⟨.str _, H, I.kept hk, ⟨_, rfl⟩, hq⟩) hz
  intro z
  have e : sysModules = a := by simpa using z
  rw [← e] at ns
  simp at ns
/-- repr of data, or of such a dict -/
def rReprX (K : PySem.W.Frag) : List V → Hp → VK → Prop := fun xs H Q => rRepr K xs H Q ∨ rReprK K xs H Q
theorem cr_reprX {X : Cx} (hg : X.A.guards = some []) (hu : X.A.units + 66 < cLine) : CallR X (.builtin "repr") (rReprX X.K) := by
  intro pins s σ H xs us Q I r h
  rcases h with h | h
  · exact cr_repr hg hu pins s σ H xs us Q I r h
  · exact cr_reprK hg hu pins s σ H xs us Q I r h
end MM

set_option Elab.async false
set_option linter.all false
set_option maxRecDepth 100000
set_option maxHeartbeats 2000000
/-! set(l) of a list of ints -/
namespace MM
open PySem PySem.Spec PyProof.Rows L2
theorem firstMet_nodup (val : Nat → Int) : ∀ i, (firstMet val i).Nodup
  | 0 => by
    rw [firstMet_zero]
    exact List.nodup_nil
  | i + 1 => by
    have ih := firstMet_nodup val i
    rw [firstMet_succ]
    unfold step_dedup
    split
    · exact ih
    · rename_i h
      rw [List.nodup_append]
      refine ⟨ih, by simp, fun a ha b hb z => h ?_⟩
      rw [List.mem_singleton] at hb
      subst hb z
      exact List.any_eq_true.mpr ⟨_, ha, beq_self_eq_true _⟩
theorem map_getD (ns : List Int) : (List.range ns.length).map (fun i => ns.getD i 0) = ns := by
  refine List.ext_getElem (by simp) fun i h1 h2 => ?_
  rw [List.getElem_map, List.getElem_range, List.getD, List.getElem?_eq_getElem h2]
  rfl
theorem any_mem (ns : List Int) (k : Int) : ns.any (· == k) = decide (k ∈ ns) := by
  rw [Bool.eq_iff_iff, List.any_eq_true, decide_eq_true_eq]
  exact ⟨fun ⟨x, hx, e⟩ => by rw [← beq_iff_eq.mp e]; exact hx, fun h => ⟨k, h, beq_self_eq_true _⟩⟩
def rSetL (K : PySem.W.Frag) : List V → Hp → VK → Prop := fun xs H Q => ∃ (p : Addr) (ns : List Int), xs = [.ref p] ∧ SqL K H p (ns.map V.int) ∧ ns.length ≤ 4000 ∧
  ∀ t n, H t = none → (n = ns.length ↔ ns.Nodup) → n ≤ ns.length → Q (.ref t) (upd H t (.set (fun j => decide (j ∈ ns)) n))
theorem cr_setL {X : Cx} (hc : X.calm = true) : CallR X (.type "set") (rSetL X.K) := by
  intro pins s σ H xs us Q I r h
  obtain ⟨p, ns, rfl, hp, hl, q⟩ := h
  obtain ⟨u, rfl, ru⟩ := vals1 r
  cases ru
  obtain ⟨its, rv, ht, hz⟩ := I.list hp
  have ia : IntsAre its ns := ints_of rv
  have sz : its.toArray.size = ns.length := by
    have := IntsAre.length ia
    simpa using this
  refine call_set_list (prog := X.prog) (ns := ns) (I.ok.hd hc) ht.isList (by simpa using ia) (by rw [sz]; show ns.length + 1 < 4096; omega) fun h' tk R keep => ?_
  rw [sz] at R
  have eS : (fun k' => (firstMet (fun i => ns.getD i 0) ns.length).any (· == k')) = fun j => decide (j ∈ ns) := by
    funext k
    rw [firstMet_any, map_getD, any_mem]
  have cnt : (firstMet (fun i => ns.getD i 0) ns.length).length = ns.length ↔ ns.Nodup := by
    refine count_keys (firstMet_nodup _ _) fun k => ?_
    have := congrFun eS k
    have this : (firstMet (fun i => ns.getD i 0) ns.length).any (· == k) = decide (k ∈ ns) := this
    rw [any_mem] at this
    exact (decide_eq_decide.mp this).symm
  rw [eS] at R
  refine ⟨.ref _, _, I.laid (t' := tk) (o := .set (fun j => decide (j ∈ ns)) (firstMet (fun i => ns.getD i 0) ns.length).length) (fun b o e => keep b o (Heap.lt_size e) e) (Nat.le_refl _) ?_, rfl,
    q _ _ (I.hok.fresh (Nat.le_refl _)) cnt (firstMet_length_le _ _)⟩
  exact R
theorem ite_mono {M X1 X2 Y1 Y2 : Prop} {b : Bool} (f : M → X1 → X2) (g : M → Y1 → Y2) : M → (if b = true then X1 else Y1) → if b = true then X2 else Y2 := by
  intro m h
  cases b with
  | true => exact f m h
  | false => exact g m h
theorem or_mono {M X1 X2 Y1 Y2 : Prop} (f : M → X1 → X2) (g : M → Y1 → Y2) : M → X1 ∨ Y1 → X2 ∨ Y2 := fun m h => h.imp (f m) (g m)
def rJn (K : PySem.W.Frag) : V → List V → Hp → VK → Prop := fun x xs H Q => ∃ a p, ∃ ys : List Str, x = .str a ∧ xs = [.ref p] ∧ (SqL K H p (ys.map V.str) ∨ SqT K H p (ys.map V.str)) ∧
  (ys.map (·.length)).sum + ys.length * a.length ≤ 16777216 ∧ Q (.str (Txt.join a ys)) H
end MM

set_option Elab.async false
set_option linter.all false
set_option maxRecDepth 100000
set_option maxHeartbeats 4000000
/-! tuple * 1, and tuple * int from 1 on -/
namespace MM
open PySem PySem.Spec PyProof.Rows L2
theorem tuple_mul1 (l : Addr) (items : Array Value) (n : Nat) (dd : Option Addr) (sl : Array (Option Value)) (u : Tok) :
    Meets (Builtin.«tuple.__mul__» ⟨[.ref l, .int 1 u], []⟩) (fun _ R s => s.heap.get? l = some { cls := .type "tuple", dict := dd, data := .seq items n, slots := sl } ∧
      R (.ok (.ret (Value.ref l))) s) :=
  .of_wp fun prog w A R s h => by
    obtain ⟨hp, g, d, tk, os⟩ := s
    obtain ⟨hl, h⟩ := h
    have f1 := AutoSeq1.idx_int
    have c0 : (decide ((1 : Int) < -(2 ^ 63)) || decide ((1 : Int) ≥ 2 ^ 63)) = false := by decide
    have c1 : (items.isEmpty || (1 : Int) == 1) = true := by cases items.isEmpty <;> rfl
    wp_walk using wpAny_loadPart' hl
    repeat (first
      | (refine wpAny_ite_false (decide_eq_false (by rw [c0]; exact Bool.false_ne_true)) ?_; wp_walk using wpAny_loadPart' hl)
      | (refine wpAny_ite_true (decide_eq_true c1) ?_; wp_walk using wpAny_loadPart' hl))
    exact ⟨_, rfl, h⟩
def rRepV (K : PySem.W.Frag) : R2 := fun x y H Q => ∃ l k xs, x = .ref l ∧ y = .int k ∧ SqT K H l xs ∧ xs ≠ [] ∧ 1 ≤ k ∧ k ≤ 1000 ∧ xs.length ≤ 1000 ∧ ∀ H' p, Same H H' → SqT K H' p (List.replicate k.toNat xs).flatten → Q (.ref p) H'
theorem op_repV {X : Cx} : OpR X (binaryOp .Mult) (rRepV X.K) := by
  intro pins s σ H x y v u Q I rx ry h
  obtain ⟨l, k, xs, rfl, rfl, hT, hne, h1, h2, hz, q⟩ := h
  by_cases k1 : k = 1
  · subst k1
    cases rx
    obtain ⟨t, rfl⟩ := ry
    obtain ⟨its, r, ⟨⟨cls, dd, data, sl⟩, ho, hc, n, hd⟩, hs⟩ := I.tuple hT
    simp only at hc hd
    subst hc hd
    refine wpAny_binaryOp_repeat_ref (T := "tuple") (U := "int") (by decide) ⟨_, ho, rfl⟩ (fun s' => typeIs_int s' 1 t) noFill_tuple_mul F.fills_int_mul F.slot_int_rmul repeat_tuple F.slot_int_index.lookup
      (call_meets F.slot_int_rmul (typeIs_int s 1 t) F.entry_int_rmul (F.args_int_rmul_2 _ _) (int_rmul_tuple 1 t l its.toArray n dd sl)
        ⟨ho, rfl, ⟨_, ho, rfl⟩, call_meets F.slot_tuple_mul ⟨_, ho, rfl⟩ F.entry_tuple_mul (F.args_tuple_mul_2 _ _) (tuple_mul1 l its.toArray n dd sl t) ⟨ho, ?_⟩⟩)
    refine ⟨.ref l, H, I, rfl, q H l (Same.refl H) ?_⟩
    rw [show (List.replicate (1 : Int).toNat xs).flatten = xs by simp]
    exact hT
  · exact op_repT pins s σ H _ _ v u Q I rx ry ⟨l, k, xs, rfl, rfl, hT, hne, by omega, h2, hz, fun p np => q _ p (same_new np) (.inl (.inl upd_same))⟩
end MM

set_option Elab.async false
set_option linter.all false
set_option maxRecDepth 100000
set_option maxHeartbeats 2000000
namespace K85
open PySem PySem.Spec PyProof.Rows L2 MM
/-! own words for the readings: a step, its side -/
local macro_rules | `(tactic| walk_at "side") => `(tactic| first
  | omega
  | exact ⟨by omega, by omega⟩
  | exact Or.inl ⟨by omega, by omega⟩
  | exact Or.inr ⟨by omega, by omega⟩
  | (show CPw _ _; decide +kernel)
  | (show (0 : Int) < _; decide +kernel)
  | (show CDivW _ _; first | assumption | exact ⟨by decide, by decide +kernel⟩))
local macro_rules | `(tactic| walk_at "here") => `(tactic| first
  | assumption
  | exact upd_same
  | exact Or.inl (Or.inl upd_same)
  | exact Or.inl upd_same)
local macro_rules | `(tactic| walk_at "one") => `(tactic| first
  | refine ⟨_, rfl, ?_⟩
  | refine Or.inl ⟨_, rfl, ?_⟩
  | refine Or.inr ⟨_, rfl, ?_⟩
  | refine ⟨_, _, rfl, rfl, (by walk_at "side"), ?_⟩
  | refine ⟨_, _, rfl, rfl, ?_⟩
  | refine ⟨_, _, rfl, Or.inl (by walk_at "here"), ?_⟩
  | refine ⟨_, _, rfl, Or.inr (by walk_at "here"), ?_⟩
  | refine ⟨_, _, rfl, (by walk_at "here"), ?_⟩
  | refine ⟨_, _, _, _, rfl, rfl, (by walk_at "here"), rfl, ?_⟩
  | refine ⟨_, _, rfl, ?_⟩
  | refine ifT (by rfl) ?_
  | refine ifF (by rfl) ?_
  | refine ifT (decide_eq_true (by omega)) ?_
  | refine ifF (decide_eq_false (by omega)) ?_)
local macro_rules | `(tactic| walk_at "st") => `(tactic| repeat (walk_at "one"))

structure Tx (K : PySem.W.Frag) (mg : Str → Option Value) : Prop where
  t_is_whole : At K mg "is_whole" sIsWhole
  t_is_integer : At K mg "is_integer" sIsInteger
  t_is_between : At K mg "is_between" sIsBetween
  t_need_between : At K mg "need_between" sNeedBetween
  t_need_places : At K mg "need_places" sNeedPlaces
  t_need_rings : At K mg "_need_rings" sNeedRings
  t_move_of_cycles : At K mg "move_of_cycles" sMoveOfCycles
  t_need_text : At K mg "_need_text" sNeedText
  t_is_at : At K mg "_is_at" sIsAt
  t_behind : At K mg "_behind" sBehind
  t_is_digit_at : At K mg "_is_digit_at" sIsDigitAt
  t_read_plain : At K mg "_read_plain" sReadPlain
  t_read_less : At K mg "_read_less" sReadLess
  t_read_ring : At K mg "_read_ring" sReadRing
  t_read_rings : At K mg "_read_rings" sReadRings
  t_move_of : At K mg "_move_of" sMoveOf
  t_read_move : At K mg "read_move" sReadMove
  t_read_signed : At K mg "_read_signed" sReadSigned
  t_read_row : At K mg "read_row" sReadRow
  t_read_term : At K mg "_read_term" sReadTerm
  t_read_terms : At K mg "_read_terms" sReadTerms
  t_read_kinds : At K mg "read_kinds" sReadKinds
  t_law_bag : At K mg "_law_bag" sBagL
  t_law_grab : At K mg "_law_grab" sGrabL
  t_law_one_of : At K mg "_law_one_of" sOneOfL
  t_law_cycles : At K mg "_law_cycles" sCyclesL
  t_law_move_drawn : At K mg "_law_move_drawn" sMoveDrawnL
  t_law_figures : At K mg "_law_figures" sFiguresL
  t_law_cycles_from : At K mg "_law_cycles_from" sCyclesFromL
  t_law_move_of : At K mg "_law_move_of" sMoveOfL
  t_law_move_text : At K mg "_law_move_text" sMoveTextL
  t_law_move_read : At K mg "_law_move_read" sMoveReadL
  t_law_near_text : At K mg "_law_near_text" sNearTextL
  t_law_kinds_text : At K mg "_law_kinds_text" sKindsTextL
  t_law_met : At K mg "_law_met" sMetL
  t_law_row_read : At K mg "_law_row_read" sRowReadL
  t_law_term_from : At K mg "_law_term_from" sTermFromL
  t_law_kinds_read : At K mg "_law_kinds_read" sKindsReadL
  t_law_moves_right : At K mg "_law_moves_right" sMovesRightL
  t_law_number : At K mg "_law_number" sNumberL
  t_law_rows_right : At K mg "_law_rows_right" sRowsRightL
  t_law_kinds_right : At K mg "_law_kinds_right" sKindsRightL
  t_law : At K mg "law" sLaw
  f_IndexError : mg "IndexError" = none
  f_abs : mg "abs" = none
  f_all : mg "all" = none
  f_bool : mg "bool" = none
  f_enumerate : mg "enumerate" = none
  f_int : mg "int" = none
  f_isinstance : mg "isinstance" = none
  f_len : mg "len" = none
  f_list : mg "list" = none
  f_max : mg "max" = none
  f_min : mg "min" = none
  f_range : mg "range" = none
  f_set : mg "set" = none
  f_str : mg "str" = none
  f_sum : mg "sum" = none
  f_tuple : mg "tuple" = none
  c_TOO_LONG : ∃ u, mg "_TOO_LONG" = some u ∧ RelV (.int (10 ^ 60)) u
  c_MAX_PLACES : ∃ u, mg "MAX_PLACES" = some u ∧ RelV (.int (24)) u
  c_MOST_SIGNS : ∃ u, mg "MOST_SIGNS" = some u ∧ RelV (.int (3000)) u
  c_MOST_MEMBERS : ∃ u, mg "MOST_MEMBERS" = some u ∧ RelV (.int (60)) u
  c_DIGITS : ∃ u, mg "_DIGITS" = some u ∧ RelV (.str "0123456789") u
  c_MOST_DIGITS : ∃ u, mg "_MOST_DIGITS" = some u ∧ RelV (.int (60)) u

section
variable {P : Program} {w : World} {K : PySem.W.Frag} {mg : Str → Option Value} {base : Heap}
/-- a bag of draws -/
def BagAt (H : Hp) (p : Addr) : Prop := ∃ g m c : Int, H p = some (.lst [.int g, .int m, .int c])
def spBag (K : PySem.W.Frag) : Sp := fun vs H Q _ => ∃ (a : Addr) (n : Nat) (ns : List Int), vs = [.ref a, .int n] ∧ SqL K H a (ns.map V.int) ∧ n ≤ 100 ∧
  ∀ (H' : Hp) (p : Addr), Same H H' → H p = none → BagAt H' p → Q (.ref p) H'
theorem scBagL : FnScope ["_law_script", "_law_spot", "_law_cell", "_law_great", "_law_mixed"] ["_law_script", "_law_spot"] (defScope sBagL) :=
  ⟨rfl, rfl, rfl, by decide +kernel, rfl, by decide +kernel, by decide +kernel⟩
theorem dBagL (T : Tx K mg) : Def P w K mg base CX0 1 "_law_bag" ["_law_script", "_law_spot"] (spBag K) := by
  refine T.t_law_bag.def_ (N := ["_law_script", "_law_spot", "_law_cell", "_law_great", "_law_mixed"]) scBagL (fun _ _ _ _ _ _ us hl => match us, hl with | [_, _], _ => rfl) ?_ ?_
  · intro vs H Q E h
    obtain ⟨a, n, ns, rfl, _⟩ := h
    rfl
  · intro f cd A out s H vs Q E hr h
    obtain ⟨a, n, ns, rfl, hS, hn, q⟩ := h
    refine ⟨_, (pss_cons (ps_set (i := 2) scBagL.nd rfl (Or.inl rfl) (pe_ifExp (pt_cmpR op_lt (pv 1) (pe_callB call_len_seq rfl T.f_len (by decide +kernel) (pa_cons (pv 0) pa_nil)) (nomark _)) (pe_ix ix_list (pv 0) (pv 1) (fun _ _ => rfl)) (pe_op op_add (pe_op op_add (pe_callB (cr_sum rfl) rfl T.f_sum (by decide +kernel) (pa_cons (pe_slice sl_list (pv 0) po_none (po_some pe_int)) pa_nil)) (pe_op op_mul pe_int (pv 1))) pe_int)))
      (pss_cons (ps_set (i := 3) scBagL.nd rfl (Or.inl rfl) (pe_op op_mod (pe_callTy call_int1 rfl T.f_int (by decide +kernel) (pa_cons (pe_callB call_abs rfl T.f_abs (by decide +kernel) (pa_cons (pv 2) pa_nil)) pa_nil)) (pe_op op_pw (pe_op op_pw pe_int pe_int) pe_int)))
      (pss_cons (ps_set (i := 4) scBagL.nd rfl (Or.inl rfl) (pe_op op_add (pe_op op_add (pe_op op_add (pe_op op_mul (pe_op op_mod (pe_callTy call_int1 rfl T.f_int (by decide +kernel) (pa_cons (pv 3) pa_nil)) pe_int) pe_int) (pe_op op_mul pe_int (pv 1))) (pe_op op_mul pe_int (pe_callTy call_int1 rfl T.f_int (by decide +kernel) (pa_cons (pe_cmpR op_lt (pv 2) pe_int (nomark _)) pa_nil)))) pe_int))
      (pss_one (ps_ret (pe_lst (pa_cons (pe_callB (call_max2 rfl) rfl T.f_max (by decide +kernel) (pa_cons pe_int (pa_cons (pe_op op_sub (pv 3) (pe_op op_pw pe_int pe_int)) pa_nil))) (pa_cons (pe_op op_mod (pe_callTy call_int1 rfl T.f_int (by decide +kernel) (pa_cons (pv 4) pa_nil)) pe_int) (pa_cons pe_int pa_nil))))))))), ?_⟩
    -- behind the cell: whatever it is
    have fin : ∀ (H1 : Hp) (u v : Int), Same H H1 → ∀ p, H1 p = none → Q (.ref p) (upd H1 p (.lst [.int u, .int v, .int 0])) := by
      intro H1 u v sm p hp
      refine q _ p ?_ (sm.free hp) ⟨u, v, 0, upd_same⟩
      intro b o e
      rw [upd_ne (ne_of_none (sm b o e) hp)]
      exact sm b o e
    walk_at "st"
    refine ite2 (fun c => ?_) (fun c => ?_)
    · have lt : n < ns.length := by
        have := of_decide_eq_true c
        rw [List.length_map] at this
        omega
      refine ⟨_, rfl, _, rfl, a, _, _, _, rfl, rfl, hS, atI_cell lt, ?_⟩
      walk_at "st"
      exact ⟨by show 3 ≤ sizeLine; decide, fin H _ _ (Same.refl H)⟩
    · walk_at "st"
      intro p hp
      have sm : Same H (upd H p (.lst (cutV (ns.map V.int) none (some 1)))) := by
        intro b o e
        rw [upd_ne (ne_of_none e hp)]
        exact e
      have ec : cutV (ns.map V.int) none (some 1) = (ns.take 1).map V.int := by
        unfold cutV
        rw [HT.sIx_none, show HT.sIx (ns.map V.int).length (ns.map V.int).length (some 1) = min 1 (ns.map V.int).length from HT.sIx_nat _ _ 1, List.map_take, List.drop_zero, Nat.sub_zero]
        cases ns with
        | nil => rfl
        | cons x r => simp
      refine ⟨_, ns.take 1, rfl, ?_, ?_⟩
      · rw [← ec]
        exact .inl (.inl upd_same)
      walk_at "st"
      exact ⟨by show 3 ≤ sizeLine; decide, fin _ _ _ sm⟩
def spGrab : Sp := fun vs H Q _ => ∃ (p : Addr) (t g m c : Int), vs = [.ref p, .int t] ∧ H p = some (.lst [.int g, .int m, .int c]) ∧ CDivW 0 t ∧
  ∀ r g' m' c' : Int, 0 ≤ r → r < t → Q (.int r) (upd H p (.lst [.int g', .int m', .int c']))
theorem grab_out {H : Hp} {p : Addr} {t r : Int} {xs : List V} {Q : VK} (q : ∀ r g' m' c' : Int, 0 ≤ r → r < t → Q (.int r) (upd H p (.lst [.int g', .int m', .int c'])))
    (ht : 0 < t) (z : Int) (e : r = z % t) (ex : ∃ g' m' c', xs = [V.int g', V.int m', V.int c']) : Q (.int r) (upd H p (.lst xs)) := by
  obtain ⟨g', m', c', rfl⟩ := ex
  rw [e]
  exact q _ _ _ _ (Int.emod_nonneg _ (by omega)) (Int.emod_lt_of_pos _ ht)
theorem scGrabL : FnScope ["_law_bag_here", "_law_total", "_law_found", "_law_one", "_law_two"] ["_law_bag_here", "_law_total"] (defScope sGrabL) :=
  ⟨rfl, rfl, rfl, by decide +kernel, rfl, by decide +kernel, by decide +kernel⟩
theorem dGrabL (T : Tx K mg) : Def P w K mg base CX0 1 "_law_grab" ["_law_bag_here", "_law_total"] spGrab := by
  refine T.t_law_grab.def_ (N := ["_law_bag_here", "_law_total", "_law_found", "_law_one", "_law_two"]) scGrabL (fun _ _ _ _ _ _ us hl => match us, hl with | [_, _], _ => rfl) ?_ ?_
  · intro vs H Q E h
    obtain ⟨p, t, g, m, c, rfl, _⟩ := h
    rfl
  · intro f cd A out s H vs Q E hr h
    obtain ⟨p, t, g, m, c, rfl, hp, ht, q⟩ := h
    have ht0 : 0 < t := ht.1
    have hS : SqL K H p _ := .inl (.inl hp)
    have hd : ∀ i, CDivW i t := fun _ => ht
    refine ⟨_, (pss_cons (ps_if (pt_cmpR op_gt (pe_ix ix_list (pv 0) pe_int (fun _ _ => rfl)) pe_int (nomark _)) (pss_cons (ps_set (i := 2) scGrabL.nd rfl (Or.inl rfl) (pe_op op_mod (pe_callTy call_int1 rfl T.f_int (by decide +kernel) (pa_cons (pe_ix ix_list (pv 0) pe_int (fun _ _ => rfl)) pa_nil)) (pv 1)))
        (pss_cons (ps_asg (pe_op op_fdivW (pe_ix ix_list (pv 0) pe_int (fun _ _ => rfl)) (pv 1)) (pg_sub (pv 0) pe_int set_list))
        (pss_one (ps_ret (pv 2))))) pss_nil)
      (pss_cons (ps_asg (pe_op op_add (pe_ix ix_list (pv 0) pe_int (fun _ _ => rfl)) pe_int) (pg_sub (pv 0) pe_int set_list))
      (pss_cons (ps_set (i := 3) scGrabL.nd rfl (Or.inl rfl) (pe_op op_mod (pe_callTy call_int1 rfl T.f_int (by decide +kernel) (pa_cons (pe_op op_add (pe_ix ix_list (pv 0) pe_int (fun _ _ => rfl)) (pe_op op_mul pe_int (pe_ix ix_list (pv 0) pe_int (fun _ _ => rfl)))) pa_nil)) pe_int))
      (pss_cons (ps_set (i := 4) scGrabL.nd rfl (Or.inl rfl) (pe_op op_add (pe_op op_mul (pe_op op_mod (pe_callTy call_int1 rfl T.f_int (by decide +kernel) (pa_cons (pe_op op_mul (pv 3) (pv 3)) pa_nil)) pe_int) (pv 3)) (pe_op op_mul pe_int (pe_ix ix_list (pv 0) pe_int (fun _ _ => rfl)))))
      (pss_one (ps_ret (pe_op op_mod (pe_callTy call_int1 rfl T.f_int (by decide +kernel) (pa_cons (pe_op op_fdivW (pe_op op_mod (pe_callTy call_int1 rfl T.f_int (by decide +kernel) (pa_cons (pv 4) pa_nil)) pe_int) pe_int) pa_nil)) (pv 1)))))))), ?_⟩
    walk_at "st"
    refine ite2 (fun c => ?_) (fun c => ?_)
    · walk_at "st"
      refine grab_out q ht0 g rfl ⟨_, _, _, rfl⟩
    · walk_at "st"
      refine grab_out q ht0 _ rfl ⟨_, _, _, rfl⟩
theorem sql_upd {K : PySem.W.Frag} {H : Hp} {p l : Addr} {xs : List V} {o : HO} (h : SqL K H l xs) (ne : l ≠ p) : SqL K (upd H p o) l xs := by
  rcases h with (h | ⟨u, h⟩) | h
  · exact .inl (.inl (by rw [upd_ne ne]; exact h))
  · exact .inl (.inr ⟨u, by rw [upd_ne ne]; exact h⟩)
  · exact .inr h
theorem at_in {xs : List V} {r : Int} (h0 : 0 ≤ r) (h1 : r < xs.length) : ∃ v, v ∈ xs ∧ atI xs r = some v := by
  have lt : r.toNat < xs.length := by omega
  refine ⟨xs[r.toNat], List.getElem_mem lt, ?_⟩
  have e : ((r.toNat : Nat) : Int) = r := by omega
  have q := atI_nat (xs := xs) (j := r.toNat) (List.getElem?_eq_getElem lt)
  rw [e] at q
  exact q
theorem div_small {n : Nat} (h0 : 0 < n) (h : n ≤ 100000) : CDivW 0 (n : Int) := by
  refine wide_div (b := 20) (by omega) ?_ (by decide) (by decide)
  have e : ((n : Int)).natAbs = n := Int.natAbs_natCast n
  rw [e]
  exact Nat.lt_of_le_of_lt h (by decide)
def spOneOf (K : PySem.W.Frag) : Sp := fun vs H Q _ => ∃ (p l : Addr) (g m c : Int) (xs : List V), vs = [.ref p, .ref l] ∧ H p = some (.lst [.int g, .int m, .int c]) ∧ SqL K H l xs ∧
  l ≠ p ∧ 0 < xs.length ∧ xs.length ≤ 1000 ∧ ∀ v g' m' c', v ∈ xs → Q v (upd H p (.lst [.int g', .int m', .int c']))
theorem scOneOfL : FnScope ["_law_bag_here", "_law_items"] ["_law_bag_here", "_law_items"] (defScope sOneOfL) :=
  ⟨rfl, rfl, rfl, by decide +kernel, rfl, by decide +kernel, by decide +kernel⟩
theorem dOneOfL (T : Tx K mg) (DGrabL : Def P w K mg base CX0 1 "_law_grab" ["_law_bag_here", "_law_total"] spGrab) : Def P w K mg base CX0 2 "_law_one_of" ["_law_bag_here", "_law_items"] (spOneOf K) := by
  refine T.t_law_one_of.def_ (N := ["_law_bag_here", "_law_items"]) scOneOfL (fun _ _ _ _ _ _ us hl => match us, hl with | [_, _], _ => rfl) ?_ ?_
  · intro vs H Q E h
    obtain ⟨p, l, g, m, c, xs, rfl, _⟩ := h
    rfl
  · intro f cd A out s H vs Q E hr h
    have hr1 : Rm 1 _ := hr.le (by decide)
    obtain ⟨p, l, g, m, c, xs, rfl, hp, hS, ne, h0, h1, q⟩ := h
    refine ⟨_, (pss_one (ps_ret (pe_ix ix_list (pv 1) (pe_d DGrabL (hr1.le (by decide)) pass0 (pa_cons (pv 0) (pa_cons (pe_callB call_len_seq rfl T.f_len (by decide +kernel) (pa_cons (pv 1) pa_nil)) pa_nil))) (fun _ _ => rfl)))), ?_⟩
    walk_at "st"
    refine ⟨p, _, g, m, c, rfl, hp, div_small h0 (by omega), fun r g' m' c' r0 r1 => ?_⟩
    obtain ⟨v, hv, e⟩ := at_in r0 r1
    exact ⟨_, _, _, v, rfl, rfl, sql_upd hS ne, e, q v g' m' c' hv⟩
end
end K85


set_option Elab.async false
set_option linter.all false
set_option maxRecDepth 100000
set_option maxHeartbeats 2000000
namespace K85
open PySem PySem.Spec PyProof.Rows L2 MM
/-! own words for the readings: a step, its side -/
local macro_rules | `(tactic| walk_at "side") => `(tactic| first
  | omega
  | exact ⟨by omega, by omega⟩
  | exact Or.inl ⟨by omega, by omega⟩
  | exact Or.inr ⟨by omega, by omega⟩
  | (show CPw _ _; decide +kernel)
  | (show (0 : Int) < _; decide +kernel)
  | (show CDivW _ _; first | assumption | exact ⟨by decide, by decide +kernel⟩))
local macro_rules | `(tactic| walk_at "here") => `(tactic| first
  | assumption
  | exact upd_same
  | exact Or.inl (Or.inl upd_same)
  | exact Or.inl upd_same)
local macro_rules | `(tactic| walk_at "one") => `(tactic| first
  | refine ⟨_, rfl, ?_⟩
  | refine Or.inl ⟨_, rfl, ?_⟩
  | refine Or.inr ⟨_, rfl, ?_⟩
  | refine ⟨_, _, rfl, rfl, (by walk_at "side"), ?_⟩
  | refine ⟨_, _, rfl, rfl, ?_⟩
  | refine ⟨_, _, rfl, Or.inl (by walk_at "here"), ?_⟩
  | refine ⟨_, _, rfl, Or.inr (by walk_at "here"), ?_⟩
  | refine ⟨_, _, rfl, (by walk_at "here"), ?_⟩
  | refine ⟨_, _, _, _, rfl, rfl, (by walk_at "here"), rfl, ?_⟩
  | refine ⟨_, _, rfl, ?_⟩
  | refine ifT (by rfl) ?_
  | refine ifF (by rfl) ?_
  | refine ifT (decide_eq_true (by omega)) ?_
  | refine ifF (decide_eq_false (by omega)) ?_)
local macro_rules | `(tactic| walk_at "st") => `(tactic| repeat (walk_at "one"))

section
variable {P : Program} {w : World} {K : PySem.W.Frag} {mg : Str → Option Value} {base : Heap}
def spIsWhole (K : PySem.W.Frag) : Sp := fun vs H Q _ => ∃ x n, vs = [x] ∧ Kd K H x n ∧ Q (.bl (isW x)) H
theorem scIsWhole : FnScope ["value"] ["value"] (defScope sIsWhole) :=
  ⟨rfl, rfl, rfl, by decide +kernel, rfl, by decide +kernel, by decide +kernel⟩
theorem dIsWhole (T : Tx K mg) : Def P w K mg base CX0 1 "is_whole" ["value"] (spIsWhole K) := by
  refine T.t_is_whole.def_ (N := ["value"]) scIsWhole (fun _ _ _ _ _ _ us hl => match us, hl with | [_], _ => rfl) ?_ ?_
  · intro vs H Q E h
    obtain ⟨x, n, rfl, _⟩ := h
    rfl
  · intro f cd A out s H vs Q E hr h
    obtain ⟨x, n, rfl, hk, q⟩ := h
    refine ⟨_, (pss_one (ps_ret (pe_and (pe_callB (cr_is .int) rfl T.f_isinstance (by decide +kernel) (pa_cons (pv 0) (pa_cons (pe_ty .int T.f_int (by decide +kernel)) pa_nil))) (pe_one (pe_not (pe_callB (cr_is .bl) rfl T.f_isinstance (by decide +kernel) (pa_cons (pv 0) (pa_cons (pe_ty .bl T.f_bool (by decide +kernel)) pa_nil)))))))), ?_⟩
    refine ⟨_, rfl, _, _, rfl, hk, _, rfl, ?_⟩
    cases hk
    all_goals walk_at "st"
    all_goals first
      | exact q
      | (refine ⟨_, _, rfl, .int _, ?_⟩; walk_at "st"; exact q)
      | (refine ⟨_, _, rfl, .bl _, ?_⟩; walk_at "st"; exact q)
def isI : V → Bool
  | .int i => decide (-10 ^ 60 < i) && decide (i < 10 ^ 60)
  | _ => false
def spIsInteger (K : PySem.W.Frag) : Sp := fun vs H Q _ => ∃ x n, vs = [x] ∧ Kd K H x n ∧ Q (.bl (isI x)) H
theorem scIsInteger : FnScope ["value"] ["value"] (defScope sIsInteger) :=
  ⟨rfl, rfl, rfl, by decide +kernel, rfl, by decide +kernel, by decide +kernel⟩
theorem dIsInteger (T : Tx K mg) (DIsWhole : Def P w K mg base CX0 1 "is_whole" ["value"] (spIsWhole K)) : Def P w K mg base CX0 2 "is_integer" ["value"] (spIsInteger K) := by
  refine T.t_is_integer.def_ (N := ["value"]) scIsInteger (fun _ _ _ _ _ _ us hl => match us, hl with | [_], _ => rfl) ?_ ?_
  · intro vs H Q E h
    obtain ⟨x, n, rfl, _⟩ := h
    rfl
  · intro f cd A out s H vs Q E hr h
    have hr1 : Rm 1 _ := hr.le (by decide)
    obtain ⟨x, n, rfl, hk, q⟩ := h
    refine ⟨_, (pss_one (ps_ret (pe_and (pe_d DIsWhole (hr1.le (by decide)) pass0 (pa_cons (pv 0) pa_nil)) (pe_one (pe_chain op_lt op_lt (pe_un un_neg (C8.pe_gc rfl T.c_TOO_LONG)) (pv 0) (C8.pe_gc rfl T.c_TOO_LONG)))))), ?_⟩
    refine ⟨_, rfl, _, n, rfl, hk, _, rfl, ?_⟩
    cases hk
    all_goals walk_at "st"
    all_goals first
      | exact q
      | skip
    rename_i i
    refine ite2 (fun c => ?_) (fun c => ?_)
    · walk_at "st"
      have q' : Q (.bl (decide (-10 ^ 60 < i) && decide (i < 10 ^ 60))) H := q
      rw [show decide (-10 ^ 60 < i) = true from c, Bool.true_and] at q'
      exact q'
    · have q' : Q (.bl (decide (-10 ^ 60 < i) && decide (i < 10 ^ 60))) H := q
      rw [show decide (-10 ^ 60 < i) = false from Bool.eq_false_iff.mpr c, Bool.false_and] at q'
      exact q'
def isB (x : V) (l m : Int) : Bool := match x with
  | .int i => decide (l ≤ i) && decide (i ≤ m)
  | _ => false
def spIsBetween (K : PySem.W.Frag) : Sp := fun vs H Q _ => ∃ x n l m, vs = [x, .int l, .int m] ∧ Kd K H x n ∧ Q (.bl (isB x l m)) H
theorem scIsBetween : FnScope ["value", "least", "most"] ["value", "least", "most"] (defScope sIsBetween) :=
  ⟨rfl, rfl, rfl, by decide +kernel, rfl, by decide +kernel, by decide +kernel⟩
theorem dIsBetween (T : Tx K mg) (DIsWhole : Def P w K mg base CX0 1 "is_whole" ["value"] (spIsWhole K)) : Def P w K mg base CX0 2 "is_between" ["value", "least", "most"] (spIsBetween K) := by
  refine T.t_is_between.def_ (N := ["value", "least", "most"]) scIsBetween (fun _ _ _ _ _ _ us hl => match us, hl with | [_, _, _], _ => rfl) ?_ ?_
  · intro vs H Q E h
    obtain ⟨x, n, l, m, rfl, _⟩ := h
    rfl
  · intro f cd A out s H vs Q E hr h
    have hr1 : Rm 1 _ := hr.le (by decide)
    obtain ⟨x, n, l, m, rfl, hk, q⟩ := h
    refine ⟨_, (pss_one (ps_ret (pe_and (pe_d DIsWhole (hr1.le (by decide)) pass0 (pa_cons (pv 0) pa_nil)) (pe_one (pe_chain op_le op_le (pv 1) (pv 0) (pv 2)))))), ?_⟩
    refine ⟨_, rfl, _, n, rfl, hk, _, rfl, ?_⟩
    cases hk
    all_goals walk_at "st"
    all_goals first
      | exact q
      | skip
    rename_i i
    refine ite2 (fun c => ?_) (fun c => ?_)
    · walk_at "st"
      have q' : Q (.bl (decide (l ≤ i) && decide (i ≤ m))) H := q
      rw [show decide (l ≤ i) = true from c, Bool.true_and] at q'
      exact q'
    · have q' : Q (.bl (decide (l ≤ i) && decide (i ≤ m))) H := q
      rw [show decide (l ≤ i) = false from Bool.eq_false_iff.mpr c, Bool.false_and] at q'
      exact q'
def spNeedBetween (K : PySem.W.Frag) : Sp := fun vs H Q _ => ∃ i l m : Int, vs = [.int i, .int l, .int m] ∧ l ≤ i ∧ i ≤ m ∧ Q .non H
theorem scNeedBetween : FnScope ["value", "least", "most"] ["value", "least", "most"] (defScope sNeedBetween) :=
  ⟨rfl, rfl, rfl, by decide +kernel, rfl, by decide +kernel, by decide +kernel⟩
theorem dNeedBetween (T : Tx K mg) (DIsBetween : Def P w K mg base CX0 2 "is_between" ["value", "least", "most"] (spIsBetween K)) : Def P w K mg base CX0 3 "need_between" ["value", "least", "most"] (spNeedBetween K) := by
  refine T.t_need_between.def_ (N := ["value", "least", "most"]) scNeedBetween (fun _ _ _ _ _ _ us hl => match us, hl with | [_, _, _], _ => rfl) ?_ ?_
  · intro vs H Q E h
    obtain ⟨i, l, m, rfl, _⟩ := h
    rfl
  · intro f cd A out s H vs Q E hr h
    have hr1 : Rm 2 _ := hr.le (by decide)
    obtain ⟨i, l, m, rfl, h1, h2, q⟩ := h
    refine ⟨_, (pss_one (ps_if (pt_not (pt_val (pe_d DIsBetween (hr1.le (by decide)) pass0 (pa_cons (pv 0) (pa_cons (pv 1) (pa_cons (pv 2) pa_nil)))))) (pss_one ps_never) pss_nil)), ?_⟩
    refine ⟨_, rfl, _, rfl, _, rfl, _, .int, l, m, rfl, .int i, _, rfl, ?_⟩
    refine ifF ?_ q
    show (!(decide (l ≤ i) && decide (i ≤ m))) = false
    rw [decide_eq_true h1, decide_eq_true h2] <;> rfl
def noDiv (i : Int) : Bool := ((List.range (i - 2).toNat).map fun (k : Nat) => !decide (i % (2 + (k : Int)) = 0)).all id
def isP : V → Bool
  | .int i => decide (2 ≤ i) && decide (i ≤ 99) && noDiv i
  | _ => false
def spIsPrime (K : PySem.W.Frag) : Sp := fun vs H Q _ => ∃ x n, vs = [x] ∧ Kd K H x n ∧ ∀ H', Same H H' → Q (.bl (isP x)) H'
def spNeedPrime (K : PySem.W.Frag) : Sp := fun vs H Q _ => ∃ i, vs = [.int i] ∧ isP (.int i) = true ∧ ∀ H', Same H H' → Q .non H'
/-- a value, and its members if it is a tuple -/
inductive Rv (K : PySem.W.Frag) (H : Hp) : V → Option (List V) → Prop where
  | no {x : V} {n : Kn} (h : Kd K H x n) (ne : n.isa .tup = false) : Rv K H x none
  | yes {a : Addr} {xs : List V} (h : SqT K H a xs) (m : ∀ y, y ∈ xs → ∃ n, Kd K H y n) : Rv K H (.ref a) (some xs)
def rat2 : V → V → Bool
  | .int i, .int j => isI (.int i) && (isI (.int j) && (decide (0 < j) && decide (Nat.gcd i.natAbs j.natAbs = 1)))
  | _, _ => false
def isRat : Option (List V) → Bool
  | some [x, y] => rat2 x y
  | _ => false
def spIsRatio (K : PySem.W.Frag) : Sp := fun vs H Q _ => ∃ x o, vs = [x] ∧ Rv K H x o ∧ Q (.bl (isRat o)) H
end
end K85


set_option Elab.async false
set_option linter.all false
set_option maxRecDepth 100000
set_option maxHeartbeats 2000000
namespace K85
open PySem PySem.Spec PyProof.Rows L2 MM
/-! the classes of errors -/
/-- an own class under ValueError, without __init__ -/
structure Plain (K : PySem.W.Frag) (mg : Str → Option Value) (x : Str) : Prop where
  glo : mg x = some (.ref (ga K x))
  keep : PySem.W.keepIn K (.ref (ga K x)) = true
  row : PySem.W.excIn K (ga K x) veTop "ValueError.__new__" = true
  isE : PySem.W.subIn K (.ref (ga K x)) (.type "BaseException") = some true
  meta_ : PySem.W.typeIn K (.ref (ga K x)) = some (.type "type")
theorem plain_ok {K : PySem.W.Frag} {mg : Str → Option Value} {x : Str} (g : mg x = some (.ref (ga K x))) (h : plainB K x = true) : Plain K mg x := by
  unfold plainB at h
  simp only [Bool.and_eq_true, decide_eq_true_eq] at h
  obtain ⟨⟨⟨a, b⟩, c⟩, d⟩ := h
  exact ⟨g, a, b, c, d⟩
/-- an own class with an __init__ that keeps one field -/
structure Kep (K : PySem.W.Frag) (mg : Str → Option Value) (x f : Str) (B newId initId : String) (top : List Value) (st : Stmt) : Prop where
  glo : mg x = some (.ref (ga K x))
  over : MD.Ov K (ga K x) B newId initId top
  none_ : PySem.W.findIn K (.ref (ga K x)) f = some none
  field : XfC K (ga K x)
  ini : ∃ fI fd, PySem.W.findIn K (.ref (ga K x)) "__init__" = some (some (.ref fI)) ∧ PySem.W.typeIn K (.ref fI) = some (.type "function") ∧
    FunD K "__init__" (x ++ ".__init__") (defArgs st) (defBody st) (defScope st) [] [] fI fd
structure Ex (K : PySem.W.Frag) (mg : Str → Option Value) : Prop where
  mv : Plain K mg "InvalidMove"
  rw : Plain K mg "InvalidRow"
  ks : Plain K mg "InvalidKinds"
  ask : MD.Asks K (ga K "MarkError") "ValueError.__init__"
  mark : mg "MarkError" = some (.ref (ga K "MarkError"))
  ie : mg "IndexError" = none
  par : Kep K mg "ParseError" "index" "ValueError" "ValueError.__new__" "ValueError.__init__" veTop sIniP
  num : Kep K mg "InvalidNumber" "given" "IndexError" "IndexError.__new__" "IndexError.__init__" ieTop sIniN
  exm : ∀ i, i < 4 → ∀ j, j ≤ i → PySem.W.exmOne K (.ref (ga K (cn i))) (.ref (ga K (cn j))) = some (decide (i = j))
theorem scIP : FnScope ["self", "index"] ["self", "index"] (defScope sIniP) :=
  ⟨rfl, rfl, rfl, by decide +kernel, rfl, by decide +kernel, by decide +kernel⟩
theorem scIN : FnScope ["self", "given"] ["self", "given"] (defScope sIniN) :=
  ⟨rfl, rfl, rfl, by decide +kernel, rfl, by decide +kernel, by decide +kernel⟩
theorem vIE (K : PySem.W.Frag) : PySem.W.findCls K (.type "IndexError") (.type "type") "__init__" = some (.val (.builtin "IndexError.__init__")) := by kernel_rfl
theorem bIE : bootBuiltins "IndexError" = some (.type "IndexError") := by decide +kernel
theorem tIE : typeOf (.type "IndexError") = pure (.type "type") := by kernel_rfl
section
variable {P : Program} {w : World} {K : PySem.W.Frag} {mg : Str → Option Value} {base : Heap}
theorem iniP (Y : Ex K mg) {fI : Addr} {fd : FuncData}
    (F : FunD K "__init__" ("ParseError" ++ ".__init__") (defArgs sIniP) (defBody sIniP) (defScope sIniP) [] [] fI fd) :
    FnG P w K mg base CX0 1 fI fd ["self", "index"] (MD.spKeep (ga K "ParseError") "index") := by
  refine FnG.body (N := ["self", "index"]) F scIP ?_ ?_
  · intro vs H Q E h
    obtain ⟨a, y, rfl, _⟩ := h
    rfl
  · intro cd A out s H vs Q E hr h
    obtain ⟨a, y, rfl, ea, q⟩ := h
    refine ⟨_, pss_cons (ps_expr (MD.pe_askC (B := "ValueError") (top := veTop) (initId := "ValueError.__init__") (newId := "ValueError.__new__") Y.ask rfl Y.mark (by decide +kernel) (pa_cons (pv 0) (pa_cons pe_str pa_nil)))) (pss_one (MD.ps_put (B := "ValueError") (newId := "ValueError.__new__") (initId := "ValueError.__init__") (top := veTop) (pv 0) (pv 1))), ?_⟩
    refine ⟨_, rfl, a, _, _, rfl, by decide, Y.par.over, ea, ?_⟩
    refine ⟨_, rfl, _, rfl, a, _, rfl, Y.par.over, Y.par.none_, ea, fun dx n ne => ?_⟩
    exact q dx n ne
theorem iniN (Y : Ex K mg) {fI : Addr} {fd : FuncData}
    (F : FunD K "__init__" ("InvalidNumber" ++ ".__init__") (defArgs sIniN) (defBody sIniN) (defScope sIniN) [] [] fI fd) :
    FnG P w K mg base CX0 1 fI fd ["self", "given"] (MD.spKeep (ga K "InvalidNumber") "given") := by
  refine FnG.body (N := ["self", "given"]) F scIN ?_ ?_
  · intro vs H Q E h
    obtain ⟨a, y, rfl, _⟩ := h
    rfl
  · intro cd A out s H vs Q E hr h
    obtain ⟨a, y, rfl, ea, q⟩ := h
    refine ⟨_, pss_cons (ps_expr (MD.pe_ask (top := ieTop) (initId := "IndexError.__init__") (newId := "IndexError.__new__") rfl Y.ie bIE tIE (by decide +kernel) (vIE K) (by decide +kernel) (pa_cons (pv 0) (pa_cons pe_str pa_nil)))) (pss_one (MD.ps_put (B := "IndexError") (newId := "IndexError.__new__") (initId := "IndexError.__init__") (top := ieTop) (pv 0) (pv 1))), ?_⟩
    refine ⟨_, rfl, a, _, _, rfl, by decide, Y.num.over, ea, ?_⟩
    refine ⟨_, rfl, _, rfl, a, _, rfl, Y.num.over, Y.num.none_, ea, fun dx n ne => ?_⟩
    exact q dx n ne
end
section
variable {X : Cx} {W : WX} {x m : Str} {j : Nat} {p p1 p2 pos : Pos} {e : Expr} {es : List Expr} {ta : TA}
/-- raise X('..') -/
theorem ps_plain (Y : Plain X.K X.mg x) (hc : X.calm = true) (tk : Takes X W) (hg : Gl X x := by rfl)
    (hdb : (x == ("__debug__" : Str)) = false := by decide) :
    PS X (.Raise (some (.Call (.Name x p) [.Constant (.str m) j p2] [] p1)) none pos) (fun _ σ H => W (.ref (ga X.K x)) none σ H) :=
  ps_raise hc tk (pmk_own PySem.F.excBase_ValueError Y.row Y.glo Y.keep (raises_own Y.isE Y.meta_) hg hdb)
/-- raise ParseError(e) -/
theorem ps_parse (Y : Ex X.K X.mg) (hc : X.calm = true) (tk : Takes X W) (hr : Rm 2 X.A)
    (ha : PA X (e :: es) ta) (hg : Gl X "ParseError" := by rfl)
    (he : starEach (e :: es) X.env = (false, eval e X.env) :: starEach es X.env := by rfl)
    (hpl : (backTo p1 (starEach es X.env)).any (·.1) = false := by rfl) :
    PS X (.Raise (some (.Call (.Name "ParseError" p) (e :: es) [] p1)) none pos) (fun _ σ H => ta σ H fun vs H1 => ∃ y, vs = [y] ∧
      ∀ d, H1 d = none → W (.ref (ga X.K "ParseError")) (some d) σ (upd H1 d (.xd [("index", y)]))) := by
  obtain ⟨fI, fd, iC, tI, F⟩ := Y.par.ini
  exact ps_raise hc tk (MD.pmk_made Y.par.over iC tI (iniP (P := X.prog) (w := X.w) (base := X.base) Y F) hr
    (F.bindsN (fun _ _ _ _ _ _ us hl => match us, hl with | [_, _], _ => rfl)) pass0 Y.par.glo ha hg (by decide) he hpl)
/-- raise InvalidNumber(e) -/
theorem ps_num (Y : Ex X.K X.mg) (hc : X.calm = true) (tk : Takes X W) (hr : Rm 2 X.A)
    (ha : PA X (e :: es) ta) (hg : Gl X "InvalidNumber" := by rfl)
    (he : starEach (e :: es) X.env = (false, eval e X.env) :: starEach es X.env := by rfl)
    (hpl : (backTo p1 (starEach es X.env)).any (·.1) = false := by rfl) :
    PS X (.Raise (some (.Call (.Name "InvalidNumber" p) (e :: es) [] p1)) none pos) (fun _ σ H => ta σ H fun vs H1 => ∃ y, vs = [y] ∧
      ∀ d, H1 d = none → W (.ref (ga X.K "InvalidNumber")) (some d) σ (upd H1 d (.xd [("given", y)]))) := by
  obtain ⟨fI, fd, iC, tI, F⟩ := Y.num.ini
  exact ps_raise hc tk (MD.pmk_made Y.num.over iC tI (iniN (P := X.prog) (w := X.w) (base := X.base) Y F) hr
    (F.bindsN (fun _ _ _ _ _ _ us hl => match us, hl with | [_, _], _ => rfl)) pass0 Y.num.glo ha hg (by decide) he hpl)
end
section
variable {P : Program} {w : World} {K : PySem.W.Frag} {mg : Str → Option Value} {base : Heap} {CX : CXT} {j k l : Nat} {x : Str} {ps : List Str}
end
abbrev orS (a b : Sp) : Sp := fun vs H Q E => a vs H Q E ∨ b vs H Q E
theorem def_or {P : Program} {w : World} {K : PySem.W.Frag} {mg : Str → Option Value} {base : Heap} {CX : CXT} {j k l : Nat} {x : Str} {ps : List Str}
    {a b : Sp} (D : Def P w K mg base CX0 j x ps a) (B : Def P w K mg base CX k x ps b) (hj : j ≤ l) (hk : k ≤ l) :
    Def P w K mg base CX l x ps (orS a b) := by
  obtain ⟨f, fd, F, hm, kp, bd, oc, od, sl, lk⟩ := D
  obtain ⟨f', fd', F', hm', kp', bd', oc', od', sl', lk'⟩ := B
  obtain rfl : f = f' := by
    rw [hm] at hm'
    cases hm'
    rfl
  obtain rfl : fd = fd' := by
    rw [lk] at lk'
    cases lk'
    rfl
  refine ⟨f, fd, ⟨?_, ?_⟩, hm, kp, bd, oc, od, sl, lk⟩
  · rintro vs H Q E (h | h)
    · exact F.arity h
    · exact F'.arity h
  · rintro A out s H ar us vs Q E hr e0 hb hv (h | h)
    · refine codeAny_mono (F.runs (hr.le hj) e0 hb hv h) fun r s' q => ?_
      cases r with
      | error e => exact (show False from q).elim
      | ok fl => cases fl <;> exact q
    · exact F'.runs (hr.le hk) e0 hb hv h
end K85

set_option Elab.async false
set_option linter.all false
set_option maxRecDepth 100000
set_option maxHeartbeats 2000000
namespace K85
open PySem PySem.Spec PyProof.Rows L2 MM PySem.NumText
/-! own words for the readings: a step, its side -/
local macro_rules | `(tactic| walk_at "side") => `(tactic| first
  | omega
  | exact ⟨by omega, by omega⟩
  | exact Or.inl ⟨by omega, by omega⟩
  | exact Or.inr ⟨by omega, by omega⟩
  | (show CPw _ _; decide +kernel)
  | (show (0 : Int) < _; decide +kernel)
  | (show CDivW _ _; first | assumption | exact ⟨by decide, by decide +kernel⟩))
local macro_rules | `(tactic| walk_at "here") => `(tactic| first
  | assumption
  | exact upd_same
  | exact Or.inl (Or.inl upd_same)
  | exact Or.inl upd_same)
local macro_rules | `(tactic| walk_at "one") => `(tactic| first
  | refine ⟨_, rfl, ?_⟩
  | refine Or.inl ⟨_, rfl, ?_⟩
  | refine Or.inr ⟨_, rfl, ?_⟩
  | refine ⟨_, _, rfl, rfl, (by walk_at "side"), ?_⟩
  | refine ⟨_, _, rfl, rfl, ?_⟩
  | refine ⟨_, _, rfl, Or.inl (by walk_at "here"), ?_⟩
  | refine ⟨_, _, rfl, Or.inr (by walk_at "here"), ?_⟩
  | refine ⟨_, _, rfl, (by walk_at "here"), ?_⟩
  | refine ⟨_, _, _, _, rfl, rfl, (by walk_at "here"), rfl, ?_⟩
  | refine ⟨_, _, rfl, ?_⟩
  | refine ifT (by rfl) ?_
  | refine ifF (by rfl) ?_
  | refine ifT (decide_eq_true (by omega)) ?_
  | refine ifF (decide_eq_false (by omega)) ?_)
local macro_rules | `(tactic| walk_at "st") => `(tactic| repeat (walk_at "one"))

section
variable {P : Program} {w : World} {K : PySem.W.Frag} {mg : Str → Option Value} {base : Heap}
/-! texts, by their signs -/
abbrev cds (z : Str) : List Nat := z.cps.toList
def isAt (cs : List Nat) (i c : Nat) : Bool := decide (cs[i]? = some c)
def dg (cs : List Nat) (i : Nat) : Bool := match cs[i]? with
  | some c => decide (48 ≤ c) && decide (c ≤ 57)
  | none => false
theorem cut_list (cs : List Nat) (i j : Nat) : (cs.drop (min i cs.length)).take (min j cs.length - min i cs.length) = (cs.drop i).take (j - i) := by
  by_cases h : i ≤ cs.length
  · rw [Nat.min_eq_left h]
    by_cases h2 : j ≤ cs.length
    · rw [Nat.min_eq_left h2]
    · rw [Nat.min_eq_right (by omega), List.take_of_length_le (by rw [List.length_drop]; omega), List.take_of_length_le (by rw [List.length_drop]; omega)]
  · rw [Nat.min_eq_right (by omega : cs.length ≤ i), List.drop_of_length_le (Nat.le_refl _), List.drop_of_length_le (by omega : cs.length ≤ i)]
    simp
theorem cut_nat (z : Str) (i j : Nat) : cutS z (some (i : Int)) (some (j : Int)) = ⟨(((cds z).drop i).take (j - i)).toArray⟩ := by
  unfold cutS
  rw [HT.sIx_nat, HT.sIx_nat, show z.length = (cds z).length from (Array.length_toList).symm, cut_list]
theorem cut_one (z : Str) (i c : Nat) : decide (V.str (cutS z (some (i : Int)) (some ((i : Int) + 1))) = V.str ⟨#[c]⟩) = isAt (cds z) i c := by
  rw [show (i : Int) + 1 = ((i + 1 : Nat) : Int) by omega, cut_nat, show i + 1 - i = 1 by omega]
  unfold isAt
  refine decide_eq_decide.mpr ?_
  generalize cds z = cs
  constructor
  · intro h
    injection h with h
    injection h with h
    have h2 : ((cs.drop i).take 1) = [c] := by
      have := congrArg Array.toList h
      simpa using this
    cases e : cs.drop i with
    | nil =>
      rw [e] at h2
      cases h2
    | cons x r =>
      rw [e] at h2
      have hx : x = c := by simpa using h2
      have := List.getElem?_drop (xs := cs) (i := i) (j := 0)
      rw [e] at this
      rw [Nat.add_zero] at this
      rw [← this, ← hx]
      rfl
  · intro h
    have e : cs.drop i = c :: cs.drop (i + 1) := by
      obtain ⟨lt, e⟩ := List.getElem?_eq_some_iff.mp h
      rw [← e]
      exact List.drop_eq_getElem_cons lt
    rw [e]
    rfl
def spIsAt : Sp := fun vs H Q _ => ∃ (z : Str) (i c : Nat), vs = [.str z, .int (i : Int), .str ⟨#[c]⟩] ∧ z.length ≤ 4000 ∧ Q (.bl (isAt (cds z) i c)) H
theorem line4000 {n : Nat} (h : n ≤ 4000) : n ≤ sizeLine := Nat.le_trans h (by decide)
theorem scIsAt : FnScope ["text", "at", "sign"] ["text", "at", "sign"] (defScope sIsAt) :=
  ⟨rfl, rfl, rfl, by decide +kernel, rfl, by decide +kernel, by decide +kernel⟩
theorem dIsAt (T : Tx K mg) : Def P w K mg base CX0 1 "_is_at" ["text", "at", "sign"] spIsAt := by
  refine T.t_is_at.def_ (N := ["text", "at", "sign"]) scIsAt (fun _ _ _ _ _ _ us hl => match us, hl with | [_, _, _], _ => rfl) ?_ ?_
  · intro vs H Q E h
    obtain ⟨z, i, c, rfl, _⟩ := h
    rfl
  · intro f cd A out s H vs Q E hr h
    obtain ⟨z, i, c, rfl, hz, q⟩ := h
    refine ⟨_, (pss_one (ps_ret (pe_cmpR op_eq (pe_slice sl_str (pv 0) (po_some (pv 1)) (po_some (pe_op op_add (pv 1) pe_int))) (pv 2) (nomark _)))), ?_⟩
    rw [← cut_one] at q
    exact ⟨_, rfl, _, rfl, _, rfl, _, rfl, _, _, rfl, rfl, _, rfl, z, rfl, line4000 hz, _, rfl, rfl, q⟩
theorem dig_in (c : Nat) : decide (c ∈ ("0123456789" : Str).cps.toList) = (decide (48 ≤ c) && decide (c ≤ 57)) := by
  rw [show ("0123456789" : Str).cps.toList = [48, 49, 50, 51, 52, 53, 54, 55, 56, 57] by decide +kernel, ← Bool.decide_and]
  refine decide_eq_decide.mpr ?_
  simp only [List.mem_cons, List.not_mem_nil, or_false]
  omega
def spDig : Sp := fun vs H Q _ => ∃ (z : Str) (i : Nat), vs = [.str z, .int (i : Int)] ∧ z.length ≤ 4000 ∧ Q (.bl (dg (cds z) i)) H
theorem scIsDigitAt : FnScope ["text", "at"] ["text", "at"] (defScope sIsDigitAt) :=
  ⟨rfl, rfl, rfl, by decide +kernel, rfl, by decide +kernel, by decide +kernel⟩
theorem dIsDigitAt (T : Tx K mg) : Def P w K mg base CX0 1 "_is_digit_at" ["text", "at"] spDig := by
  refine T.t_is_digit_at.def_ (N := ["text", "at"]) scIsDigitAt (fun _ _ _ _ _ _ us hl => match us, hl with | [_, _], _ => rfl) ?_ ?_
  · intro vs H Q E h
    obtain ⟨z, i, rfl, _⟩ := h
    rfl
  · intro f cd A out s H vs Q E hr h
    obtain ⟨z, i, rfl, hz, q⟩ := h
    refine ⟨_, (pss_one (ps_ret (pe_and (pe_cmpR op_lt (pv 1) (pe_callB call_len_str rfl T.f_len (by decide +kernel) (pa_cons (pv 0) pa_nil)) (nomark _)) (pe_one (pe_cmpR op_in_sign (pe_ix ix_str (pv 0) (pv 1) (fun _ _ => rfl)) (C8.pe_gc rfl T.c_DIGITS) rfl))))), ?_⟩
    refine ⟨_, rfl, _, rfl, z, rfl, line4000 hz, _, _, rfl, rfl, ?_⟩
    have hl : z.length = (cds z).length := (Array.length_toList).symm
    refine ⟨_, rfl, ?_⟩
    by_cases lt : i < (cds z).length
    · refine ifT (decide_eq_true (by rw [hl]; omega)) ?_
      refine ⟨_, rfl, _, rfl, z, i, (cds z)[i], rfl, rfl, line4000 hz, atI_nat (List.getElem?_eq_getElem lt), (cds z)[i], "0123456789", rfl, rfl, ?_⟩
      rw [dig_in]
      unfold dg at q
      rw [List.getElem?_eq_getElem lt] at q
      exact q
    · refine ifF (decide_eq_false (by rw [hl]; omega)) ?_
      unfold dg at q
      rw [List.getElem?_eq_none (by omega)] at q
      exact q
/-! numbers in a text -/
/-- how many digits stand from i on, at most k -/
def run (cs : List Nat) : Nat → Nat → Nat
  | _, 0 => 0
  | i, k + 1 => if dg cs i = true then run cs (i + 1) k + 1 else 0
def endP (cs : List Nat) (i : Nat) : Nat := i + 1 + run cs (i + 1) (if isAt cs i 48 = true then 0 else 59)
def valP (cs : List Nat) (i : Nat) : Nat := digitsVal ((cs.drop i).take (endP cs i - i))
def plainP (cs : List Nat) (i : Nat) : Option (Nat × Nat) := if dg cs i = true then some (valP cs i, endP cs i) else none
theorem run_zero (cs : List Nat) (i : Nat) : run cs i 0 = 0 := rfl
theorem run_succ (cs : List Nat) (i k : Nat) : run cs i (k + 1) = if dg cs i = true then run cs (i + 1) k + 1 else 0 := rfl
theorem dg_lt {cs : List Nat} {i : Nat} (h : dg cs i = true) : ∃ c, cs[i]? = some c ∧ 48 ≤ c ∧ c ≤ 57 := by
  unfold dg at h
  cases e : cs[i]? with
  | none => rw [e] at h; cases h
  | some c =>
    rw [e, Bool.and_eq_true] at h
    exact ⟨c, rfl, of_decide_eq_true h.1, of_decide_eq_true h.2⟩
theorem run_le (cs : List Nat) : ∀ k i, run cs i k ≤ k
  | 0, _ => Nat.le_refl _
  | k + 1, i => by
    unfold run
    split
    · exact Nat.succ_le_succ (run_le cs k (i + 1))
    · exact Nat.zero_le _
theorem run_dg (cs : List Nat) : ∀ k i j, j < run cs i k → dg cs (i + j) = true
  | 0, i, j, h => absurd h (Nat.not_lt_zero _)
  | k + 1, i, j, h => by
    unfold run at h
    split at h
    · rename_i c
      cases j with
      | zero => exact c
      | succ j =>
        have := run_dg cs k (i + 1) j (by omega)
        rw [show i + (j + 1) = i + 1 + j by omega]
        exact this
    · exact absurd h (Nat.not_lt_zero _)
theorem endP_le (cs : List Nat) (i : Nat) : i + 1 ≤ endP cs i ∧ endP cs i ≤ i + 60 := by
  unfold endP
  have := run_le cs (if isAt cs i 48 = true then 0 else 59) (i + 1)
  have h2 : (if isAt cs i 48 = true then 0 else 59) ≤ 59 := by split <;> omega
  omega
theorem endP_dg {cs : List Nat} {i : Nat} (h : dg cs i = true) : ∀ j, i ≤ j → j < endP cs i → dg cs j = true := by
  intro j h1 h2
  unfold endP at h2
  by_cases e : j = i
  · rw [e]; exact h
  · have := run_dg cs (if isAt cs i 48 = true then 0 else 59) (i + 1) (j - (i + 1)) (by omega)
    rw [show i + 1 + (j - (i + 1)) = j by omega] at this
    exact this
theorem all_dg {cs : List Nat} {i e : Nat} (h : ∀ j, i ≤ j → j < e → dg cs j = true) : AllDigits ((cs.drop i).take (e - i)) := by
  intro c hc
  obtain ⟨k, lt, rfl⟩ := List.getElem_of_mem hc
  rw [List.getElem_take, List.getElem_drop]
  have l2 : k < e - i := by
    rw [List.length_take] at lt
    omega
  obtain ⟨c, h1, h2⟩ := dg_lt (h (i + k) (by omega) (by omega))
  have e : cs[i + k]? = some (cs[i + k]'(by
    rw [List.length_take, List.length_drop] at lt
    omega)) := List.getElem?_eq_getElem _
  rw [e] at h1
  have h3 := Option.some.inj h1
  rw [h3]
  exact h2
theorem int_part {z : Str} {i e : Nat} (h : ∀ j, i ≤ j → j < e → dg (cds z) j = true) (l1 : i < e) (l2 : e ≤ i + 60) :
    intText? (cutS z (some (i : Int)) (some (e : Int))) = some ((digitsVal (((cds z).drop i).take (e - i)) : Nat) : Int) ∧ (cutS z (some (i : Int)) (some (e : Int))).length ≤ 640 := by
  rw [cut_nat]
  have len : (((cds z).drop i).take (e - i)).length ≤ 60 := by
    rw [List.length_take]
    omega
  have ne : ((cds z).drop i).take (e - i) ≠ [] := by
    obtain ⟨c, hc, _⟩ := dg_lt (h i (Nat.le_refl _) l1)
    obtain ⟨lt, _⟩ := List.getElem?_eq_some_iff.mp hc
    intro z0
    have := congrArg List.length z0
    rw [List.length_take, List.length_drop, List.length_nil] at this
    omega
  have e1 : (⟨(((cds z).drop i).take (e - i)).toArray⟩ : Str).cps.toList = ((cds z).drop i).take (e - i) := by simp
  have len2 : (⟨(((cds z).drop i).take (e - i)).toArray⟩ : Str).length ≤ 60 := by
    show (((cds z).drop i).take (e - i)).toArray.size ≤ 60
    rw [List.size_toArray]
    exact len
  refine ⟨?_, by omega⟩
  rw [intText_digits (by rw [e1]; exact all_dg h) (by rw [e1]; exact ne) (by omega), e1]
/-- what an error of a text tells -/
abbrev rPar (K : PySem.W.Frag) (H : Hp) (i : Nat) (E : XK) : Prop := ∀ H' d, Same H H' → H d = none → H' d = some (.xd [("index", .int (i : Int))]) → E (.ref (ga K "ParseError")) (some d) H'
theorem par_new {H H1 : Hp} {i : Nat} {E : XK} (q : rPar K H i E) (s : Same H H1) {d : Addr} (hd : H1 d = none) : E (.ref (ga K "ParseError")) (some d) (upd H1 d (.xd [("index", .int (i : Int))])) :=
  q _ d (s.trans (same_new hd)) (s.free hd) upd_same
/-- two values in a tuple -/
abbrev rTwo (x y : V) (H : Hp) (Q : VK) : Prop := ∀ H' r, Same H H' → H' r = some (.tup [x, y]) → Q (.ref r) H'
def spPlain (K : PySem.W.Frag) : Sp := fun vs H Q E => ∃ (z : Str) (i : Nat), vs = [.str z, .int (i : Int)] ∧ z.length ≤ 4000 ∧
  (dg (cds z) i = false → rPar K H i E) ∧ (dg (cds z) i = true → rTwo (.int (valP (cds z) i : Nat)) (.int (endP (cds z) i : Nat)) H Q)
theorem scReadPlain : FnScope ["text", "at", "most", "end"] ["text", "at"] (defScope sReadPlain) :=
  ⟨rfl, rfl, rfl, by decide +kernel, rfl, by decide +kernel, by decide +kernel⟩
theorem bReadPlain (T : Tx K mg) (Y : Ex K mg) (DIsDigitAt : Def P w K mg base CX0 1 "_is_digit_at" ["text", "at"] spDig) (DIsAt : Def P w K mg base CX0 1 "_is_at" ["text", "at", "sign"] spIsAt) : Def P w K mg base (L2.CX P w) 3 "_read_plain" ["text", "at"] (spPlain K) := by
  refine T.t_read_plain.defX (N := ["text", "at", "most", "end"]) scReadPlain (fun _ _ _ _ _ _ us hl => match us, hl with | [_, _], _ => rfl) ?_ ?_
  · intro vs H Q E h
    obtain ⟨z, i, rfl, _⟩ := h
    rfl
  · intro f cd A out s H vs Q E hr h
    have hr1 : Rm 1 _ := hr.le (by decide)
    have tk : Takes (cxOf (L2.CX P w) P w K mg base ["text", "at", "most", "end"] "_read_plain" (defScope sReadPlain) f cd A out s H E) (fun cls d _ H1 => E cls d H1) := takes_of rfl rfl rfl rfl
    obtain ⟨z, i, rfl, hz, q1, q2⟩ := h
    refine ⟨_, (pss_cons (ps_if (pt_not (pt_val (pe_d DIsDigitAt (hr1.le (by decide)) pass0 (pa_cons (pv 0) (pa_cons (pv 1) pa_nil))))) (pss_one (ps_parse Y rfl tk (hr.le (by decide)) (pa_cons (pv 1) pa_nil))) pss_nil)
      (pss_cons (ps_set (i := 2) scReadPlain.nd rfl (Or.inl rfl) (pe_ifExp (pt_val (pe_d DIsAt (hr1.le (by decide)) pass0 (pa_cons (pv 0) (pa_cons (pv 1) (pa_cons pe_str pa_nil))))) (pe_op op_add (pv 1) pe_int) (pe_op op_add (pv 1) (C8.pe_gc rfl T.c_MOST_DIGITS))))
      (pss_cons (ps_set (i := 3) scReadPlain.nd rfl (Or.inl rfl) (pe_op op_add (pv 1) pe_int))
      (pss_cons (ps_while (passes_of rfl) (PW.pt (pw_and (pt_cmpR op_lt (pv 3) (pv 2) (nomark _)) (pw_and1 (pt_val (pe_d DIsDigitAt (hr1.le (by decide)) pass0 (pa_cons (pv 0) (pa_cons (pv 3) pa_nil)))))))
        (pss_one (ps_aug (i := 3) scReadPlain.nd rfl (Or.inl rfl) pe_int ip_add)))
      (pss_one (ps_ret (pe_tup (pa_cons (pe_callTy call_int_str rfl T.f_int (by decide +kernel) (pa_cons (pe_slice sl_str (pv 0) (po_some (pv 1)) (po_some (pv 3))) pa_nil)) (pa_cons (pv 3) pa_nil))))))))), ?_⟩
    refine ⟨_, rfl, _, rfl, z, i, rfl, hz, ?_⟩
    cases hb : dg (cds z) i with
    | false =>
      refine ⟨_, rfl, ?_⟩
      refine ifT rfl ?_
      exact ⟨_, rfl, _, rfl, fun d hd => par_new (q1 hb) (Same.refl H) hd⟩
    | true =>
      refine ⟨_, rfl, ?_⟩
      refine ifF rfl ?_
      have hl : z.length = (cds z).length := (Array.length_toList).symm
      refine ⟨_, rfl, _, rfl, z, i, 48, rfl, hz, ?_⟩
      refine ⟨_, rfl, ?_⟩
      have q3 := q2 hb
      have hd := endP_dg hb
      have he := endP_le (cds z) i
      unfold valP at q3
      have ee : endP (cds z) i = i + 1 + run (cds z) (i + 1) (if isAt (cds z) i 48 = true then 0 else 59) := rfl
      generalize endP (cds z) i = e at q3 hd he ee
      cases h48 : isAt (cds z) i 48
      case' true =>
        refine ifT rfl ?_
        refine ⟨_, rfl, _, _, rfl, rfl, ?_⟩
        show gName 2 (V.int ((i : Int) + 1)) _ _ _
        obtain ⟨m, hm, em, m9⟩ : ∃ m : Nat, (i : Int) + 1 = ((i + 1 + m : Nat) : Int) ∧ (if isAt (cds z) i 48 = true then 0 else 59) = m ∧ m ≤ 59 := ⟨0, by omega, by rw [h48]; rfl, by omega⟩
        rw [hm]
      case' false =>
        refine ifF rfl ?_
        refine ⟨_, rfl, _, _, rfl, rfl, ?_⟩
        show gName 2 (V.int ((i : Int) + 60)) _ _ _
        obtain ⟨m, hm, em, m9⟩ : ∃ m : Nat, (i : Int) + 60 = ((i + 1 + m : Nat) : Int) ∧ (if isAt (cds z) i 48 = true then 0 else 59) = m ∧ m ≤ 59 := ⟨59, by omega, by rw [h48]; rfl, by omega⟩
        rw [hm]
      all_goals
        rw [em] at ee
        clear em hm h48
        refine ⟨_, rfl, _, _, rfl, rfl, ?_⟩
        refine while_by (fun σ H2 => ∃ k : Nat, σ = [some (.str z), some (.int (i : Int)), some (.int ((i + 1 + m : Nat) : Int)), some (.int ((i + 1 + k : Nat) : Int))] ∧ H2 = H ∧ k ≤ m ∧ k + run (cds z) (i + 1 + k) (m - k) = run (cds z) (i + 1) m)
          (fun σ _ => match σ with | [_, _, _, some (.int e)] => ((i + 1 + m : Nat) - e).toNat | _ => 0) ?_ ?_ ?_
        · exact ⟨0, rfl, rfl, Nat.zero_le _, by simp⟩
        · rintro σ H2 ⟨k, rfl, rfl, km, kr⟩
          refine ⟨_, rfl, _, rfl, _, _, rfl, rfl, _, rfl, ?_⟩
          by_cases lt : k < m
          · refine ifT (decide_eq_true (by omega)) ?_
            refine ⟨_, rfl, _, rfl, z, _, rfl, hz, ?_⟩
            refine ⟨_, rfl, ?_⟩
            obtain ⟨m', rfl⟩ : ∃ m', m = k + (m' + 1) := ⟨m - k - 1, by omega⟩
            rw [show k + (m' + 1) - k = m' + 1 by omega] at kr
            rw [run_succ (cds z) (i + 1 + k) m'] at kr
            cases hg : dg (cds z) (i + 1 + k) with
            | false =>
              refine ifF rfl ?_
              rw [hg, if_neg (by decide)] at kr
              have hk : i + 1 + k = e := by omega
              rw [hk]
              obtain ⟨it, il⟩ := int_part (z := z) hd (by omega) (by omega)
              refine ⟨_, rfl, _, rfl, _, rfl, _, rfl, _, rfl, z, rfl, line4000 hz, _, _, rfl, it, il, _, rfl, by show 2 ≤ sizeLine; decide, fun r hr => ?_⟩
              exact q3 _ r (same_new hr) upd_same
            | true =>
              refine ifT rfl ?_
              rw [hg, if_pos rfl] at kr
              refine ⟨_, rfl, _, _, rfl, rfl, ?_⟩
              refine ⟨⟨k + 1, ?_, rfl, by omega, ?_⟩, ?_⟩
              · show [some (V.str z), some (V.int (i : Int)), _, some (V.int (((i + 1 + k : Nat) : Int) + 1))] = _
                rw [show ((i + 1 + k : Nat) : Int) + 1 = ((i + 1 + (k + 1) : Nat) : Int) by omega]
              · rw [show k + (m' + 1) - (k + 1) = m' by omega, show i + 1 + (k + 1) = i + 1 + k + 1 by omega]
                omega
              · show ((i + 1 + (k + (m' + 1)) : Nat) - (((i + 1 + k : Nat) : Int) + 1)).toNat < ((i + 1 + (k + (m' + 1)) : Nat) - ((i + 1 + k : Nat) : Int)).toNat
                omega
          · refine ifF (decide_eq_false (by omega)) ?_
            have z0 : m - k = 0 := by omega
            rw [z0, run_zero] at kr
            have hk : i + 1 + k = e := by omega
            rw [hk]
            obtain ⟨it, il⟩ := int_part (z := z) hd (by omega) (by omega)
            refine ⟨_, rfl, _, rfl, _, rfl, _, rfl, _, rfl, z, rfl, line4000 hz, _, _, rfl, it, il, _, rfl, by show 2 ≤ sizeLine; decide, fun r hr => ?_⟩
            exact q3 _ r (same_new hr) upd_same
        · rintro σ H2 Q1 Q2 mono ⟨x1, h1, x2, h2, a, b, e1, e2, c, hc, h3⟩
          refine ⟨x1, h1, x2, h2, a, b, e1, e2, c, hc, ?_⟩
          cases c with
          | false => exact mono _ _ h3
          | true =>
            obtain ⟨y1, g1, y2, g2, z', i', ez, hz', c2, hc2, h4⟩ := h3
            exact ⟨y1, g1, y2, g2, z', i', ez, hz', c2, hc2, mono _ _ h4⟩
end
end K85


set_option Elab.async false
set_option linter.all false
set_option maxRecDepth 100000
set_option maxHeartbeats 2000000
namespace K85
open PySem PySem.Spec PyProof.Rows L2 MM PySem.NumText
/-! own words for the readings: a step, its side -/
local macro_rules | `(tactic| walk_at "side") => `(tactic| first
  | omega
  | exact ⟨by omega, by omega⟩
  | exact Or.inl ⟨by omega, by omega⟩
  | exact Or.inr ⟨by omega, by omega⟩
  | (show CPw _ _; decide +kernel)
  | (show (0 : Int) < _; decide +kernel)
  | (show CDivW _ _; first | assumption | exact ⟨by decide, by decide +kernel⟩))
local macro_rules | `(tactic| walk_at "here") => `(tactic| first
  | assumption
  | exact upd_same
  | exact Or.inl (Or.inl upd_same)
  | exact Or.inl upd_same)
local macro_rules | `(tactic| walk_at "one") => `(tactic| first
  | refine ⟨_, rfl, ?_⟩
  | refine Or.inl ⟨_, rfl, ?_⟩
  | refine Or.inr ⟨_, rfl, ?_⟩
  | refine ⟨_, _, rfl, rfl, (by walk_at "side"), ?_⟩
  | refine ⟨_, _, rfl, rfl, ?_⟩
  | refine ⟨_, _, rfl, Or.inl (by walk_at "here"), ?_⟩
  | refine ⟨_, _, rfl, Or.inr (by walk_at "here"), ?_⟩
  | refine ⟨_, _, rfl, (by walk_at "here"), ?_⟩
  | refine ⟨_, _, _, _, rfl, rfl, (by walk_at "here"), rfl, ?_⟩
  | refine ⟨_, _, rfl, ?_⟩
  | refine ifT (by rfl) ?_
  | refine ifF (by rfl) ?_
  | refine ifT (decide_eq_true (by omega)) ?_
  | refine ifF (decide_eq_false (by omega)) ?_)
local macro_rules | `(tactic| walk_at "st") => `(tactic| repeat (walk_at "one"))

section
variable {P : Program} {w : World} {K : PySem.W.Frag} {mg : Str → Option Value} {base : Heap}
/-- a text of at most 3000 signs -/
def okT : V → Bool
  | .str z => decide (z.length ≤ 3000)
  | _ => false
def spNeedText (K : PySem.W.Frag) : Sp := fun vs H Q E => ∃ x n, vs = [x] ∧ Kd K H x n ∧ (∀ z, x = .str z → z.length ≤ 4000) ∧ (okT x = false → rPar K H 0 E) ∧ (okT x = true → Q .non H)
theorem scNeedText : FnScope ["text"] ["text"] (defScope sNeedText) :=
  ⟨rfl, rfl, rfl, by decide +kernel, rfl, by decide +kernel, by decide +kernel⟩
theorem bNeedText (T : Tx K mg) (Y : Ex K mg) : Def P w K mg base (L2.CX P w) 3 "_need_text" ["text"] (spNeedText K) := by
  refine T.t_need_text.defX (N := ["text"]) scNeedText (fun _ _ _ _ _ _ us hl => match us, hl with | [_], _ => rfl) ?_ ?_
  · intro vs H Q E h
    obtain ⟨x, n, rfl, _⟩ := h
    rfl
  · intro f cd A out s H vs Q E hr h
    have tk : Takes (cxOf (L2.CX P w) P w K mg base ["text"] "_need_text" (defScope sNeedText) f cd A out s H E) (fun cls d _ H1 => E cls d H1) := takes_of rfl rfl rfl rfl
    obtain ⟨x, n, rfl, hk, hz, q1, q2⟩ := h
    refine ⟨_, (pss_one (ps_if (PW.pt (pw_or (pt_not (pt_val (pe_callB (cr_is .str) rfl T.f_isinstance (by decide +kernel) (pa_cons (pv 0) (pa_cons (pe_ty .str T.f_str (by decide +kernel)) pa_nil))))) (pw_or1 (pt_cmpR op_gt (pe_callB call_len_str rfl T.f_len (by decide +kernel) (pa_cons (pv 0) pa_nil)) (C8.pe_gc rfl T.c_MOST_SIGNS) (nomark _))))) (pss_one (ps_parse Y rfl tk (hr.le (by decide)) (pa_cons pe_int pa_nil))) pss_nil)), ?_⟩
    refine ⟨_, rfl, _, _, rfl, hk, _, rfl, ?_⟩
    by_cases st : n.isa .str = true
    · refine ifF (by rw [st]; rfl) ?_
      obtain ⟨z, rfl⟩ : ∃ z, x = .str z := by
        cases hk <;> first | exact ⟨_, rfl⟩ | cases st
      refine ⟨_, rfl, z, rfl, line4000 (hz z rfl), _, _, rfl, rfl, _, rfl, ?_⟩
      cases b : okT (.str z) with
      | true =>
        have le : z.length ≤ 3000 := of_decide_eq_true b
        exact ifF (decide_eq_false (by omega)) (q2 b)
      | false =>
        have le : ¬ z.length ≤ 3000 := of_decide_eq_false b
        refine ifT (decide_eq_true (by omega)) ?_
        exact ⟨_, rfl, fun d hd => par_new (i := 0) (q1 b) (Same.refl H) hd⟩
    · have sf : n.isa .str = false := by
        cases e : n.isa .str with
        | true => exact absurd e st
        | false => rfl
      refine ifT (by rw [sf]; rfl) ?_
      have b : okT x = false := by
        cases hk <;> first | rfl | exact absurd rfl st
      exact ifT rfl ⟨_, rfl, fun d hd => par_new (i := 0) (q1 b) (Same.refl H) hd⟩
def spBehind (K : PySem.W.Frag) : Sp := fun vs H Q E => ∃ (z : Str) (i c : Nat), vs = [.str z, .int (i : Int), .str ⟨#[c]⟩] ∧ z.length ≤ 4000 ∧ (isAt (cds z) i c = false → rPar K H i E) ∧ (isAt (cds z) i c = true → Q (.int ((i + 1 : Nat) : Int)) H)
theorem scBehind : FnScope ["text", "at", "sign"] ["text", "at", "sign"] (defScope sBehind) :=
  ⟨rfl, rfl, rfl, by decide +kernel, rfl, by decide +kernel, by decide +kernel⟩
theorem bBehind (T : Tx K mg) (Y : Ex K mg) (DIsAt : Def P w K mg base CX0 1 "_is_at" ["text", "at", "sign"] spIsAt) : Def P w K mg base (L2.CX P w) 3 "_behind" ["text", "at", "sign"] (spBehind K) := by
  refine T.t_behind.defX (N := ["text", "at", "sign"]) scBehind (fun _ _ _ _ _ _ us hl => match us, hl with | [_, _, _], _ => rfl) ?_ ?_
  · intro vs H Q E h
    obtain ⟨z, i, c, rfl, _⟩ := h
    rfl
  · intro f cd A out s H vs Q E hr h
    have hr1 : Rm 1 _ := hr.le (by decide)
    have tk : Takes (cxOf (L2.CX P w) P w K mg base ["text", "at", "sign"] "_behind" (defScope sBehind) f cd A out s H E) (fun cls d _ H1 => E cls d H1) := takes_of rfl rfl rfl rfl
    obtain ⟨z, i, c, rfl, hz, q1, q2⟩ := h
    refine ⟨_, (pss_cons (ps_if (pt_not (pt_val (pe_d DIsAt (hr1.le (by decide)) pass0 (pa_cons (pv 0) (pa_cons (pv 1) (pa_cons (pv 2) pa_nil)))))) (pss_one (ps_parse Y rfl tk (hr.le (by decide)) (pa_cons (pv 1) pa_nil))) pss_nil)
      (pss_one (ps_ret (pe_op op_add (pv 1) pe_int)))), ?_⟩
    refine ⟨_, rfl, _, rfl, _, rfl, z, i, c, rfl, hz, ?_⟩
    refine ⟨_, rfl, ?_⟩
    cases b : isAt (cds z) i c with
    | false =>
      refine ifT rfl ?_
      exact ⟨_, rfl, _, rfl, fun d hd => par_new (q1 b) (Same.refl H) hd⟩
    | true =>
      refine ifF rfl ?_
      exact ⟨_, rfl, _, _, rfl, rfl, q2 b⟩
def spLess (K : PySem.W.Frag) : Sp := fun vs H Q E => ∃ (z : Str) (i : Nat), vs = [.str z, .int (i : Int)] ∧ z.length ≤ 4000 ∧ (isAt (cds z) i 45 = false → rTwo (.bl false) (.int (i : Int)) H Q) ∧
  (isAt (cds z) i 45 = true → isAt (cds z) (i + 1) 48 = true → rPar K H (i + 1) E) ∧ (isAt (cds z) i 45 = true → isAt (cds z) (i + 1) 48 = false → rTwo (.bl true) (.int ((i + 1 : Nat) : Int)) H Q)
theorem scReadLess : FnScope ["text", "at"] ["text", "at"] (defScope sReadLess) :=
  ⟨rfl, rfl, rfl, by decide +kernel, rfl, by decide +kernel, by decide +kernel⟩
theorem bReadLess (T : Tx K mg) (Y : Ex K mg) (DIsAt : Def P w K mg base CX0 1 "_is_at" ["text", "at", "sign"] spIsAt) : Def P w K mg base (L2.CX P w) 3 "_read_less" ["text", "at"] (spLess K) := by
  refine T.t_read_less.defX (N := ["text", "at"]) scReadLess (fun _ _ _ _ _ _ us hl => match us, hl with | [_, _], _ => rfl) ?_ ?_
  · intro vs H Q E h
    obtain ⟨z, i, rfl, _⟩ := h
    rfl
  · intro f cd A out s H vs Q E hr h
    have hr1 : Rm 1 _ := hr.le (by decide)
    have tk : Takes (cxOf (L2.CX P w) P w K mg base ["text", "at"] "_read_less" (defScope sReadLess) f cd A out s H E) (fun cls d _ H1 => E cls d H1) := takes_of rfl rfl rfl rfl
    obtain ⟨z, i, rfl, hz, q0, q1, q2⟩ := h
    refine ⟨_, (pss_cons (ps_if (pt_not (pt_val (pe_d DIsAt (hr1.le (by decide)) pass0 (pa_cons (pv 0) (pa_cons (pv 1) (pa_cons pe_str pa_nil)))))) (pss_one (ps_ret (pe_tup (pa_cons pe_bl (pa_cons (pv 1) pa_nil))))) pss_nil)
      (pss_cons (ps_if (pt_val (pe_d DIsAt (hr1.le (by decide)) pass0 (pa_cons (pv 0) (pa_cons (pe_op op_add (pv 1) pe_int) (pa_cons pe_str pa_nil))))) (pss_one (ps_parse Y rfl tk (hr.le (by decide)) (pa_cons (pe_op op_add (pv 1) pe_int) pa_nil))) pss_nil)
      (pss_one (ps_ret (pe_tup (pa_cons pe_bl (pa_cons (pe_op op_add (pv 1) pe_int) pa_nil))))))), ?_⟩
    refine ⟨_, rfl, _, rfl, z, i, 45, rfl, hz, ?_⟩
    refine ⟨_, rfl, ?_⟩
    cases b : isAt (cds z) i 45 with
    | false =>
      refine ifT rfl ?_
      exact ⟨_, rfl, by show 2 ≤ sizeLine; decide, fun r hr => q0 b _ r (same_new hr) upd_same⟩
    | true =>
      refine ifF rfl ?_
      refine ⟨_, rfl, _, rfl, _, _, rfl, rfl, z, i + 1, 48, rfl, hz, ?_⟩
      refine ⟨_, rfl, ?_⟩
      cases b2 : isAt (cds z) (i + 1) 48 with
      | true =>
        refine ifT rfl ?_
        exact ⟨_, rfl, _, _, rfl, rfl, _, rfl, fun d hd => par_new (q1 b b2) (Same.refl H) hd⟩
      | false =>
        refine ifF rfl ?_
        exact ⟨_, rfl, _, _, rfl, rfl, by show 2 ≤ sizeLine; decide, fun r hr => q2 b b2 _ r (same_new hr) upd_same⟩
/-! what reading tells: the value, or the index of the first wrong sign -/
abbrev Rd (α : Type) := Except Nat α
def rRes {α : Type} (K : PySem.W.Frag) (H : Hp) (E : XK) (r : Rd α) (k : α → Prop) : Prop := match r with
  | .ok a => k a
  | .error i => rPar K H i E
def plainR (cs : List Nat) (i : Nat) : Rd (Nat × Nat) := if dg cs i = true then .ok (valP cs i, endP cs i) else .error i
def behindR (cs : List Nat) (i c : Nat) : Rd Nat := if isAt cs i c = true then .ok (i + 1) else .error i
def lessR (cs : List Nat) (i : Nat) : Rd (Bool × Nat) := if isAt cs i 45 = true then (if isAt cs (i + 1) 48 = true then .error (i + 1) else .ok (true, i + 1)) else .ok (false, i)
def sgn (b : Bool) (n : Nat) : Int := if b = true then -(n : Int) else (n : Int)
def signedR (cs : List Nat) (i : Nat) : Rd (Int × Nat) := match lessR cs i with
  | .error j => .error j
  | .ok (b, s) => match plainR cs s with
    | .error j => .error j
    | .ok (n, e) => .ok (sgn b n, e)
theorem rPar.same {H H1 : Hp} {i : Nat} {E : XK} (q : rPar K H i E) (s : Same H H1) : rPar K H1 i E := fun H' d s' fd ed => q H' d (s.trans s') (s.free fd) ed
def spSigned (K : PySem.W.Frag) : Sp := fun vs H Q E => ∃ (z : Str) (i : Nat), vs = [.str z, .int (i : Int)] ∧ z.length ≤ 4000 ∧ rRes K H E (signedR (cds z) i) fun r => rTwo (.int r.1) (.int (r.2 : Nat)) H Q
theorem scReadSigned : FnScope ["text", "at", "is_less", "start", "number", "end"] ["text", "at"] (defScope sReadSigned) :=
  ⟨rfl, rfl, rfl, by decide +kernel, rfl, by decide +kernel, by decide +kernel⟩
theorem bReadSigned (T : Tx K mg) (Y : Ex K mg) (BReadLess : Def P w K mg base (L2.CX P w) 3 "_read_less" ["text", "at"] (spLess K)) (BReadPlain : Def P w K mg base (L2.CX P w) 3 "_read_plain" ["text", "at"] (spPlain K)) : Def P w K mg base (L2.CX P w) 4 "_read_signed" ["text", "at"] (spSigned K) := by
  refine T.t_read_signed.defX (N := ["text", "at", "is_less", "start", "number", "end"]) scReadSigned (fun _ _ _ _ _ _ us hl => match us, hl with | [_, _], _ => rfl) ?_ ?_
  · intro vs H Q E h
    obtain ⟨z, i, rfl, _⟩ := h
    rfl
  · intro f cd A out s H vs Q E hr h
    have hr2 : Rm 3 _ := hr.le (by decide)
    have tk : Takes (cxOf (L2.CX P w) P w K mg base ["text", "at", "is_less", "start", "number", "end"] "_read_signed" (defScope sReadSigned) f cd A out s H E) (fun cls d _ H1 => E cls d H1) := takes_of rfl rfl rfl rfl
    obtain ⟨z, i, rfl, hz, q⟩ := h
    refine ⟨_, (pss_cons (ps_asg (ME.pe_dS BReadLess (hr2.le (by decide)) (passAt tk) (pa_cons (pv 0) (pa_cons (pv 1) pa_nil))) (pg_tup rfl (pgs_cons (pg_name (i := 2) scReadSigned.nd rfl (Or.inl rfl)) (pgs_cons (pg_name (i := 3) scReadSigned.nd rfl (Or.inl rfl)) pgs_nil))))
      (pss_cons (ps_asg (ME.pe_dS BReadPlain (hr2.le (by decide)) (passAt tk) (pa_cons (pv 0) (pa_cons (pv 3) pa_nil))) (pg_tup rfl (pgs_cons (pg_name (i := 4) scReadSigned.nd rfl (Or.inl rfl)) (pgs_cons (pg_name (i := 5) scReadSigned.nd rfl (Or.inl rfl)) pgs_nil))))
      (pss_one (ps_ret (pe_tup (pa_cons (pe_ifExp (pt_val (pv 2)) (pe_un un_neg (pv 4)) (pv 4)) (pa_cons (pv 5) pa_nil))))))), ?_⟩
    have fin : ∀ (b : Bool) (s : Nat), (rRes K H E (match plainR (cds z) s with
        | .error j => .error j
        | .ok (n, e) => .ok (sgn b n, e)) fun r => rTwo (.int r.1) (.int (r.2 : Nat)) H Q) →
        (dg (cds z) s = false → rPar K H s E) ∧ (dg (cds z) s = true → rTwo (.int (sgn b (valP (cds z) s))) (.int (endP (cds z) s : Nat)) H Q) := by
      intro b s h
      unfold plainR at h
      constructor
      · intro e
        rw [e, if_neg (by decide)] at h
        exact h
      · intro e
        rw [e, if_pos rfl] at h
        exact h
    refine ⟨_, rfl, _, rfl, z, i, rfl, hz, fun b H1 r s1 hr_ => ?_, fun b1 b2 => ?_, fun b1 b2 H1 r s1 hr_ => ?_⟩
    · have q' := fin false i (by
        unfold signedR lessR at q
        rw [b, if_neg (by decide)] at q
        exact q)
      refine ⟨r, _, rfl, .inl (.inl hr_), rfl, _, _, rfl, ?_⟩
      refine ⟨_, _, rfl, rfl, ?_⟩
      refine ⟨_, rfl, _, rfl, z, i, rfl, hz, fun e => (q'.1 e).same s1, fun e H2 r2 s2 hr2 => ?_⟩
      refine ⟨r2, _, rfl, .inl (.inl hr2), rfl, _, _, rfl, ?_⟩
      refine ⟨_, _, rfl, rfl, ?_⟩
      refine ⟨_, rfl, _, rfl, ?_⟩
      refine ifF rfl ?_
      exact ⟨_, rfl, _, rfl, by show 2 ≤ sizeLine; decide, fun r3 h3 => q'.2 e _ r3 ((s1.trans s2).trans (same_new h3)) upd_same⟩
    · unfold signedR lessR at q
      rw [b1, if_pos rfl, b2, if_pos rfl] at q
      exact q
    · have q' := fin true (i + 1) (by
        unfold signedR lessR at q
        rw [b1, if_pos rfl, b2, if_neg (by decide)] at q
        exact q)
      refine ⟨r, _, rfl, .inl (.inl hr_), rfl, _, _, rfl, ?_⟩
      refine ⟨_, _, rfl, rfl, ?_⟩
      refine ⟨_, rfl, _, rfl, z, i + 1, rfl, hz, fun e => (q'.1 e).same s1, fun e H2 r2 s2 hr2 => ?_⟩
      refine ⟨r2, _, rfl, .inl (.inl hr2), rfl, _, _, rfl, ?_⟩
      refine ⟨_, _, rfl, rfl, ?_⟩
      refine ⟨_, rfl, _, rfl, ?_⟩
      refine ifT rfl ?_
      exact ⟨_, rfl, _, rfl, _, rfl, by show 2 ≤ sizeLine; decide, fun r3 h3 => q'.2 e _ r3 ((s1.trans s2).trans (same_new h3)) upd_same⟩
/-- one more integer behind a comma, as long as signs are left -/
def rowGo (cs : List Nat) : Nat → List Int → Nat → Rd (List Int)
  | 0, row, _ => .ok row
  | f + 1, row, e => if e < cs.length then (match behindR cs e 44 with
      | .error j => .error j
      | .ok s => match signedR cs s with
        | .error j => .error j
        | .ok (n, e2) => rowGo cs f (row ++ [n]) e2) else .ok row
def rowR (cs : List Nat) : Rd (List Int) := match signedR cs 0 with
  | .error j => .error j
  | .ok (n, e) => rowGo cs cs.length [n] e
theorem rowGo_end {cs : List Nat} {f : Nat} {row : List Int} {e : Nat} (h : ¬ e < cs.length) : rowGo cs f row e = .ok row := by
  cases f with
  | zero => rfl
  | succ f => exact if_neg h
theorem plainR_gt {cs : List Nat} {i n e : Nat} (h : plainR cs i = .ok (n, e)) : i < e := by
  unfold plainR at h
  split at h
  · injection h with h
    injection h with h1 h2
    rw [← h2]
    exact (endP_le cs i).1
  · cases h
theorem signedR_gt {cs : List Nat} {i e : Nat} {n : Int} (h : signedR cs i = .ok (n, e)) : i < e := by
  unfold signedR at h
  split at h
  · cases h
  · rename_i b s hl
    have ls : i ≤ s := by
      unfold lessR at hl
      split at hl
      · split at hl
        · cases hl
        · injection hl with hl
          injection hl with _ h2
          omega
      · injection hl with hl
        injection hl with _ h2
        omega
    split at h
    · cases h
    · rename_i n' e' hp
      have := plainR_gt hp
      injection h with h
      injection h with _ h2
      omega
abbrev rRw (K : PySem.W.Frag) (H : Hp) (E : XK) : Prop := ∀ H', Same H H' → E (.ref (ga K "InvalidRow")) none H'
def spReadRow (K : PySem.W.Frag) : Sp := fun vs H Q E => ∃ x n, vs = [x] ∧ Kd K H x n ∧ (∀ z, x = .str z → z.length ≤ 4000) ∧ (okT x = false → rPar K H 0 E) ∧
  ∀ z : Str, x = .str z → okT x = true → rRes K H E (rowR (cds z)) fun row => (row.length ≤ 60 → ∀ H' t, Same H H' → SqT K H' t (row.map V.int) → Q (.ref t) H') ∧ (60 < row.length → rRw K H E)
theorem scReadRow : FnScope ["text", "number", "end", "row"] ["text"] (defScope sReadRow) :=
  ⟨rfl, rfl, rfl, by decide +kernel, rfl, by decide +kernel, by decide +kernel⟩
theorem bReadRow (T : Tx K mg) (Y : Ex K mg) (BNeedText : Def P w K mg base (L2.CX P w) 3 "_need_text" ["text"] (spNeedText K)) (BReadSigned : Def P w K mg base (L2.CX P w) 4 "_read_signed" ["text", "at"] (spSigned K)) (BBehind : Def P w K mg base (L2.CX P w) 3 "_behind" ["text", "at", "sign"] (spBehind K)) : Def P w K mg base (L2.CX P w) 5 "read_row" ["text"] (spReadRow K) := by
  refine T.t_read_row.defX (N := ["text", "number", "end", "row"]) scReadRow (fun _ _ _ _ _ _ us hl => match us, hl with | [_], _ => rfl) ?_ ?_
  · intro vs H Q E h
    obtain ⟨x, n, rfl, _⟩ := h
    rfl
  · intro f cd A out s H vs Q E hr h
    have hr2 : Rm 4 _ := hr.le (by decide)
    have tk : Takes (cxOf (L2.CX P w) P w K mg base ["text", "number", "end", "row"] "read_row" (defScope sReadRow) f cd A out s H E) (fun cls d _ H1 => E cls d H1) := takes_of rfl rfl rfl rfl
    obtain ⟨x, n, rfl, hk, hz, q1, q2⟩ := h
    refine ⟨_, (pss_cons (ps_expr (ME.pe_dS BNeedText (hr2.le (by decide)) (passAt tk) (pa_cons (pv 0) pa_nil)))
      (pss_cons (ps_asg (ME.pe_dS BReadSigned (hr2.le (by decide)) (passAt tk) (pa_cons (pv 0) (pa_cons pe_int pa_nil))) (pg_tup rfl (pgs_cons (pg_name (i := 1) scReadRow.nd rfl (Or.inl rfl)) (pgs_cons (pg_name (i := 2) scReadRow.nd rfl (Or.inl rfl)) pgs_nil))))
      (pss_cons (ps_set (i := 3) scReadRow.nd rfl (Or.inl rfl) (pe_lst (pa_cons (pv 1) pa_nil)))
      (pss_cons (ps_while (passes_of rfl) (pt_cmpR op_lt (pv 2) (pe_callB call_len_str rfl T.f_len (by decide +kernel) (pa_cons (pv 0) pa_nil)) (nomark _))
        (pss_cons (ps_asg (ME.pe_dS BReadSigned (hr2.le (by decide)) (passAt tk) (pa_cons (pv 0) (pa_cons (ME.pe_dS BBehind (hr2.le (by decide)) (passAt tk) (pa_cons (pv 0) (pa_cons (pv 2) (pa_cons pe_str pa_nil)))) pa_nil))) (pg_tup rfl (pgs_cons (pg_name (i := 1) scReadRow.nd rfl (Or.inl rfl)) (pgs_cons (pg_name (i := 2) scReadRow.nd rfl (Or.inl rfl)) pgs_nil))))
        (pss_one (ps_expr (pe_bm PySem.F.plainAttrs_list PySem.F.slot_list_append PySem.F.type_list_append mt_append (pv 3) (pa_cons (pv 1) pa_nil))))))
      (pss_cons (ps_if (pt_cmpR op_gt (pe_callB call_len_seq rfl T.f_len (by decide +kernel) (pa_cons (pv 3) pa_nil)) (C8.pe_gc rfl T.c_MOST_MEMBERS) (nomark _)) (pss_one (ps_plain Y.rw rfl tk)) pss_nil)
      (pss_one (ps_ret (pe_callTy call_tuple_of rfl T.f_tuple (by decide +kernel) (pa_cons (pv 3) pa_nil))))))))), ?_⟩
    refine ⟨_, rfl, x, n, rfl, hk, hz, q1, fun b => ?_⟩
    obtain ⟨z, rfl⟩ : ∃ z, x = .str z := by
      cases hk <;> first | exact ⟨_, rfl⟩ | cases b
    have q := q2 z rfl b
    have z4 := hz z rfl
    have hl : z.length = (cds z).length := (Array.length_toList).symm
    refine ⟨_, rfl, z, 0, rfl, z4, ?_⟩
    unfold rowR at q
    cases e0 : signedR (cds z) 0 with
    | error j =>
      rw [e0] at q
      exact q
    | ok r =>
      obtain ⟨n0, e⟩ := r
      rw [e0] at q
      intro H1 t s1 ht
      refine ⟨t, _, rfl, .inl (.inl ht), rfl, _, _, rfl, ?_⟩
      refine ⟨_, _, rfl, rfl, ?_⟩
      refine ⟨_, rfl, by show 1 ≤ sizeLine; decide, fun l fl => ?_⟩
      have sl := s1.trans (same_new fl (o := .lst [.int n0]))
      have el : (upd H1 l (.lst [.int n0])) l = some (.lst (([n0] : List Int).map V.int)) := upd_same
      have l0 : H l = none := s1.free fl
      generalize upd H1 l _ = H2 at sl el ⊢
      have e1 := signedR_gt e0
      replace q : rRes K H E (rowGo (cds z) (cds z).length [n0] e) fun row => (row.length ≤ 60 → ∀ H' t, Same H H' → SqT K H' t (row.map V.int) → Q (.ref t) H') ∧ (60 < row.length → rRw K H E) := q
      generalize hR : rowGo (cds z) (cds z).length [n0] e = R at q
      refine while_by (fun σ H3 => ∃ (nn : Int) (row : List Int) (e f : Nat), σ = [some (.str z), some (.int nn), some (.int (e : Int)), some (.ref l)] ∧ Same H H3 ∧ H3 l = some (.lst (row.map V.int)) ∧
          rowGo (cds z) f row e = R ∧ (cds z).length ≤ f + e ∧ row.length ≤ e)
        (fun σ _ => match σ with | [_, _, some (.int e), _] => ((cds z).length - e).toNat | _ => 0) ?_ ?_ ?_
      · exact ⟨n0, [n0], e, (cds z).length, rfl, sl, el, hR, by omega, by show 1 ≤ e; omega⟩
      · rintro σ H3 ⟨nn, row, e', f, rfl, s3, h3, gR, fl, rl⟩
        refine ⟨_, rfl, _, rfl, z, rfl, line4000 z4, _, _, rfl, rfl, _, rfl, ?_⟩
        by_cases lt : e' < (cds z).length
        · refine ifT (decide_eq_true (by rw [hl]; omega)) ?_
          obtain ⟨f', rfl⟩ : ∃ f', f = f' + 1 := ⟨f - 1, by omega⟩
          rw [show rowGo (cds z) (f' + 1) row e' = (match behindR (cds z) e' 44 with
            | .error j => .error j
            | .ok s => match signedR (cds z) s with
              | .error j => .error j
              | .ok (n, e2) => rowGo (cds z) f' (row ++ [n]) e2) from if_pos lt] at gR
          unfold behindR at gR
          refine ⟨_, rfl, _, rfl, _, rfl, z, e', 44, rfl, z4, fun b => ?_, fun b => ?_⟩
          · rw [b, if_neg (by decide)] at gR
            rw [← gR] at q
            exact rPar.same q s3
          · rw [b, if_pos rfl] at gR
            refine ⟨z, e' + 1, rfl, z4, ?_⟩
            cases hs : signedR (cds z) (e' + 1) with
            | error j =>
              simp only [hs] at gR
              rw [← gR] at q
              exact rPar.same q s3
            | ok r =>
              obtain ⟨n1, e2⟩ := r
              simp only [hs] at gR
              have gt := signedR_gt hs
              intro H4 t4 s4 ht4
              have h4 := s4 _ _ h3
              refine ⟨t4, _, rfl, .inl (.inl ht4), rfl, _, _, rfl, ?_⟩
              refine ⟨_, _, rfl, rfl, ?_⟩
              refine ⟨_, rfl, .inl ⟨rfl, _, .inl (.inl h4)⟩, _, rfl, l, _, _, rfl, rfl, h4, ?_, ?_⟩
              · rw [List.length_map, sizeLine_eq]
                omega
              refine ⟨⟨n1, row ++ [n1], e2, f', rfl, ?_, ?_, gR, by omega, by rw [List.length_append]; show row.length + 1 ≤ e2; omega⟩, ?_⟩
              · intro b o hb
                rw [upd_ne (ne_of_none hb l0)]
                exact s4 _ _ (s3 _ _ hb)
              · rw [upd_same, List.map_append]
                rfl
              · show (((cds z).length : Int) - (e2 : Int)).toNat < (((cds z).length : Int) - (e' : Int)).toNat
                omega
        · refine ifF (decide_eq_false (by rw [hl]; omega)) ?_
          rw [rowGo_end lt] at gR
          rw [← gR] at q
          obtain ⟨qa, qb⟩ := q
          refine ⟨_, rfl, l, _, rfl, .inl (.inl (.inl h3)), _, _, rfl, rfl, _, rfl, ?_⟩
          by_cases c : row.length ≤ 60
          · refine ifF (decide_eq_false (by rw [List.length_map]; omega)) ?_
            exact ⟨_, rfl, l, _, rfl, .inl ⟨.inl (.inl h3), fun t ft => qa c _ t (s3.trans (same_new ft)) (.inl (.inl upd_same))⟩⟩
          · refine ifT (decide_eq_true (by rw [List.length_map]; omega)) ?_
            exact qb (by omega) _ s3
      · rintro σ H2 Q1 Q2 mono ⟨x1, h1, x2, h2, z', hz', lz, a, b, e1, e2, c, hc, h3⟩
        exact ⟨x1, h1, x2, h2, z', hz', lz, a, b, e1, e2, c, hc, mono _ _ h3⟩
end
end K85


set_option Elab.async false
set_option linter.all false
set_option maxRecDepth 100000
set_option maxHeartbeats 2000000
namespace K85
open PySem PySem.Spec PyProof.Rows L2 MM PySem.NumText
/-! own words for the readings: a step, its side -/
local macro_rules | `(tactic| walk_at "side") => `(tactic| first
  | omega
  | exact ⟨by omega, by omega⟩
  | exact Or.inl ⟨by omega, by omega⟩
  | exact Or.inr ⟨by omega, by omega⟩
  | (show CPw _ _; decide +kernel)
  | (show (0 : Int) < _; decide +kernel)
  | (show CDivW _ _; first | assumption | exact ⟨by decide, by decide +kernel⟩))
local macro_rules | `(tactic| walk_at "here") => `(tactic| first
  | assumption
  | exact upd_same
  | exact Or.inl (Or.inl upd_same)
  | exact Or.inl upd_same)
local macro_rules | `(tactic| walk_at "one") => `(tactic| first
  | refine ⟨_, rfl, ?_⟩
  | refine Or.inl ⟨_, rfl, ?_⟩
  | refine Or.inr ⟨_, rfl, ?_⟩
  | refine ⟨_, _, rfl, rfl, (by walk_at "side"), ?_⟩
  | refine ⟨_, _, rfl, rfl, ?_⟩
  | refine ⟨_, _, rfl, Or.inl (by walk_at "here"), ?_⟩
  | refine ⟨_, _, rfl, Or.inr (by walk_at "here"), ?_⟩
  | refine ⟨_, _, rfl, (by walk_at "here"), ?_⟩
  | refine ⟨_, _, _, _, rfl, rfl, (by walk_at "here"), rfl, ?_⟩
  | refine ⟨_, _, rfl, ?_⟩
  | refine ifT (by rfl) ?_
  | refine ifF (by rfl) ?_
  | refine ifT (decide_eq_true (by omega)) ?_
  | refine ifF (decide_eq_false (by omega)) ?_)
local macro_rules | `(tactic| walk_at "st") => `(tactic| repeat (walk_at "one"))

section
variable {P : Program} {w : World} {K : PySem.W.Frag} {mg : Str → Option Value} {base : Heap}
/-- three values in a tuple -/
abbrev rThree (x y v : V) (H : Hp) (Q : VK) : Prop := ∀ H' r, Same H H' → H' r = some (.tup [x, y, v]) → Q (.ref r) H'
/-- the number ahead of an index -/
def headR (cs : List Nat) (i : Nat) : Rd (Nat × Nat) := if isAt cs i 91 = true then .ok (1, i) else plainR cs i
def termR (cs : List Nat) (i : Nat) : Rd (Nat × Nat × Nat) := match headR cs i with
  | .error j => .error j
  | .ok (m, e) => match behindR cs e 91 with
    | .error j => .error j
    | .ok s => match plainR cs s with
      | .error j => .error j
      | .ok (x, e1) => match behindR cs e1 93 with
        | .error j => .error j
        | .ok e2 => .ok (x, m, e2)
def spTerm (K : PySem.W.Frag) : Sp := fun vs H Q E => ∃ (z : Str) (i : Nat), vs = [.str z, .int (i : Int)] ∧ z.length ≤ 4000 ∧ rRes K H E (termR (cds z) i) fun r => rThree (.int (r.1 : Nat)) (.int (r.2.1 : Nat)) (.int (r.2.2 : Nat)) H Q
theorem scReadTerm : FnScope ["text", "at", "many", "end", "index"] ["text", "at"] (defScope sReadTerm) :=
  ⟨rfl, rfl, rfl, by decide +kernel, rfl, by decide +kernel, by decide +kernel⟩
theorem bReadTerm (T : Tx K mg) (Y : Ex K mg) (DIsAt : Def P w K mg base CX0 1 "_is_at" ["text", "at", "sign"] spIsAt) (BReadPlain : Def P w K mg base (L2.CX P w) 3 "_read_plain" ["text", "at"] (spPlain K)) (BBehind : Def P w K mg base (L2.CX P w) 3 "_behind" ["text", "at", "sign"] (spBehind K)) : Def P w K mg base (L2.CX P w) 4 "_read_term" ["text", "at"] (spTerm K) := by
  refine T.t_read_term.defX (N := ["text", "at", "many", "end", "index"]) scReadTerm (fun _ _ _ _ _ _ us hl => match us, hl with | [_, _], _ => rfl) ?_ ?_
  · intro vs H Q E h
    obtain ⟨z, i, rfl, _⟩ := h
    rfl
  · intro f cd A out s H vs Q E hr h
    have hr1 : Rm 1 _ := hr.le (by decide)
    have hr2 : Rm 3 _ := hr.le (by decide)
    have tk : Takes (cxOf (L2.CX P w) P w K mg base ["text", "at", "many", "end", "index"] "_read_term" (defScope sReadTerm) f cd A out s H E) (fun cls d _ H1 => E cls d H1) := takes_of rfl rfl rfl rfl
    obtain ⟨z, i, rfl, hz, q⟩ := h
    refine ⟨_, (pss_cons (ps_par (i := 2) (j := 3) rfl scReadTerm.nd rfl rfl (by decide) rfl rfl (pa_cons pe_int (pa_cons (pv 1) pa_nil)) (by rfl))
      (pss_cons (ps_if (pt_not (pt_val (pe_d DIsAt (hr1.le (by decide)) pass0 (pa_cons (pv 0) (pa_cons (pv 1) (pa_cons pe_str pa_nil)))))) (pss_one (ps_asg (ME.pe_dS BReadPlain (hr2.le (by decide)) (passAt tk) (pa_cons (pv 0) (pa_cons (pv 1) pa_nil))) (pg_tup rfl (pgs_cons (pg_name (i := 2) scReadTerm.nd rfl (Or.inl rfl)) (pgs_cons (pg_name (i := 3) scReadTerm.nd rfl (Or.inl rfl)) pgs_nil))))) pss_nil)
      (pss_cons (ps_asg (ME.pe_dS BReadPlain (hr2.le (by decide)) (passAt tk) (pa_cons (pv 0) (pa_cons (ME.pe_dS BBehind (hr2.le (by decide)) (passAt tk) (pa_cons (pv 0) (pa_cons (pv 3) (pa_cons pe_str pa_nil)))) pa_nil))) (pg_tup rfl (pgs_cons (pg_name (i := 4) scReadTerm.nd rfl (Or.inl rfl)) (pgs_cons (pg_name (i := 3) scReadTerm.nd rfl (Or.inl rfl)) pgs_nil))))
      (pss_one (ps_ret (pe_tup (pa_cons (pv 4) (pa_cons (pv 2) (pa_cons (ME.pe_dS BBehind (hr2.le (by decide)) (passAt tk) (pa_cons (pv 0) (pa_cons (pv 3) (pa_cons pe_str pa_nil)))) pa_nil))))))))), ?_⟩
    unfold termR headR at q
    refine ⟨_, rfl, _, _, rfl, ?_⟩
    refine ⟨_, rfl, _, rfl, z, i, 91, rfl, hz, ?_⟩
    refine ⟨_, rfl, ?_⟩
    cases b0 : isAt (cds z) i 91 with
    | true =>
      refine ifF rfl ?_
      rw [b0] at q
      replace q : rRes K H E (match behindR (cds z) i 91 with
        | .error j => .error j
        | .ok s => match plainR (cds z) s with
          | .error j => .error j
          | .ok (x, e1) => match behindR (cds z) e1 93 with
            | .error j => .error j
            | .ok e2 => .ok (x, 1, e2)) fun r => rThree (.int (r.1 : Nat)) (.int (r.2.1 : Nat)) (.int (r.2.2 : Nat)) H Q := q
      have qm := q
      unfold behindR at qm
      refine ⟨_, rfl, _, rfl, _, rfl, z, i, 91, rfl, hz, fun b1 => ?_, fun b1 => ?_⟩
      · rw [b1, if_neg (by decide)] at qm
        exact rPar.same qm (Same.refl H)
      · rw [b1, if_pos rfl] at qm
        refine ⟨z, i + 1, rfl, hz, fun d1 => ?_, fun d1 H2 r2 s2 hr2 => ?_⟩
        · unfold plainR at qm
          simp only [d1, if_neg Bool.false_ne_true] at qm
          exact rPar.same qm (Same.refl H)
        · unfold plainR at qm
          simp only [d1, if_pos] at qm
          refine ⟨r2, _, rfl, .inl (.inl hr2), rfl, _, _, rfl, ?_⟩
          refine ⟨_, _, rfl, rfl, ?_⟩
          refine ⟨_, rfl, _, rfl, _, rfl, _, rfl, z, _, 93, rfl, hz, fun b2 => ?_, fun b2 => ?_⟩
          · rw [b2] at qm
            exact rPar.same qm ((Same.refl H).trans s2)
          · rw [b2] at qm
            exact ⟨by show 3 ≤ sizeLine; decide, fun r3 h3 => qm _ r3 (((Same.refl H).trans s2).trans (same_new h3)) upd_same⟩
    | false =>
      refine ifT rfl ?_
      rw [b0] at q
      refine ⟨_, rfl, _, rfl, z, i, rfl, hz, fun d0 => ?_, fun d0 H1 r1 s1 hr1' => ?_⟩
      · unfold plainR at q
        rw [d0] at q
        exact q
      refine ⟨r1, _, rfl, .inl (.inl hr1'), rfl, _, _, rfl, ?_⟩
      refine ⟨_, _, rfl, rfl, ?_⟩
      replace q : rRes K H E (match behindR (cds z) (endP (cds z) i) 91 with
        | .error j => .error j
        | .ok s => match plainR (cds z) s with
          | .error j => .error j
          | .ok (x, e1) => match behindR (cds z) e1 93 with
            | .error j => .error j
            | .ok e2 => .ok (x, valP (cds z) i, e2)) fun r => rThree (.int (r.1 : Nat)) (.int (r.2.1 : Nat)) (.int (r.2.2 : Nat)) H Q := by
        rw [show plainR (cds z) i = .ok (valP (cds z) i, endP (cds z) i) from if_pos d0] at q
        exact q
      generalize endP (cds z) i = e0 at q hr1' ⊢
      generalize valP (cds z) i = m0 at q hr1' ⊢
      have qm := q
      unfold behindR at qm
      refine ⟨_, rfl, _, rfl, _, rfl, z, e0, 91, rfl, hz, fun b1 => ?_, fun b1 => ?_⟩
      · rw [b1, if_neg (by decide)] at qm
        exact rPar.same qm s1
      · rw [b1, if_pos rfl] at qm
        refine ⟨z, e0 + 1, rfl, hz, fun d1 => ?_, fun d1 H2 r2 s2 hr2 => ?_⟩
        · unfold plainR at qm
          simp only [d1, if_neg Bool.false_ne_true] at qm
          exact rPar.same qm s1
        · unfold plainR at qm
          simp only [d1, if_pos] at qm
          refine ⟨r2, _, rfl, .inl (.inl hr2), rfl, _, _, rfl, ?_⟩
          refine ⟨_, _, rfl, rfl, ?_⟩
          refine ⟨_, rfl, _, rfl, _, rfl, _, rfl, z, _, 93, rfl, hz, fun b2 => ?_, fun b2 => ?_⟩
          · rw [b2] at qm
            exact rPar.same qm (s1.trans s2)
          · rw [b2] at qm
            exact ⟨by show 3 ≤ sizeLine; decide, fun r3 h3 => qm _ r3 ((s1.trans s2).trans (same_new h3)) upd_same⟩
def termsGo (cs : List Nat) : Nat → List (Nat × Int) → Nat → Rd (List (Nat × Int))
  | 0, ts, _ => .ok ts
  | f + 1, ts, e => if e < cs.length then (match behindR cs e 32 with
      | .error j => .error j
      | .ok e1 => match behindR cs e1 (if isAt cs e1 45 = true then 45 else 43) with
        | .error j => .error j
        | .ok e2 => match behindR cs e2 32 with
          | .error j => .error j
          | .ok s => match termR cs s with
            | .error j => .error j
            | .ok (x, m, e3) => termsGo cs f (ts ++ [(x, sgn (isAt cs e1 45) m)]) e3) else .ok ts
def termsR (cs : List Nat) : Rd (List (Nat × Int)) := match lessR cs 0 with
  | .error j => .error j
  | .ok (b, s) => match termR cs s with
    | .error j => .error j
    | .ok (x, m, e) => termsGo cs cs.length [(x, sgn b m)] e
theorem termsGo_end {cs : List Nat} {f : Nat} {ts : List (Nat × Int)} {e : Nat} (h : ¬ e < cs.length) : termsGo cs f ts e = .ok ts := by
  cases f with
  | zero => rfl
  | succ f => exact if_neg h
theorem behind_ok {cs : List Nat} {i c : Nat} (h : isAt cs i c = true) : behindR cs i c = .ok (i + 1) := if_pos h
theorem behind_no {cs : List Nat} {i c : Nat} (h : isAt cs i c = false) : behindR cs i c = .error i := if_neg (by rw [h]; decide)
theorem behindR_eq {cs : List Nat} {i c e : Nat} (h : behindR cs i c = .ok e) : e = i + 1 := by
  unfold behindR at h
  split at h
  · injection h with h
    exact h.symm
  · cases h
theorem termR_gt {cs : List Nat} {i x m e : Nat} (h : termR cs i = .ok (x, m, e)) : i < e := by
  unfold termR at h
  split at h
  · cases h
  · rename_i m0 e0 hh
    have l0 : i ≤ e0 := by
      unfold headR at hh
      split at hh
      · injection hh with hh
        injection hh with _ h2
        omega
      · exact Nat.le_of_lt (plainR_gt hh)
    split at h
    · cases h
    · rename_i s hs
      have := behindR_eq hs
      split at h
      · cases h
      · rename_i x1 e1 hp
        have := plainR_gt hp
        split at h
        · cases h
        · rename_i e2 he
          have := behindR_eq he
          injection h with h
          injection h with _ h
          injection h with _ h
          omega
theorem pairedI {α β : Type} {R S : α → β → Prop} : ∀ {us : List α} {os : List β}, Paired R us os → (∀ a b, R a b → S a b) → Paired S us os
  | _, _, .nil, _ => .nil
  | _, _, .cons r t, f => .cons (f _ _ r) (pairedI t f)
/-- pairs of an index and an integer, in tuples elsewhere than at l -/
def PT (K : PySem.W.Frag) (l : Addr) (H : Hp) (vs : List V) (ts : List (Nat × Int)) : Prop := Paired (fun v (p : Nat × Int) => ∃ a, v = .ref a ∧ a ≠ l ∧ H a = some (.tup [.int (p.1 : Nat), .int p.2])) vs ts
theorem pt_same {l : Addr} {H H' : Hp} {vs : List V} {ts : List (Nat × Int)} (h : PT K l H vs ts) (s : Same H H') : PT K l H' vs ts :=
  pairedI h fun _ _ ⟨a, e, n, S⟩ => ⟨a, e, n, s _ _ S⟩
theorem pt_upd {l : Addr} {H : Hp} {o : HO} {vs : List V} {ts : List (Nat × Int)} (h : PT K l H vs ts) : PT K l (upd H l o) vs ts :=
  pairedI h fun _ _ ⟨a, e, n, S⟩ => ⟨a, e, n, by rw [upd_ne n]; exact S⟩
theorem pt_len {l : Addr} {H : Hp} : ∀ {vs : List V} {ts : List (Nat × Int)}, PT K l H vs ts → vs.length = ts.length
  | _, _, .nil => rfl
  | _, _, .cons _ h => congrArg (· + 1) (pt_len h)
theorem pt_add {l u : Addr} {H : Hp} {p : Nat × Int} : ∀ {vs : List V} {ts : List (Nat × Int)}, PT K l H vs ts → u ≠ l → H u = some (.tup [.int (p.1 : Nat), .int p.2]) → PT K l H (vs ++ [.ref u]) (ts ++ [p])
  | _, _, .nil, n, e => .cons ⟨u, rfl, n, e⟩ .nil
  | _, _, .cons r h, n, e => .cons r (pt_add h n e)
def spTerms (K : PySem.W.Frag) : Sp := fun vs H Q E => ∃ (z : Str), vs = [.str z] ∧ z.length ≤ 4000 ∧ rRes K H E (termsR (cds z)) fun ts => ∀ H' l vs, Same H H' → H' l = some (.lst vs) → PT K l H' vs ts → Q (.ref l) H'
theorem scReadTerms : FnScope ["text", "is_less", "start", "index", "many", "end", "terms"] ["text"] (defScope sReadTerms) :=
  ⟨rfl, rfl, rfl, by decide +kernel, rfl, by decide +kernel, by decide +kernel⟩
theorem bReadTerms (T : Tx K mg) (Y : Ex K mg) (DIsAt : Def P w K mg base CX0 1 "_is_at" ["text", "at", "sign"] spIsAt) (BReadLess : Def P w K mg base (L2.CX P w) 3 "_read_less" ["text", "at"] (spLess K)) (BReadTerm : Def P w K mg base (L2.CX P w) 4 "_read_term" ["text", "at"] (spTerm K)) (BBehind : Def P w K mg base (L2.CX P w) 3 "_behind" ["text", "at", "sign"] (spBehind K)) : Def P w K mg base (L2.CX P w) 5 "_read_terms" ["text"] (spTerms K) := by
  refine T.t_read_terms.defX (N := ["text", "is_less", "start", "index", "many", "end", "terms"]) scReadTerms (fun _ _ _ _ _ _ us hl => match us, hl with | [_], _ => rfl) ?_ ?_
  · intro vs H Q E h
    obtain ⟨z, rfl, _⟩ := h
    rfl
  · intro f cd A out s H vs Q E hr h
    have hr1 : Rm 1 _ := hr.le (by decide)
    have hr2 : Rm 4 _ := hr.le (by decide)
    have tk : Takes (cxOf (L2.CX P w) P w K mg base ["text", "is_less", "start", "index", "many", "end", "terms"] "_read_terms" (defScope sReadTerms) f cd A out s H E) (fun cls d _ H1 => E cls d H1) := takes_of rfl rfl rfl rfl
    obtain ⟨z, rfl, hz, q⟩ := h
    refine ⟨_, (pss_cons (ps_asg (ME.pe_dS BReadLess (hr2.le (by decide)) (passAt tk) (pa_cons (pv 0) (pa_cons pe_int pa_nil))) (pg_tup rfl (pgs_cons (pg_name (i := 1) scReadTerms.nd rfl (Or.inl rfl)) (pgs_cons (pg_name (i := 2) scReadTerms.nd rfl (Or.inl rfl)) pgs_nil))))
      (pss_cons (ps_asg (ME.pe_dS BReadTerm (hr2.le (by decide)) (passAt tk) (pa_cons (pv 0) (pa_cons (pv 2) pa_nil))) (pg_tup rfl (pgs_cons (pg_name (i := 3) scReadTerms.nd rfl (Or.inl rfl)) (pgs_cons (pg_name (i := 4) scReadTerms.nd rfl (Or.inl rfl)) (pgs_cons (pg_name (i := 5) scReadTerms.nd rfl (Or.inl rfl)) pgs_nil)))))
      (pss_cons (ps_set (i := 6) scReadTerms.nd rfl (Or.inl rfl) (pe_lst (pa_cons (pe_tup (pa_cons (pv 3) (pa_cons (pe_ifExp (pt_val (pv 1)) (pe_un un_neg (pv 4)) (pv 4)) pa_nil))) pa_nil)))
      (pss_cons (ps_while (passes_of rfl) (pt_cmpR op_lt (pv 5) (pe_callB call_len_str rfl T.f_len (by decide +kernel) (pa_cons (pv 0) pa_nil)) (nomark _))
        (pss_cons (ps_set (i := 5) scReadTerms.nd rfl (Or.inl rfl) (ME.pe_dS BBehind (hr2.le (by decide)) (passAt tk) (pa_cons (pv 0) (pa_cons (pv 5) (pa_cons pe_str pa_nil)))))
        (pss_cons (ps_set (i := 1) scReadTerms.nd rfl (Or.inl rfl) (pe_d DIsAt (hr1.le (by decide)) pass0 (pa_cons (pv 0) (pa_cons (pv 5) (pa_cons pe_str pa_nil)))))
        (pss_cons (ps_set (i := 5) scReadTerms.nd rfl (Or.inl rfl) (ME.pe_dS BBehind (hr2.le (by decide)) (passAt tk) (pa_cons (pv 0) (pa_cons (pv 5) (pa_cons (pe_ifExp (pt_val (pv 1)) pe_str pe_str) pa_nil)))))
        (pss_cons (ps_asg (ME.pe_dS BReadTerm (hr2.le (by decide)) (passAt tk) (pa_cons (pv 0) (pa_cons (ME.pe_dS BBehind (hr2.le (by decide)) (passAt tk) (pa_cons (pv 0) (pa_cons (pv 5) (pa_cons pe_str pa_nil)))) pa_nil))) (pg_tup rfl (pgs_cons (pg_name (i := 3) scReadTerms.nd rfl (Or.inl rfl)) (pgs_cons (pg_name (i := 4) scReadTerms.nd rfl (Or.inl rfl)) (pgs_cons (pg_name (i := 5) scReadTerms.nd rfl (Or.inl rfl)) pgs_nil)))))
        (pss_one (ps_expr (pe_bm PySem.F.plainAttrs_list PySem.F.slot_list_append PySem.F.type_list_append mt_append (pv 6) (pa_cons (pe_tup (pa_cons (pv 3) (pa_cons (pe_ifExp (pt_val (pv 1)) (pe_un un_neg (pv 4)) (pv 4)) pa_nil))) pa_nil)))))))))
      (pss_one (ps_ret (pv 6))))))), ?_⟩
    have hl : z.length = (cds z).length := (Array.length_toList).symm
    -- behind the sign
    refine ⟨_, rfl, z, 0, rfl, hz, fun b => ?_, fun b1 b2 => ?_, fun b1 b2 => ?_⟩
    case' refine_2 =>
      unfold termsR lessR at q
      rw [b1, b2] at q
      exact q
    · have q' : rRes K H E (match termR (cds z) 0 with
        | .error j => .error j
        | .ok (x, m, e) => termsGo (cds z) (cds z).length [(x, sgn false m)] e) fun ts => ∀ H' l vs, Same H H' → H' l = some (.lst vs) → PT K l H' vs ts → Q (.ref l) H' := by
        unfold termsR lessR at q
        rw [b] at q
        exact q
      clear q b
      intro H1 r s1 hr_
      refine ⟨r, _, rfl, .inl (.inl hr_), rfl, _, _, rfl, ?_⟩
      refine ⟨_, _, rfl, rfl, ?_⟩
      refine ⟨_, rfl, _, rfl, z, 0, rfl, hz, ?_⟩
      cases e0 : termR (cds z) 0 with
      | error j =>
        simp only [e0] at q'
        exact rPar.same q' s1
      | ok r0 =>
        obtain ⟨x0, m0, en⟩ := r0
        simp only [e0] at q'
        have gt0 := termR_gt e0
        intro H2 t2 s2 ht2
        refine ⟨t2, _, rfl, .inl (.inl ht2), rfl, _, _, rfl, ?_⟩
        refine ⟨_, _, rfl, ?_⟩
        refine ⟨_, _, rfl, rfl, ?_⟩
        refine ⟨_, rfl, _, rfl, _, rfl, ?_⟩
        refine ifF rfl ?_
        refine ⟨_, rfl, by show 2 ≤ sizeLine; decide, fun u fu => ?_⟩
        generalize eH : upd H2 u _ = H5
        have s5 : Same H H5 := by rw [← eH]; exact (s1.trans s2).trans (same_new fu)
        have eu : H5 u = some (.tup [.int (x0 : Nat), .int (sgn false m0)]) := by rw [← eH]; exact upd_same
        clear eH
        refine ⟨by show 1 ≤ sizeLine; decide, fun l fl => ?_⟩
        have un : u ≠ l := by
          rintro rfl
          rw [eu] at fl
          cases fl
        have l0 : H l = none := s5.free fl
        generalize eH : upd H5 l _ = H6
        have s6 : Same H H6 := by rw [← eH]; exact s5.trans (same_new fl)
        have el : H6 l = some (.lst [.ref u]) := by rw [← eH]; exact upd_same
        have pe : PT K l H6 [.ref u] [(x0, sgn false m0)] := .cons ⟨u, rfl, un, by rw [← eH, upd_ne un]; exact eu⟩ .nil
        clear eH
        replace q : rRes K H E (termsGo (cds z) (cds z).length [(x0, sgn false m0)] en) fun ts => ∀ H' l vs, Same H H' → H' l = some (.lst vs) → PT K l H' vs ts → Q (.ref l) H' := q'
        generalize hR : termsGo (cds z) (cds z).length [(x0, sgn false m0)] en = R at q
        refine while_by (fun σ H3 => ∃ (w1 w2 w3 w4 : Option V) (vs : List V) (ts : List (Nat × Int)) (e f : Nat), σ = [some (.str z), w1, w2, w3, w4, some (.int (e : Int)), some (.ref l)] ∧ Same H H3 ∧ H3 l = some (.lst vs) ∧ PT K l H3 vs ts ∧
            termsGo (cds z) f ts e = R ∧ (cds z).length ≤ f + e ∧ ts.length ≤ e)
          (fun σ _ => match σ with | [_, _, _, _, _, some (.int e), _] => ((cds z).length - e).toNat | _ => 0) ?_ ?_ ?_
        · exact ⟨_, _, _, _, [.ref u], _, en, (cds z).length, rfl, s6, el, pe, hR, by omega, by show 1 ≤ en; omega⟩
        · rintro σ H3 ⟨w1, w2, w3, w4, vs, ts, e', f, rfl, s3, h3, p3, gR, fl, rl⟩
          refine ⟨_, rfl, _, rfl, z, rfl, line4000 hz, _, _, rfl, rfl, _, rfl, ?_⟩
          by_cases lt : e' < (cds z).length
          · refine ifT (decide_eq_true (by rw [hl]; omega)) ?_
            obtain ⟨f', rfl⟩ : ∃ f', f = f' + 1 := ⟨f - 1, by omega⟩
            rw [show termsGo (cds z) (f' + 1) ts e' = _ from if_pos lt] at gR
            refine ⟨_, rfl, _, rfl, z, e', 32, rfl, hz, fun b1 => ?_, fun b1 => ?_⟩
            · rw [behind_no b1] at gR
              replace gR : Except.error e' = R := gR
              rw [← gR] at q
              exact rPar.same q s3
            rw [behind_ok b1] at gR
            dsimp only at gR
            refine ⟨_, rfl, _, rfl, z, e' + 1, 45, rfl, hz, ?_⟩
            cases hs45 : isAt (cds z) (e' + 1) 45 with
            | true =>
              refine ⟨_, rfl, _, rfl, _, rfl, _, rfl, ?_⟩
              refine ifT rfl ?_
              refine ⟨z, e' + 1, 45, rfl, hz, fun b2 => ?_, fun b2 => ?_⟩
              · rw [b2] at hs45
                cases hs45
              rw [hs45, if_pos rfl, behind_ok b2] at gR
              dsimp only at gR
              refine ⟨_, rfl, _, rfl, _, rfl, z, e' + 1 + 1, 32, rfl, hz, fun b3 => ?_, fun b3 => ?_⟩
              · rw [behind_no b3] at gR
                replace gR : Except.error (e' + 1 + 1) = R := gR
                rw [← gR] at q
                exact rPar.same q s3
              · rw [behind_ok b3] at gR
                dsimp only at gR
                refine ⟨z, e' + 1 + 1 + 1, rfl, hz, ?_⟩
                replace gR : (match termR (cds z) (e' + 1 + 1 + 1) with
                  | .error j => .error j
                  | .ok (x, m, e3) => termsGo (cds z) f' (ts ++ [(x, sgn true m)]) e3) = R := gR
                cases hs : termR (cds z) (e' + 1 + 1 + 1) with
                | error j =>
                  simp only [hs] at gR
                  rw [← gR] at q
                  exact rPar.same q s3
                | ok r =>
                  obtain ⟨x, m, e3⟩ := r
                  simp only [hs] at gR
                  have gt := termR_gt hs
                  intro H4 t4 s4 ht4
                  have h4 := s4 _ _ h3
                  have p4 := pt_same p3 s4
                  refine ⟨t4, _, rfl, .inl (.inl ht4), rfl, _, _, rfl, ?_⟩
                  refine ⟨_, _, rfl, ?_⟩
                  refine ⟨_, _, rfl, rfl, ?_⟩
                  refine ⟨_, rfl, .inl ⟨rfl, _, .inl (.inl h4)⟩, _, rfl, _, rfl, _, rfl, ?_⟩
                  refine ifT rfl ?_
                  refine ⟨_, rfl, _, rfl, by show 2 ≤ sizeLine; decide, fun u fu => ?_⟩
                  have s5 := same_new fu (o := .tup [.int (x : Nat), .int (sgn true m)])
                  have h5 := s5 _ _ h4
                  have p5 := pt_same p4 s5
                  have eu : (upd H4 u (.tup [.int (x : Nat), .int (sgn true m)])) u = some (.tup [.int (x : Nat), .int (sgn true m)]) := upd_same
                  have un : u ≠ l := by
                    rintro rfl
                    rw [h4] at fu
                    cases fu
                  refine ⟨l, _, _, rfl, rfl, h5, ?_, ?_⟩
                  · rw [pt_len p5, sizeLine_eq]
                    omega
                  refine ⟨⟨_, _, _, _, vs ++ [.ref u], ts ++ [(x, sgn true m)], e3, f', rfl, ?_, upd_same, ?_, gR, by omega, by rw [List.length_append]; show ts.length + 1 ≤ e3; omega⟩, ?_⟩
                  · intro b o hb
                    rw [upd_ne (ne_of_none hb l0)]
                    exact s5 _ _ (s4 _ _ (s3 _ _ hb))
                  · exact pt_upd (pt_add p5 un eu)
                  · show (((cds z).length : Int) - (e3 : Int)).toNat < (((cds z).length : Int) - (e' : Int)).toNat
                    omega
            | false =>
              refine ⟨_, rfl, _, rfl, _, rfl, _, rfl, ?_⟩
              refine ifF rfl ?_
              refine ⟨z, e' + 1, 43, rfl, hz, fun b2 => ?_, fun b2 => ?_⟩
              · rw [hs45, if_neg (by decide), behind_no b2] at gR
                replace gR : Except.error (e' + 1) = R := gR
                rw [← gR] at q
                exact rPar.same q s3
              rw [hs45, if_neg (by decide), behind_ok b2] at gR
              dsimp only at gR
              refine ⟨_, rfl, _, rfl, _, rfl, z, e' + 1 + 1, 32, rfl, hz, fun b3 => ?_, fun b3 => ?_⟩
              · rw [behind_no b3] at gR
                replace gR : Except.error (e' + 1 + 1) = R := gR
                rw [← gR] at q
                exact rPar.same q s3
              · rw [behind_ok b3] at gR
                dsimp only at gR
                refine ⟨z, e' + 1 + 1 + 1, rfl, hz, ?_⟩
                replace gR : (match termR (cds z) (e' + 1 + 1 + 1) with
                  | .error j => .error j
                  | .ok (x, m, e3) => termsGo (cds z) f' (ts ++ [(x, sgn false m)]) e3) = R := gR
                cases hs : termR (cds z) (e' + 1 + 1 + 1) with
                | error j =>
                  simp only [hs] at gR
                  rw [← gR] at q
                  exact rPar.same q s3
                | ok r =>
                  obtain ⟨x, m, e3⟩ := r
                  simp only [hs] at gR
                  have gt := termR_gt hs
                  intro H4 t4 s4 ht4
                  have h4 := s4 _ _ h3
                  have p4 := pt_same p3 s4
                  refine ⟨t4, _, rfl, .inl (.inl ht4), rfl, _, _, rfl, ?_⟩
                  refine ⟨_, _, rfl, ?_⟩
                  refine ⟨_, _, rfl, rfl, ?_⟩
                  refine ⟨_, rfl, .inl ⟨rfl, _, .inl (.inl h4)⟩, _, rfl, _, rfl, _, rfl, ?_⟩
                  refine ifF rfl ?_
                  refine ⟨_, rfl, by show 2 ≤ sizeLine; decide, fun u fu => ?_⟩
                  have s5 := same_new fu (o := .tup [.int (x : Nat), .int (sgn false m)])
                  have h5 := s5 _ _ h4
                  have p5 := pt_same p4 s5
                  have eu : (upd H4 u (.tup [.int (x : Nat), .int (sgn false m)])) u = some (.tup [.int (x : Nat), .int (sgn false m)]) := upd_same
                  have un : u ≠ l := by
                    rintro rfl
                    rw [h4] at fu
                    cases fu
                  refine ⟨l, _, _, rfl, rfl, h5, ?_, ?_⟩
                  · rw [pt_len p5, sizeLine_eq]
                    omega
                  refine ⟨⟨_, _, _, _, vs ++ [.ref u], ts ++ [(x, sgn false m)], e3, f', rfl, ?_, upd_same, ?_, gR, by omega, by rw [List.length_append]; show ts.length + 1 ≤ e3; omega⟩, ?_⟩
                  · intro b o hb
                    rw [upd_ne (ne_of_none hb l0)]
                    exact s5 _ _ (s4 _ _ (s3 _ _ hb))
                  · exact pt_upd (pt_add p5 un eu)
                  · show (((cds z).length : Int) - (e3 : Int)).toNat < (((cds z).length : Int) - (e' : Int)).toNat
                    omega
          · refine ifF (decide_eq_false (by rw [hl]; omega)) ?_
            rw [termsGo_end lt] at gR
            rw [← gR] at q
            have lz : z.length = (cds z).length := hl
            exact ⟨_, rfl, q _ l vs s3 h3 p3⟩
        · rintro σ H2 Q1 Q2 mono ⟨x1, h1, x2, h2, z', hz', lz, a, b, e1, e2, c, hc, h3⟩
          exact ⟨x1, h1, x2, h2, z', hz', lz, a, b, e1, e2, c, hc, mono _ _ h3⟩
    · have q' : rRes K H E (match termR (cds z) 1 with
        | .error j => .error j
        | .ok (x, m, e) => termsGo (cds z) (cds z).length [(x, sgn true m)] e) fun ts => ∀ H' l vs, Same H H' → H' l = some (.lst vs) → PT K l H' vs ts → Q (.ref l) H' := by
        unfold termsR lessR at q
        rw [b1, b2] at q
        exact q
      clear q b1 b2
      intro H1 r s1 hr_
      refine ⟨r, _, rfl, .inl (.inl hr_), rfl, _, _, rfl, ?_⟩
      refine ⟨_, _, rfl, rfl, ?_⟩
      refine ⟨_, rfl, _, rfl, z, 1, rfl, hz, ?_⟩
      cases e0 : termR (cds z) 1 with
      | error j =>
        simp only [e0] at q'
        exact rPar.same q' s1
      | ok r0 =>
        obtain ⟨x0, m0, en⟩ := r0
        simp only [e0] at q'
        have gt0 := termR_gt e0
        intro H2 t2 s2 ht2
        refine ⟨t2, _, rfl, .inl (.inl ht2), rfl, _, _, rfl, ?_⟩
        refine ⟨_, _, rfl, ?_⟩
        refine ⟨_, _, rfl, rfl, ?_⟩
        refine ⟨_, rfl, _, rfl, _, rfl, ?_⟩
        refine ifT rfl ?_
        refine ⟨_, rfl, _, rfl, by show 2 ≤ sizeLine; decide, fun u fu => ?_⟩
        generalize eH : upd H2 u _ = H5
        have s5 : Same H H5 := by rw [← eH]; exact (s1.trans s2).trans (same_new fu)
        have eu : H5 u = some (.tup [.int (x0 : Nat), .int (sgn true m0)]) := by rw [← eH]; exact upd_same
        clear eH
        refine ⟨by show 1 ≤ sizeLine; decide, fun l fl => ?_⟩
        have un : u ≠ l := by
          rintro rfl
          rw [eu] at fl
          cases fl
        have l0 : H l = none := s5.free fl
        generalize eH : upd H5 l _ = H6
        have s6 : Same H H6 := by rw [← eH]; exact s5.trans (same_new fl)
        have el : H6 l = some (.lst [.ref u]) := by rw [← eH]; exact upd_same
        have pe : PT K l H6 [.ref u] [(x0, sgn true m0)] := .cons ⟨u, rfl, un, by rw [← eH, upd_ne un]; exact eu⟩ .nil
        clear eH
        replace q : rRes K H E (termsGo (cds z) (cds z).length [(x0, sgn true m0)] en) fun ts => ∀ H' l vs, Same H H' → H' l = some (.lst vs) → PT K l H' vs ts → Q (.ref l) H' := q'
        generalize hR : termsGo (cds z) (cds z).length [(x0, sgn true m0)] en = R at q
        refine while_by (fun σ H3 => ∃ (w1 w2 w3 w4 : Option V) (vs : List V) (ts : List (Nat × Int)) (e f : Nat), σ = [some (.str z), w1, w2, w3, w4, some (.int (e : Int)), some (.ref l)] ∧ Same H H3 ∧ H3 l = some (.lst vs) ∧ PT K l H3 vs ts ∧
            termsGo (cds z) f ts e = R ∧ (cds z).length ≤ f + e ∧ ts.length ≤ e)
          (fun σ _ => match σ with | [_, _, _, _, _, some (.int e), _] => ((cds z).length - e).toNat | _ => 0) ?_ ?_ ?_
        · exact ⟨_, _, _, _, [.ref u], _, en, (cds z).length, rfl, s6, el, pe, hR, by omega, by show 1 ≤ en; omega⟩
        · rintro σ H3 ⟨w1, w2, w3, w4, vs, ts, e', f, rfl, s3, h3, p3, gR, fl, rl⟩
          refine ⟨_, rfl, _, rfl, z, rfl, line4000 hz, _, _, rfl, rfl, _, rfl, ?_⟩
          by_cases lt : e' < (cds z).length
          · refine ifT (decide_eq_true (by rw [hl]; omega)) ?_
            obtain ⟨f', rfl⟩ : ∃ f', f = f' + 1 := ⟨f - 1, by omega⟩
            rw [show termsGo (cds z) (f' + 1) ts e' = _ from if_pos lt] at gR
            refine ⟨_, rfl, _, rfl, z, e', 32, rfl, hz, fun b1 => ?_, fun b1 => ?_⟩
            · rw [behind_no b1] at gR
              replace gR : Except.error e' = R := gR
              rw [← gR] at q
              exact rPar.same q s3
            rw [behind_ok b1] at gR
            dsimp only at gR
            refine ⟨_, rfl, _, rfl, z, e' + 1, 45, rfl, hz, ?_⟩
            cases hs45 : isAt (cds z) (e' + 1) 45 with
            | true =>
              refine ⟨_, rfl, _, rfl, _, rfl, _, rfl, ?_⟩
              refine ifT rfl ?_
              refine ⟨z, e' + 1, 45, rfl, hz, fun b2 => ?_, fun b2 => ?_⟩
              · rw [b2] at hs45
                cases hs45
              rw [hs45, if_pos rfl, behind_ok b2] at gR
              dsimp only at gR
              refine ⟨_, rfl, _, rfl, _, rfl, z, e' + 1 + 1, 32, rfl, hz, fun b3 => ?_, fun b3 => ?_⟩
              · rw [behind_no b3] at gR
                replace gR : Except.error (e' + 1 + 1) = R := gR
                rw [← gR] at q
                exact rPar.same q s3
              · rw [behind_ok b3] at gR
                dsimp only at gR
                refine ⟨z, e' + 1 + 1 + 1, rfl, hz, ?_⟩
                replace gR : (match termR (cds z) (e' + 1 + 1 + 1) with
                  | .error j => .error j
                  | .ok (x, m, e3) => termsGo (cds z) f' (ts ++ [(x, sgn true m)]) e3) = R := gR
                cases hs : termR (cds z) (e' + 1 + 1 + 1) with
                | error j =>
                  simp only [hs] at gR
                  rw [← gR] at q
                  exact rPar.same q s3
                | ok r =>
                  obtain ⟨x, m, e3⟩ := r
                  simp only [hs] at gR
                  have gt := termR_gt hs
                  intro H4 t4 s4 ht4
                  have h4 := s4 _ _ h3
                  have p4 := pt_same p3 s4
                  refine ⟨t4, _, rfl, .inl (.inl ht4), rfl, _, _, rfl, ?_⟩
                  refine ⟨_, _, rfl, ?_⟩
                  refine ⟨_, _, rfl, rfl, ?_⟩
                  refine ⟨_, rfl, .inl ⟨rfl, _, .inl (.inl h4)⟩, _, rfl, _, rfl, _, rfl, ?_⟩
                  refine ifT rfl ?_
                  refine ⟨_, rfl, _, rfl, by show 2 ≤ sizeLine; decide, fun u fu => ?_⟩
                  have s5 := same_new fu (o := .tup [.int (x : Nat), .int (sgn true m)])
                  have h5 := s5 _ _ h4
                  have p5 := pt_same p4 s5
                  have eu : (upd H4 u (.tup [.int (x : Nat), .int (sgn true m)])) u = some (.tup [.int (x : Nat), .int (sgn true m)]) := upd_same
                  have un : u ≠ l := by
                    rintro rfl
                    rw [h4] at fu
                    cases fu
                  refine ⟨l, _, _, rfl, rfl, h5, ?_, ?_⟩
                  · rw [pt_len p5, sizeLine_eq]
                    omega
                  refine ⟨⟨_, _, _, _, vs ++ [.ref u], ts ++ [(x, sgn true m)], e3, f', rfl, ?_, upd_same, ?_, gR, by omega, by rw [List.length_append]; show ts.length + 1 ≤ e3; omega⟩, ?_⟩
                  · intro b o hb
                    rw [upd_ne (ne_of_none hb l0)]
                    exact s5 _ _ (s4 _ _ (s3 _ _ hb))
                  · exact pt_upd (pt_add p5 un eu)
                  · show (((cds z).length : Int) - (e3 : Int)).toNat < (((cds z).length : Int) - (e' : Int)).toNat
                    omega
            | false =>
              refine ⟨_, rfl, _, rfl, _, rfl, _, rfl, ?_⟩
              refine ifF rfl ?_
              refine ⟨z, e' + 1, 43, rfl, hz, fun b2 => ?_, fun b2 => ?_⟩
              · rw [hs45, if_neg (by decide), behind_no b2] at gR
                replace gR : Except.error (e' + 1) = R := gR
                rw [← gR] at q
                exact rPar.same q s3
              rw [hs45, if_neg (by decide), behind_ok b2] at gR
              dsimp only at gR
              refine ⟨_, rfl, _, rfl, _, rfl, z, e' + 1 + 1, 32, rfl, hz, fun b3 => ?_, fun b3 => ?_⟩
              · rw [behind_no b3] at gR
                replace gR : Except.error (e' + 1 + 1) = R := gR
                rw [← gR] at q
                exact rPar.same q s3
              · rw [behind_ok b3] at gR
                dsimp only at gR
                refine ⟨z, e' + 1 + 1 + 1, rfl, hz, ?_⟩
                replace gR : (match termR (cds z) (e' + 1 + 1 + 1) with
                  | .error j => .error j
                  | .ok (x, m, e3) => termsGo (cds z) f' (ts ++ [(x, sgn false m)]) e3) = R := gR
                cases hs : termR (cds z) (e' + 1 + 1 + 1) with
                | error j =>
                  simp only [hs] at gR
                  rw [← gR] at q
                  exact rPar.same q s3
                | ok r =>
                  obtain ⟨x, m, e3⟩ := r
                  simp only [hs] at gR
                  have gt := termR_gt hs
                  intro H4 t4 s4 ht4
                  have h4 := s4 _ _ h3
                  have p4 := pt_same p3 s4
                  refine ⟨t4, _, rfl, .inl (.inl ht4), rfl, _, _, rfl, ?_⟩
                  refine ⟨_, _, rfl, ?_⟩
                  refine ⟨_, _, rfl, rfl, ?_⟩
                  refine ⟨_, rfl, .inl ⟨rfl, _, .inl (.inl h4)⟩, _, rfl, _, rfl, _, rfl, ?_⟩
                  refine ifF rfl ?_
                  refine ⟨_, rfl, by show 2 ≤ sizeLine; decide, fun u fu => ?_⟩
                  have s5 := same_new fu (o := .tup [.int (x : Nat), .int (sgn false m)])
                  have h5 := s5 _ _ h4
                  have p5 := pt_same p4 s5
                  have eu : (upd H4 u (.tup [.int (x : Nat), .int (sgn false m)])) u = some (.tup [.int (x : Nat), .int (sgn false m)]) := upd_same
                  have un : u ≠ l := by
                    rintro rfl
                    rw [h4] at fu
                    cases fu
                  refine ⟨l, _, _, rfl, rfl, h5, ?_, ?_⟩
                  · rw [pt_len p5, sizeLine_eq]
                    omega
                  refine ⟨⟨_, _, _, _, vs ++ [.ref u], ts ++ [(x, sgn false m)], e3, f', rfl, ?_, upd_same, ?_, gR, by omega, by rw [List.length_append]; show ts.length + 1 ≤ e3; omega⟩, ?_⟩
                  · intro b o hb
                    rw [upd_ne (ne_of_none hb l0)]
                    exact s5 _ _ (s4 _ _ (s3 _ _ hb))
                  · exact pt_upd (pt_add p5 un eu)
                  · show (((cds z).length : Int) - (e3 : Int)).toNat < (((cds z).length : Int) - (e' : Int)).toNat
                    omega
          · refine ifF (decide_eq_false (by rw [hl]; omega)) ?_
            rw [termsGo_end lt] at gR
            rw [← gR] at q
            have lz : z.length = (cds z).length := hl
            exact ⟨_, rfl, q _ l vs s3 h3 p3⟩
        · rintro σ H2 Q1 Q2 mono ⟨x1, h1, x2, h2, z', hz', lz, a, b, e1, e2, c, hc, h3⟩
          exact ⟨x1, h1, x2, h2, z', hz', lz, a, b, e1, e2, c, hc, mono _ _ h3⟩
end
end K85


set_option Elab.async false
set_option linter.all false
set_option maxRecDepth 100000
set_option maxHeartbeats 2000000
namespace K85
open PySem PySem.Spec PyProof.Rows L2 MM PySem.NumText
/-! own words for the readings: a step, its side -/
local macro_rules | `(tactic| walk_at "side") => `(tactic| first
  | omega
  | exact ⟨by omega, by omega⟩
  | exact Or.inl ⟨by omega, by omega⟩
  | exact Or.inr ⟨by omega, by omega⟩
  | (show CPw _ _; decide +kernel)
  | (show (0 : Int) < _; decide +kernel)
  | (show CDivW _ _; first | assumption | exact ⟨by decide, by decide +kernel⟩))
local macro_rules | `(tactic| walk_at "here") => `(tactic| first
  | assumption
  | exact upd_same
  | exact Or.inl (Or.inl upd_same)
  | exact Or.inl upd_same)
local macro_rules | `(tactic| walk_at "one") => `(tactic| first
  | refine ⟨_, rfl, ?_⟩
  | refine Or.inl ⟨_, rfl, ?_⟩
  | refine Or.inr ⟨_, rfl, ?_⟩
  | refine ⟨_, _, rfl, rfl, (by walk_at "side"), ?_⟩
  | refine ⟨_, _, rfl, rfl, ?_⟩
  | refine ⟨_, _, rfl, Or.inl (by walk_at "here"), ?_⟩
  | refine ⟨_, _, rfl, Or.inr (by walk_at "here"), ?_⟩
  | refine ⟨_, _, rfl, (by walk_at "here"), ?_⟩
  | refine ⟨_, _, _, _, rfl, rfl, (by walk_at "here"), rfl, ?_⟩
  | refine ⟨_, _, rfl, ?_⟩
  | refine ifT (by rfl) ?_
  | refine ifF (by rfl) ?_
  | refine ifT (decide_eq_true (by omega)) ?_
  | refine ifF (decide_eq_false (by omega)) ?_)
local macro_rules | `(tactic| walk_at "st") => `(tactic| repeat (walk_at "one"))

section
variable {P : Program} {w : World} {K : PySem.W.Frag} {mg : Str → Option Value} {base : Heap}
/-- the error for the number y -/
abbrev rNum (K : PySem.W.Frag) (H : Hp) (y : V) (E : XK) : Prop := ∀ H' d, Same H H' → H d = none → H' d = some (.xd [("given", y)]) → E (.ref (ga K "InvalidNumber")) (some d) H'
/-- need_between(x, l, m), both ways -/
def spBetw (K : PySem.W.Frag) : Sp := fun vs H Q E => ∃ x n l m, vs = [x, .int l, .int m] ∧ Kd K H x n ∧ (isB x l m = false → rNum K H x E) ∧ (isB x l m = true → Q .non H)
theorem bNeedBetween (T : Tx K mg) (Y : Ex K mg) (DIsBetween : Def P w K mg base CX0 2 "is_between" ["value", "least", "most"] (spIsBetween K)) : Def P w K mg base (L2.CX P w) 3 "need_between" ["value", "least", "most"] (spBetw K) := by
  refine T.t_need_between.defX (N := ["value", "least", "most"]) scNeedBetween (fun _ _ _ _ _ _ us hl => match us, hl with | [_, _, _], _ => rfl) ?_ ?_
  · intro vs H Q E h
    obtain ⟨x, n, l, m, rfl, _⟩ := h
    rfl
  · intro f cd A out s H vs Q E hr h
    have hr1 : Rm 2 _ := hr.le (by decide)
    have tk : Takes (cxOf (L2.CX P w) P w K mg base ["value", "least", "most"] "need_between" (defScope sNeedBetween) f cd A out s H E) (fun cls d _ H1 => E cls d H1) := takes_of rfl rfl rfl rfl
    obtain ⟨x, n, l, m, rfl, hk, q1, q2⟩ := h
    refine ⟨_, (pss_one (ps_if (pt_not (pt_val (pe_d DIsBetween (hr1.le (by decide)) pass0 (pa_cons (pv 0) (pa_cons (pv 1) (pa_cons (pv 2) pa_nil)))))) (pss_one (ps_num Y rfl tk (hr.le (by decide)) (pa_cons (pv 0) pa_nil))) pss_nil)), ?_⟩
    refine ⟨_, rfl, _, rfl, _, rfl, x, n, l, m, rfl, hk, _, rfl, ?_⟩
    cases b : isB x l m with
    | false => exact ifT rfl ⟨_, rfl, x, rfl, fun d hd => q1 b _ d (same_new hd) hd upd_same⟩
    | true => exact ifF rfl (q2 b)
/-- terms added up -/
def addT (ks : List Int) : List (Nat × Int) → Option (List Int)
  | [] => some ks
  | (i, m) :: r => if i < ks.length then addT (ks.set i (ks.getD i 0 + m)) r else none
def kindsT (cs : List Nat) : Rd (List (Nat × Int)) := if cs = [48] then .ok [] else termsR cs
abbrev rKs (K : PySem.W.Frag) (H : Hp) (E : XK) : Prop := ∀ H', Same H H' → E (.ref (ga K "InvalidKinds")) none H'
/-- what the terms tell -/
def endK (K : PySem.W.Frag) (H : Hp) (Q : VK) (E : XK) : Option (List Int) → Prop
  | none => rKs K H E
  | some ks => if (ks.all fun k => isI (.int k)) = true then (∀ H' t, Same H H' → SqT K H' t (ks.map V.int) → Q (.ref t) H') else rKs K H E
theorem zero_text (z : Str) : decide (V.str z = V.str "0") = decide (cds z = [48]) := by
  refine decide_eq_decide.mpr ⟨fun h => ?_, fun h => ?_⟩
  · injection h with h
    rw [h]
    decide +kernel
  · congr 1
    obtain ⟨a⟩ := z
    have e : a = #[48] := by
      apply Array.ext'
      exact h
    rw [e]
    rfl
theorem range_const {α : Type} (n : Nat) (c : α) : ((List.range n).map fun _ => c) = List.replicate n c := by
  refine List.ext_getElem ?_ ?_
  · simp
  · intro i h1 h2
    simp
theorem ixN_in {n j : Nat} (h : j < n) : ixN n (j : Int) = some j := by
  show (if 0 ≤ (j : Int) then _ else _) = _
  rw [if_pos (Int.natCast_nonneg j), if_pos (by omega), Int.toNat_natCast]
theorem paired_at {α β : Type} {R : α → β → Prop} : ∀ {us : List α} {os : List β}, Paired R us os → ∀ {i : Nat} {u : α}, us[i]? = some u → ∃ o, os[i]? = some o ∧ R u o
  | _, _, .nil, i, _, h => by cases h
  | _, _, .cons r t, 0, _, h => ⟨_, rfl, by cases h; exact r⟩
  | _, _, .cons r t, i + 1, _, h => paired_at t h
def spReadKinds (K : PySem.W.Frag) : Sp := fun vs H Q E => ∃ x n y m, vs = [x, y] ∧ Kd K H x n ∧ Kd K H y m ∧ (∀ z, x = .str z → z.length ≤ 4000) ∧ (okT x = false → rPar K H 0 E) ∧
  (okT x = true → isB y 1 60 = false → rNum K H y E) ∧
  (∀ (z : Str) (len : Nat), x = .str z → okT x = true → y = .int (len : Int) → 1 ≤ len → len ≤ 60 → rRes K H E (kindsT (cds z)) fun ts => endK K H Q E (addT (List.replicate len 0) ts))
theorem scReadKinds : FnScope ["text", "length", "terms", "kinds", "_", "index", "many"] ["text", "length"] (defScope sReadKinds) :=
  ⟨rfl, rfl, rfl, by decide +kernel, rfl, by decide +kernel, by decide +kernel⟩
theorem bReadKinds (T : Tx K mg) (Y : Ex K mg) (DIsInteger : Def P w K mg base CX0 2 "is_integer" ["value"] (spIsInteger K)) (BNeedText : Def P w K mg base (L2.CX P w) 3 "_need_text" ["text"] (spNeedText K)) (BNeedBetween : Def P w K mg base (L2.CX P w) 3 "need_between" ["value", "least", "most"] (spBetw K)) (BReadTerms : Def P w K mg base (L2.CX P w) 5 "_read_terms" ["text"] (spTerms K)) : Def P w K mg base (L2.CX P w) 6 "read_kinds" ["text", "length"] (spReadKinds K) := by
  refine T.t_read_kinds.defX (N := ["text", "length", "terms", "kinds", "_", "index", "many"]) scReadKinds (fun _ _ _ _ _ _ us hl => match us, hl with | [_, _], _ => rfl) ?_ ?_
  · intro vs H Q E h
    obtain ⟨x, n, y, m, rfl, _⟩ := h
    rfl
  · intro f cd A out s H vs Q E hr h
    have hr1 : Rm 2 _ := hr.le (by decide)
    have hr2 : Rm 5 _ := hr.le (by decide)
    have tk : Takes (cxOf (L2.CX P w) P w K mg base ["text", "length", "terms", "kinds", "_", "index", "many"] "read_kinds" (defScope sReadKinds) f cd A out s H E) (fun cls d _ H1 => E cls d H1) := takes_of rfl rfl rfl rfl
    obtain ⟨x, n, y, m, rfl, hk, hm, hz, q1, q2, q3⟩ := h
    refine ⟨_, (pss_cons (ps_expr (ME.pe_dS BNeedText (hr2.le (by decide)) (passAt tk) (pa_cons (pv 0) pa_nil)))
      (pss_cons (ps_expr (ME.pe_dS BNeedBetween (hr2.le (by decide)) (passAt tk) (pa_cons (pv 1) (pa_cons pe_int (pa_cons (C8.pe_gc rfl T.c_MOST_MEMBERS) pa_nil)))))
      (pss_cons (ps_set (i := 2) scReadKinds.nd rfl (Or.inl rfl) (pe_ifExp (pt_cmpR op_ne (pv 0) pe_str (nomark _)) (ME.pe_dS BReadTerms (hr2.le (by decide)) (passAt tk) (pa_cons (pv 0) pa_nil)) (pe_lst pa_nil)))
      (pss_cons (ps_setLc (i := 3) (own := [("_", 4)]) (g := gName 4) (tt := tYes) rfl scReadKinds.nd rfl rfl (sw_true rfl rfl rfl rfl) (pi_range1 rfl T.f_range (pa_cons (pv 1) pa_nil)) (blkOk_by (N := ["text", "length", "terms", "kinds", "_", "index", "many"]) (sc := defScope sReadKinds) (by decide +kernel)) (fun _ _ _ _ _ => pg_name (i := 4) scReadKinds.nd rfl (Or.inl rfl)) (fun _ _ _ _ _ => pts_nil) (fun _ _ _ _ _ => pe_int))
      (pss_cons (ps_for (passes_of rfl) rfl (pi_list (pv 2)) (pg_tup rfl (pgs_cons (pg_name (i := 5) scReadKinds.nd rfl (Or.inl rfl)) (pgs_cons (pg_name (i := 6) scReadKinds.nd rfl (Or.inl rfl)) pgs_nil)))
        (pss_cons (ps_if (pt_cmpR op_ge (pv 5) (pv 1) (nomark _)) (pss_one (ps_plain Y.ks rfl tk)) pss_nil)
        (pss_one (ps_asg (pe_op op_add (pe_ix ix_list (pv 3) (pv 5) (fun _ _ => rfl)) (pv 6)) (pg_sub (pv 3) (pv 5) set_list)))))
      (pss_cons (ps_if (pt_not (pt_val (pe_callB (cr_all rfl) rfl T.f_all (by decide +kernel) (pa_cons (pe_lc (own := [("many", 6)]) (g := gName 6) (tt := tYes) rfl scReadKinds.nd (pi_list (pv 3)) (blkOk_by (N := ["text", "length", "terms", "kinds", "_", "index", "many"]) (sc := defScope sReadKinds) (by decide +kernel)) (fun _ _ _ _ _ => pg_name (i := 6) scReadKinds.nd rfl (Or.inl rfl)) (fun _ _ _ _ _ => pts_nil) (fun _ _ _ _ _ => (pe_d DIsInteger (hr1.le (by decide)) pass0 (pa_cons (pv 6) pa_nil)))) pa_nil)))) (pss_one (ps_plain Y.ks rfl tk)) pss_nil)
      (pss_one (ps_ret (pe_callTy call_tuple_of rfl T.f_tuple (by decide +kernel) (pa_cons (pv 3) pa_nil)))))))))), ?_⟩
    refine ⟨_, rfl, x, n, rfl, hk, hz, q1, fun b => ?_⟩
    refine ⟨_, rfl, y, m, 1, 60, rfl, hm, q2 b, fun b2 => ?_⟩
    obtain ⟨z, rfl⟩ : ∃ z, x = .str z := by
      cases hk <;> first | exact ⟨_, rfl⟩ | cases b
    obtain ⟨len, rfl, l1, l2⟩ : ∃ len : Nat, y = .int (len : Int) ∧ 1 ≤ len ∧ len ≤ 60 := by
      cases hm <;> first | cases b2 | skip
      rename_i i
      have h2 : (decide (1 ≤ i) && decide (i ≤ 60)) = true := b2
      rw [Bool.and_eq_true, decide_eq_true_eq, decide_eq_true_eq] at h2
      exact ⟨i.toNat, by congr 1; omega, by omega, by omega⟩
    have q := q3 z len rfl b rfl l1 l2
    have z4 := hz z rfl
    clear q1 q2 q3
    refine ⟨_, rfl, rfl, ?_⟩
    refine ⟨_, rfl, ?_⟩
    rw [zero_text]
    by_cases c0 : cds z = [48]
    case' neg =>
      refine ifT (by rw [decide_eq_false c0]; rfl) ?_
      refine ⟨_, rfl, z, rfl, z4, ?_⟩
      unfold kindsT at q
      rw [if_neg c0] at q
      cases et : termsR (cds z)
      case' error j =>
        rw [et] at q
        exact q
      rename_i ts
      rw [et] at q
      intro H5 l vs s5 el pe
    case' pos =>
      refine ifF (by rw [decide_eq_true c0]; rfl) ?_
      refine ⟨Nat.zero_le _, fun l fl => ?_⟩
      obtain ⟨ts, hts⟩ : ∃ ts : List (Nat × Int), ts = [] := ⟨_, rfl⟩
      obtain ⟨vs, hvs⟩ : ∃ vs : List V, vs = [] := ⟨_, rfl⟩
      unfold kindsT at q
      rw [if_pos c0, ← hts] at q
      generalize eH : upd H l _ = H5
      have s5 : Same H H5 := by rw [← eH]; exact same_new fl
      have el : H5 l = some (.lst vs) := by rw [← eH, hvs]; exact upd_same
      have pe : PT K l H5 vs ts := by
        rw [hts, hvs]
        exact .nil
    all_goals
      replace q : endK K H Q E (addT (List.replicate len 0) ts) := q
      refine ⟨_, rfl, (len : Int), rfl, by omega, by omega, fun D nD => ?_⟩
      refine lc_rng (fun _ => .int 0) (Nat.le_trans (by omega : _ ≤ 60) (by decide)) (fun i acc hi Q' q' => q') ?_
      have S6 : Same H (upd H5 D (.lst ((List.range ((len : Int)).toNat).map fun _ => V.int 0))) := s5.trans (same_new nD)
      have eD : (upd H5 D (.lst ((List.range ((len : Int)).toNat).map fun _ => V.int 0))) D = some (.lst ((List.replicate len (0 : Int)).map V.int)) := by
        rw [upd_same]
        congr 2
        rw [Int.toNat_natCast, List.map_replicate]
        exact range_const len (V.int 0)
      have S5 : Same H5 (upd H5 D (.lst ((List.range ((len : Int)).toNat).map fun _ => V.int 0))) := same_new nD
      generalize upd H5 D _ = H6 at S6 eD S5 ⊢
      have kl0 : (List.replicate len (0 : Int)).length = len := List.length_replicate
      generalize List.replicate len (0 : Int) = k0 at q eD kl0
      generalize hR : addT k0 ts = R at q
      have tl := pt_len pe
      refine ⟨_, rfl, l, rfl, ⟨_, .inl (.inl (S5 _ _ el))⟩, for_list (K := K) (a := l) (xs := vs) (fun i σ H7 => Same H5 H7 ∧ (∃ ks : List Int, H7 D = some (.lst (ks.map V.int)) ∧ ks.length = len ∧ addT ks (ts.drop i) = R) ∧
          ∃ w1 w2 w3, σ = [some (.str z), some (.int (len : Int)), some (.ref l), some (.ref D), w1, w2, w3]) ⟨S5, ⟨k0, eD, kl0, hR⟩, _, _, _, rfl⟩ (fun i σ H7 _ h => .inl (.inl (h.1 _ _ el))) ?_ ?_⟩
      · rintro i x σ H7 hx ⟨S7, ⟨ks, hD, kl, gR⟩, w1, w2, w3, rfl⟩
        obtain ⟨lx, ex⟩ := List.getElem?_eq_some_iff.mp hx
        have lt : i < ts.length := by omega
        obtain ⟨p, hp, a, rfl, na, ea⟩ := paired_at pe hx
        have dr : ts.drop i = p :: ts.drop (i + 1) := by
          obtain ⟨lt2, e2⟩ := List.getElem?_eq_some_iff.mp hp
          rw [← e2]
          exact List.drop_eq_getElem_cons lt2
        rw [dr] at gR
        obtain ⟨ix, m⟩ := p
        refine ⟨a, _, rfl, .inl (.inl (S7 _ _ ea)), rfl, _, _, rfl, ?_⟩
        refine ⟨_, _, rfl, rfl, ?_⟩
        refine ⟨_, rfl, _, rfl, _, _, rfl, rfl, _, rfl, ?_⟩
        by_cases c : ix < len
        · refine ifF (decide_eq_false (by omega)) ?_
          rw [show addT ks ((ix, m) :: ts.drop (i + 1)) = addT (ks.set ix (ks.getD ix 0 + m)) (ts.drop (i + 1)) from if_pos (by rw [kl]; exact c)] at gR
          have gd : (ks.map V.int)[ix]? = some (.int (ks.getD ix 0)) := by
            rw [List.getElem?_map, List.getD_eq_getElem?_getD, List.getElem?_eq_getElem (by omega)]
            rfl
          refine ⟨_, rfl, _, rfl, D, _, _, _, rfl, rfl, .inl (.inl hD), atI_nat gd, _, rfl, _, _, rfl, rfl, ?_⟩
          refine ⟨_, rfl, _, rfl, D, _, (ix : Int), ix, rfl, rfl, hD, ixN_in (by rw [List.length_map]; omega), ?_⟩
          refine ⟨?_, ⟨ks.set ix (ks.getD ix 0 + m), ?_, by rw [List.length_set]; exact kl, gR⟩, _, _, _, rfl⟩
          · intro b o hb
            rw [upd_ne (ne_of_none hb nD)]
            exact S7 _ _ hb
          · rw [upd_same, List.map_set]
        · refine ifT (decide_eq_true (by omega)) ?_
          rw [show addT ks ((ix, m) :: ts.drop (i + 1)) = none from if_neg (by rw [kl]; exact c)] at gR
          rw [← gR] at q
          exact q _ (s5.trans S7)
      · rintro σ H7 ⟨S7, ⟨ks, hD, kl, gR⟩, w1, w2, w3, rfl⟩
        rw [tl, List.drop_length] at gR
        replace gR : some ks = R := gR
        rw [← gR] at q
        refine ⟨_, rfl, D, rfl, ⟨_, .inl (.inl hD)⟩, fun D2 nD2 => ?_⟩
        refine lc_seq (fun x => .bl (isI x)) (.inl (.inl hD)) nD2 (by rw [List.length_map, kl]; exact Nat.le_trans l2 (by decide)) ?_ ?_
        · intro x acc hx Q' q'
          obtain ⟨k, _, rfl⟩ := List.mem_map.mp hx
          exact ⟨_, rfl, _, _, rfl, .int k, q'⟩
        have S8 := same_new nD2 (o := .lst ((ks.map V.int).map fun x => V.bl (isI x)))
        have hD8 := S8 _ _ hD
        have e2 : (upd H7 D2 (.lst ((ks.map V.int).map fun x => V.bl (isI x)))) D2 = some (.lst ((ks.map V.int).map fun x => V.bl (isI x))) := upd_same
        generalize upd H7 D2 (.lst ((ks.map V.int).map fun x => V.bl (isI x))) = H8 at S8 hD8 e2 ⊢
        refine ⟨D2, (ks.map V.int).map isI, rfl, .inl (.inl (Eq.trans e2 ?_)), ?_⟩
        · rw [List.map_map, List.map_map, List.map_map]
          rfl
        refine ⟨_, rfl, ?_⟩
        have ev : ((ks.map V.int).map isI).all id = ks.all fun k => isI (.int k) := by
          rw [List.all_map, List.all_map]
          rfl
        rw [ev]
        have S := (s5.trans S7).trans S8
        cases ba : ks.all fun k => isI (.int k) with
        | false =>
          refine ifT rfl ?_
          unfold endK at q
          simp only [ba] at q
          exact q _ S
        | true =>
          refine ifF rfl ?_
          unfold endK at q
          simp only [ba] at q
          exact ⟨_, rfl, D, _, rfl, .inl ⟨.inl (.inl hD8), fun t ft => q _ t (S.trans (same_new ft)) (.inl (.inl upd_same))⟩⟩
end
end K85


set_option Elab.async false
set_option linter.all false
namespace K85
/-! rings of a permutation -/
section
variable {f : Nat → Nat} {n : Nat}
/-- f moves the places below n, one to one -/
structure Pm (f : Nat → Nat) (n : Nat) : Prop where
  lt : ∀ k, k < n → f k < n
  inj : ∀ a b, a < n → b < n → f a = f b → a = b
def it (f : Nat → Nat) : Nat → Nat → Nat
  | 0, p => p
  | k + 1, p => f (it f k p)
theorem it_lt (h : Pm f n) {p : Nat} (hp : p < n) : ∀ k, it f k p < n
  | 0 => hp
  | k + 1 => h.lt _ (it_lt h hp k)
theorem it_add (f : Nat → Nat) (p : Nat) (b : Nat) : ∀ a, it f (a + b) p = it f a (it f b p)
  | 0 => by rw [Nat.zero_add]; rfl
  | a + 1 => by
    rw [Nat.succ_add]
    show f (it f (a + b) p) = f (it f a (it f b p))
    rw [it_add f p b a]
theorem it_inj (h : Pm f n) {a b : Nat} (ha : a < n) (hb : b < n) : ∀ k, it f k a = it f k b → a = b
  | 0, e => e
  | k + 1, e => it_inj h ha hb k (h.inj _ _ (it_lt h ha k) (it_lt h hb k) e)
theorem least {P : Nat → Prop} : ∀ n, P n → ∃ k, k ≤ n ∧ P k ∧ ∀ j, j < k → ¬ P j := by
  intro n
  induction n using Nat.strongRecOn with
  | ind n ih =>
    intro hn
    by_cases c : ∃ j, j < n ∧ P j
    · obtain ⟨j, lt, hj⟩ := c
      obtain ⟨k, le, hk, ho⟩ := ih j lt hj
      exact ⟨k, Nat.le_trans le (Nat.le_of_lt lt), hk, ho⟩
    · exact ⟨n, Nat.le_refl n, hn, fun j lt hj => c ⟨j, lt, hj⟩⟩
theorem back_home (h : Pm f n) {p : Nat} (hp : p < n) : ∃ k, 1 ≤ k ∧ k ≤ n ∧ it f k p = p := by
  by_cases c : ∃ i j, i < j ∧ j ≤ n ∧ it f i p = it f j p
  · obtain ⟨i, j, ij, jn, e⟩ := c
    refine ⟨j - i, by omega, by omega, ?_⟩
    have e2 : it f j p = it f i (it f (j - i) p) := by
      rw [← it_add f p (j - i) i, show i + (j - i) = j by omega]
    rw [e2] at e
    exact (it_inj h hp (it_lt h hp _) i e).symm
  · exfalso
    have nd : ((List.range (n + 1)).map fun k => it f k p).Nodup := by
      rw [List.Nodup, List.pairwise_map]
      refine List.Pairwise.imp_of_mem ?_ (List.pairwise_lt_range (n := n + 1))
      intro i j hi hj lt e
      exact c ⟨i, j, lt, by have := List.mem_range.mp hj; omega, e⟩
    have sub : ((List.range (n + 1)).map fun k => it f k p) ⊆ List.range n := by
      intro x hx
      obtain ⟨k, _, rfl⟩ := List.mem_map.mp hx
      exact List.mem_range.mpr (it_lt h hp k)
    have := nd.length_le_of_subset sub
    rw [List.length_map, List.length_range, List.length_range] at this
    omega
/-- the length of p's ring -/
theorem ring_len (h : Pm f n) {p : Nat} (hp : p < n) : ∃ L, 1 ≤ L ∧ L ≤ n ∧ it f L p = p ∧ ∀ k, 1 ≤ k → k < L → it f k p ≠ p := by
  obtain ⟨k, k1, kn, e⟩ := back_home h hp
  obtain ⟨L, le, ⟨l1, el⟩, no⟩ := least (P := fun k => 1 ≤ k ∧ it f k p = p) k ⟨k1, e⟩
  exact ⟨L, l1, by omega, el, fun j j1 jl e => no j jl ⟨j1, e⟩⟩
def ring (f : Nat → Nat) (p L : Nat) : List Nat := (List.range L).map fun k => it f k p
theorem ring_nodup (h : Pm f n) {p L : Nat} (hp : p < n) (no : ∀ k, 1 ≤ k → k < L → it f k p ≠ p) : (ring f p L).Nodup := by
  unfold ring
  rw [List.Nodup, List.pairwise_map]
  refine List.Pairwise.imp_of_mem ?_ (List.pairwise_lt_range (n := L))
  intro i j hi hj lt e
  have jl := List.mem_range.mp hj
  have e2 : it f j p = it f i (it f (j - i) p) := by
    rw [← it_add f p (j - i) i, show i + (j - i) = j by omega]
  rw [e2] at e
  exact no (j - i) (by omega) (by omega) (it_inj h hp (it_lt h hp _) i e).symm
theorem ring_step {p L k : Nat} (e : it f L p = p) (hk : k < L) : f ((ring f p L).getD k 0) = (ring f p L).getD ((k + 1) % L) 0 := by
  have g : ∀ j, j < L → (ring f p L).getD j 0 = it f j p := fun j hj => by
    unfold ring
    rw [List.getD, List.getElem?_map, List.getElem?_range hj]
    rfl
  have pos : 0 < L := by omega
  rw [g k hk, g _ (Nat.mod_lt _ pos)]
  by_cases c : k + 1 = L
  · rw [c, Nat.mod_self]
    show it f (k + 1) p = p
    rw [c, e]
  · rw [Nat.mod_eq_of_lt (by omega)]
    rfl
theorem ring_mem {p L x : Nat} : x ∈ ring f p L ↔ ∃ k, k < L ∧ x = it f k p := by
  unfold ring
  rw [List.mem_map]
  exact ⟨fun ⟨k, hk, e⟩ => ⟨k, List.mem_range.mp hk, e.symm⟩, fun ⟨k, hk, e⟩ => ⟨k, List.mem_range.mpr hk, e.symm⟩⟩
/-- a ring is closed, forward and back -/
theorem ring_closed (h : Pm f n) {p L : Nat} (hp : p < n) (pos : 1 ≤ L) (e : it f L p = p) {x : Nat} (hx : x < n) : f x ∈ ring f p L ↔ x ∈ ring f p L := by
  rw [ring_mem, ring_mem]
  constructor
  · rintro ⟨k, hk, ek⟩
    cases k with
    | zero =>
      refine ⟨L - 1, by omega, h.inj _ _ hx (it_lt h hp _) ?_⟩
      rw [ek]
      show p = it f (L - 1 + 1) p
      rw [show L - 1 + 1 = L by omega, e]
    | succ k => exact ⟨k, by omega, h.inj _ _ hx (it_lt h hp _) ek⟩
  · rintro ⟨k, hk, rfl⟩
    by_cases c : k + 1 = L
    · refine ⟨0, by omega, ?_⟩
      show it f (k + 1) p = p
      rw [c, e]
    · exact ⟨k + 1, by omega, rfl⟩
/-- the length of p's ring, reckoned -/
def lenOf (f : Nat → Nat) (n p : Nat) : Nat := ((List.range n).find? fun k => decide (it f (k + 1) p = p)).getD 0 + 1
theorem lenOf_ok (h : Pm f n) {p : Nat} (hp : p < n) : lenOf f n p ≤ n ∧ it f (lenOf f n p) p = p ∧ ∀ k, 1 ≤ k → k < lenOf f n p → it f k p ≠ p := by
  obtain ⟨L, l1, ln, e, no⟩ := ring_len h hp
  have found : (List.range n).find? (fun k => decide (it f (k + 1) p = p)) = some (L - 1) := by
    rw [List.find?_range_eq_some]
    refine ⟨?_, List.mem_range.mpr (by omega), fun j hj => ?_⟩
    · rw [show L - 1 + 1 = L by omega]
      exact decide_eq_true e
    · have := no (j + 1) (by omega) (by omega)
      simp [this]
  have el : lenOf f n p = L := by
    unfold lenOf
    rw [found]
    show L - 1 + 1 = L
    omega
  rw [el]
  exact ⟨ln, e, no⟩
def ringOf (f : Nat → Nat) (n p : Nat) : List Nat := ring f p (lenOf f n p)
theorem lenOf_pos (f : Nat → Nat) (n p : Nat) : 1 ≤ lenOf f n p := by unfold lenOf; omega
theorem ringOf_len (f : Nat → Nat) (n p : Nat) : (ringOf f n p).length = lenOf f n p := by
  unfold ringOf ring
  rw [List.length_map, List.length_range]
/-- the rings that begin below s -/
def ringsTo (f : Nat → Nat) (n : Nat) : Nat → List (List Nat)
  | 0 => []
  | s + 1 => if s ∈ (ringsTo f n s).flatten then ringsTo f n s else ringsTo f n s ++ [ringOf f n s]
/-- what holds of them: closed, each place once, all below n, every place below s -/
structure Good (f : Nat → Nat) (n s : Nat) (R : List (List Nat)) : Prop where
  closed : ∀ x, x < n → (f x ∈ R.flatten ↔ x ∈ R.flatten)
  once : R.flatten.Nodup
  below : ∀ x ∈ R.flatten, x < n
  all : ∀ x, x < s → x ∈ R.flatten
  each : ∀ r ∈ R, ∃ p, p < n ∧ r = ringOf f n p
theorem closed_it {S : List Nat} (h : Pm f n) (c : ∀ x, x < n → (f x ∈ S ↔ x ∈ S)) {p : Nat} (hp : p < n) : ∀ k, it f k p ∈ S ↔ p ∈ S
  | 0 => Iff.rfl
  | k + 1 => (c _ (it_lt h hp k)).trans (closed_it h c hp k)
theorem rings_good (h : Pm f n) : ∀ s, s ≤ n → Good f n s (ringsTo f n s)
  | 0, _ => ⟨fun x _ => by simp [ringsTo], by simp [ringsTo], by simp [ringsTo], fun x hx => by omega, by simp [ringsTo]⟩
  | s + 1, le => by
    have g := rings_good h s (by omega)
    have sn : s < n := le
    unfold ringsTo
    split
    · rename_i c
      refine ⟨g.closed, g.once, g.below, fun x hx => ?_, g.each⟩
      by_cases e : x = s
      · rw [e]
        exact c
      · exact g.all x (by omega)
    · rename_i c
      obtain ⟨ln, e, no⟩ := lenOf_ok h sn
      have pos := lenOf_pos f n s
      have fl : (ringsTo f n s ++ [ringOf f n s]).flatten = (ringsTo f n s).flatten ++ ringOf f n s := by simp
      refine ⟨fun x hx => ?_, ?_, ?_, fun x hx => ?_, fun r hr => ?_⟩
      · rw [fl, List.mem_append, List.mem_append, g.closed x hx]
        have := ring_closed h sn pos e hx
        exact or_congr Iff.rfl this
      · rw [fl, List.nodup_append]
        refine ⟨g.once, ring_nodup h sn no, fun a ha b hb z => ?_⟩
        subst z
        obtain ⟨k, _, rfl⟩ := ring_mem.mp hb
        exact c ((closed_it h g.closed sn k).mp ha)
      · rw [fl]
        intro x hx
        rcases List.mem_append.mp hx with hx | hx
        · exact g.below x hx
        · obtain ⟨k, _, rfl⟩ := ring_mem.mp hx
          exact it_lt h sn k
      · rw [fl]
        by_cases z : x = s
        · subst z
          exact List.mem_append_right _ (ring_mem.mpr ⟨0, pos, rfl⟩)
        · exact List.mem_append_left _ (g.all x (by omega))
      · rcases List.mem_append.mp hr with hr | hr
        · exact g.each r hr
        · exact ⟨s, sn, List.mem_singleton.mp hr⟩
def rings (f : Nat → Nat) (n : Nat) : List (List Nat) := ringsTo f n n
theorem it_times {p L : Nat} (e : it f L p = p) : ∀ q, it f (L * q) p = p
  | 0 => rfl
  | q + 1 => by
    rw [Nat.mul_succ, it_add, e]
    exact it_times e q
theorem it_mod {p L : Nat} (e : it f L p = p) (k : Nat) : it f k p = it f (k % L) p := by
  have h : k = k % L + L * (k / L) := (Nat.mod_add_div k L).symm
  have h2 : it f k p = it f (k % L) (it f (L * (k / L)) p) := by
    rw [← it_add, ← h]
  rw [h2, it_times e]
/-- the power e of f, where f's power M is the unit -/
def pwE (f : Nat → Nat) (M : Nat) (e : Int) (x : Nat) : Nat := it f (e % (M : Int)).toNat x
theorem ring_pow {p L M a : Nat} {e : Int} (eL : it f L p = p) (pos : 0 < L) (dv : L ∣ M) (pM : 0 < M) (ha : a < L) :
    (ring f p L).getD (((a : Int) + e) % (L : Int)).toNat 0 = pwE f M e (it f a p) := by
  have g : ∀ j, j < L → (ring f p L).getD j 0 = it f j p := fun j hj => by
    unfold ring
    rw [List.getD, List.getElem?_map, List.getElem?_range hj]
    rfl
  have m0 := Int.emod_nonneg ((a : Int) + e) (by omega : (L : Int) ≠ 0)
  have m1 := Int.emod_lt_of_pos ((a : Int) + e) (by omega : (0 : Int) < L)
  rw [g _ (by omega)]
  unfold pwE
  rw [← it_add, it_mod eL ((e % (M : Int)).toNat + a)]
  congr 1
  have e0 := Int.emod_nonneg e (by omega : (M : Int) ≠ 0)
  have key : (((e % (M : Int)).toNat + a : Nat) : Int) % (L : Int) = ((a : Int) + e) % (L : Int) := by
    rw [Int.natCast_add, Int.toNat_of_nonneg e0, Int.add_emod, Int.emod_emod_of_dvd e (Int.natCast_dvd_natCast.mpr dv), ← Int.add_emod, Int.add_comm]
  rw [← key, ← Int.natCast_emod, Int.toNat_natCast]
theorem pwE_add {M : Nat} (pM : 0 < M) {a b : Int} {x : Nat} (unit : it f M x = x) : pwE f M a (pwE f M b x) = pwE f M (a + b) x := by
  unfold pwE
  rw [← it_add, it_mod unit ((a % (M : Int)).toNat + (b % (M : Int)).toNat)]
  congr 1
  have a0 := Int.emod_nonneg a (by omega : (M : Int) ≠ 0)
  have b0 := Int.emod_nonneg b (by omega : (M : Int) ≠ 0)
  have key : (((a % (M : Int)).toNat + (b % (M : Int)).toNat : Nat) : Int) % (M : Int) = (a + b) % (M : Int) := by
    rw [Int.natCast_add, Int.toNat_of_nonneg a0, Int.toNat_of_nonneg b0, ← Int.add_emod]
  rw [← key, ← Int.natCast_emod, Int.toNat_natCast]
theorem pwE_zero (M : Nat) (x : Nat) : pwE f M 0 x = x := by
  unfold pwE
  rw [Int.zero_emod]
  rfl
theorem pwE_self {M x : Nat} : pwE f M (M : Int) x = x := by
  unfold pwE
  rw [Int.emod_self]
  rfl
end
end K85

set_option Elab.async false
set_option linter.all false
set_option maxRecDepth 100000
set_option maxHeartbeats 2000000
namespace K85
open PySem PySem.Spec PyProof.Rows L2 MM
section
variable {P : Program} {w : World} {K : PySem.W.Frag} {mg : Str → Option Value} {base : Heap}
def mv (m : List Nat) : List V := m.map fun (k : Nat) => V.int (k : Int)
theorem mv_len (m : List Nat) : (mv m).length = m.length := List.length_map _
theorem mv_at {m : List Nat} {k : Nat} (h : k < m.length) : atI (mv m) (k : Int) = some (.int ((m.getD k 0 : Nat) : Int)) := by
  refine atI_nat ?_
  unfold mv
  rw [List.getElem?_map, List.getElem?_eq_getElem h]
  simp [List.getD, List.getElem?_eq_getElem h]
theorem rg_mv (n : Nat) : rgV 0 (n : Int) = mv (List.range n) := by
  unfold rgV mv
  rw [show ((n : Int) - 0).toNat = n by omega]
  refine List.map_congr_left fun i _ => ?_
  rw [Int.zero_add]
theorem mv_set (b : List Nat) (k i : Nat) : (mv b).set k (V.int (i : Int)) = mv (b.set k i) := by
  unfold mv
  rw [List.map_set]
theorem mv_nth {m : List Nat} {i : Nat} {x : V} (h : (mv m)[i]? = some x) : i < m.length ∧ x = .int ((m.getD i 0 : Nat) : Int) := by
  unfold mv at h
  rw [List.getElem?_map] at h
  by_cases c : i < m.length
  · rw [List.getElem?_eq_getElem c] at h
    refine ⟨c, ?_⟩
    rw [List.getD, List.getElem?_eq_getElem c]
    exact (Option.some.inj h).symm
  · rw [List.getElem?_eq_none (by omega)] at h
    cases h
theorem ixN_lt {n k : Nat} (h : k < n) : ixN n (k : Int) = some k := by
  unfold ixN
  simp
  omega
/-- a move -/
def Mv (m : List Nat) : Prop := m.Nodup ∧ (∀ k ∈ m, k < m.length) ∧ 1 ≤ m.length ∧ m.length ≤ 24
/-- a heap that differs in the bag, and in new objects -/
structure Upto (p : Addr) (H H' : Hp) : Prop where
  same : ∀ b o, b ≠ p → H b = some o → H' b = some o
  bag : BagAt H' p
theorem Upto.refl {p : Addr} {H : Hp} (h : BagAt H p) : Upto p H H := ⟨fun _ _ _ e => e, h⟩
theorem Upto.draw {p : Addr} {H H' : Hp} {a b c : Int} (h : Upto p H H') : Upto p H (upd H' p (.lst [.int a, .int b, .int c])) :=
  ⟨fun x o n e => by rw [upd_ne n]; exact h.same x o n e, ⟨a, b, c, upd_same⟩⟩
theorem Upto.new {p t : Addr} {H H' : Hp} {o : HO} (h : Upto p H H') (f : H' t = none) : Upto p H (upd H' t o) := by
  obtain ⟨a, b, c, e⟩ := h.bag
  exact ⟨fun x y n e => by rw [upd_ne (ne_of_none (h.same x y n e) f)]; exact h.same x y n e, ⟨a, b, c, by rw [upd_ne (ne_of_none e f)]; exact e⟩⟩
theorem Upto.trans {p : Addr} {H H' H2 : Hp} (h : Upto p H H') (k : Upto p H' H2) : Upto p H H2 := ⟨fun x o n e => k.same x o n (h.same x o n e), k.bag⟩
theorem Upto.keep {p : Addr} {H H' H2 : Hp} (h : Upto p H H') (k : Same H' H2) : Upto p H H2 := by
  obtain ⟨a, b, c, e⟩ := h.bag
  exact ⟨fun x o n e => k x o (h.same x o n e), ⟨a, b, c, k _ _ e⟩⟩
theorem Upto.sqt {p a : Addr} {H H' : Hp} {xs : List V} (h : Upto p H H') (s : SqT K H a xs) (ne : a ≠ p) : SqT K H' a xs := by
  rcases s with (s | ⟨o, s⟩) | s
  · exact .inl (.inl (h.same _ _ ne s))
  · exact .inl (.inr ⟨o, h.same _ _ ne s⟩)
  · exact .inr s
theorem Upto.sql {p a : Addr} {H H' : Hp} {xs : List V} (h : Upto p H H') (s : SqL K H a xs) (ne : a ≠ p) : SqL K H' a xs := by
  rcases s with (s | ⟨o, s⟩) | s
  · exact .inl (.inl (h.same _ _ ne s))
  · exact .inl (.inr ⟨o, h.same _ _ ne s⟩)
  · exact .inr s
theorem Upto.free {p t : Addr} {H H' : Hp} (h : Upto p H H') (f : H' t = none) : t ≠ p ∧ H t = none := by
  obtain ⟨a, b, c, e⟩ := h.bag
  have n : t ≠ p := fun z => by rw [z, e] at f; cases f
  refine ⟨n, ?_⟩
  cases z : H t with
  | none => rfl
  | some o =>
    have := h.same t o n z
    rw [f] at this
    cases this
theorem Upto.put {p t : Addr} {H H' : Hp} {o : HO} (h : Upto p H H') (n : t ≠ p) (f : H t = none) : Upto p H (upd H' t o) := by
  obtain ⟨a, b, c, e⟩ := h.bag
  exact ⟨fun x y m e => by rw [upd_ne (ne_of_none e f)]; exact h.same x y m e, ⟨a, b, c, by rw [upd_ne n.symm]; exact e⟩⟩
theorem bag_ne {H : Hp} {p l : Addr} {x : HO} (e : H p = some x) (f : H l = none) : l ≠ p := fun z => by rw [z, e] at f; cases f
theorem pick_perm {α : Type} : ∀ (l : List α) (k : Nat) (h : k < l.length), (l[k] :: l.eraseIdx k).Perm l
  | _ :: _, 0, _ => .refl _
  | a :: r, k + 1, h => by
    show (r[k]'(by simpa using h) :: a :: r.eraseIdx k).Perm (a :: r)
    exact (List.Perm.swap _ _ _).trans (List.Perm.cons a (pick_perm r k (by simpa using h)))
theorem mv_range_perm {ys : List V} {n : Nat} (h : ys.Perm (mv (List.range n))) : ∃ m, ys = mv m ∧ m.Perm (List.range n) := by
  refine ⟨ys.map fun | .int i => i.toNat | _ => 0, ?_, ?_⟩
  · unfold mv
    rw [List.map_map]
    have : ∀ y ∈ ys, ((fun (k : Nat) => V.int (k : Int)) ∘ fun | V.int i => i.toNat | _ => 0) y = y := by
      intro y hy
      obtain ⟨k, _, rfl⟩ := List.mem_map.mp (h.mem_iff.mp hy)
      rfl
    exact ((List.map_congr_left (g := id) this).trans (List.map_id ys)).symm
  · have := h.map fun | V.int i => i.toNat | _ => 0
    refine this.trans ?_
    unfold mv
    rw [List.map_map]
    exact .of_eq (List.map_id' _)
theorem mv_of_perm {m : List Nat} {n : Nat} (h : m.Perm (List.range n)) (h1 : 1 ≤ n) (h2 : n ≤ 24) : Mv m ∧ m.length = n := by
  have ln : m.length = n := by rw [h.length_eq, List.length_range]
  refine ⟨⟨h.nodup_iff.mpr List.nodup_range, fun k hk => ?_, by omega, by omega⟩, ln⟩
  rw [ln]
  exact List.mem_range.mp (h.mem_iff.mp hk)
/-- f of a move -/
def fn' (m : List Nat) : Nat → Nat := fun k => m.getD k 0
def Refs (K : PySem.W.Frag) (H : Hp) (vs : List V) (R : List (List Nat)) : Prop := Paired (fun v r => ∃ a, v = V.ref a ∧ SqT K H a (mv r)) vs R
theorem pm_of {m : List Nat} (h : Mv m) : Pm (fn' m) m.length := by
  have g : ∀ k, (hk : k < m.length) → fn' m k = m[k] := fun k hk => by
    unfold fn'
    rw [List.getD, List.getElem?_eq_getElem hk]
    rfl
  refine ⟨fun k hk => ?_, fun a b ha hb e => ?_⟩
  · rw [g k hk]
    exact h.2.1 _ (List.getElem_mem hk)
  · rw [g a ha, g b hb] at e
    by_cases c : a = b
    · exact c
    · exfalso
      have nd := List.pairwise_iff_getElem.mp h.1
      rcases Nat.lt_or_gt_of_ne c with lt | lt
      · exact nd a b ha hb lt e
      · exact nd b a hb ha lt e.symm
theorem flat_mv (l : List Nat) : (mv l).all flatV = true := by
  unfold mv
  rw [List.all_map, List.all_eq_true]
  intro x _
  rfl
theorem in_mv (l : List Nat) (k : Nat) : inV (.int (k : Int)) (mv l) = decide (k ∈ l) := by
  unfold inV mv
  rw [List.any_map]
  induction l with
  | nil => rfl
  | cons j r ih =>
    rw [List.any_cons, ih]
    have e : ((fun y => eqV y (V.int (k : Int))) ∘ fun (k : Nat) => V.int (k : Int)) j = decide (k = j) := by
      show eqV (V.int (j : Int)) (V.int (k : Int)) = _
      by_cases c : k = j
      · subst c
        simp [eqV]
      · have : ¬ (j : Int) = (k : Int) := by omega
        simp [eqV, c, this]
    rw [e]
    simp
theorem Refs.same {H H' : Hp} {vs : List V} {R : List (List Nat)} (h : Refs K H vs R) (s : Same H H') : Refs K H' vs R := by
  unfold Refs at h ⊢
  induction h with
  | nil => exact .nil
  | cons h _ ih =>
    obtain ⟨a, e, S⟩ := h
    exact .cons ⟨a, e, same_sqt s S⟩ ih
theorem mv_app (k l : List Nat) : mv (k ++ l) = mv k ++ mv l := List.map_append ..
theorem sqt_lst {H : Hp} {a F : Addr} {xs ys zs : List V} (h : SqT K H a xs) (e : H F = some (.lst zs)) : SqT K (upd H F (.lst ys)) a xs := by
  rcases h with (h | ⟨o, h⟩) | h
  · exact .inl (.inl (by rw [upd_ne (fun z => by rw [z, e] at h; cases h)]; exact h))
  · exact .inl (.inr ⟨o, by rw [upd_ne (fun z => by rw [z, e] at h; cases h)]; exact h⟩)
  · exact .inr h
theorem Refs.upd {H : Hp} {vs : List V} {R : List (List Nat)} {F : Addr} {ys zs : List V} (h : Refs K H vs R) (e : H F = some (.lst zs)) : Refs K (upd H F (.lst ys)) vs R := by
  unfold Refs at h ⊢
  induction h with
  | nil => exact .nil
  | cons h _ ih =>
    obtain ⟨a, e1, S⟩ := h
    exact .cons ⟨a, e1, sqt_lst S e⟩ ih
theorem Refs.snoc {H : Hp} {vs : List V} {R : List (List Nat)} {t : Addr} {r : List Nat} (h : Refs K H vs R) (S : SqT K H t (mv r)) : Refs K H (vs ++ [.ref t]) (R ++ [r]) := by
  unfold Refs at h ⊢
  induction h with
  | nil => exact .cons ⟨t, rfl, S⟩ .nil
  | cons h _ ih => exact .cons h ih
theorem ringsTo_len (f : Nat → Nat) (n : Nat) : ∀ s, (ringsTo f n s).length ≤ s
  | 0 => Nat.le_refl 0
  | s + 1 => by
    have := ringsTo_len f n s
    unfold ringsTo
    split
    · omega
    · rw [List.length_append]
      show _ + 1 ≤ _
      omega
/-- a set of places -/
def SetN (w : World) (a : Addr) (l : List Nat) (H : Hp) : Prop := ∃ S c, H a = some (SetO w a S c) ∧ c ≤ l.length ∧ ∀ x : Nat, S (x : Int) = decide (x ∈ l)
theorem SetN.same {a : Addr} {l : List Nat} {H H' : Hp} (h : SetN w a l H) (s : Same H H') : SetN w a l H' :=
  let ⟨S, c, e, r⟩ := h
  ⟨S, c, s _ _ e, r⟩
theorem SetN.upd {a b : Addr} {l : List Nat} {H : Hp} {o : HO} (h : SetN w a l H) (n : a ≠ b) : SetN w a l (upd H b o) :=
  let ⟨S, c, e, r⟩ := h
  ⟨S, c, by rw [upd_ne n]; exact e, r⟩
theorem seto_ne {a b : Addr} {H : Hp} {S : Int → Bool} {c : Nat} {o : HO} (h : H a = some (SetO w a S c)) (e : H b = some o) (n : ∀ f, o ≠ .ext f) : a ≠ b := fun z => by
  subst z
  rw [h] at e
  exact n _ (Option.some.inj e).symm
theorem SetN.add {a : Addr} {l : List Nat} {H : Hp} {S : Int → Bool} {c : Nat} {x : Nat} (hc : c ≤ l.length) (hS : ∀ x : Nat, S (x : Int) = decide (x ∈ l)) :
    SetN w a (l ++ [x]) (L2.upd H a (SetO w a (fun j => S j || decide (j = (x : Int))) (if S (x : Int) = true then c else c + 1))) := by
  refine ⟨_, _, upd_same, ?_, fun y => ?_⟩
  · rw [List.length_append]
    show _ ≤ l.length + 1
    split <;> omega
  · show (S (y : Int) || decide ((y : Int) = (x : Int))) = _
    rw [hS y, ← Bool.decide_or]
    refine decide_eq_decide.mpr ?_
    rw [List.mem_append, List.mem_singleton]
    exact or_congr Iff.rfl (by omega)
theorem rings_small {f : Nat → Nat} {n s : Nat} (h : Pm f n) (hn : n ≤ 24) (hs : s ≤ n) : (ringsTo f n s).flatten.length ≤ 24 := by
  have g := rings_good h s hs
  have := g.once.length_le_of_subset (fun x hx => List.mem_range.mpr (g.below x hx))
  rw [List.length_range] at this
  omega
def NoTup : HO → Prop
  | .tup _ => False
  | .frz _ _ => False
  | _ => True
theorem sqt_ext {H : Hp} {a F : Addr} {xs : List V} {o o' : HO} (h : SqT K H a xs) (e : H F = some o') (n : NoTup o') : SqT K (upd H F o) a xs := by
  rcases h with (h | ⟨u, h⟩) | h
  · exact .inl (.inl (by rw [upd_ne (fun z => by rw [z, e] at h; rw [Option.some.inj h] at n; exact n)]; exact h))
  · exact .inl (.inr ⟨u, by rw [upd_ne (fun z => by rw [z, e] at h; rw [Option.some.inj h] at n; exact n)]; exact h⟩)
  · exact .inr h
theorem Refs.ext {H : Hp} {vs : List V} {R : List (List Nat)} {F : Addr} {o o' : HO} (h : Refs K H vs R) (e : H F = some o') (n : NoTup o') : Refs K (L2.upd H F o) vs R := by
  unfold Refs at h ⊢
  induction h with
  | nil => exact .nil
  | cons h _ ih =>
    obtain ⟨a, e1, S⟩ := h
    exact .cons ⟨a, e1, sqt_ext S e n⟩ ih
theorem split_at {α : Type} {l : List α} {i : Nat} {x : α} (h : l[i]? = some x) : l = l.take i ++ x :: l.drop (i + 1) := by
  obtain ⟨lt, e⟩ := List.getElem?_eq_some_iff.mp h
  rw [← e, ← List.drop_eq_getElem_cons lt, List.take_append_drop]
/-- rings of places below n -/
structure Rings (n : Nat) (R : List (List Nat)) : Prop where
  full : ∀ r ∈ R, 1 ≤ r.length
  once : R.flatten.Nodup
  below : ∀ x ∈ R.flatten, x < n
theorem Rings.small {n : Nat} {R : List (List Nat)} (h : Rings n R) : R.flatten.length ≤ n := by
  have := h.once.length_le_of_subset (fun x hx => List.mem_range.mpr (h.below x hx))
  rwa [List.length_range] at this
theorem Rings.flat {R : List (List Nat)} {i j x : Nat} {r : List Nat} (hr : R[i]? = some r) (hx : r[j]? = some x) :
    R.flatten = ((R.take i).flatten ++ r.take j) ++ x :: (r.drop (j + 1) ++ (R.drop (i + 1)).flatten) := by
  have e1 := split_at hr
  have e2 := split_at hx
  have e3 : R.flatten = (R.take i ++ r :: R.drop (i + 1)).flatten := congrArg List.flatten e1
  rw [e3, List.flatten_append, List.flatten_cons]
  have e4 : r ++ (R.drop (i + 1)).flatten = r.take j ++ (x :: (r.drop (j + 1) ++ (R.drop (i + 1)).flatten)) := by
    have : r ++ (R.drop (i + 1)).flatten = (r.take j ++ x :: r.drop (j + 1)) ++ (R.drop (i + 1)).flatten := by rw [← e2]
    rw [this, List.append_assoc, List.cons_append]
  rw [e4, List.append_assoc]
theorem Rings.new {n : Nat} {R : List (List Nat)} (h : Rings n R) {i j x : Nat} {r : List Nat} (hr : R[i]? = some r) (hx : r[j]? = some x) :
    x ∉ (R.take i).flatten ++ r.take j ∧ x < n ∧ ((R.take i).flatten ++ r.take j).length ≤ n := by
  have e := Rings.flat hr hx
  have nd := h.once
  have sm := h.small
  rw [e] at nd sm
  refine ⟨fun z => ?_, h.below x (by rw [e]; simp), ?_⟩
  · have := (List.nodup_append.mp nd).2.2 x z x (by simp)
    exact this rfl
  · rw [List.length_append] at sm
    omega
/-- f goes round the rings, and leaves the rest -/
structure Goes (f : Nat → Nat) (n : Nat) (R : List (List Nat)) : Prop where
  ring : ∀ r ∈ R, ∀ j, j < r.length → f (r.getD j 0) = r.getD ((j + 1) % r.length) 0
  rest : ∀ x, x < n → x ∉ R.flatten → f x = x
theorem Refs.get {H : Hp} {vs : List V} {R : List (List Nat)} (h : Refs K H vs R) : ∀ {i : Nat} {x : V}, vs[i]? = some x → ∃ r t, R[i]? = some r ∧ x = .ref t ∧ SqT K H t (mv r) := by
  unfold Refs at h
  induction h with
  | nil =>
    intro i x e
    simp at e
  | cons h _ ih =>
    intro i x e
    cases i with
    | zero =>
      obtain ⟨t, e1, S⟩ := h
      refine ⟨_, t, rfl, ?_, S⟩
      rw [← e1]
      exact (Option.some.inj e).symm
    | succ i => exact ih e
end
end K85

set_option Elab.async false
set_option linter.all false
set_option maxRecDepth 100000
set_option maxHeartbeats 2000000
namespace K85
open PySem PySem.Spec PyProof.Rows L2 MM
/-! own words for the readings: a step, its side -/
local macro_rules | `(tactic| walk_at "side") => `(tactic| first
  | omega
  | exact ⟨by omega, by omega⟩
  | exact Or.inl ⟨by omega, by omega⟩
  | exact Or.inr ⟨by omega, by omega⟩
  | (show CPw _ _; decide +kernel)
  | (show (0 : Int) < _; decide +kernel)
  | (show CDivW _ _; first | assumption | exact ⟨by decide, by decide +kernel⟩))
local macro_rules | `(tactic| walk_at "here") => `(tactic| first
  | assumption
  | exact upd_same
  | exact Or.inl (Or.inl upd_same)
  | exact Or.inl upd_same)
local macro_rules | `(tactic| walk_at "one") => `(tactic| first
  | refine ⟨_, rfl, ?_⟩
  | refine Or.inl ⟨_, rfl, ?_⟩
  | refine Or.inr ⟨_, rfl, ?_⟩
  | refine ⟨_, _, rfl, rfl, (by walk_at "side"), ?_⟩
  | refine ⟨_, _, rfl, rfl, ?_⟩
  | refine ⟨_, _, rfl, Or.inl (by walk_at "here"), ?_⟩
  | refine ⟨_, _, rfl, Or.inr (by walk_at "here"), ?_⟩
  | refine ⟨_, _, rfl, (by walk_at "here"), ?_⟩
  | refine ⟨_, _, _, _, rfl, rfl, (by walk_at "here"), rfl, ?_⟩
  | refine ⟨_, _, rfl, ?_⟩
  | refine ifT (by rfl) ?_
  | refine ifF (by rfl) ?_
  | refine ifT (decide_eq_true (by omega)) ?_
  | refine ifF (decide_eq_false (by omega)) ?_)
local macro_rules | `(tactic| walk_at "st") => `(tactic| repeat (walk_at "one"))

section
variable {P : Program} {w : World} {K : PySem.W.Frag} {mg : Str → Option Value} {base : Heap}
def spNeedPlaces (K : PySem.W.Frag) : Sp := fun vs H Q _ => ∃ n : Nat, vs = [.int (n : Int)] ∧ 1 ≤ n ∧ n ≤ 24 ∧ Q .non H
theorem scNeedPlaces : FnScope ["places"] ["places"] (defScope sNeedPlaces) :=
  ⟨rfl, rfl, rfl, by decide +kernel, rfl, by decide +kernel, by decide +kernel⟩
theorem dNeedPlaces (T : Tx K mg) (DNeedBetween : Def P w K mg base CX0 3 "need_between" ["value", "least", "most"] (spNeedBetween K)) : Def P w K mg base CX0 4 "need_places" ["places"] (spNeedPlaces K) := by
  refine T.t_need_places.def_ (N := ["places"]) scNeedPlaces (fun _ _ _ _ _ _ us hl => match us, hl with | [_], _ => rfl) ?_ ?_
  · intro vs H Q E h
    obtain ⟨n, rfl, _⟩ := h
    rfl
  · intro f cd A out s H vs Q E hr h
    have hr1 : Rm 3 _ := hr.le (by decide)
    obtain ⟨n, rfl, h1, h2, q⟩ := h
    refine ⟨_, (pss_one (ps_expr (pe_d DNeedBetween (hr1.le (by decide)) pass0 (pa_cons (pv 0) (pa_cons pe_int (pa_cons (C8.pe_gc rfl T.c_MAX_PLACES) pa_nil)))))), ?_⟩
    exact ⟨_, rfl, _, 1, 24, rfl, by omega, by omega, q⟩
def spNeedRings (K : PySem.W.Frag) : Sp := fun vs H Q _ => ∃ (n : Nat) (a : Addr) (us : List V) (R : List (List Nat)), vs = [.int (n : Int), .ref a] ∧ SqT K H a us ∧ Refs K H us R ∧ Rings n R ∧ n ≤ 24 ∧ ∀ H', Same H H' → Q .non H'
theorem scNeedRings : FnScope ["places", "rings", "seen", "ring", "place"] ["places", "rings"] (defScope sNeedRings) :=
  ⟨rfl, rfl, rfl, by decide +kernel, rfl, by decide +kernel, by decide +kernel⟩
theorem dNeedRings (T : Tx K mg) (DIsBetween : Def P w K mg base CX0 2 "is_between" ["value", "least", "most"] (spIsBetween K)) : Def P w K mg base CX0 3 "_need_rings" ["places", "rings"] (spNeedRings K) := by
  refine T.t_need_rings.def_ (N := ["places", "rings", "seen", "ring", "place"]) scNeedRings (fun _ _ _ _ _ _ us hl => match us, hl with | [_, _], _ => rfl) ?_ ?_
  · intro vs H Q E h
    obtain ⟨n, a, us, R, rfl, _⟩ := h
    rfl
  · intro f cd A out s H vs Q E hr h
    have hr1 : Rm 2 _ := hr.le (by decide)
    obtain ⟨n, a, us, R, rfl, S, rf, hR, n24, q⟩ := h
    refine ⟨_, (pss_cons (ps_if (pt_not (pt_val (pe_callB (cr_is .tup) rfl T.f_isinstance (by decide +kernel) (pa_cons (pv 1) (pa_cons (pe_ty .tup T.f_tuple (by decide +kernel)) pa_nil))))) (pss_one ps_never) pss_nil)
      (pss_cons (ps_set (i := 2) scNeedRings.nd rfl (Or.inl rfl) (pe_callTy0 (cr_set0W (w := w) rfl) rfl T.f_set (by decide +kernel)))
      (pss_one (ps_for PassesOwn.never rfl (pi_tup (pv 1)) (pg_name (i := 3) scNeedRings.nd rfl (Or.inl rfl))
        (pss_cons (ps_if (PW.pt (pw_or (pt_not (pt_val (pe_callB (cr_is .tup) rfl T.f_isinstance (by decide +kernel) (pa_cons (pv 3) (pa_cons (pe_ty .tup T.f_tuple (by decide +kernel)) pa_nil))))) (pw_or1 (pt_cmpR op_eq (pe_callB call_len_seq rfl T.f_len (by decide +kernel) (pa_cons (pv 3) pa_nil)) pe_int (nomark _))))) (pss_one ps_never) pss_nil)
        (pss_one (ps_for PassesOwn.never rfl (pi_tup (pv 3)) (pg_name (i := 4) scNeedRings.nd rfl (Or.inl rfl))
          (pss_cons (ps_if (PW.pt (pw_or (pt_not (pt_val (pe_d DIsBetween (hr1.le (by decide)) pass0 (pa_cons (pv 4) (pa_cons pe_int (pa_cons (pe_op op_sub (pv 0) pe_int) pa_nil)))))) (pw_or1 (pt_cmpR (or_sinW (w := w) rfl) (pv 4) (pv 2) rfl)))) (pss_one ps_never) pss_nil)
          (pss_one (ps_expr (pe_saddW (w := w) rfl (pv 2) (pa_cons (pv 4) pa_nil)))))))))))), ?_⟩
    refine ⟨_, rfl, _, _, rfl, .tup S, _, rfl, ?_⟩
    refine ifF rfl ?_
    refine ⟨rfl, fun G fG => ?_⟩
    have S1 : Same H (upd H G (SetO w G (fun _ => false) 0)) := same_new fG
    have G1 : SetN w G [] (upd H G (SetO w G (fun _ => false) 0)) := ⟨_, _, upd_same, Nat.le_refl _, fun x => by simp⟩
    have fG0 : ∀ b o, H b = some o → b ≠ G := fun b o e => ne_of_none e fG
    generalize upd H G _ = H1 at S1 G1 ⊢
    refine ⟨_, rfl, a, rfl, ⟨_, same_sqt S1 S⟩, for_tup (K := K) (a := a) (xs := us) (fun i σ H3 => Same H H3 ∧ SetN w G (R.take i).flatten H3 ∧ ∃ x y, σ = [some (.int (n : Int)), some (.ref a), some (.ref G), x, y])
      ⟨S1, by simpa using G1, _, _, rfl⟩ (fun i σ H3 _ h => same_sqt h.1 S) ?_ ?_⟩
    · rintro i v σ H3 hv ⟨S3, hG, x, y, rfl⟩
      obtain ⟨r, t, hr, rfl, St⟩ := rf.get hv
      have mr : r ∈ R := List.mem_of_getElem? hr
      have r1 := hR.full r mr
      have St3 := same_sqt S3 St
      refine ⟨_, rfl, _, _, rfl, .tup St3, _, rfl, ?_⟩
      refine ifF rfl ?_
      refine ⟨_, rfl, t, _, rfl, .inr St3, rfl, _, rfl, ?_⟩
      refine ifF (by rw [dInt]; exact decide_eq_false (by rw [mv_len]; omega)) ?_
      refine ⟨_, rfl, t, rfl, ⟨_, St3⟩, for_tup (K := K) (a := t) (xs := mv r) (fun j σ H4 => Same H H4 ∧ SetN w G ((R.take i).flatten ++ r.take j) H4 ∧ ∃ y, σ = [some (.int (n : Int)), some (.ref a), some (.ref G), some (.ref t), y])
        ⟨S3, by simpa using hG, _, rfl⟩ (fun j σ H4 _ h => same_sqt h.1 St) ?_ ?_⟩
      · rintro j u σ H4 hu ⟨S4, hG4, y, rfl⟩
        obtain ⟨jr, rfl⟩ := mv_nth hu
        have ej : r[j]? = some (r.getD j 0) := by rw [List.getD, List.getElem?_eq_getElem jr]; rfl
        obtain ⟨new, lt, sm⟩ := hR.new hr ej
        obtain ⟨S9, c9, e9, l9, r9⟩ := id hG4
        refine ⟨_, rfl, _, rfl, _, _, rfl, rfl, _, _, _, _, rfl, .int _, ?_⟩
        refine ⟨_, rfl, ?_⟩
        refine ifF ?_ ?_
        · show (!(decide (0 ≤ ((r.getD j 0 : Nat) : Int)) && decide (((r.getD j 0 : Nat) : Int) ≤ (n : Int) - 1))) = false
          rw [decide_eq_true (by omega), decide_eq_true (by omega)]
          rfl
        refine ⟨_, rfl, _, rfl, _, G, S9, c9, rfl, rfl, e9, ?_⟩
        refine ⟨_, rfl, ?_⟩
        refine ifF (by rw [r9]; exact decide_eq_false new) ?_
        have room : c9 + 1 < scanBound := by
          have : c9 ≤ 100 := by omega
          exact Nat.lt_of_le_of_lt (Nat.add_le_add_right this 1) (by decide)
        refine ⟨_, rfl, ⟨G, S9, c9, rfl, e9⟩, _, rfl, G, _, S9, c9, rfl, rfl, e9, room, ?_⟩
        have G6 := SetN.add (w := w) (a := G) (H := H4) (x := r.getD j 0) l9 r9
        rw [List.append_assoc] at G6
        refine ⟨fun b o e => (upd_ne (fG0 b o e)).trans (S4 b o e), ?_, _, rfl⟩
        have ts : r.take (j + 1) = r.take j ++ [r.getD j 0] := by rw [List.take_add_one, ej]; rfl
        rw [ts]
        exact G6
      · rintro σ H4 ⟨S4, hG4, y, rfl⟩
        refine ⟨S4, ?_, _, _, rfl⟩
        rw [mv_len, List.take_length] at hG4
        rw [List.take_add_one, hr, List.flatten_append]
        show SetN w G (_ ++ (r ++ [])) _
        rw [List.append_nil]
        exact hG4
    · rintro σ H3 ⟨S3, hG, x, y, rfl⟩
      exact q _ S3
def spMoveOf (K : PySem.W.Frag) : Sp := fun vs H Q _ => ∃ (n : Nat) (a : Addr) (us : List V) (R : List (List Nat)) (f : Nat → Nat), vs = [.int (n : Int), .ref a] ∧ SqT K H a us ∧ Refs K H us R ∧ Rings n R ∧ Goes f n R ∧ 1 ≤ n ∧ n ≤ 24 ∧
  ∀ H' t, Same H H' → SqT K H' t (mv ((List.range n).map f)) → Q (.ref t) H'
theorem scMoveOfCycles : FnScope ["places", "rings", "move", "ring", "at", "place"] ["places", "rings"] (defScope sMoveOfCycles) :=
  ⟨rfl, rfl, rfl, by decide +kernel, rfl, by decide +kernel, by decide +kernel⟩
theorem dMoveOfCycles (T : Tx K mg) (DNeedPlaces : Def P w K mg base CX0 4 "need_places" ["places"] (spNeedPlaces K)) (DNeedRings : Def P w K mg base CX0 3 "_need_rings" ["places", "rings"] (spNeedRings K)) : Def P w K mg base CX0 5 "move_of_cycles" ["places", "rings"] (spMoveOf K) := by
  refine T.t_move_of_cycles.def_ (N := ["places", "rings", "move", "ring", "at", "place"]) scMoveOfCycles (fun _ _ _ _ _ _ us hl => match us, hl with | [_, _], _ => rfl) ?_ ?_
  · intro vs H Q E h
    obtain ⟨n, a, us, R, f, rfl, _⟩ := h
    rfl
  · intro f cd A out s H vs Q E hr h
    have hr1 : Rm 4 _ := hr.le (by decide)
    obtain ⟨n, a, us, R, g, rfl, S, rf, hR, hg, n1, n24, q⟩ := h
    refine ⟨_, (pss_cons (ps_expr (pe_d DNeedPlaces (hr1.le (by decide)) pass0 (pa_cons (pv 0) pa_nil)))
      (pss_cons (ps_expr (pe_d DNeedRings (hr1.le (by decide)) pass0 (pa_cons (pv 0) (pa_cons (pv 1) pa_nil))))
      (pss_cons (ps_set (i := 2) scMoveOfCycles.nd rfl (Or.inl rfl) (pe_listRg rfl rfl T.f_list (prg_1 rfl T.f_range (pv 0))))
      (pss_cons (ps_for PassesOwn.never rfl (pi_tup (pv 1)) (pg_name (i := 3) scMoveOfCycles.nd rfl (Or.inl rfl))
        (pss_one (ps_for PassesOwn.never rfl (pi_enumT rfl T.f_enumerate (pa_cons (pv 3) pa_nil)) (pg_tup rfl (pgs_cons (pg_name (i := 4) scMoveOfCycles.nd rfl (Or.inl rfl)) (pgs_cons (pg_name (i := 5) scMoveOfCycles.nd rfl (Or.inl rfl)) pgs_nil)))
          (pss_one (ps_asg (pe_ix ix_tup (pv 3) (pe_op op_mod (pe_op op_add (pv 4) pe_int) (pe_callB call_len_seq rfl T.f_len (by decide +kernel) (pa_cons (pv 3) pa_nil))) (fun _ _ => rfl)) (pg_sub (pv 2) (pv 5) set_list))))))
      (pss_one (ps_ret (pe_callTy call_tuple_of rfl T.f_tuple (by decide +kernel) (pa_cons (pv 2) pa_nil)))))))), ?_⟩
    refine ⟨_, rfl, n, rfl, n1, n24, ?_⟩
    refine ⟨_, rfl, _, rfl, n, a, us, R, rfl, S, rf, hR, n24, fun H0 S0 => ?_⟩
    refine ⟨_, rfl, _, rfl, ⟨by omega, by omega, by omega, by omega, by omega⟩, fun F fF => ?_⟩
    rw [rg_mv]
    have fF0 : ∀ b o, H b = some o → b ≠ F := fun b o e => ne_of_none (S0 b o e) fF
    have S1 : Same H (upd H0 F (.lst (mv (List.range n)))) := S0.trans (same_new fF)
    have F1 : (upd H0 F (.lst (mv (List.range n)))) F = some (.lst (mv (List.range n))) := upd_same
    generalize upd H0 F _ = H1 at S1 F1 ⊢
    refine ⟨_, rfl, a, rfl, ⟨_, same_sqt S1 S⟩, for_tup (K := K) (a := a) (xs := us) (fun i σ H3 => Same H H3 ∧ ∃ b : List Nat, b.length = n ∧ H3 F = some (.lst (mv b)) ∧
        (∀ x, x < n → b.getD x 0 = if x ∈ (R.take i).flatten then g x else x) ∧ ∃ x y z, σ = [some (.int (n : Int)), some (.ref a), some (.ref F), x, y, z])
      ⟨S1, _, List.length_range, F1, ?_, _, _, _, rfl⟩ (fun i σ H3 _ h => same_sqt h.1 S) ?_ ?_⟩
    · intro x hx
      rw [if_neg (by simp), List.getD, List.getElem?_range hx]
      rfl
    · rintro i v σ H3 hv ⟨S3, b, lb, hF, done, x, y, z, rfl⟩
      obtain ⟨r, t, hr, rfl, St⟩ := rf.get hv
      have mr : r ∈ R := List.mem_of_getElem? hr
      have r1 := hR.full r mr
      refine ⟨_, rfl, t, _, rfl, same_sqt S3 St, ?_⟩
      refine for_enumT (K := K) (a := t) (xs := mv r) (fun j σ H4 => Same H H4 ∧ ∃ b : List Nat, b.length = n ∧ H4 F = some (.lst (mv b)) ∧
          (∀ x, x < n → b.getD x 0 = if x ∈ (R.take i).flatten ++ r.take j then g x else x) ∧ ∃ y z, σ = [some (.int (n : Int)), some (.ref a), some (.ref F), some (.ref t), y, z])
        ⟨S3, b, lb, hF, by simpa using done, _, _, rfl⟩ (fun j σ H4 _ h => same_sqt h.1 St) ?_ ?_
      · rintro j u σ H4 T hu ⟨S4, b, lb, hF, done, y, z, rfl⟩ fT
        obtain ⟨jr, rfl⟩ := mv_nth hu
        have ej : r[j]? = some (r.getD j 0) := by rw [List.getD, List.getElem?_eq_getElem jr]; rfl
        obtain ⟨new, lt, sm⟩ := hR.new hr ej
        have FT : F ≠ T := ne_of_none hF fT
        have St5 : SqT K (upd H4 T (.tup [.int (j : Nat), .int ((r.getD j 0 : Nat) : Int)])) t (mv r) := sqt_new (same_sqt S4 St) fT
        have Lp : 0 < ((mv r).length : Int) := by rw [mv_len]; omega
        have ix : ((j : Int) + 1) % ((mv r).length : Int) = (((j + 1) % r.length : Nat) : Int) := by
          rw [mv_len, Int.natCast_emod, Int.natCast_add]
          rfl
        have ate : atI (mv r) (((j : Int) + 1) % ((mv r).length : Int)) = some (.int ((r.getD ((j + 1) % r.length) 0 : Nat) : Int)) := by
          rw [ix]
          exact mv_at (Nat.mod_lt _ (by omega))
        refine ⟨T, _, rfl, .inl (.inl upd_same), rfl, _, _, rfl, ?_⟩
        refine ⟨_, _, rfl, rfl, ?_⟩
        refine ⟨_, rfl, _, rfl, _, _, rfl, rfl, _, rfl, t, _, rfl, .inr St5, _, _, rfl, rfl, Lp, t, _, _, _, rfl, rfl, St5, ate, ?_⟩
        refine ⟨_, rfl, _, rfl, F, _, _, r.getD j 0, rfl, rfl, (upd_ne FT).trans hF, by rw [mv_len, lb]; exact ixN_lt lt, ?_⟩
        rw [mv_set, ← hg.ring r mr j jr]
        refine ⟨fun b o h => (upd_ne (fF0 b o h)).trans (same_new fT b o (S4 b o h)), b.set (r.getD j 0) (g (r.getD j 0)), by rw [List.length_set, lb], upd_same, fun x hx => ?_, _, _, rfl⟩
        have ts : r.take (j + 1) = r.take j ++ [r.getD j 0] := by rw [List.take_add_one, ej]; rfl
        rw [ts, ← List.append_assoc]
        by_cases z : x = r.getD j 0
        · rw [if_pos (by rw [z]; simp), z, List.getD, List.getElem?_set_self (by omega)]
          rfl
        · rw [List.getD, List.getElem?_set_ne (fun h => z h.symm), ← List.getD, done x hx]
          have : (x ∈ (R.take i).flatten ++ r.take j ++ [r.getD j 0]) ↔ x ∈ (R.take i).flatten ++ r.take j := by
            rw [List.mem_append]
            exact ⟨fun h => h.elim id fun h => absurd (List.mem_singleton.mp h) z, .inl⟩
          by_cases c : x ∈ (R.take i).flatten ++ r.take j
          · rw [if_pos c, if_pos (this.mpr c)]
          · rw [if_neg c, if_neg fun h => c (this.mp h)]
      · rintro σ H4 ⟨S4, b, lb, hF, done, y, z, rfl⟩
        refine ⟨S4, b, lb, hF, ?_, _, _, _, rfl⟩
        rw [mv_len, List.take_length] at done
        rw [List.take_add_one, hr, List.flatten_append]
        show ∀ x, x < n → b.getD x 0 = if x ∈ (R.take i).flatten ++ (r ++ []) then g x else x
        rw [List.append_nil]
        exact done
    · rintro σ H3 ⟨S3, b, lb, hF, done, x, y, z, rfl⟩
      have lus : us.length = R.length := Paired.length rf
      rw [lus, List.take_length] at done
      have eb : b = (List.range n).map g := by
        refine List.ext_getElem (by rw [lb, List.length_map, List.length_range]) fun x h1 h2 => ?_
        have hx : x < n := by omega
        have := done x hx
        rw [List.getD, List.getElem?_eq_getElem h1] at this
        rw [List.getElem_map, List.getElem_range]
        refine Eq.trans this ?_
        split
        · rfl
        · rename_i c
          exact (hg.rest x hx c).symm
      rw [eb] at hF
      exact ⟨_, rfl, F, _, rfl, .inl ⟨.inl (.inl hF), fun u fu => q _ u (S3.trans (same_new fu)) (.inl (.inl upd_same))⟩⟩
end
end K85


set_option Elab.async false
set_option linter.all false
set_option maxRecDepth 100000
set_option maxHeartbeats 2000000
namespace K85
open PySem PySem.Spec PyProof.Rows L2 MM PySem.NumText
/-! own words for the readings: a step, its side -/
local macro_rules | `(tactic| walk_at "side") => `(tactic| first
  | omega
  | exact ⟨by omega, by omega⟩
  | exact Or.inl ⟨by omega, by omega⟩
  | exact Or.inr ⟨by omega, by omega⟩
  | (show CPw _ _; decide +kernel)
  | (show (0 : Int) < _; decide +kernel)
  | (show CDivW _ _; first | assumption | exact ⟨by decide, by decide +kernel⟩))
local macro_rules | `(tactic| walk_at "here") => `(tactic| first
  | assumption
  | exact upd_same
  | exact Or.inl (Or.inl upd_same)
  | exact Or.inl upd_same)
local macro_rules | `(tactic| walk_at "one") => `(tactic| first
  | refine ⟨_, rfl, ?_⟩
  | refine Or.inl ⟨_, rfl, ?_⟩
  | refine Or.inr ⟨_, rfl, ?_⟩
  | refine ⟨_, _, rfl, rfl, (by walk_at "side"), ?_⟩
  | refine ⟨_, _, rfl, rfl, ?_⟩
  | refine ⟨_, _, rfl, Or.inl (by walk_at "here"), ?_⟩
  | refine ⟨_, _, rfl, Or.inr (by walk_at "here"), ?_⟩
  | refine ⟨_, _, rfl, (by walk_at "here"), ?_⟩
  | refine ⟨_, _, _, _, rfl, rfl, (by walk_at "here"), rfl, ?_⟩
  | refine ⟨_, _, rfl, ?_⟩
  | refine ifT (by rfl) ?_
  | refine ifF (by rfl) ?_
  | refine ifT (decide_eq_true (by omega)) ?_
  | refine ifF (decide_eq_false (by omega)) ?_)
local macro_rules | `(tactic| walk_at "st") => `(tactic| repeat (walk_at "one"))

section
variable {P : Program} {w : World} {K : PySem.W.Frag} {mg : Str → Option Value} {base : Heap}
/-- more places of a ring -/
def ringGo (cs : List Nat) : Nat → List Nat → Nat → Rd (List Nat × Nat)
  | 0, ring, e => if ring.length < 2 then .error e else .ok (ring, e)
  | f + 1, ring, e => if ring.length < 2 ∨ isAt cs e 32 = true then (match behindR cs e 32 with
      | .error j => .error j
      | .ok s => match plainR cs s with
        | .error j => .error j
        | .ok (n, e2) => ringGo cs f (ring ++ [n]) e2) else .ok (ring, e)
def ringEnd (cs : List Nat) (e : Nat) (r : List Nat) : Rd (List Nat × Nat) := match behindR cs e 41 with
  | .error j => .error j
  | .ok e3 => .ok (r, e3)
def ringR (cs : List Nat) (i : Nat) : Rd (List Nat × Nat) := match behindR cs i 40 with
  | .error j => .error j
  | .ok s => match plainR cs s with
    | .error j => .error j
    | .ok (n, e) => match ringGo cs cs.length [n] e with
      | .error j => .error j
      | .ok (r, e2) => ringEnd cs e2 r
theorem isAt_lt {cs : List Nat} {i c : Nat} (h : isAt cs i c = true) : i < cs.length := by
  obtain ⟨lt, _⟩ := List.getElem?_eq_some_iff.mp (of_decide_eq_true h)
  exact lt
theorem ringGo_end {cs : List Nat} {f : Nat} {ring : List Nat} {e : Nat} (h : ¬ ring.length < 2) (h2 : isAt cs e 32 = false) : ringGo cs f ring e = .ok (ring, e) := by
  cases f with
  | zero => exact if_neg h
  | succ f => exact if_neg (by rw [h2]; simp; omega)
theorem ringGo_no {cs : List Nat} {f : Nat} {ring : List Nat} {e : Nat} (h : ring.length < 2) (h2 : isAt cs e 32 = false) : ringGo cs f ring e = .error e := by
  cases f with
  | zero => exact if_pos h
  | succ f =>
    show (if _ then _ else _) = _
    rw [if_pos (.inl h), behind_no h2]
theorem ringGo_step {cs : List Nat} {f : Nat} {ring : List Nat} {e : Nat} (h2 : isAt cs e 32 = true) : ringGo cs (f + 1) ring e = (match plainR cs (e + 1) with
        | .error j => .error j
        | .ok (n, e2) => ringGo cs f (ring ++ [n]) e2) := by
  show (if _ then _ else _) = _
  rw [if_pos (.inr h2), behind_ok h2]
theorem plainR_le {cs : List Nat} {i n e : Nat} (h : plainR cs i = .ok (n, e)) : i < e ∧ e ≤ cs.length := by
  unfold plainR at h
  split at h
  case isFalse => cases h
  rename_i d
  injection h with h
  injection h with h1 h2
  rw [← h2]
  have g := (endP_le cs i).1
  refine ⟨g, ?_⟩
  obtain ⟨c, hc, _⟩ := dg_lt (endP_dg d (endP cs i - 1) (by omega) (by omega))
  obtain ⟨lt, _⟩ := List.getElem?_eq_some_iff.mp hc
  omega
theorem cds_len (z : Str) : z.length = (cds z).length := (Array.length_toList).symm
def spRing (K : PySem.W.Frag) : Sp := fun vs H Q E => ∃ (z : Str) (i : Nat), vs = [.str z, .int (i : Int)] ∧ z.length ≤ 4000 ∧
  rRes K H E (ringR (cds z) i) fun r => ∀ H' t u, Same H H' → SqT K H' t (mv r.1) → H' u = some (.tup [.ref t, .int (r.2 : Nat)]) → Q (.ref u) H'
theorem scReadRing : FnScope ["text", "at", "place", "end", "ring"] ["text", "at"] (defScope sReadRing) :=
  ⟨rfl, rfl, rfl, by decide +kernel, rfl, by decide +kernel, by decide +kernel⟩
theorem bReadRing (T : Tx K mg) (Y : Ex K mg) (DIsAt : Def P w K mg base CX0 1 "_is_at" ["text", "at", "sign"] spIsAt) (BReadPlain : Def P w K mg base (L2.CX P w) 3 "_read_plain" ["text", "at"] (spPlain K)) (BBehind : Def P w K mg base (L2.CX P w) 3 "_behind" ["text", "at", "sign"] (spBehind K)) : Def P w K mg base (L2.CX P w) 4 "_read_ring" ["text", "at"] (spRing K) := by
  refine T.t_read_ring.defX (N := ["text", "at", "place", "end", "ring"]) scReadRing (fun _ _ _ _ _ _ us hl => match us, hl with | [_, _], _ => rfl) ?_ ?_
  · intro vs H Q E h
    obtain ⟨z, i, rfl, _⟩ := h
    rfl
  · intro f cd A out s H vs Q E hr h
    have hr1 : Rm 1 _ := hr.le (by decide)
    have hr2 : Rm 3 _ := hr.le (by decide)
    have tk : Takes (cxOf (L2.CX P w) P w K mg base ["text", "at", "place", "end", "ring"] "_read_ring" (defScope sReadRing) f cd A out s H E) (fun cls d _ H1 => E cls d H1) := takes_of rfl rfl rfl rfl
    obtain ⟨z, i, rfl, hz, q⟩ := h
    refine ⟨_, (pss_cons (ps_asg (ME.pe_dS BReadPlain (hr2.le (by decide)) (passAt tk) (pa_cons (pv 0) (pa_cons (ME.pe_dS BBehind (hr2.le (by decide)) (passAt tk) (pa_cons (pv 0) (pa_cons (pv 1) (pa_cons pe_str pa_nil)))) pa_nil))) (pg_tup rfl (pgs_cons (pg_name (i := 2) scReadRing.nd rfl (Or.inl rfl)) (pgs_cons (pg_name (i := 3) scReadRing.nd rfl (Or.inl rfl)) pgs_nil))))
      (pss_cons (ps_set (i := 4) scReadRing.nd rfl (Or.inl rfl) (pe_lst (pa_cons (pv 2) pa_nil)))
      (pss_cons (ps_while (passes_of rfl) (PW.pt (pw_or (pt_cmpR op_lt (pe_callB call_len_seq rfl T.f_len (by decide +kernel) (pa_cons (pv 4) pa_nil)) pe_int (nomark _)) (pw_or1 (pt_val (pe_d DIsAt (hr1.le (by decide)) pass0 (pa_cons (pv 0) (pa_cons (pv 3) (pa_cons pe_str pa_nil))))))))
        (pss_cons (ps_asg (ME.pe_dS BReadPlain (hr2.le (by decide)) (passAt tk) (pa_cons (pv 0) (pa_cons (ME.pe_dS BBehind (hr2.le (by decide)) (passAt tk) (pa_cons (pv 0) (pa_cons (pv 3) (pa_cons pe_str pa_nil)))) pa_nil))) (pg_tup rfl (pgs_cons (pg_name (i := 2) scReadRing.nd rfl (Or.inl rfl)) (pgs_cons (pg_name (i := 3) scReadRing.nd rfl (Or.inl rfl)) pgs_nil))))
        (pss_one (ps_expr (pe_bm PySem.F.plainAttrs_list PySem.F.slot_list_append PySem.F.type_list_append mt_append (pv 4) (pa_cons (pv 2) pa_nil))))))
      (pss_one (ps_ret (pe_tup (pa_cons (pe_callTy call_tuple_of rfl T.f_tuple (by decide +kernel) (pa_cons (pv 4) pa_nil)) (pa_cons (ME.pe_dS BBehind (hr2.le (by decide)) (passAt tk) (pa_cons (pv 0) (pa_cons (pv 3) (pa_cons pe_str pa_nil)))) pa_nil)))))))), ?_⟩
    have hl := cds_len z
    unfold ringR at q
    refine ⟨_, rfl, _, rfl, _, rfl, z, i, 40, rfl, hz, fun b => ?_, fun b => ?_⟩
    · rw [behind_no b] at q
      exact q
    rw [behind_ok b] at q
    dsimp only at q
    have i0 := isAt_lt b
    unfold plainR at q
    refine ⟨z, i + 1, rfl, hz, fun b2 => ?_, fun b2 H1 t s1 ht => ?_⟩
    · rw [b2, if_neg (by decide)] at q
      exact q
    have pp : plainR (cds z) (i + 1) = .ok (valP (cds z) (i + 1), endP (cds z) (i + 1)) := by
      unfold plainR
      exact if_pos b2
    obtain ⟨e1, e2⟩ := plainR_le pp
    rw [b2, if_pos rfl] at q
    dsimp only at q
    generalize valP (cds z) (i + 1) = n0 at q ht
    generalize endP (cds z) (i + 1) = e at q ht e1 e2
    refine ⟨t, _, rfl, .inl (.inl ht), rfl, _, _, rfl, ?_⟩
    refine ⟨_, _, rfl, rfl, ?_⟩
    refine ⟨_, rfl, by show 1 ≤ sizeLine; decide, fun l fl => ?_⟩
    have sl := s1.trans (same_new fl (o := .lst [.int n0]))
    have el : (upd H1 l (.lst [.int n0])) l = some (.lst (mv [n0])) := upd_same
    have l0 : H l = none := s1.free fl
    generalize upd H1 l _ = H2 at sl el ⊢
    generalize hR : ringGo (cds z) (cds z).length [n0] e = R at q
    refine while_by (fun σ H3 => ∃ (nn : Int) (row : List Nat) (e f : Nat), σ = [some (.str z), some (.int (i : Int)), some (.int nn), some (.int (e : Int)), some (.ref l)] ∧ Same H H3 ∧ H3 l = some (.lst (mv row)) ∧
        ringGo (cds z) f row e = R ∧ (cds z).length < f + e ∧ row.length ≤ e ∧ e ≤ (cds z).length)
      (fun σ _ => match σ with | [_, _, _, some (.int e), _] => ((cds z).length - e).toNat | _ => 0) ?_ ?_ ?_
    · exact ⟨n0, [n0], e, (cds z).length, rfl, sl, el, hR, by omega, by show 1 ≤ e; omega, e2⟩
    · rintro σ H3 ⟨nn, row, e', f, rfl, s3, h3, gR, fl, rl, el⟩
      have fin : isAt (cds z) e' 32 = false → ¬ row.length < 2 → (∃ e3, isAt (cds z) e' 41 = true ∧ e3 = e' + 1 ∧ (∀ H' t u, Same H H' → SqT K H' t (mv row) → H' u = some (.tup [.ref t, .int (e3 : Nat)]) → Q (.ref u) H')) ∨ (isAt (cds z) e' 41 = false ∧ rPar K H e' E) := by
        intro n32 nl
        rw [ringGo_end nl n32] at gR
        rw [← gR] at q
        replace q : rRes K H E (ringEnd (cds z) e' row) fun r => ∀ H' t u, Same H H' → SqT K H' t (mv r.1) → H' u = some (.tup [.ref t, .int (r.2 : Nat)]) → Q (.ref u) H' := q
        unfold ringEnd behindR at q
        cases b9 : isAt (cds z) e' 41 with
        | true =>
          rw [b9, if_pos rfl] at q
          exact .inl ⟨e' + 1, rfl, rfl, q⟩
        | false =>
          rw [b9, if_neg (by decide)] at q
          exact .inr ⟨rfl, q⟩
      have go : isAt (cds z) e' 32 = true → ∃ f', f = f' + 1 ∧ (match plainR (cds z) (e' + 1) with
        | .error j => .error j
        | .ok (n, e2) => ringGo (cds z) f' (row ++ [n]) e2) = R := by
        intro y32
        obtain ⟨f', rfl⟩ : ∃ f', f = f' + 1 := ⟨f - 1, by omega⟩
        rw [ringGo_step y32] at gR
        exact ⟨f', rfl, gR⟩
      have room : (mv row).length < sizeLine := by
        rw [mv_len, sizeLine_eq]
        omega
      refine ⟨_, rfl, l, _, rfl, .inl (.inl (.inl h3)), _, _, rfl, rfl, _, rfl, ?_⟩
      by_cases c2 : row.length < 2
      · refine ifT (decide_eq_true (by rw [mv_len]; omega)) ?_
        refine ifT rfl ?_
        refine ⟨_, rfl, _, rfl, _, rfl, z, e', 32, rfl, hz, fun b3 => ?_, fun b3 => ?_⟩
        · rw [ringGo_no c2 b3] at gR
          rw [← gR] at q
          exact rPar.same q s3
        obtain ⟨f', ef, gS⟩ := go b3
        unfold plainR at gS
        refine ⟨z, e' + 1, rfl, hz, fun b4 => ?_, fun b4 H4 t4 s4 ht4 => ?_⟩
        · rw [b4, if_neg (by decide)] at gS
          rw [← gS] at q
          exact rPar.same q s3
        have p5 : plainR (cds z) (e' + 1) = .ok (valP (cds z) (e' + 1), endP (cds z) (e' + 1)) := by
          unfold plainR
          exact if_pos b4
        obtain ⟨g1, g2⟩ := plainR_le p5
        rw [b4, if_pos rfl] at gS
        dsimp only at gS
        generalize valP (cds z) (e' + 1) = n1 at gS ht4
        generalize endP (cds z) (e' + 1) = e5 at gS ht4 g1 g2
        have h4 := s4 _ _ h3
        refine ⟨t4, _, rfl, .inl (.inl ht4), rfl, _, _, rfl, ?_⟩
        refine ⟨_, _, rfl, rfl, ?_⟩
        refine ⟨_, rfl, .inl ⟨rfl, _, .inl (.inl h4)⟩, _, rfl, l, _, _, rfl, rfl, h4, room, ?_⟩
        refine ⟨⟨n1, row ++ [n1], e5, f', rfl, ?_, ?_, gS, by omega, by rw [List.length_append]; show row.length + 1 ≤ e5; omega, g2⟩, ?_⟩
        · intro b o hb
          rw [upd_ne (ne_of_none hb l0)]
          exact s4 _ _ (s3 _ _ hb)
        · rw [upd_same, mv_app]
          rfl
        · show (((cds z).length : Int) - (e5 : Int)).toNat < (((cds z).length : Int) - (e' : Int)).toNat
          omega
      · refine ifF (decide_eq_false (by rw [mv_len]; omega)) ?_
        refine ⟨_, rfl, _, rfl, z, e', 32, rfl, hz, ?_⟩
        refine ⟨_, rfl, ?_⟩
        cases y32 : isAt (cds z) e' 32 with
        | true =>
          refine ifT rfl ?_
          refine ⟨_, rfl, _, rfl, _, rfl, z, e', 32, rfl, hz, fun b3 => ?_, fun b3 => ?_⟩
          · exact absurd (b3.symm.trans y32) (by decide)
          obtain ⟨f', ef, gS⟩ := go b3
          unfold plainR at gS
          refine ⟨z, e' + 1, rfl, hz, fun b4 => ?_, fun b4 H4 t4 s4 ht4 => ?_⟩
          · rw [b4, if_neg (by decide)] at gS
            rw [← gS] at q
            exact rPar.same q s3
          have p5 : plainR (cds z) (e' + 1) = .ok (valP (cds z) (e' + 1), endP (cds z) (e' + 1)) := by
            unfold plainR
            exact if_pos b4
          obtain ⟨g1, g2⟩ := plainR_le p5
          rw [b4, if_pos rfl] at gS
          dsimp only at gS
          generalize valP (cds z) (e' + 1) = n1 at gS ht4
          generalize endP (cds z) (e' + 1) = e5 at gS ht4 g1 g2
          have h4 := s4 _ _ h3
          refine ⟨t4, _, rfl, .inl (.inl ht4), rfl, _, _, rfl, ?_⟩
          refine ⟨_, _, rfl, rfl, ?_⟩
          refine ⟨_, rfl, .inl ⟨rfl, _, .inl (.inl h4)⟩, _, rfl, l, _, _, rfl, rfl, h4, room, ?_⟩
          refine ⟨⟨n1, row ++ [n1], e5, f', rfl, ?_, ?_, gS, by omega, by rw [List.length_append]; show row.length + 1 ≤ e5; omega, g2⟩, ?_⟩
          · intro b o hb
            rw [upd_ne (ne_of_none hb l0)]
            exact s4 _ _ (s3 _ _ hb)
          · rw [upd_same, mv_app]
            rfl
          · show (((cds z).length : Int) - (e5 : Int)).toNat < (((cds z).length : Int) - (e' : Int)).toNat
            omega
        | false =>
          refine ifF rfl ?_
          refine ⟨_, rfl, l, _, rfl, .inl ⟨.inl (.inl h3), fun t ft => ?_⟩⟩
          have s6 := s3.trans (same_new ft (o := .tup (mv row)))
          refine ⟨_, rfl, _, rfl, z, e', 41, rfl, hz, fun b9 => ?_, fun b9 => ?_⟩
          · rcases fin y32 c2 with ⟨e3, y9, _⟩ | ⟨_, qq⟩
            · exact absurd (b9.symm.trans y9) (by decide)
            · exact rPar.same qq s6
          · rcases fin y32 c2 with ⟨e3, y9, e9, qq⟩ | ⟨n9, _⟩
            · rw [e9] at qq
              refine ⟨by show 2 ≤ sizeLine; decide, fun u fu => qq _ t u (s6.trans (same_new fu)) (same_sqt (same_new fu) (.inl (.inl upd_same))) upd_same⟩
            · exact absurd (b9.symm.trans n9) (by decide)
    · rintro σ H2 Q1 Q2 mono ⟨x1, h1, p, ys, e0, hs, i1, j1, r1, r2, c, hc, h3⟩
      refine ⟨x1, h1, p, ys, e0, hs, i1, j1, r1, r2, c, hc, ?_⟩
      cases c with
      | true => exact mono _ _ h3
      | false =>
        obtain ⟨y1, g1, y2, g2, z', i', c', ez, hz', c2, hc2, h4⟩ := h3
        exact ⟨y1, g1, y2, g2, z', i', c', ez, hz', c2, hc2, mono _ _ h4⟩
end
end K85


set_option Elab.async false
set_option linter.all false
set_option maxRecDepth 100000
set_option maxHeartbeats 2000000
namespace K85
open PySem PySem.Spec PyProof.Rows L2 MM PySem.NumText
/-! own words for the readings: a step, its side -/
local macro_rules | `(tactic| walk_at "side") => `(tactic| first
  | omega
  | exact ⟨by omega, by omega⟩
  | exact Or.inl ⟨by omega, by omega⟩
  | exact Or.inr ⟨by omega, by omega⟩
  | (show CPw _ _; decide +kernel)
  | (show (0 : Int) < _; decide +kernel)
  | (show CDivW _ _; first | assumption | exact ⟨by decide, by decide +kernel⟩))
local macro_rules | `(tactic| walk_at "here") => `(tactic| first
  | assumption
  | exact upd_same
  | exact Or.inl (Or.inl upd_same)
  | exact Or.inl upd_same)
local macro_rules | `(tactic| walk_at "one") => `(tactic| first
  | refine ⟨_, rfl, ?_⟩
  | refine Or.inl ⟨_, rfl, ?_⟩
  | refine Or.inr ⟨_, rfl, ?_⟩
  | refine ⟨_, _, rfl, rfl, (by walk_at "side"), ?_⟩
  | refine ⟨_, _, rfl, rfl, ?_⟩
  | refine ⟨_, _, rfl, Or.inl (by walk_at "here"), ?_⟩
  | refine ⟨_, _, rfl, Or.inr (by walk_at "here"), ?_⟩
  | refine ⟨_, _, rfl, (by walk_at "here"), ?_⟩
  | refine ⟨_, _, _, _, rfl, rfl, (by walk_at "here"), rfl, ?_⟩
  | refine ⟨_, _, rfl, ?_⟩
  | refine ifT (by rfl) ?_
  | refine ifF (by rfl) ?_
  | refine ifT (decide_eq_true (by omega)) ?_
  | refine ifF (decide_eq_false (by omega)) ?_)
local macro_rules | `(tactic| walk_at "st") => `(tactic| repeat (walk_at "one"))

section
variable {P : Program} {w : World} {K : PySem.W.Frag} {mg : Str → Option Value} {base : Heap}
/-- more rings -/
def ringsGo (cs : List Nat) : Nat → List (List Nat) → Nat → Rd (List (List Nat) × Nat)
  | 0, rs, e => .ok (rs, e)
  | f + 1, rs, e => if isAt cs e 40 = true then (match ringR cs e with
      | .error j => .error j
      | .ok (r, e2) => ringsGo cs f (rs ++ [r]) e2) else .ok (rs, e)
def ringsR (cs : List Nat) (i : Nat) : Rd (List (List Nat) × Nat) := if isAt cs i 40 = true ∧ isAt cs (i + 1) 41 = true then .ok ([], i + 2) else match ringR cs i with
  | .error j => .error j
  | .ok (r, e) => ringsGo cs cs.length [r] e
theorem behindR_gt {cs : List Nat} {i c s : Nat} (h : behindR cs i c = .ok s) : s = i + 1 ∧ i < cs.length := by
  unfold behindR at h
  split at h
  · rename_i a
    injection h with h
    exact ⟨h.symm, isAt_lt a⟩
  · cases h
theorem ringGo_gt {cs : List Nat} : ∀ {f : Nat} {ring : List Nat} {e : Nat} {r : List Nat} {e2 : Nat}, ringGo cs f ring e = .ok (r, e2) → e ≤ cs.length →
    e2 ≤ cs.length ∧ 2 ≤ r.length ∧ r.length + e ≤ ring.length + e2 := by
  intro f
  induction f with
  | zero =>
    intro ring e r e2 h le
    replace h : (if ring.length < 2 then Except.error e else Except.ok (ring, e)) = (Except.ok (r, e2) : Rd (List Nat × Nat)) := h
    split at h
    · cases h
    · injection h with h
      injection h with h1 h2
      subst h1 h2
      exact ⟨le, by omega, Nat.le_refl _⟩
  | succ f ih =>
    intro ring e r e2 h le
    unfold ringGo at h
    split at h
    · split at h
      · cases h
      · rename_i s hs
        obtain ⟨rfl, lt⟩ := behindR_gt hs
        split at h
        · cases h
        · rename_i n e3 hp
          obtain ⟨g1, g2⟩ := plainR_le hp
          obtain ⟨a, b, c⟩ := ih h g2
          rw [List.length_append] at c
          replace c : r.length + e3 ≤ ring.length + 1 + e2 := c
          exact ⟨a, b, by omega⟩
    · rename_i no
      injection h with h
      injection h with h1 h2
      subst h1 h2
      exact ⟨le, by omega, Nat.le_refl _⟩
theorem ringR_gt {cs : List Nat} {i e : Nat} {r : List Nat} (h : ringR cs i = .ok (r, e)) : i + r.length < e ∧ 2 ≤ r.length ∧ e ≤ cs.length := by
  unfold ringR at h
  split at h
  · cases h
  · rename_i s hs
    obtain ⟨rfl, lt⟩ := behindR_gt hs
    split at h
    · cases h
    · rename_i n e1 hp
      obtain ⟨g1, g2⟩ := plainR_le hp
      split at h
      · cases h
      · rename_i r2 e2 hg
        obtain ⟨a, b, c⟩ := ringGo_gt hg g2
        unfold ringEnd at h
        split at h
        · cases h
        · rename_i e3 h3
          obtain ⟨rfl, l3⟩ := behindR_gt h3
          injection h with h
          injection h with h1 h2
          subst h1 h2
          replace c : r2.length + e1 ≤ 1 + e2 := c
          exact ⟨by omega, b, by omega⟩
theorem ringsGo_end {cs : List Nat} {f : Nat} {rs : List (List Nat)} {e : Nat} (h : isAt cs e 40 = false) : ringsGo cs f rs e = .ok (rs, e) := by
  cases f with
  | zero => rfl
  | succ f => exact if_neg (by rw [h]; decide)
theorem ringsGo_step {cs : List Nat} {f : Nat} {rs : List (List Nat)} {e : Nat} (h : isAt cs e 40 = true) : ringsGo cs (f + 1) rs e = (match ringR cs e with
      | .error j => .error j
      | .ok (r, e2) => ringsGo cs f (rs ++ [r]) e2) := if_pos h
theorem ringsGo_gt {cs : List Nat} : ∀ {f : Nat} {rs : List (List Nat)} {e : Nat} {R : List (List Nat)} {e2 : Nat}, ringsGo cs f rs e = .ok (R, e2) → e ≤ cs.length → (∀ r ∈ rs, 2 ≤ r.length) →
    e2 ≤ cs.length ∧ (∀ r ∈ R, 2 ≤ r.length) ∧ R.flatten.length + e ≤ rs.flatten.length + e2 := by
  intro f
  induction f with
  | zero =>
    intro rs e R e2 h le al
    replace h : Except.ok (rs, e) = (Except.ok (R, e2) : Rd (List (List Nat) × Nat)) := h
    injection h with h
    injection h with h1 h2
    subst h1 h2
    exact ⟨le, al, Nat.le_refl _⟩
  | succ f ih =>
    intro rs e R e2 h le al
    unfold ringsGo at h
    split at h
    · split at h
      · cases h
      · rename_i r e3 hr
        obtain ⟨g1, g2, g3⟩ := ringR_gt hr
        obtain ⟨a, b, c⟩ := ih h g3 (fun x hx => (List.mem_append.mp hx).elim (al x) fun z => by
          rw [List.mem_singleton.mp z]
          exact g2)
        rw [List.flatten_append, List.length_append] at c
        have e1 : [r].flatten.length = r.length := by simp
        rw [e1] at c
        exact ⟨a, b, by omega⟩
    · injection h with h
      injection h with h1 h2
      subst h1 h2
      exact ⟨le, al, Nat.le_refl _⟩
theorem ringsR_ok {cs : List Nat} {R : List (List Nat)} {e : Nat} (h : ringsR cs 0 = .ok (R, e)) : R.flatten.length ≤ cs.length ∧ (∀ r ∈ R, 2 ≤ r.length) ∧ e ≤ cs.length := by
  unfold ringsR at h
  split at h
  · rename_i c
    injection h with h
    injection h with h1 h2
    subst h1 h2
    have := isAt_lt c.2
    exact ⟨Nat.zero_le _, (fun r hr => by cases hr), by omega⟩
  · split at h
    · cases h
    · rename_i r e3 hr
      obtain ⟨g1, g2, g3⟩ := ringR_gt hr
      obtain ⟨a, b, c⟩ := ringsGo_gt h g3 (fun x hx => by
        rw [List.mem_singleton.mp hx]
        exact g2)
      have e1 : [r].flatten.length = r.length := by simp
      rw [e1] at c
      exact ⟨by omega, b, a⟩
theorem flat_rings {R : List (List Nat)} (h : ∀ r ∈ R, 2 ≤ r.length) : R.length ≤ R.flatten.length := by
  induction R with
  | nil => exact Nat.zero_le _
  | cons r t ih =>
    rw [List.flatten_cons, List.length_append, List.length_cons]
    have := ih fun x hx => h x (List.mem_cons_of_mem _ hx)
    have := h r List.mem_cons_self
    omega
def spRings (K : PySem.W.Frag) : Sp := fun vs H Q E => ∃ (z : Str) (i : Nat), vs = [.str z, .int (i : Int)] ∧ z.length ≤ 4000 ∧
  rRes K H E (ringsR (cds z) i) fun r => ∀ H' t us u, Same H H' → SqT K H' t us → Refs K H' us r.1 → H' u = some (.tup [.ref t, .int (r.2 : Nat)]) → Q (.ref u) H'
theorem scReadRings : FnScope ["text", "at", "ring", "end", "rings"] ["text", "at"] (defScope sReadRings) :=
  ⟨rfl, rfl, rfl, by decide +kernel, rfl, by decide +kernel, by decide +kernel⟩
theorem bReadRings (T : Tx K mg) (Y : Ex K mg) (DIsAt : Def P w K mg base CX0 1 "_is_at" ["text", "at", "sign"] spIsAt) (BReadRing : Def P w K mg base (L2.CX P w) 4 "_read_ring" ["text", "at"] (spRing K)) : Def P w K mg base (L2.CX P w) 5 "_read_rings" ["text", "at"] (spRings K) := by
  refine T.t_read_rings.defX (N := ["text", "at", "ring", "end", "rings"]) scReadRings (fun _ _ _ _ _ _ us hl => match us, hl with | [_, _], _ => rfl) ?_ ?_
  · intro vs H Q E h
    obtain ⟨z, i, rfl, _⟩ := h
    rfl
  · intro f cd A out s H vs Q E hr h
    have hr1 : Rm 1 _ := hr.le (by decide)
    have hr2 : Rm 4 _ := hr.le (by decide)
    have tk : Takes (cxOf (L2.CX P w) P w K mg base ["text", "at", "ring", "end", "rings"] "_read_rings" (defScope sReadRings) f cd A out s H E) (fun cls d _ H1 => E cls d H1) := takes_of rfl rfl rfl rfl
    obtain ⟨z, i, rfl, hz, q⟩ := h
    refine ⟨_, (pss_cons (ps_if (PW.pt (pw_and (pt_val (pe_d DIsAt (hr1.le (by decide)) pass0 (pa_cons (pv 0) (pa_cons (pv 1) (pa_cons pe_str pa_nil))))) (pw_and1 (pt_val (pe_d DIsAt (hr1.le (by decide)) pass0 (pa_cons (pv 0) (pa_cons (pe_op op_add (pv 1) pe_int) (pa_cons pe_str pa_nil)))))))) (pss_one (ps_ret (pe_tup (pa_cons (pe_tup pa_nil) (pa_cons (pe_op op_add (pv 1) pe_int) pa_nil))))) pss_nil)
      (pss_cons (ps_asg (ME.pe_dS BReadRing (hr2.le (by decide)) (passAt tk) (pa_cons (pv 0) (pa_cons (pv 1) pa_nil))) (pg_tup rfl (pgs_cons (pg_name (i := 2) scReadRings.nd rfl (Or.inl rfl)) (pgs_cons (pg_name (i := 3) scReadRings.nd rfl (Or.inl rfl)) pgs_nil))))
      (pss_cons (ps_set (i := 4) scReadRings.nd rfl (Or.inl rfl) (pe_lst (pa_cons (pv 2) pa_nil)))
      (pss_cons (ps_while (passes_of rfl) (pt_val (pe_d DIsAt (hr1.le (by decide)) pass0 (pa_cons (pv 0) (pa_cons (pv 3) (pa_cons pe_str pa_nil)))))
        (pss_cons (ps_asg (ME.pe_dS BReadRing (hr2.le (by decide)) (passAt tk) (pa_cons (pv 0) (pa_cons (pv 3) pa_nil))) (pg_tup rfl (pgs_cons (pg_name (i := 2) scReadRings.nd rfl (Or.inl rfl)) (pgs_cons (pg_name (i := 3) scReadRings.nd rfl (Or.inl rfl)) pgs_nil))))
        (pss_one (ps_expr (pe_bm PySem.F.plainAttrs_list PySem.F.slot_list_append PySem.F.type_list_append mt_append (pv 4) (pa_cons (pv 2) pa_nil))))))
      (pss_one (ps_ret (pe_tup (pa_cons (pe_callTy call_tuple_of rfl T.f_tuple (by decide +kernel) (pa_cons (pv 4) pa_nil)) (pa_cons (pv 3) pa_nil))))))))), ?_⟩
    have hl := cds_len z
    unfold ringsR at q
    refine ⟨_, rfl, _, rfl, z, i, 40, rfl, hz, ?_⟩
    refine ⟨_, rfl, ?_⟩
    cases b1 : isAt (cds z) i 40
    case' false =>
      refine ifF rfl ?_
      refine ifF rfl ?_
      rw [if_neg (fun c => absurd (b1.symm.trans c.1) (by decide))] at q
    case' true =>
      refine ifT rfl ?_
      refine ⟨_, rfl, _, rfl, _, _, rfl, rfl, z, i + 1, 41, rfl, hz, ?_⟩
      refine ⟨_, rfl, ?_⟩
      cases b2 : isAt (cds z) (i + 1) 41
      case' true =>
        refine ifT rfl ?_
        rw [if_pos ⟨b1, b2⟩] at q
        refine ⟨by show 0 ≤ sizeLine; decide, fun t ft => ?_⟩
        refine ⟨_, rfl, _, _, rfl, rfl, by show 2 ≤ sizeLine; decide, fun u fu => ?_⟩
        exact q _ t [] u ((same_new ft).trans (same_new fu)) (same_sqt (same_new fu) (.inl (.inl upd_same))) .nil upd_same
      case' false =>
        refine ifF rfl ?_
        rw [if_neg (fun c => absurd (b2.symm.trans c.2) (by decide))] at q
    all_goals
      refine ⟨_, rfl, _, rfl, z, i, rfl, hz, ?_⟩
      cases er : ringR (cds z) i
      case' error j =>
        rw [er] at q
        exact q
      rename_i r0
      obtain ⟨r0, e0⟩ := r0
      rw [er] at q
      replace q : rRes K H E (ringsGo (cds z) (cds z).length [r0] e0) fun r => ∀ H' t us u, Same H H' → SqT K H' t us → Refs K H' us r.1 → H' u = some (.tup [.ref t, .int (r.2 : Nat)]) → Q (.ref u) H' := q
      obtain ⟨g1, g2, g3⟩ := ringR_gt er
      intro H1 t u s1 ht hu
      refine ⟨u, _, rfl, .inl (.inl hu), rfl, _, _, rfl, ?_⟩
      refine ⟨_, _, rfl, rfl, ?_⟩
      refine ⟨_, rfl, by show 1 ≤ sizeLine; decide, fun l fl => ?_⟩
      have sl := s1.trans (same_new fl (o := .lst [.ref t]))
      have el : (upd H1 l (.lst [.ref t])) l = some (.lst [.ref t]) := upd_same
      have pl : Refs K (upd H1 l (.lst [.ref t])) [.ref t] [r0] := .cons ⟨t, rfl, same_sqt (same_new fl) ht⟩ .nil
      have l0 : H l = none := s1.free fl
      generalize upd H1 l _ = H2 at sl el pl ⊢
      generalize hR : ringsGo (cds z) (cds z).length [r0] e0 = R at q
      refine while_by (fun σ H3 => ∃ (rg : V) (us : List V) (rs : List (List Nat)) (e f : Nat), σ = [some (.str z), some (.int (i : Int)), some rg, some (.int (e : Int)), some (.ref l)] ∧ Same H H3 ∧ H3 l = some (.lst us) ∧ Refs K H3 us rs ∧
          ringsGo (cds z) f rs e = R ∧ (cds z).length < f + e ∧ us.length ≤ e ∧ e ≤ (cds z).length)
        (fun σ _ => match σ with | [_, _, _, some (.int e), _] => ((cds z).length - e).toNat | _ => 0) ?_ ?_ ?_
      · exact ⟨_, [.ref t], [r0], e0, (cds z).length, rfl, sl, el, pl, hR, by omega, by show 1 ≤ e0; omega, g3⟩
      · rintro σ H3 ⟨rg, us, rs, e', f, rfl, s3, h3, p3, gR, fl3, rl3, el3⟩
        refine ⟨_, rfl, _, rfl, z, e', 40, rfl, hz, ?_⟩
        refine ⟨_, rfl, ?_⟩
        cases y : isAt (cds z) e' 40 with
        | true =>
          refine ifT rfl ?_
          obtain ⟨f', rfl⟩ : ∃ f', f = f' + 1 := ⟨f - 1, by have := isAt_lt y; omega⟩
          rw [ringsGo_step y] at gR
          refine ⟨_, rfl, _, rfl, z, e', rfl, hz, ?_⟩
          cases er2 : ringR (cds z) e' with
          | error j =>
            rw [er2] at gR
            rw [← gR] at q
            exact rPar.same q s3
          | ok r2 =>
            obtain ⟨r2, e2⟩ := r2
            rw [er2] at gR
            replace gR : ringsGo (cds z) f' (rs ++ [r2]) e2 = R := gR
            obtain ⟨k1, k2, k3⟩ := ringR_gt er2
            intro H4 t4 u4 s4 ht4 hu4
            have h4 := s4 _ _ h3
            refine ⟨u4, _, rfl, .inl (.inl hu4), rfl, _, _, rfl, ?_⟩
            refine ⟨_, _, rfl, rfl, ?_⟩
            refine ⟨_, rfl, .inl ⟨rfl, _, .inl (.inl h4)⟩, _, rfl, l, _, _, rfl, rfl, h4, by rw [sizeLine_eq]; omega, ?_⟩
            refine ⟨⟨_, us ++ [.ref t4], rs ++ [r2], e2, f', rfl, ?_, upd_same, ((p3.same s4).snoc ht4).upd h4, gR, by omega, by rw [List.length_append]; show us.length + 1 ≤ e2; omega, k3⟩, ?_⟩
            · intro b o hb
              rw [upd_ne (ne_of_none hb l0)]
              exact s4 _ _ (s3 _ _ hb)
            · show (((cds z).length : Int) - (e2 : Int)).toNat < (((cds z).length : Int) - (e' : Int)).toNat
              omega
        | false =>
          refine ifF rfl ?_
          rw [ringsGo_end y] at gR
          rw [← gR] at q
          refine ⟨_, rfl, l, _, rfl, .inl ⟨.inl (.inl h3), fun t5 f5 => ?_⟩⟩
          refine ⟨_, rfl, by show 2 ≤ sizeLine; decide, fun u5 f6 => ?_⟩
          exact q _ t5 us u5 ((s3.trans (same_new f5)).trans (same_new f6)) (same_sqt (same_new f6) (.inl (.inl upd_same))) ((p3.same (same_new f5)).same (same_new f6)) upd_same
      · rintro σ H2 Q1 Q2 mono ⟨y1, g1, y2, g2, z', i', c', ez, hz', c2, hc2, h4⟩
        exact ⟨y1, g1, y2, g2, z', i', c', ez, hz', c2, hc2, mono _ _ h4⟩
end
end K85


set_option Elab.async false
set_option linter.all false
set_option maxRecDepth 100000
set_option maxHeartbeats 2000000
namespace K85
open PySem PySem.Spec PyProof.Rows L2 MM PySem.NumText
/-! own words for the readings: a step, its side -/
local macro_rules | `(tactic| walk_at "side") => `(tactic| first
  | omega
  | exact ⟨by omega, by omega⟩
  | exact Or.inl ⟨by omega, by omega⟩
  | exact Or.inr ⟨by omega, by omega⟩
  | (show CPw _ _; decide +kernel)
  | (show (0 : Int) < _; decide +kernel)
  | (show CDivW _ _; first | assumption | exact ⟨by decide, by decide +kernel⟩))
local macro_rules | `(tactic| walk_at "here") => `(tactic| first
  | assumption
  | exact upd_same
  | exact Or.inl (Or.inl upd_same)
  | exact Or.inl upd_same)
local macro_rules | `(tactic| walk_at "one") => `(tactic| first
  | refine ⟨_, rfl, ?_⟩
  | refine Or.inl ⟨_, rfl, ?_⟩
  | refine Or.inr ⟨_, rfl, ?_⟩
  | refine ⟨_, _, rfl, rfl, (by walk_at "side"), ?_⟩
  | refine ⟨_, _, rfl, rfl, ?_⟩
  | refine ⟨_, _, rfl, Or.inl (by walk_at "here"), ?_⟩
  | refine ⟨_, _, rfl, Or.inr (by walk_at "here"), ?_⟩
  | refine ⟨_, _, rfl, (by walk_at "here"), ?_⟩
  | refine ⟨_, _, _, _, rfl, rfl, (by walk_at "here"), rfl, ?_⟩
  | refine ⟨_, _, rfl, ?_⟩
  | refine ifT (by rfl) ?_
  | refine ifF (by rfl) ?_
  | refine ifT (decide_eq_true (by omega)) ?_
  | refine ifF (decide_eq_false (by omega)) ?_)
local macro_rules | `(tactic| walk_at "st") => `(tactic| repeat (walk_at "one"))

section
variable {P : Program} {w : World} {K : PySem.W.Frag} {mg : Str → Option Value} {base : Heap}
/-- the place that the rings put at x -/
def goOf (R : List (List Nat)) (x : Nat) : Nat := match R.find? (fun r => decide (x ∈ r)) with
  | some r => r.getD ((r.idxOf x + 1) % r.length) 0
  | none => x
theorem same_ring {R : List (List Nat)} (h : R.flatten.Nodup) {r r' : List Nat} {x : Nat} (hr : r ∈ R) (hr' : r' ∈ R) (hx : x ∈ r) (hx' : x ∈ r') : r = r' := by
  obtain ⟨i, hi, rfl⟩ := List.mem_iff_getElem.mp hr
  obtain ⟨j, hj, rfl⟩ := List.mem_iff_getElem.mp hr'
  have pw := List.pairwise_iff_getElem.mp (List.pairwise_flatten.mp h).2
  by_cases e : i = j
  · subst e
    rfl
  · exfalso
    rcases Nat.lt_or_gt_of_ne e with lt | lt
    · exact pw i j hi hj lt x hx x hx' rfl
    · exact pw j i hj hi lt x hx' x hx rfl
theorem goes_of {n : Nat} {R : List (List Nat)} (h : Rings n R) : Goes (goOf R) n R := by
  constructor
  · intro r hr j hj
    have ex : r.getD j 0 = r[j] := by rw [List.getD, List.getElem?_eq_getElem hj]; rfl
    have mx : r.getD j 0 ∈ r := by rw [ex]; exact List.getElem_mem hj
    have nd : r.Nodup := (List.pairwise_flatten.mp h.once).1 r hr
    unfold goOf
    cases ef : R.find? (fun r' => decide (r.getD j 0 ∈ r')) with
    | none =>
      have := List.find?_eq_none.mp ef r hr
      exact absurd (decide_eq_true mx) this
    | some r' =>
      have m' : r.getD j 0 ∈ r' := of_decide_eq_true (List.find?_some (p := fun r' => decide (r.getD j 0 ∈ r')) ef)
      have hr' := List.mem_of_find?_eq_some ef
      obtain rfl := same_ring h.once hr hr' mx m'
      have ei : r.idxOf (r.getD j 0) = j := by
        rw [ex]
        exact nd.idxOf_getElem j hj
      show r.getD ((r.idxOf (r.getD j 0) + 1) % r.length) 0 = _
      rw [ei]
  · intro x _ nx
    unfold goOf
    cases ef : R.find? (fun r' => decide (x ∈ r')) with
    | none => rfl
    | some r' => exact absurd (List.mem_flatten.mpr ⟨r', List.mem_of_find?_eq_some ef, of_decide_eq_true (List.find?_some (p := fun r' => decide (x ∈ r')) ef)⟩) nx
abbrev rMv (K : PySem.W.Frag) (H : Hp) (E : XK) : Prop := ∀ H', Same H H' → E (.ref (ga K "InvalidMove")) none H'
/-- the rings name places below n, each once -/
def okR (n : Nat) (R : List (List Nat)) : Prop := (∀ x ∈ R.flatten, x < n) ∧ R.flatten.Nodup
instance (n : Nat) (R : List (List Nat)) : Decidable (okR n R) := inferInstanceAs (Decidable (_ ∧ _))
def spMvOf (K : PySem.W.Frag) : Sp := fun vs H Q E => ∃ (n : Nat) (a : Addr) (us : List V) (R : List (List Nat)), vs = [.int (n : Int), .ref a] ∧ SqT K H a us ∧ Refs K H us R ∧ (∀ r ∈ R, 1 ≤ r.length) ∧ R.flatten.length ≤ 3000 ∧ 1 ≤ n ∧ n ≤ 24 ∧
  (¬ okR n R → rMv K H E) ∧ (okR n R → ∀ H' t, Same H H' → SqT K H' t (mv ((List.range n).map (goOf R))) → Q (.ref t) H')
theorem scMoveOf : FnScope ["places", "rings", "named", "ring", "place"] ["places", "rings"] (defScope sMoveOf) :=
  ⟨rfl, rfl, rfl, by decide +kernel, rfl, by decide +kernel, by decide +kernel⟩
theorem bMoveOf (T : Tx K mg) (Y : Ex K mg) (DMoveOfCycles : Def P w K mg base CX0 5 "move_of_cycles" ["places", "rings"] (spMoveOf K)) : Def P w K mg base (L2.CX P w) 6 "_move_of" ["places", "rings"] (spMvOf K) := by
  refine T.t_move_of.defX (N := ["places", "rings", "named", "ring", "place"]) scMoveOf (fun _ _ _ _ _ _ us hl => match us, hl with | [_, _], _ => rfl) ?_ ?_
  · intro vs H Q E h
    obtain ⟨n, a, us, R, rfl, _⟩ := h
    rfl
  · intro f cd A out s H vs Q E hr h
    have hr1 : Rm 5 _ := hr.le (by decide)
    have tk : Takes (cxOf (L2.CX P w) P w K mg base ["places", "rings", "named", "ring", "place"] "_move_of" (defScope sMoveOf) f cd A out s H E) (fun cls d _ H1 => E cls d H1) := takes_of rfl rfl rfl rfl
    obtain ⟨n, a, us, R, rfl, S, rf, r1, len, n1, n24, q1, q2⟩ := h
    refine ⟨_, (pss_cons (ps_setLc2 (i := 2) (own := [("ring", 3), ("place", 4)]) (vs1 := [4]) (g := gName 3) (tt := tYes) (g1 := gName 4) (tt1 := tYes) rfl scMoveOf.nd rfl rfl (sw_true rfl rfl rfl rfl) (pi_tup (pv 1)) (blkOk_by (N := ["places", "rings", "named", "ring", "place"]) (sc := defScope sMoveOf) (by decide +kernel)) (by decide) (fun _ _ _ _ _ => pg_name (i := 3) scMoveOf.nd rfl (Or.inl rfl)) (fun _ _ _ _ _ => pts_nil) (fun _ _ _ _ _ => (show PI _ _ _ (iTup K _) from pi_tup (pv 3))) (fun _ _ _ _ _ => pg_name (i := 4) scMoveOf.nd rfl (Or.inl rfl)) (fun _ _ _ _ _ => pts_nil) (fun _ _ _ _ _ => pv 4))
      (pss_cons (ps_if (PW.pt (pw_or (pt_not (pt_val (pe_callB (cr_all rfl) rfl T.f_all (by decide +kernel) (pa_cons (pe_lc (own := [("place", 4)]) (g := gName 4) (tt := tYes) rfl scMoveOf.nd (pi_list (pv 2)) (blkOk_by (N := ["places", "rings", "named", "ring", "place"]) (sc := defScope sMoveOf) (by decide +kernel)) (fun _ _ _ _ _ => pg_name (i := 4) scMoveOf.nd rfl (Or.inl rfl)) (fun _ _ _ _ _ => pts_nil) (fun _ _ _ _ _ => (pe_cmpR op_lt (pv 4) (pv 0) (nomark _)))) pa_nil)))) (pw_or1 (pt_cmpR op_ne (pe_callB cr_lenSet rfl T.f_len (by decide +kernel) (pa_cons (pe_callTy (cr_setL rfl) rfl T.f_set (by decide +kernel) (pa_cons (pv 2) pa_nil)) pa_nil)) (pe_callB call_len_seq rfl T.f_len (by decide +kernel) (pa_cons (pv 2) pa_nil)) (nomark _))))) (pss_one (ps_plain Y.mv rfl tk)) pss_nil)
      (pss_one (ps_ret (pe_d DMoveOfCycles (hr1.le (by decide)) pass0 (pa_cons (pv 0) (pa_cons (pv 1) pa_nil))))))), ?_⟩
    have wl : us.length = R.length := Paired.length rf
    refine ⟨_, rfl, a, rfl, ⟨_, S⟩, fun D nD => ?_⟩
    refine ⟨fun i m H4 => m = us.length - i ∧ i ≤ us.length ∧ H4 = upd H D (.lst (mv (R.take i).flatten)), ⟨_, rfl, Nat.zero_le _, rfl⟩, ?_⟩
    rintro i m H4 ⟨rfl, li, rfl⟩
    have S4 : SqT K (upd H D (.lst (mv (R.take i).flatten))) a us := sqt_new S nD
    by_cases lt : i < us.length
    · refine .inr ⟨⟨us, us[i], S4, by simp [lt]⟩, fun H5 => H5 = upd H D (.lst (mv (R.take (i + 1)).flatten)), fun H5 e => ⟨us.length - (i + 1), by omega, rfl, lt, e⟩, ?_⟩
      rintro x H5 ⟨rfl, yx⟩
      obtain ⟨r, t, hr, rfl, St⟩ := rf.get (yx us S4)
      refine ⟨rfl, ?_⟩
      refine ⟨_, rfl, t, rfl, ⟨_, sqt_new St nD⟩, ?_⟩
      refine ⟨fun j k H6 => k = (mv r).length - j ∧ j ≤ (mv r).length ∧ H6 = upd H D (.lst (mv ((R.take i).flatten ++ r.take j))), ⟨_, rfl, Nat.zero_le _, by rw [List.take_zero, List.append_nil]⟩, ?_⟩
      rintro j k H6 ⟨rfl, lj, rfl⟩
      have S6 : SqT K (upd H D (.lst (mv ((R.take i).flatten ++ r.take j)))) t (mv r) := sqt_new St nD
      by_cases lt2 : j < (mv r).length
      · refine .inr ⟨⟨mv r, (mv r)[j], S6, by simp [lt2]⟩, fun H7 => H7 = upd H D (.lst (mv ((R.take i).flatten ++ r.take (j + 1)))), fun H7 e => ⟨(mv r).length - (j + 1), by omega, rfl, lt2, e⟩, ?_⟩
        rintro x H7 ⟨rfl, yx2⟩
        obtain ⟨jr, rfl⟩ := mv_nth (yx2 _ S6)
        have ej : r[j]? = some (r.getD j 0) := by rw [List.getD, List.getElem?_eq_getElem jr]; rfl
        refine ⟨rfl, ?_⟩
        refine ⟨_, rfl, _, upd_same, ?_, ?_⟩
        · have e1 := Rings.flat hr ej
          have e2 : R.flatten.length = ((R.take i).flatten ++ r.take j).length + (1 + (r.drop (j + 1) ++ (R.drop (i + 1)).flatten).length) := by
            conv => lhs; rw [e1]
            rw [List.length_append, List.length_cons]
            omega
          rw [mv_len, sizeLine_eq]
          omega
        · show _ = _
          rw [upd_upd, List.take_add_one, ej, ← List.append_assoc, mv_app ((R.take i).flatten ++ r.take j)]
          rfl
      · refine .inl ⟨⟨_, S6, by omega⟩, ?_⟩
        show _ = _
        have etk : r.take j = r := List.take_of_length_le (by have := mv_len r; omega)
        have e3 : (R.take (i + 1)).flatten = (R.take i).flatten ++ r := by
          rw [List.take_add_one, hr, List.flatten_append]
          show _ ++ (r ++ []) = _
          rw [List.append_nil]
        rw [etk, e3]
    · refine .inl ⟨⟨_, S4, by omega⟩, ?_⟩
      rw [List.take_of_length_le (by omega : R.length ≤ i)]
      have s1 : Same H (upd H D (.lst (mv R.flatten))) := same_new nD
      have e1 : (upd H D (.lst (mv R.flatten))) D = some (.lst (mv R.flatten)) := upd_same
      generalize upd H D (.lst (mv R.flatten)) = H1 at s1 e1 ⊢
      have ef : mv R.flatten = (R.flatten.map fun k : Nat => (k : Int)).map V.int := by
        unfold mv
        rw [List.map_map]
        rfl
      refine ⟨_, rfl, D, rfl, ⟨_, .inl (.inl e1)⟩, fun D2 nD2 => ?_⟩
      refine lc_seq (fun x => match x with | .int i => .bl (decide (i < (n : Int))) | _ => .bl false) (.inl (.inl e1)) nD2 (by rw [mv_len, sizeLine_eq]; omega) ?_ ?_
      · intro x acc hx Q' q'
        obtain ⟨k, _, rfl⟩ := List.mem_map.mp hx
        exact ⟨_, rfl, _, rfl, _, _, rfl, rfl, q'⟩
      have s2 := s1.trans (same_new nD2 (o := .lst ((mv R.flatten).map fun x => match x with | .int i => .bl (decide (i < (n : Int))) | _ => .bl false)))
      have e2 := same_new nD2 (o := .lst ((mv R.flatten).map fun x => match x with | .int i => .bl (decide (i < (n : Int))) | _ => .bl false)) _ _ e1
      have e3 : (upd H1 D2 (.lst ((mv R.flatten).map fun x => match x with | .int i => .bl (decide (i < (n : Int))) | _ => .bl false))) D2 = _ := upd_same
      generalize upd H1 D2 _ = H2 at s2 e2 e3 ⊢
      refine ⟨D2, R.flatten.map fun (k : Nat) => decide ((k : Int) < (n : Int)), rfl, .inl (.inl (Eq.trans e3 ?_)), ?_⟩
      · congr 2
        unfold mv
        rw [List.map_map, List.map_map]
        rfl
      refine ⟨_, rfl, ?_⟩
      cases ba : (R.flatten.map fun (k : Nat) => decide ((k : Int) < (n : Int))).all id with
      | false =>
        refine ifT rfl ?_
        refine ifT rfl ?_
        refine q1 (fun ok => ?_) _ s2
        rw [List.all_map] at ba
        have : R.flatten.all (id ∘ fun (k : Nat) => decide ((k : Int) < (n : Int))) = true := List.all_eq_true.mpr fun x hx => decide_eq_true (by have := ok.1 x hx; omega)
        rw [this] at ba
        cases ba
      | true =>
        have below : ∀ x ∈ R.flatten, x < n := by
          rw [List.all_map] at ba
          intro x hx
          have := of_decide_eq_true (List.all_eq_true.mp ba x hx)
          omega
        refine ifF rfl ?_
        refine ⟨_, rfl, D, R.flatten.map fun k : Nat => (k : Int), rfl, .inl (.inl (by rw [← ef]; exact e2)), by rw [List.length_map]; omega, fun t c nt cnt le => ?_⟩
        refine ⟨t, _, c, rfl, upd_same, ?_⟩
        have s3 := s2.trans (same_new nt (o := .set (fun j => decide (j ∈ R.flatten.map fun k : Nat => (k : Int))) c))
        have e4 := same_new nt (o := .set (fun j => decide (j ∈ R.flatten.map fun k : Nat => (k : Int))) c) _ _ e2
        generalize upd H2 t _ = H3 at s3 e4 ⊢
        refine ⟨_, rfl, D, _, rfl, .inl (.inl (.inl e4)), rfl, ?_⟩
        rw [List.length_map] at cnt
        have nd : (R.flatten.map fun k : Nat => (k : Int)).Nodup ↔ R.flatten.Nodup := by
          rw [List.Nodup, List.pairwise_map]
          exact List.Pairwise.iff (fun {a b} => by omega)
        by_cases cn : c = R.flatten.length
        · refine ⟨_, rfl, ifF ?_ ?_⟩
          · rw [mv_len, cn]
            simp
          have ok : okR n R := ⟨below, nd.mp (cnt.mp cn)⟩
          have hR : Rings n R := ⟨r1, ok.2, ok.1⟩
          refine ⟨_, rfl, _, rfl, n, a, us, R, goOf R, rfl, same_sqt s3 S, rf.same s3, hR, goes_of hR, n1, n24, fun H4 t4 s4 st4 => ?_⟩
          exact q2 ok _ _ (s3.trans s4) st4
        · refine ⟨_, rfl, ifT ?_ ?_⟩
          · rw [mv_len, decide_eq_false (fun e => cn (by injection e with e; omega))]
            rfl
          exact q1 (fun ok => cn (cnt.mpr (nd.mpr ok.2))) _ s3
/-- what the text of a move tells -/
def moveR (cs : List Nat) : Rd (List (List Nat)) := match ringsR cs 0 with
  | .error j => .error j
  | .ok (R, e) => if e < cs.length then .error e else .ok R
def spReadMove (K : PySem.W.Frag) : Sp := fun vs H Q E => ∃ (x : V) (m : Kn) (n : Nat), vs = [x, .int (n : Int)] ∧ Kd K H x m ∧ (∀ z, x = .str z → z.length ≤ 4000) ∧ 1 ≤ n ∧ n ≤ 24 ∧ (okT x = false → rPar K H 0 E) ∧
  ∀ z : Str, x = .str z → okT x = true → rRes K H E (moveR (cds z)) fun R => (¬ okR n R → rMv K H E) ∧ (okR n R → ∀ H' t, Same H H' → SqT K H' t (mv ((List.range n).map (goOf R))) → Q (.ref t) H')
theorem scReadMove : FnScope ["text", "places", "rings", "end"] ["text", "places"] (defScope sReadMove) :=
  ⟨rfl, rfl, rfl, by decide +kernel, rfl, by decide +kernel, by decide +kernel⟩
theorem bReadMove (T : Tx K mg) (Y : Ex K mg) (DNeedPlaces : Def P w K mg base CX0 4 "need_places" ["places"] (spNeedPlaces K)) (BNeedText : Def P w K mg base (L2.CX P w) 3 "_need_text" ["text"] (spNeedText K)) (BReadRings : Def P w K mg base (L2.CX P w) 5 "_read_rings" ["text", "at"] (spRings K)) (BMoveOf : Def P w K mg base (L2.CX P w) 6 "_move_of" ["places", "rings"] (spMvOf K)) : Def P w K mg base (L2.CX P w) 7 "read_move" ["text", "places"] (spReadMove K) := by
  refine T.t_read_move.defX (N := ["text", "places", "rings", "end"]) scReadMove (fun _ _ _ _ _ _ us hl => match us, hl with | [_, _], _ => rfl) ?_ ?_
  · intro vs H Q E h
    obtain ⟨x, m, n, rfl, _⟩ := h
    rfl
  · intro f cd A out s H vs Q E hr h
    have hr1 : Rm 4 _ := hr.le (by decide)
    have hr2 : Rm 6 _ := hr.le (by decide)
    have tk : Takes (cxOf (L2.CX P w) P w K mg base ["text", "places", "rings", "end"] "read_move" (defScope sReadMove) f cd A out s H E) (fun cls d _ H1 => E cls d H1) := takes_of rfl rfl rfl rfl
    obtain ⟨x, m, n, rfl, hk, hz, n1, n24, q1, q2⟩ := h
    refine ⟨_, (pss_cons (ps_expr (ME.pe_dS BNeedText (hr2.le (by decide)) (passAt tk) (pa_cons (pv 0) pa_nil)))
      (pss_cons (ps_expr (pe_d DNeedPlaces (hr1.le (by decide)) pass0 (pa_cons (pv 1) pa_nil)))
      (pss_cons (ps_asg (ME.pe_dS BReadRings (hr2.le (by decide)) (passAt tk) (pa_cons (pv 0) (pa_cons pe_int pa_nil))) (pg_tup rfl (pgs_cons (pg_name (i := 2) scReadMove.nd rfl (Or.inl rfl)) (pgs_cons (pg_name (i := 3) scReadMove.nd rfl (Or.inl rfl)) pgs_nil))))
      (pss_cons (ps_if (pt_cmpR op_lt (pv 3) (pe_callB call_len_str rfl T.f_len (by decide +kernel) (pa_cons (pv 0) pa_nil)) (nomark _)) (pss_one (ps_parse Y rfl tk (hr.le (by decide)) (pa_cons (pv 3) pa_nil))) pss_nil)
      (pss_one (ps_ret (ME.pe_dS BMoveOf (hr2.le (by decide)) (passAt tk) (pa_cons (pv 1) (pa_cons (pv 2) pa_nil))))))))), ?_⟩
    refine ⟨_, rfl, x, m, rfl, hk, hz, q1, fun b => ?_⟩
    refine ⟨_, rfl, n, rfl, n1, n24, ?_⟩
    obtain ⟨z, rfl⟩ : ∃ z, x = .str z := by
      cases hk <;> first | exact ⟨_, rfl⟩ | cases b
    have q := q2 z rfl b
    have z4 := hz z rfl
    have z3 : z.length ≤ 3000 := of_decide_eq_true b
    have hl := cds_len z
    clear q1 q2
    unfold moveR at q
    refine ⟨_, rfl, z, 0, rfl, z4, ?_⟩
    cases er : ringsR (cds z) 0 with
    | error j =>
      rw [er] at q
      exact q
    | ok r =>
      obtain ⟨R, e⟩ := r
      rw [er] at q
      obtain ⟨g1, g2, g3⟩ := ringsR_ok er
      intro H1 t us u s1 ht rf hu
      refine ⟨u, _, rfl, .inl (.inl hu), rfl, _, _, rfl, ?_⟩
      refine ⟨_, _, rfl, rfl, ?_⟩
      refine ⟨_, rfl, _, rfl, z, rfl, line4000 z4, _, _, rfl, rfl, _, rfl, ?_⟩
      by_cases c : e < (cds z).length
      · refine ifT (decide_eq_true (by rw [hl]; omega)) ?_
        replace q : rRes K H E (if e < (cds z).length then Except.error e else Except.ok R) _ := q
        rw [if_pos c] at q
        exact ⟨_, rfl, _, rfl, fun d hd => par_new q s1 hd⟩
      · refine ifF (decide_eq_false (by rw [hl]; omega)) ?_
        replace q : rRes K H E (if e < (cds z).length then Except.error e else Except.ok R) _ := q
        rw [if_neg c] at q
        obtain ⟨qa, qb⟩ := q
        refine ⟨_, rfl, _, rfl, n, t, us, R, rfl, ht, rf, fun r hr => by have := g2 r hr; omega, by omega, n1, n24, fun no => ?_, fun ok H4 t4 s4 st4 => ?_⟩
        · exact fun H4 s4 => qa no _ (s1.trans s4)
        · exact qb ok _ _ (s1.trans s4) st4
end
end K85


set_option Elab.async false
set_option linter.all false
set_option maxRecDepth 100000
set_option maxHeartbeats 2000000
namespace K85
open PySem PySem.Spec PyProof.Rows L2 MM
/-! own words for the readings: a step, its side -/
local macro_rules | `(tactic| walk_at "side") => `(tactic| first
  | omega
  | exact ⟨by omega, by omega⟩
  | exact Or.inl ⟨by omega, by omega⟩
  | exact Or.inr ⟨by omega, by omega⟩
  | (show CPw _ _; decide +kernel)
  | (show (0 : Int) < _; decide +kernel)
  | (show CDivW _ _; first | assumption | exact ⟨by decide, by decide +kernel⟩))
local macro_rules | `(tactic| walk_at "here") => `(tactic| first
  | assumption
  | exact upd_same
  | exact Or.inl (Or.inl upd_same)
  | exact Or.inl upd_same)
local macro_rules | `(tactic| walk_at "one") => `(tactic| first
  | refine ⟨_, rfl, ?_⟩
  | refine Or.inl ⟨_, rfl, ?_⟩
  | refine Or.inr ⟨_, rfl, ?_⟩
  | refine ⟨_, _, rfl, rfl, (by walk_at "side"), ?_⟩
  | refine ⟨_, _, rfl, rfl, ?_⟩
  | refine ⟨_, _, rfl, Or.inl (by walk_at "here"), ?_⟩
  | refine ⟨_, _, rfl, Or.inr (by walk_at "here"), ?_⟩
  | refine ⟨_, _, rfl, (by walk_at "here"), ?_⟩
  | refine ⟨_, _, _, _, rfl, rfl, (by walk_at "here"), rfl, ?_⟩
  | refine ⟨_, _, rfl, ?_⟩
  | refine ifT (by rfl) ?_
  | refine ifF (by rfl) ?_
  | refine ifT (decide_eq_true (by omega)) ?_
  | refine ifF (decide_eq_false (by omega)) ?_)
local macro_rules | `(tactic| walk_at "st") => `(tactic| repeat (walk_at "one"))

section
variable {P : Program} {w : World} {K : PySem.W.Frag} {mg : Str → Option Value} {base : Heap}
def spCycL (K : PySem.W.Frag) : Sp := fun vs H Q _ => ∃ a m, vs = [.ref a] ∧ SqT K H a (mv m) ∧ Mv m ∧ ∀ H' t us, Same H H' → H t = none → H' t = some (.lst us) → Refs K H' us (rings (fn' m) m.length) → Q (.ref t) H'
theorem scCyclesL : FnScope ["_law_move", "_law_found", "_law_known", "_law_start", "_law_ring", "_law_place"] ["_law_move"] (defScope sCyclesL) :=
  ⟨rfl, rfl, rfl, by decide +kernel, rfl, by decide +kernel, by decide +kernel⟩
theorem dCyclesL (T : Tx K mg) : Def P w K mg base CX0 1 "_law_cycles" ["_law_move"] (spCycL K) := by
  refine T.t_law_cycles.def_ (N := ["_law_move", "_law_found", "_law_known", "_law_start", "_law_ring", "_law_place"]) scCyclesL (fun _ _ _ _ _ _ us hl => match us, hl with | [_], _ => rfl) ?_ ?_
  · intro vs H Q E h
    obtain ⟨a, m, rfl, _⟩ := h
    rfl
  · intro f cd A out s H vs Q E hr h
    obtain ⟨a, m, rfl, S, hm, q⟩ := h
    refine ⟨_, (pss_cons (ps_par (i := 1) (j := 2) rfl scCyclesL.nd rfl rfl (by decide) rfl rfl (pa_cons (pe_lst pa_nil) (pa_cons (pe_lst pa_nil) pa_nil)) (by rfl))
      (pss_cons (ps_for PassesOwn.never rfl (pi_range1 rfl T.f_range (pa_cons (pe_callB call_len_seq rfl T.f_len (by decide +kernel) (pa_cons (pv 0) pa_nil)) pa_nil)) (pg_name (i := 3) scCyclesL.nd rfl (Or.inl rfl))
        (pss_one (ps_if (pt_cmpR op_notIn_seq (pv 3) (pv 2) rfl) (pss_cons (ps_par (i := 4) (j := 5) rfl scCyclesL.nd rfl rfl (by decide) rfl rfl (pa_cons (pe_lst (pa_cons (pv 3) pa_nil)) (pa_cons (pe_ix ix_tup (pv 0) (pv 3) (fun _ _ => rfl)) pa_nil)) (by rfl))
          (pss_cons (ps_while PassesOwn.never (pt_cmpR op_ne (pv 5) (pv 3) (nomark _))
            (pss_cons (ps_expr (pe_bm PySem.F.plainAttrs_list PySem.F.slot_list_append PySem.F.type_list_append mt_append (pv 4) (pa_cons (pv 5) pa_nil)))
            (pss_one (ps_set (i := 5) scCyclesL.nd rfl (Or.inl rfl) (pe_ix ix_tup (pv 0) (pv 5) (fun _ _ => rfl))))))
          (pss_cons (ps_set (i := 2) scCyclesL.nd rfl (Or.inl rfl) (pe_op op_cat (pv 2) (pv 4)))
          (pss_one (ps_expr (pe_bm PySem.F.plainAttrs_list PySem.F.slot_list_append PySem.F.type_list_append mt_append (pv 1) (pa_cons (pe_callTy call_tuple_of rfl T.f_tuple (by decide +kernel) (pa_cons (pv 4) pa_nil)) pa_nil))))))) pss_nil)))
      (pss_one (ps_ret (pv 1))))), ?_⟩
    have pm := pm_of hm
    refine ⟨by (show 0 ≤ sizeLine); decide, fun F fF => ?_⟩
    have S1 : Same H (upd H F (.lst [])) := same_new fF
    have F1 : (upd H F (.lst [])) F = some (.lst []) := upd_same
    generalize upd H F _ = H1 at S1 F1 ⊢
    refine ⟨by (show 0 ≤ sizeLine); decide, fun G fG => ?_⟩
    have GF : G ≠ F := (ne_of_none F1 fG).symm
    have S2 : Same H (upd H1 G (.lst [])) := S1.trans (same_new fG)
    have F2 : (upd H1 G (.lst [])) F = some (.lst []) := (upd_ne GF.symm).trans F1
    have G2 : (upd H1 G (.lst [])) G = some (.lst []) := upd_same
    have fG0 : ∀ b o, H b = some o → b ≠ G := fun b o e => ne_of_none (S1 b o e) fG
    have fF0 : ∀ b o, H b = some o → b ≠ F := fun b o e => ne_of_none e fF
    generalize upd H1 G _ = H2 at S2 F2 G2 ⊢
    refine ⟨_, _, rfl, ?_⟩
    refine ⟨_, rfl, a, _, rfl, .inr (same_sqt S2 S), (mv m).length, rfl, by omega, by rw [mv_len]; have := hm.2.2.2; omega, for_range (fun s σ H3 => Same H H3 ∧ ∃ us : List V, H3 F = some (.lst us) ∧ Refs K H3 us (ringsTo (fn' m) m.length s) ∧
        ∃ G x y z, H3 G = some (.lst (mv (ringsTo (fn' m) m.length s).flatten)) ∧ G ≠ F ∧ σ = [some (.ref a), some (.ref F), some (.ref G), x, y, z]) ⟨S2, [], F2, .nil, G, _, _, _, G2, GF, rfl⟩ ?_ ?_⟩
    · clear G2 F2 GF fG0 S2
      rintro s σ H3 hs ⟨S3, us, hF, rf, G, x, y, z, hG, GF, rfl⟩
      have sn : s < m.length := by rw [← mv_len]; simpa using hs
      have g := rings_good pm s (by omega)
      refine ⟨_, rfl, _, rfl, G, _, rfl, .inl (.inl (.inl hG)), rfl, flat_mv _, ?_⟩
      refine ⟨_, rfl, ?_⟩
      show (if (!inV (V.int (0 + (s : Int))) (mv (ringsTo (fn' m) m.length s).flatten)) = true then _ else _)
      rw [Int.zero_add, in_mv]
      by_cases c : s ∈ (ringsTo (fn' m) m.length s).flatten
      · refine ifF (by rw [decide_eq_true c]; rfl) ?_
        have e : ringsTo (fn' m) m.length (s + 1) = ringsTo (fn' m) m.length s := by
          show (if s ∈ (ringsTo (fn' m) m.length s).flatten then _ else _) = _
          rw [if_pos c]
        rw [e]
        exact ⟨S3, us, hF, rf, G, _, _, _, hG, GF, rfl⟩
      · refine ifT (by rw [decide_eq_false c]; rfl) ?_
        have e : ringsTo (fn' m) m.length (s + 1) = ringsTo (fn' m) m.length s ++ [ringOf (fn' m) m.length s] := by
          show (if s ∈ (ringsTo (fn' m) m.length s).flatten then _ else _) = _
          rw [if_neg c]
        obtain ⟨Ln, eL, no⟩ := lenOf_ok pm sn
        have L1 := lenOf_pos (fn' m) m.length s
        rw [e]
        refine ⟨_, rfl, by (show 1 ≤ sizeLine); decide, fun D fD => ?_⟩
        have FD : F ≠ D := ne_of_none hF fD
        have GD : G ≠ D := ne_of_none hG fD
        have S4 : Same H3 (upd H3 D (.lst [.int (s : Int)])) := same_new fD
        have D4 : (upd H3 D (.lst [.int (s : Int)])) D = some (.lst (mv (ring (fn' m) s 1))) := upd_same
        have fD0 : ∀ b o, H b = some o → b ≠ D := fun b o e => ne_of_none (S3 b o e) fD
        replace S3 := S3.trans S4
        replace hF := S4 _ _ hF
        replace hG := S4 _ _ hG
        replace rf := rf.same S4
        generalize upd H3 D _ = H4 at S3 hF hG rf D4 ⊢
        refine ⟨_, rfl, _, rfl, a, _, _, _, rfl, rfl, same_sqt S3 S, mv_at sn, _, _, rfl, ?_⟩
        refine while_by (fun σ H5 => Same H H5 ∧ H5 F = some (.lst us) ∧ Refs K H5 us (ringsTo (fn' m) m.length s) ∧ H5 G = some (.lst (mv (ringsTo (fn' m) m.length s).flatten)) ∧
            ∃ k, 1 ≤ k ∧ k ≤ lenOf (fn' m) m.length s ∧ H5 D = some (.lst (mv (ring (fn' m) s k))) ∧ σ = [some (.ref a), some (.ref F), some (.ref G), some (.int (s : Int)), some (.ref D), some (.int (it (fn' m) k s : Nat))])
          (fun _ H5 => match H5 D with | some (.lst xs) => lenOf (fn' m) m.length s - xs.length | _ => 0) ⟨S3, hF, rf, hG, 1, Nat.le_refl 1, L1, D4, rfl⟩ ?_ ?_
        · rintro σ H5 ⟨S5, hF, rf, hG, k, k1, kL, hD, rfl⟩
          have hk : it (fn' m) k s < m.length := it_lt pm sn k
          refine ⟨_, rfl, _, rfl, rfl, _, rfl, ?_⟩
          show (if (!decide (V.int ((it (fn' m) k s : Nat) : Int) = V.int (s : Int))) = true then _ else _)
          rw [dInt, show decide (((it (fn' m) k s : Nat) : Int) = (s : Int)) = decide (it (fn' m) k s = s) from decide_eq_decide.mpr (by omega)]
          by_cases kk : k = lenOf (fn' m) m.length s
          · subst kk
            refine ifF (by rw [eL, decide_eq_true rfl]; rfl) ?_
            have lG : (mv (ringsTo (fn' m) m.length s).flatten).length ≤ 1000 := by
              rw [mv_len]
              have := g.once.length_le_of_subset (fun x hx => List.mem_range.mpr (g.below x hx))
              rw [List.length_range] at this
              have := hm.2.2.2
              omega
            have lD : (mv (ring (fn' m) s (lenOf (fn' m) m.length s))).length ≤ 1000 := by
              rw [mv_len]
              unfold ring
              rw [List.length_map, List.length_range]
              have := hm.2.2.2
              omega
            refine ⟨_, rfl, _, rfl, G, D, _, _, rfl, rfl, hG, hD, ?_, fun G6a fG6 => ?_⟩
            · refine Nat.le_of_lt (Nat.lt_of_le_of_lt (Nat.add_le_add lG lD) (by decide))
            rw [← mv_app]
            have G6F : G6a ≠ F := (ne_of_none hF fG6).symm
            have U6 : Same H5 (upd H5 G6a (.lst (mv ((ringsTo (fn' m) m.length s).flatten ++ ring (fn' m) s (lenOf (fn' m) m.length s))))) := same_new fG6
            have F6 := U6 _ _ hF
            have D6 := U6 _ _ hD
            have G6 : (upd H5 G6a (.lst (mv ((ringsTo (fn' m) m.length s).flatten ++ ring (fn' m) s (lenOf (fn' m) m.length s))))) G6a = some (.lst (mv ((ringsTo (fn' m) m.length s).flatten ++ ring (fn' m) s (lenOf (fn' m) m.length s)))) := upd_same
            have R6 := rf.same U6
            have S6 := S5.trans U6
            generalize upd H5 G6a _ = H6 at F6 D6 G6 R6 S6 U6 ⊢
            refine ⟨_, rfl, .inl ⟨rfl, _, .inl (.inl F6)⟩, _, rfl, D, _, rfl, .inl ⟨.inl (.inl D6), fun t ft => ?_⟩⟩
            have S7 : Same H6 (upd H6 t (.tup (mv (ring (fn' m) s (lenOf (fn' m) m.length s))))) := same_new ft
            have T7 : SqT K (upd H6 t (.tup (mv (ring (fn' m) s (lenOf (fn' m) m.length s))))) t (mv (ring (fn' m) s (lenOf (fn' m) m.length s))) := .inl (.inl upd_same)
            have F7 := S7 _ _ F6
            have G7 := S7 _ _ G6
            have R7 := R6.same S7
            have SS := S6.trans S7
            generalize upd H6 t _ = H7 at T7 F7 G7 R7 SS ⊢
            have lu : us.length ≤ 1000 := by
              have h1 : us.length = (ringsTo (fn' m) m.length s).length := Paired.length rf
              have h2 := ringsTo_len (fn' m) m.length s
              have := hm.2.2.2
              omega
            refine ⟨F, us, _, rfl, rfl, F7, Nat.lt_of_le_of_lt lu (by decide), ?_⟩
            refine ⟨fun b o e => (upd_ne (fF0 b o e)).trans (SS b o e), us ++ [.ref t], upd_same, ?_, G6a, _, _, _, ?_, G6F, rfl⟩
            · exact (R7.upd F7).snoc (sqt_lst T7 F7)
            · refine (upd_ne G6F).trans (G7.trans ?_)
              rw [List.flatten_append]
              show _ = some (HO.lst (mv (_ ++ (ringOf (fn' m) m.length s ++ []))))
              rw [List.append_nil]
              rfl
          · refine ifT (by rw [decide_eq_false (no k k1 (by omega))]; rfl) ?_
            have lr : (mv (ring (fn' m) s k)).length = k := by
              rw [mv_len]
              unfold ring
              rw [List.length_map, List.length_range]
            refine ⟨_, rfl, .inl ⟨rfl, _, .inl (.inl hD)⟩, _, rfl, D, _, _, rfl, rfl, hD, Nat.lt_of_le_of_lt (by rw [lr]; have := hm.2.2.2; omega : _ ≤ 1000) (by decide), ?_⟩
            have er : mv (ring (fn' m) s k) ++ [V.int ((it (fn' m) k s : Nat) : Int)] = mv (ring (fn' m) s (k + 1)) := by
              unfold ring
              rw [List.range_succ, List.map_append]
              unfold mv
              rw [List.map_append]
              rfl
            rw [er]
            have S6 : Same H (upd H5 D (.lst (mv (ring (fn' m) s (k + 1))))) := fun b o e => (upd_ne (fD0 b o e)).trans (S5 b o e)
            refine ⟨_, rfl, _, rfl, a, _, _, _, rfl, rfl, same_sqt S6 S, mv_at hk, ⟨S6, (upd_ne FD).trans hF, rf.upd hD, (upd_ne GD).trans hG, k + 1, by omega, by omega, upd_same, rfl⟩, ?_⟩
            rw [upd_same, hD]
            show lenOf (fn' m) m.length s - (mv (ring (fn' m) s (k + 1))).length < lenOf (fn' m) m.length s - (mv (ring (fn' m) s k)).length
            rw [lr, ← er, List.length_append, lr]
            show lenOf (fn' m) m.length s - (k + 1) < _
            omega
        · rintro σ H5 Q1 Q2 mono hyp
          obtain ⟨v, hv, v2, hv2, fl, c1, e1, body⟩ := hyp
          exact ⟨v, hv, v2, hv2, fl, c1, e1, mono _ _ body⟩
    · rintro σ H3 ⟨S3, us, hF, rf, G, x, y, z, hG, GF, rfl⟩
      rw [mv_len] at rf
      exact ⟨_, rfl, q H3 F us S3 fF hF rf⟩
def spDrawn (K : PySem.W.Frag) : Sp := fun vs H Q _ => ∃ (p : Addr) (n : Nat), vs = [.ref p, .int (n : Int)] ∧ BagAt H p ∧ 1 ≤ n ∧ n ≤ 24 ∧ ∀ H' t m, Upto p H H' → t ≠ p → SqT K H' t (mv m) → Mv m → m.length = n → Q (.ref t) H'
theorem scMoveDrawnL : FnScope ["_law_bag_here", "_law_places", "_law_left", "_law_found", "_law_turn"] ["_law_bag_here", "_law_places"] (defScope sMoveDrawnL) :=
  ⟨rfl, rfl, rfl, by decide +kernel, rfl, by decide +kernel, by decide +kernel⟩
theorem dMoveDrawnL (T : Tx K mg) (DGrabL : Def P w K mg base CX0 1 "_law_grab" ["_law_bag_here", "_law_total"] spGrab) : Def P w K mg base CX0 2 "_law_move_drawn" ["_law_bag_here", "_law_places"] (spDrawn K) := by
  refine T.t_law_move_drawn.def_ (N := ["_law_bag_here", "_law_places", "_law_left", "_law_found", "_law_turn"]) scMoveDrawnL (fun _ _ _ _ _ _ us hl => match us, hl with | [_, _], _ => rfl) ?_ ?_
  · intro vs H Q E h
    obtain ⟨p, n, rfl, _⟩ := h
    rfl
  · intro f cd A out s H vs Q E hr h
    have hr1 : Rm 1 _ := hr.le (by decide)
    obtain ⟨p, n, rfl, hb, n1, n24, q⟩ := h
    obtain ⟨b1, b2, b3, eb⟩ := hb
    refine ⟨_, (pss_cons (ps_par (i := 2) (j := 3) rfl scMoveDrawnL.nd rfl rfl (by decide) rfl rfl (pa_cons (pe_listRg rfl rfl T.f_list (prg_1 rfl T.f_range (pv 1))) (pa_cons (pe_lst pa_nil) pa_nil)) (by rfl))
      (pss_cons (ps_for PassesOwn.never rfl (pi_range1 rfl T.f_range (pa_cons (pv 1) pa_nil)) (pg_name (i := 4) scMoveDrawnL.nd rfl (Or.inl rfl))
        (pss_one (ps_expr (pe_bm PySem.F.plainAttrs_list PySem.F.slot_list_append PySem.F.type_list_append mt_append (pv 3) (pa_cons (pe_bm PySem.F.plainAttrs_list PySem.F.slot_list_pop PySem.F.type_list_pop mt_popAt (pv 2) (pa_cons (pe_d DGrabL (hr1.le (by decide)) pass0 (pa_cons (pv 0) (pa_cons (pe_callB call_len_seq rfl T.f_len (by decide +kernel) (pa_cons (pv 2) pa_nil)) pa_nil))) pa_nil)) pa_nil)))))
      (pss_one (ps_ret (pe_callTy call_tuple_of rfl T.f_tuple (by decide +kernel) (pa_cons (pv 3) pa_nil)))))), ?_⟩
    refine ⟨_, rfl, _, rfl, ⟨by omega, by omega, by omega, by omega, by omega⟩, fun W nW => ?_⟩
    rw [rg_mv]
    have upW := (Upto.refl ⟨_, _, _, eb⟩).new (o := .lst (mv (List.range n))) nW
    have hW : (upd H W (.lst (mv (List.range n)))) W = some (.lst (mv (List.range n))) := upd_same
    have Wp : W ≠ p := bag_ne eb nW
    generalize upd H W _ = H1 at upW hW ⊢
    refine ⟨by (show 0 ≤ sizeLine); decide, fun D nD => ?_⟩
    obtain ⟨Dp, fD⟩ := upW.free nD
    have DW : D ≠ W := (ne_of_none hW nD).symm
    refine ⟨_, _, rfl, ?_⟩
    refine ⟨_, rfl, (n : Int), rfl, by omega, by omega, for_range (fun i σ H4 => Upto p H H4 ∧ (∃ ws ys : List V, H4 W = some (.lst ws) ∧ H4 D = some (.lst ys) ∧ (ys ++ ws).Perm (mv (List.range n)) ∧ ys.length = i) ∧
        ∃ x, σ = [some (.ref p), some (.int (n : Int)), some (.ref W), some (.ref D), x]) ⟨upW.new nD, ⟨mv (List.range n), [], (upd_ne DW.symm).trans hW, upd_same, .refl _, rfl⟩, _, rfl⟩ ?_ ?_⟩
    · rintro i σ H4 hi ⟨up4, ⟨ws, ys, h4, h5, pm, ln⟩, x, rfl⟩
      obtain ⟨c1, c2, c3, ec⟩ := up4.bag
      have tot : ys.length + ws.length = n := by
        rw [← List.length_append, pm.length_eq, mv_len, List.length_range]
      have wl : 0 < ws.length := by
        have : i < n := by simpa using hi
        omega
      refine ⟨_, rfl, .inl ⟨rfl, _, .inl (.inl h5)⟩, _, rfl, .inl ⟨rfl, ws, .inl (.inl h4)⟩, _, rfl, _, rfl, W, ws, rfl, .inl (.inl (.inl h4)), ?_⟩
      refine ⟨p, (ws.length : Int), c1, c2, c3, rfl, ec, div_small wl (by omega), fun r g' m' c' r0 r1 => ?_⟩
      have rl : r.toNat < ws.length := by omega
      have er : ((r.toNat : Nat) : Int) = r := by omega
      refine ⟨W, ws, r, r.toNat, ws[r.toNat], rfl, rfl, (upd_ne Wp).trans h4, by omega, by omega, ?_, List.getElem?_eq_getElem rl, ?_⟩
      · have := (ixN_seq (ixN_lt rl)).1
        rw [er] at this
        exact this
      refine ⟨D, ys, _, rfl, rfl, (upd_ne DW).trans ((upd_ne Dp).trans h5), ?_, ?_⟩
      · exact Nat.lt_of_le_of_lt (by omega : _ ≤ 1000) (by decide)
      refine ⟨(up4.draw.put Wp ?_).put Dp ?_, ⟨ws.eraseIdx r.toNat, ys ++ [ws[r.toNat]], (upd_ne DW.symm).trans upd_same, upd_same, ?_, by rw [List.length_append, ln]; rfl⟩, _, rfl⟩
      · exact nW
      · exact fD
      · refine List.Perm.trans ?_ pm
        rw [List.append_assoc]
        exact List.Perm.append_left ys (pick_perm ws r.toNat rl)
    · rintro σ H4 ⟨up4, ⟨ws, ys, h4, h5, pm, ln⟩, x, rfl⟩
      have tot : ys.length + ws.length = n := by
        rw [← List.length_append, pm.length_eq, mv_len, List.length_range]
      have e : ws = [] := List.eq_nil_of_length_eq_zero (by
        have : (n : Int).toNat = n := Int.toNat_natCast _
        omega)
      rw [e, List.append_nil] at pm
      obtain ⟨m, rfl, pr⟩ := mv_range_perm pm
      obtain ⟨hm, lm⟩ := mv_of_perm pr n1 n24
      refine ⟨_, rfl, D, _, rfl, .inl ⟨.inl (.inl h5), fun t ft => ?_⟩⟩
      obtain ⟨tp, _⟩ := up4.free ft
      exact q _ t m (up4.new ft) tp (.inl (.inl upd_same)) hm lm
end
end K85


set_option Elab.async false
set_option linter.all false
set_option maxRecDepth 100000
set_option maxHeartbeats 2000000
namespace K85
open PySem PySem.Spec PyProof.Rows L2 MM PySem.NumText
/-! own words for the readings: a step, its side -/
local macro_rules | `(tactic| walk_at "side") => `(tactic| first
  | omega
  | exact ⟨by omega, by omega⟩
  | exact Or.inl ⟨by omega, by omega⟩
  | exact Or.inr ⟨by omega, by omega⟩
  | (show CPw _ _; decide +kernel)
  | (show (0 : Int) < _; decide +kernel)
  | (show CDivW _ _; first | assumption | exact ⟨by decide, by decide +kernel⟩))
local macro_rules | `(tactic| walk_at "here") => `(tactic| first
  | assumption
  | exact upd_same
  | exact Or.inl (Or.inl upd_same)
  | exact Or.inl upd_same)
local macro_rules | `(tactic| walk_at "one") => `(tactic| first
  | refine ⟨_, rfl, ?_⟩
  | refine Or.inl ⟨_, rfl, ?_⟩
  | refine Or.inr ⟨_, rfl, ?_⟩
  | refine ⟨_, _, rfl, rfl, (by walk_at "side"), ?_⟩
  | refine ⟨_, _, rfl, rfl, ?_⟩
  | refine ⟨_, _, rfl, Or.inl (by walk_at "here"), ?_⟩
  | refine ⟨_, _, rfl, Or.inr (by walk_at "here"), ?_⟩
  | refine ⟨_, _, rfl, (by walk_at "here"), ?_⟩
  | refine ⟨_, _, _, _, rfl, rfl, (by walk_at "here"), rfl, ?_⟩
  | refine ⟨_, _, rfl, ?_⟩
  | refine ifT (by rfl) ?_
  | refine ifF (by rfl) ?_
  | refine ifT (decide_eq_true (by omega)) ?_
  | refine ifF (decide_eq_false (by omega)) ?_)
local macro_rules | `(tactic| walk_at "st") => `(tactic| repeat (walk_at "one"))

/-! what a walk asks grows with what is wished -/
local macro_rules | `(tactic| walk_at "mono") => `(tactic| first
  | exact fun m h => m _ _ h
  | (refine MM.ite_mono ?_ ?_ <;> walk_at "mono")
  | (refine MM.or_mono ?_ ?_ <;> walk_at "mono")
  | (rintro m ⟨a, h⟩; refine ⟨a, ?_⟩; revert m h; walk_at "mono")
  | (intro m h z; have h2 := h z; clear h; revert m h2; walk_at "mono"))
section
variable {P : Program} {w : World} {K : PySem.W.Frag} {mg : Str → Option Value} {base : Heap}
/-- how many signs of a number stand from i on -/
def figs (cs : List Nat) (i : Nat) : Nat := if dg cs i = true then endP cs i - i else 0
theorem figs_zero {cs : List Nat} {i : Nat} (h : isAt cs i 48 = true) : figs cs i = 1 := by
  have e : cs[i]? = some 48 := of_decide_eq_true h
  have d : dg cs i = true := by
    unfold dg
    rw [e]
    decide
  unfold figs endP
  rw [if_pos d, if_pos h, run_zero]
  omega
theorem figs_run {cs : List Nat} {i : Nat} (h : isAt cs i 48 = false) : figs cs i = run cs i 60 := by
  unfold figs endP
  rw [h, if_neg (by decide : ¬ (false = true)), show (60 : Nat) = 59 + 1 from rfl, run_succ cs i 59]
  split
  · omega
  · rfl
theorem cut_sgn {z s : Str} {i c : Nat} (h : s = ⟨#[c]⟩) : decide (V.str (cutS z (some (i : Int)) (some ((i : Int) + 1))) = V.str s) = isAt (cds z) i c := by
  rw [h]
  exact cut_one z i c
theorem cut_emp (z : Str) (i : Nat) : decide (V.str (cutS z (some (i : Int)) (some ((i : Int) + 1))) = V.str "") = !decide (i < (cds z).length) := by
  rw [show (i : Int) + 1 = ((i + 1 : Nat) : Int) by omega, cut_nat, show i + 1 - i = 1 by omega, ← decide_not]
  refine decide_eq_decide.mpr ?_
  constructor
  · intro h lt
    injection h with h
    have h2 : (((cds z).drop i).take 1).toArray = #[] := by injection h
    have h3 := congrArg Array.toList h2
    rw [List.drop_eq_getElem_cons lt] at h3
    cases h3
  · intro h
    rw [List.drop_of_length_le (by omega)]
    rfl
def spFigs : Sp := fun vs H Q _ => ∃ (z : Str) (i : Nat), vs = [.str z, .int (i : Int)] ∧ z.length ≤ 4000 ∧ Q (.int (figs (cds z) i : Nat)) H
theorem scFiguresL : FnScope ["_law_text", "_law_at", "_law_found"] ["_law_text", "_law_at"] (defScope sFiguresL) :=
  ⟨rfl, rfl, rfl, by decide +kernel, rfl, by decide +kernel, by decide +kernel⟩
theorem dFiguresL (T : Tx K mg) : Def P w K mg base CX0 1 "_law_figures" ["_law_text", "_law_at"] spFigs := by
  refine T.t_law_figures.def_ (N := ["_law_text", "_law_at", "_law_found"]) scFiguresL (fun _ _ _ _ _ _ us hl => match us, hl with | [_, _], _ => rfl) ?_ ?_
  · intro vs H Q E h
    obtain ⟨z, i, rfl, _⟩ := h
    rfl
  · intro f cd A out s H vs Q E hr h
    obtain ⟨z, i, rfl, hz, q⟩ := h
    refine ⟨_, (pss_cons (ps_if (pt_cmpR op_eq (pe_slice sl_str (pv 0) (po_some (pv 1)) (po_some (pe_op op_add (pv 1) pe_int))) pe_str (nomark _)) (pss_one (ps_ret pe_int)) pss_nil)
      (pss_cons (ps_set (i := 2) scFiguresL.nd rfl (Or.inl rfl) pe_int)
      (pss_cons (ps_while PassesOwn.never (PW.pt (pw_and (pt_cmpR op_lt (pv 2) pe_int (nomark _)) (pw_and (pt_cmpR op_ne (pe_slice sl_str (pv 0) (po_some (pe_op op_add (pv 1) (pv 2))) (po_some (pe_op op_add (pe_op op_add (pv 1) (pv 2)) pe_int))) pe_str (nomark _)) (pw_and1 (pt_cmpR op_in_sign (pe_ix ix_str (pv 0) (pe_op op_add (pv 1) (pv 2)) (fun _ _ => rfl)) pe_str rfl)))))
        (pss_one (ps_set (i := 2) scFiguresL.nd rfl (Or.inl rfl) (pe_op op_add (pv 2) pe_int))))
      (pss_one (ps_ret (pv 2)))))), ?_⟩
    refine ⟨_, rfl, _, rfl, _, rfl, _, rfl, _, _, rfl, rfl, _, rfl, z, rfl, line4000 hz, rfl, ?_⟩
    rw [cut_sgn (c := 48) (by decide +kernel)]
    refine ⟨_, rfl, ?_⟩
    cases b : isAt (cds z) i 48 with
    | true =>
      refine ifT rfl ?_
      rw [figs_zero b] at q
      exact q
    | false =>
      refine ifF rfl ?_
      rw [figs_run b] at q
      have hl : z.length = (cds z).length := (Array.length_toList).symm
      refine while_by (fun σ H2 => ∃ k : Nat, σ = [some (.str z), some (.int (i : Int)), some (.int (k : Int))] ∧ H2 = H ∧ k ≤ 60 ∧ k + run (cds z) (i + k) (60 - k) = run (cds z) i 60)
        (fun σ _ => match σ with | [_, _, some (.int e)] => ((60 : Int) - e).toNat | _ => 0) ?_ ?_ ?_
      · exact ⟨0, rfl, rfl, by omega, by simp⟩
      · rintro σ H2 ⟨k, rfl, rfl, km, kr⟩
        refine ⟨_, rfl, _, _, rfl, rfl, _, rfl, ?_⟩
        by_cases lt : k < 60
        · refine ifT (decide_eq_true (by omega)) ?_
          refine ⟨_, rfl, _, rfl, _, rfl, _, _, rfl, rfl, _, rfl, _, rfl, _, rfl, _, _, rfl, rfl, _, _, rfl, rfl, _, rfl, z, rfl, line4000 hz, rfl, ?_⟩
          rw [← Int.natCast_add, cut_emp, Bool.not_not]
          refine ⟨_, rfl, ?_⟩
          obtain ⟨m', em⟩ : ∃ m', 60 - k = m' + 1 := ⟨60 - k - 1, by omega⟩
          rw [em, run_succ] at kr
          by_cases l2 : i + k < (cds z).length
          · refine ifT (decide_eq_true l2) ?_
            refine ⟨_, rfl, _, rfl, _, rfl, _, _, rfl, rfl, z, _, (cds z)[i + k], rfl, rfl, line4000 hz, ?_, (cds z)[i + k], "0123456789", rfl, rfl, ?_⟩
            · rw [← Int.natCast_add]
              exact atI_nat (List.getElem?_eq_getElem l2)
            rw [dig_in]
            have ed : dg (cds z) (i + k) = (decide (48 ≤ (cds z)[i + k]) && decide ((cds z)[i + k] ≤ 57)) := by
              unfold dg
              rw [List.getElem?_eq_getElem l2]
            rw [← ed]
            refine ⟨_, rfl, ?_⟩
            cases hg : dg (cds z) (i + k) with
            | false =>
              refine ifF rfl ?_
              rw [hg, if_neg (by decide)] at kr
              refine ⟨_, rfl, ?_⟩
              rw [← kr, Nat.add_zero] at q
              exact q
            | true =>
              refine ifT rfl ?_
              rw [hg, if_pos rfl] at kr
              refine ⟨_, rfl, _, _, rfl, rfl, ?_⟩
              refine ⟨⟨k + 1, rfl, rfl, by omega, ?_⟩, ?_⟩
              · rw [show 60 - (k + 1) = m' by omega, show i + (k + 1) = i + k + 1 by omega]
                omega
              · show ((60 : Int) - ((k : Int) + 1)).toNat < ((60 : Int) - (k : Int)).toNat
                omega
          · refine ifF (decide_eq_false l2) ?_
            have ed : dg (cds z) (i + k) = false := by
              unfold dg
              rw [List.getElem?_eq_none (by omega)]
            rw [ed, if_neg (by decide)] at kr
            refine ⟨_, rfl, ?_⟩
            rw [← kr, Nat.add_zero] at q
            exact q
        · refine ifF (decide_eq_false (by omega)) ?_
          rw [show 60 - k = 0 by omega, run_zero, Nat.add_zero] at kr
          refine ⟨_, rfl, ?_⟩
          rw [← kr] at q
          exact q
      · rintro σ H2 Q1 Q2 mono hyp
        revert mono hyp
        walk_at "mono"
end
end K85


set_option Elab.async false
set_option linter.all false
set_option maxRecDepth 100000
set_option maxHeartbeats 2000000
namespace K85
open PySem PySem.Spec PyProof.Rows L2 MM PySem.NumText
/-! own words for the readings: a step, its side -/
local macro_rules | `(tactic| walk_at "side") => `(tactic| first
  | omega
  | exact ⟨by omega, by omega⟩
  | exact Or.inl ⟨by omega, by omega⟩
  | exact Or.inr ⟨by omega, by omega⟩
  | (show CPw _ _; decide +kernel)
  | (show (0 : Int) < _; decide +kernel)
  | (show CDivW _ _; first | assumption | exact ⟨by decide, by decide +kernel⟩))
local macro_rules | `(tactic| walk_at "here") => `(tactic| first
  | assumption
  | exact upd_same
  | exact Or.inl (Or.inl upd_same)
  | exact Or.inl upd_same)
local macro_rules | `(tactic| walk_at "one") => `(tactic| first
  | refine ⟨_, rfl, ?_⟩
  | refine Or.inl ⟨_, rfl, ?_⟩
  | refine Or.inr ⟨_, rfl, ?_⟩
  | refine ⟨_, _, rfl, rfl, (by walk_at "side"), ?_⟩
  | refine ⟨_, _, rfl, rfl, ?_⟩
  | refine ⟨_, _, rfl, Or.inl (by walk_at "here"), ?_⟩
  | refine ⟨_, _, rfl, Or.inr (by walk_at "here"), ?_⟩
  | refine ⟨_, _, rfl, (by walk_at "here"), ?_⟩
  | refine ⟨_, _, _, _, rfl, rfl, (by walk_at "here"), rfl, ?_⟩
  | refine ⟨_, _, rfl, ?_⟩
  | refine ifT (by rfl) ?_
  | refine ifF (by rfl) ?_
  | refine ifT (decide_eq_true (by omega)) ?_
  | refine ifF (decide_eq_false (by omega)) ?_)
local macro_rules | `(tactic| walk_at "st") => `(tactic| repeat (walk_at "one"))

/-! what a walk asks grows with what is wished -/
local macro_rules | `(tactic| walk_at "mono") => `(tactic| first
  | exact fun m h => m _ _ h
  | (refine MM.ite_mono ?_ ?_ <;> walk_at "mono")
  | (refine MM.or_mono ?_ ?_ <;> walk_at "mono")
  | (rintro m ⟨a, h⟩; refine ⟨a, ?_⟩; revert m h; walk_at "mono")
  | (intro m h z; have h2 := h z; clear h; revert m h2; walk_at "mono"))
section
variable {P : Program} {w : World} {K : PySem.W.Frag} {mg : Str → Option Value} {base : Heap}
/-! a sign of the text, asked -/
section
variable {z sg : Str} {k i c : Nat} {σ : L2.St} {H : Hp} {Qb : Bool → Hp → Prop}
theorem at_eq (h0 : σ[0]? = some (some (.str z))) (hk : σ[k]? = some (some (.int (i : Int)))) (hz : z.length ≤ 4000) (hs : sg = ⟨#[c]⟩) (q : Qb (isAt (cds z) i c) H) :
    tTest (tOp rEq (tSl rSlS (tVar 0) (tPart (tVar k)) (tPart (tOp (rI0 fun i j => V.int (i + j)) (tVar k) (tC (V.int 1))))) (tC (V.str sg))) σ H Qb := by
  refine ⟨_, h0, _, hk, _, rfl, _, hk, _, _, rfl, rfl, _, rfl, z, rfl, line4000 hz, rfl, ?_⟩
  rw [cut_sgn hs]
  exact ⟨_, rfl, q⟩
theorem at_ne (h0 : σ[0]? = some (some (.str z))) (hk : σ[k]? = some (some (.int (i : Int)))) (hz : z.length ≤ 4000) (hs : sg = ⟨#[c]⟩) (q : Qb (!isAt (cds z) i c) H) :
    tTest (tOp rNe (tSl rSlS (tVar 0) (tPart (tVar k)) (tPart (tOp (rI0 fun i j => V.int (i + j)) (tVar k) (tC (V.int 1))))) (tC (V.str sg))) σ H Qb := by
  refine ⟨_, h0, _, hk, _, rfl, _, hk, _, _, rfl, rfl, _, rfl, z, rfl, line4000 hz, rfl, ?_⟩
  rw [cut_sgn hs]
  exact ⟨_, rfl, q⟩
/-- m signs behind -/
theorem far_eq (m : Nat) {m1 : Int} (h0 : σ[0]? = some (some (.str z))) (hk : σ[k]? = some (some (.int (i : Int)))) (hm : m1 = (m : Int) + 1) (hz : z.length ≤ 4000) (hs : sg = ⟨#[c]⟩) (q : Qb (isAt (cds z) (i + m) c) H) :
    tTest (tOp rEq (tSl rSlS (tVar 0) (tPart (tOp (rI0 fun i j => V.int (i + j)) (tVar k) (tC (V.int (m : Int))))) (tPart (tOp (rI0 fun i j => V.int (i + j)) (tVar k) (tC (V.int m1))))) (tC (V.str sg))) σ H Qb := by
  refine ⟨_, h0, _, hk, _, _, rfl, rfl, _, rfl, _, hk, _, _, rfl, rfl, _, rfl, z, rfl, line4000 hz, rfl, ?_⟩
  rw [hm, ← Int.add_assoc, ← Int.natCast_add, cut_sgn hs]
  exact ⟨_, rfl, q⟩
theorem far_ne (m : Nat) {m1 : Int} (h0 : σ[0]? = some (some (.str z))) (hk : σ[k]? = some (some (.int (i : Int)))) (hm : m1 = (m : Int) + 1) (hz : z.length ≤ 4000) (hs : sg = ⟨#[c]⟩) (q : Qb (!isAt (cds z) (i + m) c) H) :
    tTest (tOp rNe (tSl rSlS (tVar 0) (tPart (tOp (rI0 fun i j => V.int (i + j)) (tVar k) (tC (V.int (m : Int))))) (tPart (tOp (rI0 fun i j => V.int (i + j)) (tVar k) (tC (V.int m1))))) (tC (V.str sg))) σ H Qb := by
  refine ⟨_, h0, _, hk, _, _, rfl, rfl, _, rfl, _, hk, _, _, rfl, rfl, _, rfl, z, rfl, line4000 hz, rfl, ?_⟩
  rw [hm, ← Int.add_assoc, ← Int.natCast_add, cut_sgn hs]
  exact ⟨_, rfl, q⟩
end
theorem figs_no {cs : List Nat} {i : Nat} (h : dg cs i = false) : figs cs i = 0 := by
  unfold figs
  rw [h]
  rfl
theorem figs_dg {cs : List Nat} {i : Nat} (h : dg cs i = true) : i + figs cs i = endP cs i ∧ 1 ≤ figs cs i ∧ plainR cs i = .ok (valP cs i, endP cs i) := by
  have g := endP_le cs i
  unfold figs plainR
  rw [if_pos h, if_pos h]
  exact ⟨by omega, by omega, rfl⟩
/-- a ring from its next place on -/
def ringIn (cs : List Nat) (f : Nat) (ring : List Nat) (s : Nat) : Rd (List Nat × Nat) := match plainR cs s with
  | .error j => .error j
  | .ok (n, e) => match ringGo cs f (ring ++ [n]) e with
    | .error j => .error j
    | .ok (r, e2) => ringEnd cs e2 r
theorem ringR_in {cs : List Nat} {i : Nat} (h : isAt cs i 40 = true) : ringR cs i = ringIn cs cs.length [] (i + 1) := by
  unfold ringR ringIn
  rw [behind_ok h]
  rfl
theorem isAt_two {cs : List Nat} {e c d : Nat} (h : isAt cs e c = true) (n : c ≠ d) : isAt cs e d = false := by
  have e1 := of_decide_eq_true h
  unfold isAt
  rw [e1]
  exact decide_eq_false fun z => n (Option.some.inj z)
theorem ringIn_no {cs : List Nat} {f : Nat} {ring : List Nat} {s : Nat} (h : dg cs s = false) : ringIn cs f ring s = .error s := by
  unfold ringIn plainR
  rw [h]
  rfl
section
variable {cs : List Nat} {f : Nat} {ring : List Nat} {s n e : Nat}
theorem ringIn_end (p : plainR cs s = .ok (n, e)) (h : isAt cs e 41 = true) (l : 1 < (ring ++ [n]).length) : ringIn cs f ring s = .ok (ring ++ [n], e + 1) := by
  unfold ringIn
  rw [p]
  dsimp only
  rw [ringGo_end (by omega) (isAt_two h (by decide))]
  dsimp only
  unfold ringEnd
  rw [behind_ok h]
theorem ringIn_bad (p : plainR cs s = .ok (n, e)) (h : ¬ (isAt cs e 41 = true ∧ 1 < (ring ++ [n]).length)) (h2 : isAt cs e 32 = false) : ringIn cs f ring s = .error e := by
  unfold ringIn
  rw [p]
  dsimp only
  by_cases l : (ring ++ [n]).length < 2
  · rw [ringGo_no l h2]
  · rw [ringGo_end l h2]
    dsimp only
    unfold ringEnd
    rw [behind_no]
    cases b : isAt cs e 41 with
    | false => rfl
    | true => exact absurd ⟨b, by omega⟩ h
theorem ringIn_step (p : plainR cs s = .ok (n, e)) (h2 : isAt cs e 32 = true) : ringIn cs (f + 1) ring s = ringIn cs f (ring ++ [n]) (e + 1) := by
  unfold ringIn
  rw [p]
  dsimp only
  rw [ringGo_step h2]
  cases plainR cs (e + 1) with
  | error j => rfl
  | ok r => rfl
end
/-- what the law's own reading of rings gives -/
def spFrom (K : PySem.W.Frag) : Sp := fun vs H Q _ => ∃ (z : Str) (i : Nat), vs = [.str z, .int (i : Int)] ∧ z.length ≤ 4000 ∧ match ringsR (cds z) i with
  | .error j => ∀ H' l u, Same H H' → H' l = some (.lst []) → H' u = some (.tup [.int (j : Nat), .ref l, .int (j : Nat)]) → Q (.ref u) H'
  | .ok (R, e) => ∀ H' l us u, Same H H' → H' l = some (.lst us) → Refs K H' us R → H' u = some (.tup [.non, .ref l, .int (e : Nat)]) → Q (.ref u) H'
theorem scCyclesFromL : FnScope ["_law_text", "_law_at", "_law_found", "_law_here", "_law_cycle", "_law_is_open", "_law_size"] ["_law_text", "_law_at"] (defScope sCyclesFromL) :=
  ⟨rfl, rfl, rfl, by decide +kernel, rfl, by decide +kernel, by decide +kernel⟩
theorem dCyclesFromL (T : Tx K mg) (DFiguresL : Def P w K mg base CX0 1 "_law_figures" ["_law_text", "_law_at"] spFigs) : Def P w K mg base CX0 2 "_law_cycles_from" ["_law_text", "_law_at"] (spFrom K) := by
  refine T.t_law_cycles_from.def_ (N := ["_law_text", "_law_at", "_law_found", "_law_here", "_law_cycle", "_law_is_open", "_law_size"]) scCyclesFromL (fun _ _ _ _ _ _ us hl => match us, hl with | [_, _], _ => rfl) ?_ ?_
  · intro vs H Q E h
    obtain ⟨z, i, rfl, _⟩ := h
    rfl
  · intro f cd A out s H vs Q E hr h
    have hr1 : Rm 1 _ := hr.le (by decide)
    obtain ⟨z, i, rfl, hz, q⟩ := h
    refine ⟨_, (pss_cons (ps_if (pt_cmpR op_ne (pe_slice sl_str (pv 0) (po_some (pv 1)) (po_some (pe_op op_add (pv 1) pe_int))) pe_str (nomark _)) (pss_one (ps_ret (pe_tup (pa_cons (pv 1) (pa_cons (pe_lst pa_nil) (pa_cons (pv 1) pa_nil)))))) pss_nil)
      (pss_cons (ps_if (pt_cmpR op_eq (pe_slice sl_str (pv 0) (po_some (pe_op op_add (pv 1) pe_int)) (po_some (pe_op op_add (pv 1) pe_int))) pe_str (nomark _)) (pss_one (ps_ret (pe_tup (pa_cons pe_non (pa_cons (pe_lst pa_nil) (pa_cons (pe_op op_add (pv 1) pe_int) pa_nil)))))) pss_nil)
      (pss_cons (ps_par (i := 2) (j := 3) rfl scCyclesFromL.nd rfl rfl (by decide) rfl rfl (pa_cons (pe_lst pa_nil) (pa_cons (pv 1) pa_nil)) (by rfl))
      (pss_cons (ps_while PassesOwn.never (pt_cmpR op_eq (pe_slice sl_str (pv 0) (po_some (pv 3)) (po_some (pe_op op_add (pv 3) pe_int))) pe_str (nomark _))
        (pss_cons (ps_par3 (i := 4) (j := 3) (l := 5) rfl scCyclesFromL.nd rfl rfl rfl (by decide) (by decide) (by decide) rfl rfl rfl (pa_cons (pe_lst pa_nil) (pa_cons (pe_op op_add (pv 3) pe_int) (pa_cons pe_bl pa_nil))) (by rfl))
        (pss_cons (ps_while PassesOwn.never (pt_val (pv 5))
          (pss_cons (ps_set (i := 6) scCyclesFromL.nd rfl (Or.inl rfl) (pe_d DFiguresL (hr1.le (by decide)) pass0 (pa_cons (pv 0) (pa_cons (pv 3) pa_nil))))
          (pss_cons (ps_if (pt_cmpR op_eq (pv 6) pe_int (nomark _)) (pss_one (ps_ret (pe_tup (pa_cons (pv 3) (pa_cons (pe_lst pa_nil) (pa_cons (pv 3) pa_nil)))))) pss_nil)
          (pss_cons (ps_expr (pe_bm PySem.F.plainAttrs_list PySem.F.slot_list_append PySem.F.type_list_append mt_append (pv 4) (pa_cons (pe_callTy call_int_str rfl T.f_int (by decide +kernel) (pa_cons (pe_slice sl_str (pv 0) (po_some (pv 3)) (po_some (pe_op op_add (pv 3) (pv 6)))) pa_nil)) pa_nil)))
          (pss_cons (ps_set (i := 3) scCyclesFromL.nd rfl (Or.inl rfl) (pe_op op_add (pv 3) (pv 6)))
          (pss_cons (ps_if (PW.pt (pw_and (pt_cmpR op_eq (pe_slice sl_str (pv 0) (po_some (pv 3)) (po_some (pe_op op_add (pv 3) pe_int))) pe_str (nomark _)) (pw_and1 (pt_cmpR op_gt (pe_callB call_len_seq rfl T.f_len (by decide +kernel) (pa_cons (pv 4) pa_nil)) pe_int (nomark _))))) (pss_one (ps_set (i := 5) scCyclesFromL.nd rfl (Or.inl rfl) pe_bl)) (pss_one (ps_if (pt_cmpR op_ne (pe_slice sl_str (pv 0) (po_some (pv 3)) (po_some (pe_op op_add (pv 3) pe_int))) pe_str (nomark _)) (pss_one (ps_ret (pe_tup (pa_cons (pv 3) (pa_cons (pe_lst pa_nil) (pa_cons (pv 3) pa_nil)))))) pss_nil)))
          (pss_one (ps_set (i := 3) scCyclesFromL.nd rfl (Or.inl rfl) (pe_op op_add (pv 3) pe_int)))))))))
        (pss_one (ps_expr (pe_bm PySem.F.plainAttrs_list PySem.F.slot_list_append PySem.F.type_list_append mt_append (pv 2) (pa_cons (pe_callTy call_tuple_of rfl T.f_tuple (by decide +kernel) (pa_cons (pv 4) pa_nil)) pa_nil)))))))
      (pss_one (ps_ret (pe_tup (pa_cons pe_non (pa_cons (pv 2) (pa_cons (pv 3) pa_nil)))))))))), ?_⟩
    have hl := cds_len z
    refine at_ne (i := i) (c := 40) rfl rfl hz (by decide +kernel) ?_
    cases b0 : isAt (cds z) i 40 with
    | false =>
      refine ifT rfl ?_
      have er : ringsR (cds z) i = .error i := by
        unfold ringsR
        rw [if_neg (fun c => absurd (b0.symm.trans c.1) (by decide))]
        unfold ringR
        rw [behind_no b0]
      rw [er] at q
      refine ⟨_, rfl, by show 0 ≤ sizeLine; decide, fun l fl => ?_⟩
      refine ⟨_, rfl, by show 3 ≤ sizeLine; decide, fun u fu => ?_⟩
      exact q _ l u ((same_new fl).trans (same_new fu)) (same_new fu _ _ upd_same) upd_same
    | true =>
    refine ifF rfl ?_
    refine far_eq (i := i) (c := 41) 1 rfl rfl rfl hz (by decide +kernel) ?_
    cases b1 : isAt (cds z) (i + 1) 41 with
    | true =>
      refine ifT rfl ?_
      have er : ringsR (cds z) i = .ok ([], i + 2) := by
        unfold ringsR
        rw [if_pos ⟨b0, b1⟩]
      rw [er] at q
      refine ⟨by show 0 ≤ sizeLine; decide, fun l fl => ?_⟩
      refine ⟨_, rfl, _, _, rfl, rfl, by show 3 ≤ sizeLine; decide, fun u fu => ?_⟩
      exact q _ l [] u ((same_new fl).trans (same_new fu)) (same_new fu _ _ upd_same) .nil upd_same
    | false =>
    refine ifF rfl ?_
    have er : ringsR (cds z) i = ringsGo (cds z) ((cds z).length + 1) [] i := by
      unfold ringsR
      rw [if_neg (fun c => absurd (b1.symm.trans c.2) (by decide)), ringsGo_step b0]
      rfl
    have i0 := isAt_lt b0
    rw [er] at q
    clear er b1
    generalize hR : ringsGo (cds z) ((cds z).length + 1) [] i = R at q
    refine ⟨by show 0 ≤ sizeLine; decide, fun F fF => ?_⟩
    refine ⟨_, rfl, _, _, rfl, ?_⟩
    have SF : Same H (upd H F (.lst [])) := same_new fF
    have eF : (upd H F (.lst [])) F = some (.lst []) := upd_same
    have fF0 : ∀ b o, H b = some o → b ≠ F := fun b o e => ne_of_none e fF
    generalize upd H F _ = H1 at SF eF ⊢
    refine while_by (fun σ H3 => ∃ (us : List V) (rs : List (List Nat)) (e f : Nat) (x4 x5 x6 : Option V), σ = [some (.str z), some (.int (i : Int)), some (.ref F), some (.int (e : Int)), x4, x5, x6] ∧ Same H H3 ∧ H3 F = some (.lst us) ∧ Refs K H3 us rs ∧
        ringsGo (cds z) f rs e = R ∧ (cds z).length < f + e ∧ us.length ≤ e ∧ e ≤ (cds z).length)
      (fun σ _ => match σ with | [_, _, _, some (.int e), _, _, _] => ((cds z).length - e).toNat | _ => 0) ?_ ?_ ?_
    · exact ⟨[], [], i, (cds z).length + 1, _, _, _, rfl, SF, eF, .nil, hR, by omega, Nat.zero_le _, by omega⟩
    · rintro σ H3 ⟨us, rs, e', f, x4, x5, x6, rfl, s3, h3, p3, gR, fl3, rl3, el3⟩
      refine at_eq (i := e') (c := 40) rfl rfl hz (by decide +kernel) ?_
      cases y : isAt (cds z) e' 40 with
      | false =>
        refine ifF rfl ?_
        rw [ringsGo_end y] at gR
        rw [← gR] at q
        refine ⟨_, rfl, _, rfl, by show 3 ≤ sizeLine; decide, fun u fu => ?_⟩
        exact q _ F us u (s3.trans (same_new fu)) (same_new fu _ _ h3) (p3.same (same_new fu)) upd_same
      | true =>
      refine ifT rfl ?_
      have e0 := isAt_lt y
      obtain ⟨f', rfl⟩ : ∃ f', f = f' + 1 := ⟨f - 1, by omega⟩
      rw [ringsGo_step y, ringR_in y] at gR
      refine ⟨by show 0 ≤ sizeLine; decide, fun C fC => ?_⟩
      refine ⟨_, rfl, _, _, rfl, rfl, _, _, _, rfl, ?_⟩
      have fC0 : ∀ b o, H3 b = some o → b ≠ C := fun b o e => ne_of_none e fC
      have FC : F ≠ C := fC0 _ _ h3
      have s4 : Same H (upd H3 C (.lst [])) := s3.trans (same_new fC)
      have h4 := same_new fC (o := .lst []) _ _ h3
      have p4 := p3.same (same_new fC (o := .lst []))
      have c4 : (upd H3 C (.lst [])) C = some (.lst (mv [])) := upd_same
      generalize upd H3 C _ = H4 at s4 h4 p4 c4 ⊢
      generalize hX : ringIn (cds z) (cds z).length [] (e' + 1) = X at gR
      refine while_by (fun σ H5 => ∃ (ring : List Nat) (s f2 : Nat) (op : Bool) (x : Option V), σ = [some (.str z), some (.int (i : Int)), some (.ref F), some (.int (s : Int)), some (.ref C), some (.bl op), x] ∧ Same H H5 ∧ H5 F = some (.lst us) ∧ Refs K H5 us rs ∧
          H5 C = some (.lst (mv ring)) ∧ (op = true → ringIn (cds z) f2 ring s = X ∧ (cds z).length < f2 + s) ∧ (op = false → X = .ok (ring, s)) ∧ ring.length + e' < s ∧ s ≤ (cds z).length)
        (fun σ _ => match σ with | [_, _, _, some (.int e), _, some (.bl op), _] => (if op = true then 1 else 0) + ((cds z).length - e).toNat | _ => 0) ?_ ?_ ?_
      · refine ⟨[], e' + 1, (cds z).length, true, x6, ?_, s4, h4, p4, c4, fun _ => ⟨hX, by omega⟩, fun c => absurd c (by decide), by show 0 + e' < e' + 1; omega, by omega⟩
        rfl
      · rintro σ H5 ⟨ring, s, f2, op, x, rfl, s5, h5, p5, c5, qo, qc, lr, sl⟩
        refine ⟨_, rfl, ?_⟩
        refine ⟨_, rfl, ?_⟩
        cases op with
        | false =>
          refine ifF rfl ?_
          have eX := qc rfl
          rw [eX] at gR
          replace gR : ringsGo (cds z) f' (rs ++ [ring]) s = R := gR
          refine ⟨_, rfl, .inl ⟨rfl, _, .inl (.inl h5)⟩, _, rfl, C, _, rfl, .inl ⟨.inl (.inl c5), fun t ft => ?_⟩⟩
          refine ⟨F, us, _, rfl, rfl, same_new ft _ _ h5, by rw [sizeLine_eq]; omega, ?_⟩
          refine ⟨⟨us ++ [.ref t], rs ++ [ring], s, f', _, _, _, rfl, ?_, upd_same, ((p5.same (same_new ft)).snoc (.inl (.inl upd_same))).upd (same_new ft _ _ h5), gR, by omega, by rw [List.length_append]; show us.length + 1 ≤ s; omega, sl⟩, ?_⟩
          · intro b o hb
            rw [upd_ne (fF0 b o hb)]
            exact same_new ft _ _ (s5 b o hb)
          · show (((cds z).length : Int) - (s : Int)).toNat < (((cds z).length : Int) - (e' : Int)).toNat
            omega
        | true =>
          refine ifT rfl ?_
          obtain ⟨gX, fl5⟩ := qo rfl
          clear qo qc
          refine ⟨_, rfl, _, rfl, z, s, rfl, hz, ?_⟩
          refine ⟨_, rfl, rfl, _, rfl, ?_⟩
          cases d : dg (cds z) s with
          | false =>
            refine ifT (by rw [figs_no d]; rfl) ?_
            rw [ringIn_no d] at gX
            rw [← gX] at gR
            replace gR : Except.error s = R := gR
            rw [← gR] at q
            refine ⟨_, rfl, by show 0 ≤ sizeLine; decide, fun l fl => ?_⟩
            refine ⟨_, rfl, by show 3 ≤ sizeLine; decide, fun u fu => ?_⟩
            exact q _ l u ((s5.trans (same_new fl)).trans (same_new fu)) (same_new fu _ _ upd_same) upd_same
          | true =>
            obtain ⟨ef, ep, pl⟩ := figs_dg d
            have ee : (s : Int) + ((figs (cds z) s : Nat) : Int) = ((endP (cds z) s : Nat) : Int) := by omega
            have gg := endP_le (cds z) s
            obtain ⟨p1, p2⟩ := plainR_le pl
            refine ifF (by rw [decide_eq_false]; intro z0; injection z0; omega) ?_
            obtain ⟨it, il⟩ := int_part (z := z) (endP_dg d) (by omega) (by omega)
            rw [← ee] at it il
            have room : (mv ring).length < sizeLine := by rw [mv_len, sizeLine_eq]; omega
            refine ⟨_, rfl, .inl ⟨rfl, _, .inl (.inl c5)⟩, _, rfl, _, rfl, _, rfl, _, rfl, _, rfl, _, _, rfl, rfl, _, rfl, z, rfl, line4000 hz, _, _, rfl, it, il, C, _, _, rfl, rfl, c5, room, ?_⟩
            have s6 : Same H (upd H5 C (.lst (mv (ring ++ [valP (cds z) s])))) := fun b o hb => (upd_ne (fC0 b o (s3 b o hb))).trans (s5 b o hb)
            have h6 : (upd H5 C (.lst (mv (ring ++ [valP (cds z) s])))) F = some (.lst us) := (upd_ne FC).trans h5
            have p6 : Refs K (upd H5 C (.lst (mv (ring ++ [valP (cds z) s])))) us rs := p5.upd c5
            have c6 : (upd H5 C (.lst (mv (ring ++ [valP (cds z) s])))) C = some (.lst (mv (ring ++ [valP (cds z) s]))) := upd_same
            have l6 : (ring ++ [valP (cds z) s]).length = ring.length + 1 := by rw [List.length_append]; rfl
            show tSeq _ _ _ _ (upd H5 C (.lst (mv ring ++ [V.int ((valP (cds z) s : Nat) : Int)])))
            rw [show mv ring ++ [V.int ((valP (cds z) s : Nat) : Int)] = mv (ring ++ [valP (cds z) s]) by rw [mv_app]; rfl]
            generalize upd H5 C _ = H6 at s6 h6 p6 c6 ⊢
            refine ⟨_, rfl, _, rfl, _, _, rfl, rfl, ?_⟩
            show gName 3 (V.int ((s : Int) + ((figs (cds z) s : Nat) : Int))) _ _ _
            rw [ee]
            clear it il
            generalize hn : ring ++ [valP (cds z) s] = ring2 at p6 c6 s6 h6 l6
            generalize valP (cds z) s = n0 at pl hn
            generalize endP (cds z) s = e at *
            subst hn
            refine at_eq (i := e) (c := 41) rfl rfl hz (by decide +kernel) ?_
            cases b41 : isAt (cds z) e 41
            case' true =>
              refine ifT rfl ?_
              refine ⟨_, rfl, C, _, rfl, .inl (.inl (.inl c6)), _, _, rfl, rfl, _, rfl, ?_⟩
              by_cases l2 : 1 < (ring ++ [n0]).length
              case' pos =>
                refine ifT (decide_eq_true (by rw [mv_len]; omega)) ?_
                refine ⟨_, rfl, _, _, rfl, rfl, ?_⟩
                have e41 := isAt_lt b41
                refine ⟨⟨ring ++ [n0], e + 1, f2, false, _, rfl, s6, h6, p6, c6, fun c => absurd c (by decide), fun _ => ?_, by omega, by omega⟩, ?_⟩
                · rw [← gX]
                  exact ringIn_end pl b41 l2
                · show 0 + (((cds z).length : Int) - ((e : Int) + 1)).toNat < 1 + (((cds z).length : Int) - (s : Int)).toNat
                  omega
              case' neg =>
                refine ifF (decide_eq_false (by rw [mv_len]; omega)) ?_
                have nc : ¬ (isAt (cds z) e 41 = true ∧ 1 < (ring ++ [n0]).length) := fun c => l2 c.2
            case' false =>
              refine ifF rfl ?_
              refine ifF rfl ?_
              have nc : ¬ (isAt (cds z) e 41 = true ∧ 1 < (ring ++ [n0]).length) := fun c => absurd (b41.symm.trans c.1) (by decide)
            all_goals
              refine at_ne (i := e) (c := 32) rfl rfl hz (by decide +kernel) ?_
              cases b32 : isAt (cds z) e 32 with
              | false =>
                refine ifT rfl ?_
                rw [ringIn_bad pl nc b32] at gX
                rw [← gX] at gR
                replace gR : Except.error e = R := gR
                rw [← gR] at q
                refine ⟨_, rfl, by show 0 ≤ sizeLine; decide, fun l fl => ?_⟩
                refine ⟨_, rfl, by show 3 ≤ sizeLine; decide, fun u fu => ?_⟩
                exact q _ l u ((s6.trans (same_new fl)).trans (same_new fu)) (same_new fu _ _ upd_same) upd_same
              | true =>
                refine ifF rfl ?_
                refine ⟨_, rfl, _, _, rfl, rfl, ?_⟩
                have e32 := isAt_lt b32
                obtain ⟨f3, rfl⟩ : ∃ f3, f2 = f3 + 1 := ⟨f2 - 1, by omega⟩
                rw [ringIn_step pl b32] at gX
                refine ⟨⟨ring ++ [n0], e + 1, f3, true, _, rfl, s6, h6, p6, c6, fun _ => ⟨gX, by omega⟩, fun c => absurd c (by decide), by omega, by omega⟩, ?_⟩
                show 1 + (((cds z).length : Int) - ((e : Int) + 1)).toNat < 1 + (((cds z).length : Int) - (s : Int)).toNat
                omega
      · rintro σ H2 Q1 Q2 mono hyp
        revert mono hyp
        walk_at "mono"
    · rintro σ H2 Q1 Q2 mono hyp
      revert mono hyp
      walk_at "mono"
end
end K85


set_option Elab.async false
set_option linter.all false
set_option maxRecDepth 100000
set_option maxHeartbeats 2000000
namespace K85
open PySem PySem.Spec PyProof.Rows L2 MM PySem.NumText
/-! own words for the readings: a step, its side -/
local macro_rules | `(tactic| walk_at "side") => `(tactic| first
  | omega
  | exact ⟨by omega, by omega⟩
  | exact Or.inl ⟨by omega, by omega⟩
  | exact Or.inr ⟨by omega, by omega⟩
  | (show CPw _ _; decide +kernel)
  | (show (0 : Int) < _; decide +kernel)
  | (show CDivW _ _; first | assumption | exact ⟨by decide, by decide +kernel⟩))
local macro_rules | `(tactic| walk_at "here") => `(tactic| first
  | assumption
  | exact upd_same
  | exact Or.inl (Or.inl upd_same)
  | exact Or.inl upd_same)
local macro_rules | `(tactic| walk_at "one") => `(tactic| first
  | refine ⟨_, rfl, ?_⟩
  | refine Or.inl ⟨_, rfl, ?_⟩
  | refine Or.inr ⟨_, rfl, ?_⟩
  | refine ⟨_, _, rfl, rfl, (by walk_at "side"), ?_⟩
  | refine ⟨_, _, rfl, rfl, ?_⟩
  | refine ⟨_, _, rfl, Or.inl (by walk_at "here"), ?_⟩
  | refine ⟨_, _, rfl, Or.inr (by walk_at "here"), ?_⟩
  | refine ⟨_, _, rfl, (by walk_at "here"), ?_⟩
  | refine ⟨_, _, _, _, rfl, rfl, (by walk_at "here"), rfl, ?_⟩
  | refine ⟨_, _, rfl, ?_⟩
  | refine ifT (by rfl) ?_
  | refine ifF (by rfl) ?_
  | refine ifT (decide_eq_true (by omega)) ?_
  | refine ifF (decide_eq_false (by omega)) ?_)
local macro_rules | `(tactic| walk_at "st") => `(tactic| repeat (walk_at "one"))

section
variable {P : Program} {w : World} {K : PySem.W.Frag} {mg : Str → Option Value} {base : Heap}
def spMvL (K : PySem.W.Frag) : Sp := fun vs H Q _ => ∃ (n : Nat) (l : Addr) (us : List V) (R : List (List Nat)), vs = [.int (n : Int), .ref l] ∧ H l = some (.lst us) ∧ Refs K H us R ∧ (∀ r ∈ R, 1 ≤ r.length) ∧ R.flatten.length ≤ 3000 ∧ 1 ≤ n ∧ n ≤ 24 ∧
  (¬ okR n R → ∀ H', Same H H' → Q .non H') ∧ (okR n R → ∀ H' t, Same H H' → SqT K H' t (mv ((List.range n).map (goOf R))) → Q (.ref t) H')
theorem scMoveOfL : FnScope ["_law_places", "_law_rings", "_law_found", "_law_known", "_law_ring", "_law_at", "_law_place"] ["_law_places", "_law_rings"] (defScope sMoveOfL) :=
  ⟨rfl, rfl, rfl, by decide +kernel, rfl, by decide +kernel, by decide +kernel⟩
theorem dMoveOfL (T : Tx K mg) : Def P w K mg base CX0 1 "_law_move_of" ["_law_places", "_law_rings"] (spMvL K) := by
  refine T.t_law_move_of.def_ (N := ["_law_places", "_law_rings", "_law_found", "_law_known", "_law_ring", "_law_at", "_law_place"]) scMoveOfL (fun _ _ _ _ _ _ us hl => match us, hl with | [_, _], _ => rfl) ?_ ?_
  · intro vs H Q E h
    obtain ⟨n, a, us, R, rfl, _⟩ := h
    rfl
  · intro f cd A out s H vs Q E hr h
    obtain ⟨n, a, us, R, rfl, S, rf, r1, len, n1, n24, q1, q2⟩ := h
    refine ⟨_, (pss_cons (ps_par (i := 2) (j := 3) rfl scMoveOfL.nd rfl rfl (by decide) rfl rfl (pa_cons (pe_listRg rfl rfl T.f_list (prg_1 rfl T.f_range (pv 0))) (pa_cons (pe_lst pa_nil) pa_nil)) (by rfl))
      (pss_cons (ps_for PassesOwn.never rfl (pi_list (pv 1)) (pg_name (i := 4) scMoveOfL.nd rfl (Or.inl rfl))
        (pss_one (ps_for PassesOwn.never rfl (pi_enumT rfl T.f_enumerate (pa_cons (pv 4) pa_nil)) (pg_tup rfl (pgs_cons (pg_name (i := 5) scMoveOfL.nd rfl (Or.inl rfl)) (pgs_cons (pg_name (i := 6) scMoveOfL.nd rfl (Or.inl rfl)) pgs_nil)))
          (pss_cons (ps_if (PW.pt (pw_or (pt_cmpR op_ge (pv 6) (pv 0) (nomark _)) (pw_or1 (pt_cmpR op_in_seq (pv 6) (pv 3) rfl)))) (pss_one (ps_ret pe_non)) pss_nil)
          (pss_cons (ps_expr (pe_bm PySem.F.plainAttrs_list PySem.F.slot_list_append PySem.F.type_list_append mt_append (pv 3) (pa_cons (pv 6) pa_nil)))
          (pss_one (ps_asg (pe_ix ix_tup (pv 4) (pe_op op_mod (pe_callTy call_int1 rfl T.f_int (by decide +kernel) (pa_cons (pe_op op_add (pv 5) pe_int) pa_nil)) (pe_callB call_len_seq rfl T.f_len (by decide +kernel) (pa_cons (pv 4) pa_nil))) (fun _ _ => rfl)) (pg_sub (pv 2) (pv 6) set_list))))))))
      (pss_cons (ps_if (pt_cmpR (op_neD hr.hu) (pe_lc (own := [("_law_place", 6)]) (g := gName 6) rfl scMoveOfL.nd (pi_list (pv 2)) (blkOk_by (N := ["_law_places", "_law_rings", "_law_found", "_law_known", "_law_ring", "_law_at", "_law_place"]) (sc := defScope sMoveOfL) (by decide +kernel)) (fun _ _ _ _ _ => pg_name (i := 6) scMoveOfL.nd rfl (Or.inl rfl)) (fun _ _ _ _ _ => (pts_one (pt_cmpR op_ge (pv 6) (pv 0) (nomark _)))) (fun _ _ _ _ _ => (pv 6))) (pe_lst pa_nil) (nomark _)) (pss_one (ps_ret pe_non)) pss_nil)
      (pss_one (ps_ret (pe_callTy call_tuple_of rfl T.f_tuple (by decide +kernel) (pa_cons (pv 2) pa_nil))))))), ?_⟩
    refine ⟨_, rfl, _, rfl, ⟨by omega, by omega, by omega, by omega, by omega⟩, fun F fF => ?_⟩
    rw [rg_mv]
    have fF0 : ∀ b o, H b = some o → b ≠ F := fun b o e => ne_of_none e fF
    have S1 : Same H (upd H F (.lst (mv (List.range n)))) := same_new fF
    have F1 : (upd H F (.lst (mv (List.range n)))) F = some (.lst (mv (List.range n))) := upd_same
    generalize upd H F _ = H1 at S1 F1 ⊢
    refine ⟨by show 0 ≤ sizeLine; decide, fun G fG => ?_⟩
    refine ⟨_, _, rfl, ?_⟩
    have FG : F ≠ G := ne_of_none F1 fG
    have fG0 : ∀ b o, H b = some o → b ≠ G := fun b o e => ne_of_none (S1 b o e) fG
    have S2 := S1.trans (same_new fG (o := .lst (mv [])))
    have F2 := same_new fG (o := .lst (mv [])) _ _ F1
    have G2 : (upd H1 G (.lst (mv []))) G = some (.lst (mv [])) := upd_same
    show tSeq _ _ _ _ (upd H1 G (.lst (mv [])))
    generalize upd H1 G _ = H2 at S2 F2 G2 ⊢
    have wl : us.length = R.length := Paired.length rf
    refine ⟨_, rfl, a, rfl, ⟨_, .inl (.inl (S2 _ _ S))⟩, for_list (K := K) (a := a) (xs := us) (fun i σ H3 => Same H H3 ∧ ∃ b : List Nat, b.length = n ∧ H3 F = some (.lst (mv b)) ∧ H3 G = some (.lst (mv (R.take i).flatten)) ∧
        (∀ x ∈ (R.take i).flatten, x < n) ∧ (R.take i).flatten.Nodup ∧ (okR n R → ∀ x, x < n → b.getD x 0 = if x ∈ (R.take i).flatten then goOf R x else x) ∧
        ∃ x y z, σ = [some (.int (n : Int)), some (.ref a), some (.ref F), some (.ref G), x, y, z])
      ⟨S2, _, List.length_range, F2, G2, (fun x hx => by simp at hx), by simp, ?_, _, _, _, rfl⟩ (fun i σ H3 _ h => .inl (.inl (h.1 _ _ S))) ?_ ?_⟩
    · intro _ x hx
      rw [if_neg (by simp), List.getD, List.getElem?_range hx]
      rfl
    · rintro i v σ H3 hv ⟨S3, b, lb, hF, hG, bel, nod, done, x, y, z, rfl⟩
      obtain ⟨r, t, hr, rfl, St⟩ := rf.get hv
      have mr : r ∈ R := List.mem_of_getElem? hr
      refine ⟨_, rfl, t, _, rfl, same_sqt S3 St, ?_⟩
      refine for_enumT (K := K) (a := t) (xs := mv r) (fun j σ H4 => Same H H4 ∧ ∃ b : List Nat, b.length = n ∧ H4 F = some (.lst (mv b)) ∧ H4 G = some (.lst (mv ((R.take i).flatten ++ r.take j))) ∧
          (∀ x ∈ (R.take i).flatten ++ r.take j, x < n) ∧ ((R.take i).flatten ++ r.take j).Nodup ∧ (okR n R → ∀ x, x < n → b.getD x 0 = if x ∈ (R.take i).flatten ++ r.take j then goOf R x else x) ∧
          ∃ y z, σ = [some (.int (n : Int)), some (.ref a), some (.ref F), some (.ref G), some (.ref t), y, z])
        ⟨S3, b, lb, hF, by simpa using hG, by simpa using bel, by simpa using nod, by simpa using done, _, _, rfl⟩ (fun j σ H4 _ h => same_sqt h.1 St) ?_ ?_
      · rintro j u σ H4 T hu ⟨S4, b, lb, hF, hG, bel, nod, done, y, z, rfl⟩ fT
        obtain ⟨jr, rfl⟩ := mv_nth hu
        have ej : r[j]? = some (r.getD j 0) := by rw [List.getD, List.getElem?_eq_getElem jr]; rfl
        have fl := Rings.flat hr ej
        have ts : r.take (j + 1) = r.take j ++ [r.getD j 0] := by rw [List.take_add_one, ej]; rfl
        have FT : F ≠ T := ne_of_none hF fT
        have GT : G ≠ T := ne_of_none hG fT
        have S5 : Same H (upd H4 T (.tup [.int (j : Nat), .int ((r.getD j 0 : Nat) : Int)])) := S4.trans (same_new fT)
        have St5 : SqT K (upd H4 T (.tup [.int (j : Nat), .int ((r.getD j 0 : Nat) : Int)])) t (mv r) := sqt_new (same_sqt S4 St) fT
        have hF5 := (upd_ne (o := .tup [.int (j : Nat), .int ((r.getD j 0 : Nat) : Int)]) FT).trans hF
        have hG5 := (upd_ne (o := .tup [.int (j : Nat), .int ((r.getD j 0 : Nat) : Int)]) GT).trans hG
        have eT : (upd H4 T (.tup [.int (j : Nat), .int ((r.getD j 0 : Nat) : Int)])) T = some (.tup [.int (j : Nat), .int ((r.getD j 0 : Nat) : Int)]) := upd_same
        generalize upd H4 T _ = H5 at S5 St5 hF5 hG5 eT ⊢
        refine ⟨T, _, rfl, .inl (.inl eT), rfl, _, _, rfl, ?_⟩
        refine ⟨_, _, rfl, rfl, ?_⟩
        refine ⟨_, rfl, _, rfl, _, _, rfl, rfl, _, rfl, ?_⟩
        generalize hp : r.getD j 0 = p at *
        by_cases c1 : n ≤ p
        · refine ifT (decide_eq_true (by omega)) ?_
          refine ifT rfl ?_
          refine q1 (fun ok => ?_) _ S5
          have := ok.1 p (by rw [fl]; simp)
          omega
        · refine ifF (decide_eq_false (by omega)) ?_
          refine ⟨_, rfl, _, rfl, G, _, rfl, .inl (.inl (.inl hG5)), rfl, flat_mv _, ?_⟩
          refine ⟨_, rfl, ?_⟩
          rw [in_mv]
          by_cases c2 : p ∈ (R.take i).flatten ++ r.take j
          · refine ifT (decide_eq_true c2) ?_
            refine q1 (fun ok => ?_) _ S5
            have nd := ok.2
            rw [fl] at nd
            exact (List.nodup_append.mp nd).2.2 p c2 p (by simp) rfl
          · refine ifF (decide_eq_false c2) ?_
            have room : (mv ((R.take i).flatten ++ r.take j)).length < sizeLine := by
              have e2 := congrArg List.length fl
              rw [List.length_append, List.length_cons] at e2
              rw [mv_len, sizeLine_eq]
              omega
            refine ⟨_, rfl, .inl ⟨rfl, _, .inl (.inl hG5)⟩, _, rfl, G, _, _, rfl, rfl, hG5, room, ?_⟩
            have e6 : mv ((R.take i).flatten ++ r.take j) ++ [V.int (p : Int)] = mv ((R.take i).flatten ++ r.take j ++ [p]) := by rw [mv_app ((R.take i).flatten ++ r.take j)]; rfl
            rw [e6]
            have S6 : Same H (upd H5 G (.lst (mv ((R.take i).flatten ++ r.take j ++ [p])))) := fun b o h => (upd_ne (fG0 b o h)).trans (S5 b o h)
            have St6 : SqT K (upd H5 G (.lst (mv ((R.take i).flatten ++ r.take j ++ [p])))) t (mv r) := sqt_lst St5 hG5
            have hF6 : (upd H5 G (.lst (mv ((R.take i).flatten ++ r.take j ++ [p])))) F = some (.lst (mv b)) := (upd_ne FG).trans hF5
            have hG6 : (upd H5 G (.lst (mv ((R.take i).flatten ++ r.take j ++ [p])))) G = some (.lst (mv ((R.take i).flatten ++ r.take j ++ [p]))) := upd_same
            generalize upd H5 G _ = H6 at S6 St6 hF6 hG6 ⊢
            have Lp : 0 < ((mv r).length : Int) := by rw [mv_len]; omega
            have ix : ((j : Int) + 1) % ((mv r).length : Int) = (((j + 1) % r.length : Nat) : Int) := by
              rw [mv_len, Int.natCast_emod, Int.natCast_add]
              rfl
            have ate : atI (mv r) (((j : Int) + 1) % ((mv r).length : Int)) = some (.int ((r.getD ((j + 1) % r.length) 0 : Nat) : Int)) := by
              rw [ix]
              exact mv_at (Nat.mod_lt _ (by omega))
            refine ⟨_, rfl, _, rfl, _, _, rfl, rfl, .inl ⟨_, rfl, _, rfl, t, _, rfl, .inr St6, _, _, rfl, rfl, Lp, t, _, _, _, rfl, rfl, St6, ate, ?_⟩⟩
            refine ⟨_, rfl, _, rfl, F, _, _, p, rfl, rfl, hF6, by rw [mv_len, lb]; exact ixN_lt (by omega), ?_⟩
            rw [mv_set]
            rw [ts, ← List.append_assoc]
            refine ⟨fun b o h => (upd_ne (fF0 b o h)).trans (S6 b o h), b.set p (r.getD ((j + 1) % r.length) 0), by rw [List.length_set, lb], upd_same, (upd_ne FG.symm).trans hG6, ?_, ?_, fun ok x hx => ?_, _, _, rfl⟩
            · intro x hx
              rcases List.mem_append.mp hx with hx | hx
              · exact bel x hx
              · rw [List.mem_singleton.mp hx]
                omega
            · rw [List.nodup_append]
              refine ⟨nod, by simp, fun a ha b hb z => ?_⟩
              rw [List.mem_singleton.mp hb] at z
              rw [z] at ha
              exact c2 ha
            · have g := (goes_of (n := n) ⟨r1, ok.2, ok.1⟩).ring r mr j jr
              rw [hp] at g
              by_cases z : x = p
              · rw [if_pos (by rw [z]; simp), z, List.getD, List.getElem?_set_self (by omega), g]
                rfl
              · rw [List.getD, List.getElem?_set_ne (fun h => z h.symm), ← List.getD, done ok x hx]
                have : (x ∈ (R.take i).flatten ++ r.take j ++ [p]) ↔ x ∈ (R.take i).flatten ++ r.take j := by
                  rw [List.mem_append]
                  exact ⟨fun h => h.elim id fun h => absurd (List.mem_singleton.mp h) z, .inl⟩
                by_cases c : x ∈ (R.take i).flatten ++ r.take j
                · rw [if_pos c, if_pos (this.mpr c)]
                · rw [if_neg c, if_neg fun h => c (this.mp h)]
      · rintro σ H4 ⟨S4, b, lb, hF, hG, bel, nod, done, y, z, rfl⟩
        have e3 : (R.take (i + 1)).flatten = (R.take i).flatten ++ r := by
          rw [List.take_add_one, hr, List.flatten_append]
          show _ ++ (r ++ []) = _
          rw [List.append_nil]
        rw [mv_len, List.take_length, ← e3] at done hG bel nod
        exact ⟨S4, b, lb, hF, hG, bel, nod, done, _, _, _, rfl⟩
    · rintro σ H3 ⟨S3, b, lb, hF, hG, bel, nod, done, x, y, z, rfl⟩
      rw [wl, List.take_length] at done hG bel nod
      have ok : okR n R := ⟨bel, nod⟩
      have hR : Rings n R := ⟨r1, nod, bel⟩
      have gs := goes_of hR
      have done := done ok
      have lt : ∀ x, x < n → goOf R x < n := by
        intro x hx
        by_cases c : x ∈ R.flatten
        · obtain ⟨r, mr, mx⟩ := List.mem_flatten.mp c
          obtain ⟨j, hj, rfl⟩ := List.mem_iff_getElem.mp mx
          have g := gs.ring r mr j hj
          have ex : r.getD j 0 = r[j] := by rw [List.getD, List.getElem?_eq_getElem hj]; rfl
          rw [ex] at g
          rw [g]
          have hm : (j + 1) % r.length < r.length := Nat.mod_lt _ (by omega)
          refine bel _ (List.mem_flatten.mpr ⟨r, mr, ?_⟩)
          rw [List.getD, List.getElem?_eq_getElem hm]
          exact List.getElem_mem hm
        · rw [gs.rest x hx c]
          exact hx
      have eb : b = (List.range n).map (goOf R) := by
        refine List.ext_getElem (by rw [lb, List.length_map, List.length_range]) fun x h1 h2 => ?_
        have hx : x < n := by omega
        have := done x hx
        rw [List.getD, List.getElem?_eq_getElem h1] at this
        rw [List.getElem_map, List.getElem_range]
        refine Eq.trans this ?_
        split
        · rfl
        · rename_i c
          exact (gs.rest x hx c).symm
      rw [eb] at hF
      clear eb
      have len2 : (mv ((List.range n).map (goOf R))).length ≤ 1000 := by rw [mv_len, List.length_map, List.length_range]; omega
      refine ⟨_, rfl, F, rfl, ⟨_, .inl (.inl hF)⟩, fun D nD => ?_⟩
      refine lc_seqF (fun x => match x with | .int i => decide ((n : Int) ≤ i) | _ => false) (fun x => x) (.inl (.inl hF)) nD (Nat.le_trans len2 (by decide)) ?_ ?_ ?_
      · intro x acc hx Q' q'
        obtain ⟨k, _, rfl⟩ := List.mem_map.mp hx
        exact ⟨_, rfl, _, rfl, _, _, rfl, rfl, _, rfl, q'⟩
      · intro x acc hx px Q' q'
        exact ⟨_, rfl, q'⟩
      have em : ((mv ((List.range n).map (goOf R))).filter fun x => match x with | .int i => decide ((n : Int) ≤ i) | _ => false) = [] := by
        rw [List.filter_eq_nil_iff]
        intro x hx
        obtain ⟨k, hk, rfl⟩ := List.mem_map.mp hx
        obtain ⟨y, hy, rfl⟩ := List.mem_map.mp hk
        have := lt y (List.mem_range.mp hy)
        show ¬ decide ((n : Int) ≤ ((goOf R y : Nat) : Int)) = true
        rw [decide_eq_true_eq]
        omega
      rw [em]
      have S4 : Same H (upd H3 D (.lst [])) := S3.trans (same_new nD)
      have hF4 := same_new nD (o := .lst []) _ _ hF
      have eD : (upd H3 D (.lst [])) D = some (.lst []) := upd_same
      show tLst tNil _ (upd H3 D (.lst [])) _
      generalize upd H3 D _ = H4 at S4 hF4 eD ⊢
      refine ⟨by show 0 ≤ sizeLine; decide, fun D2 nD2 => ?_⟩
      have S5 := S4.trans (same_new nD2 (o := .lst []))
      have hF5 := same_new nD2 (o := .lst []) _ _ hF4
      refine ⟨.list [], .list [], .lst (.inl (.inl (same_new nD2 _ _ eD))) .nil, .lst (.inl (.inl upd_same)) .nil, by decide, by decide, ?_⟩
      refine ⟨_, rfl, ?_⟩
      refine ifF (by decide) ?_
      refine ⟨_, rfl, F, _, rfl, .inl ⟨.inl (.inl hF5), fun t ft => ?_⟩⟩
      exact q2 ok _ t (S5.trans (same_new ft)) (.inl (.inl upd_same))
end
end K85


set_option Elab.async false
set_option linter.all false
set_option maxRecDepth 100000
set_option maxHeartbeats 2000000
namespace K85
open PySem PySem.Spec PyProof.Rows L2 MM PySem.NumText
/-! own words for the readings: a step, its side -/
local macro_rules | `(tactic| walk_at "side") => `(tactic| first
  | omega
  | exact ⟨by omega, by omega⟩
  | exact Or.inl ⟨by omega, by omega⟩
  | exact Or.inr ⟨by omega, by omega⟩
  | (show CPw _ _; decide +kernel)
  | (show (0 : Int) < _; decide +kernel)
  | (show CDivW _ _; first | assumption | exact ⟨by decide, by decide +kernel⟩))
local macro_rules | `(tactic| walk_at "here") => `(tactic| first
  | assumption
  | exact upd_same
  | exact Or.inl (Or.inl upd_same)
  | exact Or.inl upd_same)
local macro_rules | `(tactic| walk_at "one") => `(tactic| first
  | refine ⟨_, rfl, ?_⟩
  | refine Or.inl ⟨_, rfl, ?_⟩
  | refine Or.inr ⟨_, rfl, ?_⟩
  | refine ⟨_, _, rfl, rfl, (by walk_at "side"), ?_⟩
  | refine ⟨_, _, rfl, rfl, ?_⟩
  | refine ⟨_, _, rfl, Or.inl (by walk_at "here"), ?_⟩
  | refine ⟨_, _, rfl, Or.inr (by walk_at "here"), ?_⟩
  | refine ⟨_, _, rfl, (by walk_at "here"), ?_⟩
  | refine ⟨_, _, _, _, rfl, rfl, (by walk_at "here"), rfl, ?_⟩
  | refine ⟨_, _, rfl, ?_⟩
  | refine ifT (by rfl) ?_
  | refine ifF (by rfl) ?_
  | refine ifT (decide_eq_true (by omega)) ?_
  | refine ifF (decide_eq_false (by omega)) ?_)
local macro_rules | `(tactic| walk_at "st") => `(tactic| repeat (walk_at "one"))

section
variable {P : Program} {w : World} {K : PySem.W.Frag} {mg : Str → Option Value} {base : Heap}
def spMvRead (K : PySem.W.Frag) : Sp := fun vs H Q _ => ∃ (z : Str) (n : Nat), vs = [.str z, .int (n : Int)] ∧ z.length ≤ 3000 ∧ 1 ≤ n ∧ n ≤ 24 ∧ (match moveR (cds z) with
  | .error j => ∀ H' u, Same H H' → H' u = some (.tup [.str "parse", .int (j : Nat)]) → Q (.ref u) H'
  | .ok R => (¬ okR n R → ∀ H' u, Same H H' → H' u = some (.tup [.str "move"]) → Q (.ref u) H') ∧ (okR n R → ∀ H' t u, Same H H' → SqT K H' t (mv ((List.range n).map (goOf R))) → H' u = some (.tup [.str "told", .ref t]) → Q (.ref u) H'))
theorem scMoveReadL : FnScope ["_law_text", "_law_places", "_law_wrong", "_law_rings", "_law_here", "_law_found"] ["_law_text", "_law_places"] (defScope sMoveReadL) :=
  ⟨rfl, rfl, rfl, by decide +kernel, rfl, by decide +kernel, by decide +kernel⟩
theorem dMoveReadL (T : Tx K mg) (DCyclesFromL : Def P w K mg base CX0 2 "_law_cycles_from" ["_law_text", "_law_at"] (spFrom K)) (DMoveOfL : Def P w K mg base CX0 1 "_law_move_of" ["_law_places", "_law_rings"] (spMvL K)) : Def P w K mg base CX0 3 "_law_move_read" ["_law_text", "_law_places"] (spMvRead K) := by
  refine T.t_law_move_read.def_ (N := ["_law_text", "_law_places", "_law_wrong", "_law_rings", "_law_here", "_law_found"]) scMoveReadL (fun _ _ _ _ _ _ us hl => match us, hl with | [_, _], _ => rfl) ?_ ?_
  · intro vs H Q E h
    obtain ⟨z, n, rfl, _⟩ := h
    rfl
  · intro f cd A out s H vs Q E hr h
    have hr1 : Rm 2 _ := hr.le (by decide)
    obtain ⟨z, n, rfl, hz, n1, n24, q⟩ := h
    refine ⟨_, (pss_cons (ps_asg (pe_d DCyclesFromL (hr1.le (by decide)) pass0 (pa_cons (pv 0) (pa_cons pe_int pa_nil))) (pg_tup rfl (pgs_cons (pg_name (i := 2) scMoveReadL.nd rfl (Or.inl rfl)) (pgs_cons (pg_name (i := 3) scMoveReadL.nd rfl (Or.inl rfl)) (pgs_cons (pg_name (i := 4) scMoveReadL.nd rfl (Or.inl rfl)) pgs_nil)))))
      (pss_cons (ps_if (PW.pt (pw_or (pt_cmpR op_notN (pv 2) pe_non (nomark _)) (pw_or1 (pt_cmpR op_lt (pv 4) (pe_callB call_len_str rfl T.f_len (by decide +kernel) (pa_cons (pv 0) pa_nil)) (nomark _))))) (pss_one (ps_ret (pe_tup (pa_cons pe_str (pa_cons (pe_ifExp (pt_cmpR op_notN (pv 2) pe_non (nomark _)) (pv 2) (pv 4)) pa_nil))))) pss_nil)
      (pss_cons (ps_set (i := 5) scMoveReadL.nd rfl (Or.inl rfl) (pe_d DMoveOfL (hr1.le (by decide)) pass0 (pa_cons (pv 1) (pa_cons (pv 3) pa_nil))))
      (pss_one (ps_ret (pe_ifExp (pt_cmpR op_isN (pv 5) pe_non (nomark _)) (pe_tup (pa_cons pe_str pa_nil)) (pe_tup (pa_cons pe_str (pa_cons (pv 5) pa_nil))))))))), ?_⟩
    have hl := cds_len z
    have z4 : z.length ≤ 4000 := by omega
    unfold moveR at q
    refine ⟨_, rfl, z, 0, rfl, z4, ?_⟩
    cases er : ringsR (cds z) 0 with
    | error j =>
      rw [er] at q
      replace q : ∀ H' u, Same H H' → H' u = some (.tup [.str "parse", .int (j : Nat)]) → Q (.ref u) H' := q
      intro H1 l u s1 h1 hu
      refine ⟨u, _, rfl, .inl (.inl hu), rfl, _, _, rfl, ?_⟩
      refine ⟨_, _, rfl, ?_⟩
      refine ⟨_, _, rfl, rfl, ?_⟩
      refine ⟨_, rfl, rfl, _, rfl, ?_⟩
      refine ifT rfl ?_
      refine ifT rfl ?_
      refine ⟨_, rfl, rfl, _, rfl, ?_⟩
      refine ifT rfl ?_
      exact ⟨_, rfl, by show 2 ≤ sizeLine; decide, fun u2 f2 => q _ u2 (s1.trans (same_new f2)) upd_same⟩
    | ok r =>
      obtain ⟨R, e⟩ := r
      rw [er] at q
      obtain ⟨g1, g2, g3⟩ := ringsR_ok er
      intro H1 l us u s1 h1 rf hu
      refine ⟨u, _, rfl, .inl (.inl hu), rfl, _, _, rfl, ?_⟩
      refine ⟨_, _, rfl, ?_⟩
      refine ⟨_, _, rfl, rfl, ?_⟩
      refine ⟨_, rfl, rfl, _, rfl, ?_⟩
      refine ifF rfl ?_
      refine ⟨_, rfl, _, rfl, z, rfl, line4000 z4, _, _, rfl, rfl, _, rfl, ?_⟩
      by_cases c : e < (cds z).length
      · refine ifT (decide_eq_true (by rw [hl]; omega)) ?_
        dsimp only at q
        rw [if_pos c] at q
        refine ⟨_, rfl, rfl, _, rfl, ?_⟩
        refine ifF rfl ?_
        exact ⟨_, rfl, by show 2 ≤ sizeLine; decide, fun u2 f2 => q _ u2 (s1.trans (same_new f2)) upd_same⟩
      · refine ifF (decide_eq_false (by rw [hl]; omega)) ?_
        dsimp only at q
        rw [if_neg c] at q
        obtain ⟨qa, qb⟩ := q
        refine ⟨_, rfl, _, rfl, n, l, us, R, rfl, h1, rf, fun r hr => by have := g2 r hr; omega, by omega, n1, n24, fun no H4 s4 => ?_, fun ok H4 t4 s4 st4 => ?_⟩
        · refine ⟨_, rfl, rfl, _, rfl, ?_⟩
          refine ifT rfl ?_
          exact ⟨by show 1 ≤ sizeLine; decide, fun u2 f2 => qa no _ u2 ((s1.trans s4).trans (same_new f2)) upd_same⟩
        · refine ⟨_, rfl, rfl, _, rfl, ?_⟩
          refine ifF rfl ?_
          exact ⟨_, rfl, by show 2 ≤ sizeLine; decide, fun u2 f2 => qb ok _ t4 u2 ((s1.trans s4).trans (same_new f2)) (same_sqt (same_new f2) st4) upd_same⟩
end
end K85


set_option Elab.async false
set_option linter.all false
set_option maxRecDepth 100000
set_option maxHeartbeats 2000000
namespace K85
open PySem PySem.Spec PyProof.Rows L2 MM PySem.NumText
/-! own words for the readings: a step, its side -/
local macro_rules | `(tactic| walk_at "side") => `(tactic| first
  | omega
  | exact ⟨by omega, by omega⟩
  | exact Or.inl ⟨by omega, by omega⟩
  | exact Or.inr ⟨by omega, by omega⟩
  | (show CPw _ _; decide +kernel)
  | (show (0 : Int) < _; decide +kernel)
  | (show CDivW _ _; first | assumption | exact ⟨by decide, by decide +kernel⟩))
local macro_rules | `(tactic| walk_at "here") => `(tactic| first
  | assumption
  | exact upd_same
  | exact Or.inl (Or.inl upd_same)
  | exact Or.inl upd_same)
local macro_rules | `(tactic| walk_at "one") => `(tactic| first
  | refine ⟨_, rfl, ?_⟩
  | refine Or.inl ⟨_, rfl, ?_⟩
  | refine Or.inr ⟨_, rfl, ?_⟩
  | refine ⟨_, _, rfl, rfl, (by walk_at "side"), ?_⟩
  | refine ⟨_, _, rfl, rfl, ?_⟩
  | refine ⟨_, _, rfl, Or.inl (by walk_at "here"), ?_⟩
  | refine ⟨_, _, rfl, Or.inr (by walk_at "here"), ?_⟩
  | refine ⟨_, _, rfl, (by walk_at "here"), ?_⟩
  | refine ⟨_, _, _, _, rfl, rfl, (by walk_at "here"), rfl, ?_⟩
  | refine ⟨_, _, rfl, ?_⟩
  | refine ifT (by rfl) ?_
  | refine ifF (by rfl) ?_
  | refine ifT (decide_eq_true (by omega)) ?_
  | refine ifF (decide_eq_false (by omega)) ?_)
local macro_rules | `(tactic| walk_at "st") => `(tactic| repeat (walk_at "one"))

section
variable {P : Program} {w : World} {K : PySem.W.Frag} {mg : Str → Option Value} {base : Heap}
/-! lengths of texts -/
theorem rep_len {m k : Nat} (hk : 0 < k) (h : m < 10 ^ k) : (Str.ofString (Nat.repr m)).length ≤ k := by
  rw [cds_len]
  show ((Str.ofString (Nat.repr m)).cps.toList).length ≤ k
  rw [PyProof.Rows.signs_ofString, List.length_map, Nat.toList_repr]
  exact (Nat.length_toDigits_le_iff (by decide) hk).mpr h
theorem int_len {i : Int} {k : Nat} (hk : 0 < k) (h : i.natAbs < 10 ^ k) : (Str.ofString (toString i)).length ≤ k + 1 := by
  cases i with
  | ofNat m => exact Nat.le_succ_of_le (rep_len hk h)
  | negSucc m =>
    rw [cds_len]
    show (Str.ofString ("-" ++ Nat.repr (m + 1))).cps.toList.length ≤ k + 1
    rw [PyProof.Rows.signs_ofString, List.length_map, String.toList_append, List.length_append, Nat.toList_repr]
    have := (Nat.length_toDigits_le_iff (n := m + 1) (by decide) hk).mpr h
    have e : ("-" : String).toList.length = 1 := rfl
    omega
theorem cut_lo (z : Str) (a : Nat) : (cutS z none (some (a : Int))).length ≤ a := by
  unfold cutS
  rw [HT.sIx_nat, HT.sIx_none]
  show (List.toArray _).size ≤ a
  rw [List.size_toArray, List.length_take]
  omega
theorem cut_hi (z : Str) (a : Nat) : (cutS z (some (a : Int)) none).length ≤ z.length - a := by
  unfold cutS
  rw [HT.sIx_nat, HT.sIx_none]
  show (List.toArray _).size ≤ _
  rw [List.size_toArray, List.length_take]
  omega
theorem cut_md (z : Str) (i j : Nat) : (cutS z (some (i : Int)) (some (j : Int))).length ≤ j - i := by
  rw [cut_nat]
  show (List.toArray _).size ≤ _
  rw [List.size_toArray, List.length_take]
  omega
theorem app_len (a b : Str) : (a ++ b).length = a.length + b.length := PySem.Str.length_append a b
def spNumber (K : PySem.W.Frag) : Sp := fun vs H Q _ => ∃ p, vs = [.ref p] ∧ BagAt H p ∧ ∀ H' i, Upto p H H' → i.natAbs < 10 ^ 61 → Q (.int i) H'
theorem scNumberL : FnScope ["_law_bag_here"] ["_law_bag_here"] (defScope sNumberL) :=
  ⟨rfl, rfl, rfl, by decide +kernel, rfl, by decide +kernel, by decide +kernel⟩
theorem dNumberL (T : Tx K mg) (DOneOfL : Def P w K mg base CX0 2 "_law_one_of" ["_law_bag_here", "_law_items"] (spOneOf K)) (DGrabL : Def P w K mg base CX0 1 "_law_grab" ["_law_bag_here", "_law_total"] spGrab) : Def P w K mg base CX0 3 "_law_number" ["_law_bag_here"] (spNumber K) := by
  refine T.t_law_number.def_ (N := ["_law_bag_here"]) scNumberL (fun _ _ _ _ _ _ us hl => match us, hl with | [_], _ => rfl) ?_ ?_
  · intro vs H Q E h
    obtain ⟨p, rfl, _⟩ := h
    rfl
  · intro f cd A out s H vs Q E hr h
    have hr1 : Rm 2 _ := hr.le (by decide)
    obtain ⟨p, rfl, hb, q⟩ := h
    obtain ⟨b1, b2, b3, eb⟩ := hb
    refine ⟨_, (pss_one (ps_ret (pe_d DOneOfL (hr1.le (by decide)) pass0 (pa_cons (pv 0) (pa_cons (pe_lst (pa_cons pe_int (pa_cons pe_int (pa_cons (pe_un un_neg pe_int) (pa_cons pe_int (pa_cons (pe_un un_neg pe_int) (pa_cons (pe_op op_sub (pe_op op_pw pe_int pe_int) pe_int) (pa_cons (pe_op op_sub pe_int (pe_op op_pw pe_int pe_int)) (pa_cons (pe_d DGrabL (hr1.le (by decide)) pass0 (pa_cons (pv 0) (pa_cons pe_int pa_nil))) pa_nil))))))))) pa_nil))))), ?_⟩
    refine ⟨_, rfl, _, rfl, _, rfl, 10, 60, rfl, rfl, (by show CPw _ _; decide +kernel), _, _, rfl, rfl, 10, 60, rfl, rfl, (by show CPw _ _; decide +kernel), _, _, rfl, rfl, _, rfl, p, 999, b1, b2, b3, rfl, eb, div_small (n := 999) (by omega) (by omega), fun r g1 m1 c1 h0 h1 => ?_⟩
    refine ⟨by show 8 ≤ sizeLine; decide, fun l fl => ?_⟩
    have lp : l ≠ p := bag_ne upd_same fl
    refine ⟨p, l, g1, m1, c1, _, rfl, (upd_ne lp.symm).trans upd_same, .inl (.inl upd_same), lp, by show 0 < 8; omega, by show 8 ≤ 1000; omega, fun v g2 m2 c2 hv => ?_⟩
    have up : Upto p H (upd (upd (upd H p (.lst [.int g1, .int m1, .int c1])) l (.lst [.int 0, .int 1, .int (-1), .int 7, .int (-40), .int (10 ^ (60 : Int).toNat - 1), .int (1 - 10 ^ (60 : Int).toNat), .int r])) p (.lst [.int g2, .int m2, .int c2])) :=
      (((Upto.refl ⟨_, _, _, eb⟩).draw).new fl).draw
    have key : ∃ i : Int, v = .int i ∧ i.natAbs < 10 ^ 61 := by
      simp only [List.mem_cons, List.not_mem_nil, or_false] at hv
      rcases hv with rfl | rfl | rfl | rfl | rfl | rfl | rfl | rfl
      · exact ⟨_, rfl, by decide⟩
      · exact ⟨_, rfl, by decide⟩
      · exact ⟨_, rfl, by decide⟩
      · exact ⟨_, rfl, by decide⟩
      · exact ⟨_, rfl, by decide⟩
      · exact ⟨_, rfl, by decide +kernel⟩
      · exact ⟨_, rfl, by decide +kernel⟩
      · refine ⟨_, rfl, Nat.lt_of_lt_of_le (by omega : r.natAbs < 1000) (by decide +kernel)⟩
    obtain ⟨i, rfl, hi⟩ := key
    exact q _ i up hi
def spNear (K : PySem.W.Frag) : Sp := fun vs H Q _ => ∃ (p l : Addr) (z : Str) (ws : List Str), vs = [.ref p, .str z, .ref l] ∧ BagAt H p ∧ SqL K H l (ws.map V.str) ∧ l ≠ p ∧ 0 < ws.length ∧ ws.length ≤ 100 ∧ (∀ s ∈ ws, s.length ≤ 61) ∧ z.length ≤ 50000 ∧
  ∀ H' (z' : Str), Upto p H H' → z'.length ≤ z.length + 61 → Q (.str z') H'
theorem scNearTextL : FnScope ["_law_bag_here", "_law_text", "_law_signs", "_law_way", "_law_at", "_law_sign"] ["_law_bag_here", "_law_text", "_law_signs"] (defScope sNearTextL) :=
  ⟨rfl, rfl, rfl, by decide +kernel, rfl, by decide +kernel, by decide +kernel⟩
theorem dNearTextL (T : Tx K mg) (DGrabL : Def P w K mg base CX0 1 "_law_grab" ["_law_bag_here", "_law_total"] spGrab) (DOneOfL : Def P w K mg base CX0 2 "_law_one_of" ["_law_bag_here", "_law_items"] (spOneOf K)) : Def P w K mg base CX0 3 "_law_near_text" ["_law_bag_here", "_law_text", "_law_signs"] (spNear K) := by
  refine T.t_law_near_text.def_ (N := ["_law_bag_here", "_law_text", "_law_signs", "_law_way", "_law_at", "_law_sign"]) scNearTextL (fun _ _ _ _ _ _ us hl => match us, hl with | [_, _, _], _ => rfl) ?_ ?_
  · intro vs H Q E h
    obtain ⟨p, l, z, ws, rfl, _⟩ := h
    rfl
  · intro f cd A out s H vs Q E hr h
    have hr1 : Rm 2 _ := hr.le (by decide)
    obtain ⟨p, l, z, ws, rfl, hb, S, ne, w0, w1, ws61, hz, q⟩ := h
    refine ⟨_, (pss_cons (ps_par (i := 3) (j := 4) rfl scNearTextL.nd rfl rfl (by decide) rfl rfl (pa_cons (pe_d DGrabL (hr1.le (by decide)) pass0 (pa_cons (pv 0) (pa_cons pe_int pa_nil))) (pa_cons (pe_d DGrabL (hr1.le (by decide)) pass0 (pa_cons (pv 0) (pa_cons (pe_op op_add (pe_callB call_len_str rfl T.f_len (by decide +kernel) (pa_cons (pv 1) pa_nil)) pe_int) pa_nil))) pa_nil)) (by rfl))
      (pss_cons (ps_set (i := 5) scNearTextL.nd rfl (Or.inl rfl) (pe_d DOneOfL (hr1.le (by decide)) pass0 (pa_cons (pv 0) (pa_cons (pv 2) pa_nil))))
      (pss_cons (ps_if (pt_cmpR op_eq (pv 3) pe_int (nomark _)) (pss_one (ps_ret (pe_op op_add_str (pe_slice sl_str (pv 1) po_none (po_some (pv 4))) (pe_slice sl_str (pv 1) (po_some (pe_op op_add (pv 4) pe_int)) po_none)))) pss_nil)
      (pss_cons (ps_if (pt_cmpR op_eq (pv 3) pe_int (nomark _)) (pss_one (ps_ret (pe_op op_add_str (pe_op op_add_str (pe_slice sl_str (pv 1) po_none (po_some (pv 4))) (pv 5)) (pe_slice sl_str (pv 1) (po_some (pv 4)) po_none)))) pss_nil)
      (pss_cons (ps_if (pt_cmpR op_eq (pv 3) pe_int (nomark _)) (pss_one (ps_ret (pe_op op_add_str (pe_op op_add_str (pe_slice sl_str (pv 1) po_none (po_some (pv 4))) (pv 5)) (pe_slice sl_str (pv 1) (po_some (pe_op op_add (pv 4) pe_int)) po_none)))) pss_nil)
      (pss_cons (ps_if (pt_cmpR op_eq (pv 3) pe_int (nomark _)) (pss_one (ps_ret (pe_slice sl_str (pv 1) po_none (po_some (pv 4))))) pss_nil)
      (pss_cons (ps_if (pt_cmpR op_eq (pv 3) pe_int (nomark _)) (pss_one (ps_ret (pe_op op_add_str (pe_op op_add_str (pe_slice sl_str (pv 1) po_none (po_some (pv 4))) (pe_slice sl_str (pv 1) (po_some (pv 4)) (po_some (pe_op op_add (pv 4) pe_int)))) (pe_slice sl_str (pv 1) (po_some (pv 4)) po_none)))) pss_nil)
      (pss_cons (ps_if (pt_cmpR op_eq (pv 3) pe_int (nomark _)) (pss_one (ps_ret (pe_op op_add_str (pe_op op_add_str (pe_op op_add_str (pe_slice sl_str (pv 1) po_none (po_some (pv 4))) (pe_slice sl_str (pv 1) (po_some (pe_op op_add (pv 4) pe_int)) (po_some (pe_op op_add (pv 4) pe_int)))) (pe_slice sl_str (pv 1) (po_some (pv 4)) (po_some (pe_op op_add (pv 4) pe_int)))) (pe_slice sl_str (pv 1) (po_some (pe_op op_add (pv 4) pe_int)) po_none)))) pss_nil)
      (pss_one (ps_ret (pv 1))))))))))), ?_⟩
    obtain ⟨b1, b2, b3, eb⟩ := hb
    have z4 : z.length ≤ sizeLine := by rw [sizeLine_eq]; omega
    refine ⟨_, rfl, p, 7, b1, b2, b3, rfl, eb, div_small (n := 7) (by omega) (by omega), fun r g1 m1 c1 _ _ => ?_⟩
    refine ⟨_, rfl, _, rfl, z, rfl, z4, _, _, rfl, rfl, p, ((z.length + 1 : Nat) : Int), g1, m1, c1, rfl, upd_same, div_small (n := z.length + 1) (by omega) (by omega), fun r2 g2 m2 c2 h0 h1 => ?_⟩
    obtain ⟨a, rfl⟩ : ∃ n : Nat, r2 = (n : Int) := ⟨r2.toNat, by omega⟩
    have al : a ≤ z.length := by omega
    refine ⟨_, _, rfl, ?_⟩
    refine ⟨_, rfl, _, rfl, p, l, g2, m2, c2, ws.map V.str, rfl, upd_same, sql_upd (sql_upd S ne) ne, ne, by rw [List.length_map]; exact w0, by rw [List.length_map]; omega, fun v g3 m3 c3 hv => ?_⟩
    obtain ⟨sg, hs, rfl⟩ := List.mem_map.mp hv
    have s61 := ws61 sg hs
    have up : Upto p H (upd (upd (upd H p (.lst [.int g1, .int m1, .int c1])) p (.lst [.int g2, .int m2, .int c2])) p (.lst [.int g3, .int m3, .int c3])) := (((Upto.refl ⟨_, _, _, eb⟩).draw).draw).draw
    generalize upd (upd (upd H p (.lst [.int g1, .int m1, .int c1])) p (.lst [.int g2, .int m2, .int c2])) p (.lst [.int g3, .int m3, .int c3]) = H3 at up ⊢
    have fin : ∀ z' : Str, z'.length ≤ z.length + 61 → Q (.str z') H3 := fun z' h => q _ z' up h
    have lo := cut_lo z a
    have hi := cut_hi z a
    have hi1 : (cutS z (some ((a : Int) + 1)) none).length ≤ z.length - (a + 1) := cut_hi z (a + 1)
    have hi2 : (cutS z (some ((a : Int) + 2)) none).length ≤ z.length - (a + 2) := cut_hi z (a + 2)
    have md1 : (cutS z (some (a : Int)) (some ((a : Int) + 1))).length ≤ 1 := by
      have : (cutS z (some (a : Int)) (some ((a : Int) + 1))).length ≤ a + 1 - a := cut_md z a (a + 1)
      omega
    have md2 : (cutS z (some ((a : Int) + 1)) (some ((a : Int) + 2))).length ≤ 1 := by
      have : (cutS z (some ((a : Int) + 1)) (some ((a : Int) + 2))).length ≤ a + 2 - (a + 1) := cut_md z (a + 1) (a + 2)
      omega
    have szl : sizeLine = sizeLine := rfl
    refine ⟨_, rfl, rfl, _, rfl, ite2 (fun _ => ?_) (fun _ => ?_)⟩
    · refine ⟨_, rfl, _, rfl, _, rfl, z, rfl, z4, _, rfl, _, rfl, _, _, rfl, rfl, _, rfl, z, rfl, z4, _, _, rfl, rfl, by rw [sizeLine_eq]; omega, ?_⟩
      exact fin _ (by rw [app_len]; omega)
    refine ⟨_, rfl, rfl, _, rfl, ite2 (fun _ => ?_) (fun _ => ?_)⟩
    · refine ⟨_, rfl, _, rfl, _, rfl, z, rfl, z4, _, rfl, _, _, rfl, rfl, by rw [sizeLine_eq]; omega, _, rfl, _, rfl, _, rfl, z, rfl, z4, _, _, rfl, rfl, by rw [app_len, sizeLine_eq]; omega, ?_⟩
      exact fin _ (by rw [app_len, app_len]; omega)
    refine ⟨_, rfl, rfl, _, rfl, ite2 (fun _ => ?_) (fun _ => ?_)⟩
    · refine ⟨_, rfl, _, rfl, _, rfl, z, rfl, z4, _, rfl, _, _, rfl, rfl, by rw [sizeLine_eq]; omega, _, rfl, _, rfl, _, _, rfl, rfl, _, rfl, z, rfl, z4, _, _, rfl, rfl, by rw [app_len, sizeLine_eq]; omega, ?_⟩
      exact fin _ (by rw [app_len, app_len]; omega)
    refine ⟨_, rfl, rfl, _, rfl, ite2 (fun _ => ?_) (fun _ => ?_)⟩
    · refine ⟨_, rfl, _, rfl, _, rfl, z, rfl, z4, ?_⟩
      exact fin _ (by omega)
    refine ⟨_, rfl, rfl, _, rfl, ite2 (fun _ => ?_) (fun _ => ?_)⟩
    · refine ⟨_, rfl, _, rfl, _, rfl, z, rfl, z4, _, rfl, _, rfl, _, rfl, _, rfl, _, _, rfl, rfl, _, rfl, z, rfl, z4, _, _, rfl, rfl, by rw [sizeLine_eq]; omega, _, rfl, _, rfl, _, rfl, z, rfl, z4, _, _, rfl, rfl, by rw [app_len, sizeLine_eq]; omega, ?_⟩
      exact fin _ (by rw [app_len, app_len]; omega)
    refine ⟨_, rfl, rfl, _, rfl, ite2 (fun _ => ?_) (fun _ => ?_)⟩
    · refine ⟨_, rfl, _, rfl, _, rfl, z, rfl, z4, _, rfl, _, rfl, _, _, rfl, rfl, _, rfl, _, rfl, _, _, rfl, rfl, _, rfl, z, rfl, z4, _, _, rfl, rfl, by rw [sizeLine_eq]; omega,
        _, rfl, _, rfl, _, rfl, _, rfl, _, _, rfl, rfl, _, rfl, z, rfl, z4, _, _, rfl, rfl, by rw [app_len, sizeLine_eq]; omega,
        _, rfl, _, rfl, _, _, rfl, rfl, _, rfl, z, rfl, z4, _, _, rfl, rfl, by rw [app_len, app_len, sizeLine_eq]; omega, ?_⟩
      exact fin _ (by rw [app_len, app_len, app_len]; omega)
    exact ⟨_, rfl, fin _ (by omega)⟩
end
end K85


set_option Elab.async false
set_option linter.all false
set_option maxRecDepth 100000
set_option maxHeartbeats 2000000
namespace K85
open PySem PySem.Spec PyProof.Rows L2 MM PySem.NumText
/-! own words for the readings: a step, its side -/
local macro_rules | `(tactic| walk_at "side") => `(tactic| first
  | omega
  | exact ⟨by omega, by omega⟩
  | exact Or.inl ⟨by omega, by omega⟩
  | exact Or.inr ⟨by omega, by omega⟩
  | (show CPw _ _; decide +kernel)
  | (show (0 : Int) < _; decide +kernel)
  | (show CDivW _ _; first | assumption | exact ⟨by decide, by decide +kernel⟩))
local macro_rules | `(tactic| walk_at "here") => `(tactic| first
  | assumption
  | exact upd_same
  | exact Or.inl (Or.inl upd_same)
  | exact Or.inl upd_same)
local macro_rules | `(tactic| walk_at "one") => `(tactic| first
  | refine ⟨_, rfl, ?_⟩
  | refine Or.inl ⟨_, rfl, ?_⟩
  | refine Or.inr ⟨_, rfl, ?_⟩
  | refine ⟨_, _, rfl, rfl, (by walk_at "side"), ?_⟩
  | refine ⟨_, _, rfl, rfl, ?_⟩
  | refine ⟨_, _, rfl, Or.inl (by walk_at "here"), ?_⟩
  | refine ⟨_, _, rfl, Or.inr (by walk_at "here"), ?_⟩
  | refine ⟨_, _, rfl, (by walk_at "here"), ?_⟩
  | refine ⟨_, _, _, _, rfl, rfl, (by walk_at "here"), rfl, ?_⟩
  | refine ⟨_, _, rfl, ?_⟩
  | refine ifT (by rfl) ?_
  | refine ifF (by rfl) ?_
  | refine ifT (decide_eq_true (by omega)) ?_
  | refine ifF (decide_eq_false (by omega)) ?_)
local macro_rules | `(tactic| walk_at "st") => `(tactic| repeat (walk_at "one"))

section
variable {P : Program} {w : World} {K : PySem.W.Frag} {mg : Str → Option Value} {base : Heap}
def spKText (K : PySem.W.Frag) : Sp := fun vs H Q _ => ∃ (a : Addr) (ks : List Int), vs = [.ref a] ∧ SqT K H a (ks.map V.int) ∧ ks.length ≤ 8 ∧ (∀ k ∈ ks, k.natAbs < 10 ^ 61) ∧ ∀ H' (z : Str), Same H H' → z.length ≤ 600 → Q (.str z) H'
theorem scKindsTextL : FnScope ["_law_kinds", "_law_found", "_law_index", "_law_number_here", "_law_size", "_law_lead"] ["_law_kinds"] (defScope sKindsTextL) :=
  ⟨rfl, rfl, rfl, by decide +kernel, rfl, by decide +kernel, by decide +kernel⟩
theorem dKindsTextL (T : Tx K mg) : Def P w K mg base CX0 1 "_law_kinds_text" ["_law_kinds"] (spKText K) := by
  refine T.t_law_kinds_text.def_ (N := ["_law_kinds", "_law_found", "_law_index", "_law_number_here", "_law_size", "_law_lead"]) scKindsTextL (fun _ _ _ _ _ _ us hl => match us, hl with | [_], _ => rfl) ?_ ?_
  · intro vs H Q E h
    obtain ⟨a, ks, rfl, _⟩ := h
    rfl
  · intro f cd A out s H vs Q E hr h
    obtain ⟨a, ks, rfl, S, l8, big, q⟩ := h
    refine ⟨_, (pss_cons (ps_set (i := 1) scKindsTextL.nd rfl (Or.inl rfl) pe_str)
      (pss_cons (ps_for PassesOwn.never rfl (pi_enumT rfl T.f_enumerate (pa_cons (pv 0) pa_nil)) (pg_tup rfl (pgs_cons (pg_name (i := 2) scKindsTextL.nd rfl (Or.inl rfl)) (pgs_cons (pg_name (i := 3) scKindsTextL.nd rfl (Or.inl rfl)) pgs_nil)))
        (pss_one (ps_if (pt_cmpR op_ne (pv 3) pe_int (nomark _)) (pss_cons (ps_set (i := 4) scKindsTextL.nd rfl (Or.inl rfl) (pe_ifExp (pt_cmpR op_eq (pe_callB call_abs rfl T.f_abs (by decide +kernel) (pa_cons (pv 3) pa_nil)) pe_int (nomark _)) pe_str (pe_callTy call_str_int rfl T.f_str (by decide +kernel) (pa_cons (pe_callB call_abs rfl T.f_abs (by decide +kernel) (pa_cons (pv 3) pa_nil)) pa_nil))))
          (pss_cons (ps_set (i := 5) scKindsTextL.nd rfl (Or.inl rfl) (pe_ifExp (pt_cmpR op_lt (pv 3) pe_int (nomark _)) pe_str pe_str))
          (pss_cons (ps_if (pt_cmpR op_ne (pv 1) pe_str (nomark _)) (pss_one (ps_set (i := 5) scKindsTextL.nd rfl (Or.inl rfl) (pe_ifExp (pt_cmpR op_lt (pv 3) pe_int (nomark _)) pe_str pe_str))) pss_nil)
          (pss_one (ps_set (i := 1) scKindsTextL.nd rfl (Or.inl rfl) (pe_op op_add_str (pe_op op_add_str (pe_op op_add_str (pe_op op_add_str (pe_op op_add_str (pv 1) (pv 5)) (pv 4)) pe_str) (pe_callTy call_str_int rfl T.f_str (by decide +kernel) (pa_cons (pv 2) pa_nil))) pe_str)))))) pss_nil)))
      (pss_one (ps_ret (pe_ifExp (pt_cmpR op_ne (pv 1) pe_str (nomark _)) (pv 1) pe_str))))), ?_⟩
    refine ⟨_, rfl, a, _, rfl, S, ?_⟩
    refine for_enumT (K := K) (a := a) (xs := ks.map V.int) (fun i σ H3 => Same H H3 ∧ ∃ (f : Str) (x2 x3 x4 x5 : Option V), σ = [some (.ref a), some (.str f), x2, x3, x4, x5] ∧ f.length ≤ 72 * i)
      ⟨Same.refl H, "", _, _, _, _, rfl, Nat.zero_le _⟩ (fun i σ H3 _ h => same_sqt h.1 S) ?_ ?_
    · rintro i u σ H3 T hu ⟨S3, f, x2, x3, x4, x5, rfl, lf⟩ fT
      obtain ⟨li, eu⟩ := List.getElem?_eq_some_iff.mp hu
      rw [List.length_map] at li
      have mu : u ∈ ks.map V.int := List.mem_of_getElem? hu
      obtain ⟨k, mk, rfl⟩ := List.mem_map.mp mu
      have bk := big k mk
      have S4 : Same H (upd H3 T (.tup [.int (i : Nat), .int k])) := S3.trans (same_new fT)
      have eT : (upd H3 T (.tup [.int (i : Nat), .int k])) T = some (.tup [.int (i : Nat), .int k]) := upd_same
      generalize upd H3 T _ = H4 at S4 eT ⊢
      refine ⟨T, _, rfl, .inl (.inl eT), rfl, _, _, rfl, ?_⟩
      refine ⟨_, _, rfl, rfl, ?_⟩
      refine ⟨_, rfl, rfl, _, rfl, ite2 (fun _ => ?_) (fun _ => ⟨S4, f, _, _, _, _, rfl, by omega⟩)⟩
      have ab : (if k < 0 then -k else k).natAbs = k.natAbs := by split <;> omega
      have lg : ∀ j : Int, j.natAbs < 10 ^ 61 → j.natAbs.log2 < 1920 := fun j hj => by
        by_cases z : j.natAbs = 0
        · rw [z]
          decide
        · rw [Nat.log2_lt z]
          exact Nat.lt_trans hj (by decide +kernel)
      have li61 : ((i : Int)).natAbs < 10 ^ 61 := Nat.lt_of_lt_of_le (by omega : ((i : Int)).natAbs < 8) (by decide +kernel)
      have lix : (Str.ofString (toString (i : Int))).length ≤ 2 := int_len (k := 1) (by omega) (by omega)
      refine ⟨_, rfl, k, rfl, rfl, _, rfl, ite2 (fun _ => ?a) (fun _ => ?b)⟩
      case' b =>
        refine ⟨_, rfl, k, rfl, _, rfl, by rw [ab]; exact lg k bk, ?_⟩
        have lsz : (Str.ofString (toString (if k < 0 then -k else k))).length ≤ 62 := int_len (k := 61) (by omega) (by rw [ab]; exact bk)
        generalize Str.ofString (toString (if k < 0 then -k else k)) = sz at lsz
      case' a =>
        have lsz : ("" : Str).length ≤ 62 := by decide
      all_goals
        have n0 : ("" : Str).length = 0 := rfl
        have n1 : ("-" : Str).length = 1 := rfl
        have n2 : (" - " : Str).length = 3 := rfl
        have n3 : (" + " : Str).length = 3 := rfl
        have n4 : ("[" : Str).length = 1 := rfl
        have n5 : ("]" : Str).length = 1 := rfl
        have nn := sizeLine_eq
        refine ⟨_, rfl, _, _, rfl, rfl, _, rfl, ite2 (fun _ => ?_) (fun _ => ?_)⟩
        all_goals
          refine ⟨_, rfl, rfl, _, rfl, ite2 (fun _ => ?_) (fun _ => ?_)⟩
          case' refine_1 => refine ⟨_, rfl, _, _, rfl, rfl, _, rfl, ite2 (fun _ => ?_) (fun _ => ?_)⟩
          all_goals
            refine ⟨_, rfl, _, rfl, _, _, rfl, rfl, ?_, _, rfl, _, _, rfl, rfl, ?_, _, _, rfl, rfl, ?_, _, rfl, (i : Int), rfl, lg _ li61, _, _, rfl, rfl, ?_, _, _, rfl, rfl, ?_, ⟨S4, _, _, _, _, _, rfl, ?_⟩⟩
            all_goals
              try simp only [app_len]
              omega
    · rintro σ H3 ⟨S3, f, x2, x3, x4, x5, rfl, lf⟩
      rw [List.length_map] at lf
      refine ⟨_, rfl, rfl, _, rfl, ite2 (fun _ => ⟨_, rfl, q _ f S3 (by omega)⟩) (fun _ => q _ "0" S3 (by decide))⟩
theorem joinS_len (a : Str) : ∀ ys : List Str, (Str.join a ys).length ≤ (ys.map (·.length)).sum + ys.length * a.length
  | [] => Nat.zero_le _
  | [y] => by
    show y.length ≤ _
    simp
  | y :: z :: r => by
    have ih := joinS_len a (z :: r)
    show (y ++ a ++ Str.join a (z :: r)).length ≤ _
    rw [app_len, app_len]
    simp only [List.map_cons, List.sum_cons, List.length_cons, Nat.add_mul] at ih ⊢
    omega
theorem join_len (a : Str) (ys : List Str) : (Txt.join a ys).length ≤ (ys.map (·.length)).sum + ys.length * a.length := by
  rw [TL.join_eq]
  exact joinS_len a ys
theorem sum_le {B : Nat} : ∀ {ys : List Str}, (∀ y ∈ ys, y.length ≤ B) → (ys.map (·.length)).sum ≤ ys.length * B
  | [], _ => Nat.zero_le _
  | y :: r, h => by
    have ih := sum_le (ys := r) fun x hx => h x (List.mem_cons_of_mem _ hx)
    have := h y List.mem_cons_self
    simp only [List.map_cons, List.sum_cons, List.length_cons, Nat.add_mul]
    omega
/-! data of tuples of places -/
def dM (m : List Nat) : PyData := .tuple ((m.map fun (k : Nat) => (k : Int)).map PyData.int)
theorem mv_ints (m : List Nat) : mv m = (m.map fun (k : Nat) => (k : Int)).map V.int := by
  unfold mv
  rw [List.map_map]
  rfl
theorem dp_mv {H : Hp} {a : Addr} {m : List Nat} (S : SqT K H a (mv m)) : Dp K H (.ref a) (dM m) := by
  rw [mv_ints] at S
  exact .tup S (dp_ints _)
theorem dM_eqv (m l : List Nat) : PyData.eqv (dM m) (dM l) = decide (m = l) := by
  show PyData.eqvAll _ _ = _
  rw [eqvAll_ints]
  refine decide_eq_decide.mpr ⟨fun h => ?_, fun h => by rw [h]⟩
  exact (List.map_inj_right (fun a b e => by omega)).mp h
theorem dp_refs {H : Hp} {us : List V} {R : List (List Nat)} (h : Refs K H us R) : DpAll K H us (R.map dM) := by
  unfold Refs at h
  induction h with
  | nil => exact .nil
  | cons h _ ih =>
    obtain ⟨a, rfl, S⟩ := h
    exact .cons (dp_mv S) ih
theorem lay_dms : ∀ R : List (List Nat), PyData.canLayAll0 (R.map dM) = true
  | [] => rfl
  | r :: R => by
    show (PyData.canLay0 (dM r) && PyData.canLayAll0 (R.map dM)) = true
    rw [lay_dms R, show PyData.canLay0 (dM r) = true from lay_ints _]
    rfl
theorem dep_dms : ∀ R : List (List Nat), PyData.depthAll (R.map dM) ≤ 3
  | [] => by decide
  | r :: R => by
    have := dep_dms R
    have h := dep_ints (r.map fun (k : Nat) => (k : Int))
    have h2 : PyData.depth (dM r) ≤ 2 := by
      unfold dM
      simp only [PyData.depth]
      omega
    simp only [List.map_cons, PyData.depthAll]
    omega
theorem shaped_dml (R : List (List Nat)) : SeqAt.shaped (.list (R.map dM)) = true := by
  unfold SeqAt.shaped
  have h := dep_dms R
  rw [show PyData.canLay0 (.list (R.map dM)) = true from lay_dms R, Bool.true_and]
  refine decide_eq_true ?_
  simp only [PyData.depth]
  omega
def spMText (K : PySem.W.Frag) : Sp := fun vs H Q _ => ∃ a m, vs = [.ref a] ∧ SqT K H a (mv m) ∧ Mv m ∧ ∀ H' (z : Str), Same H H' → z.length ≤ 2400 → Q (.str z) H'
theorem scMoveTextL : FnScope ["_law_move", "_law_rings", "_law_ring", "_law_place"] ["_law_move"] (defScope sMoveTextL) :=
  ⟨rfl, rfl, rfl, by decide +kernel, rfl, by decide +kernel, by decide +kernel⟩
theorem dMoveTextL (T : Tx K mg) (DCyclesL : Def P w K mg base CX0 1 "_law_cycles" ["_law_move"] (spCycL K)) : Def P w K mg base CX0 2 "_law_move_text" ["_law_move"] (spMText K) := by
  refine T.t_law_move_text.def_ (N := ["_law_move", "_law_rings", "_law_ring", "_law_place"]) scMoveTextL (fun _ _ _ _ _ _ us hl => match us, hl with | [_], _ => rfl) ?_ ?_
  · intro vs H Q E h
    obtain ⟨a, m, rfl, _⟩ := h
    rfl
  · intro f cd A out s H vs Q E hr h
    have hr1 : Rm 1 _ := hr.le (by decide)
    obtain ⟨a, m, rfl, S, hm, q⟩ := h
    refine ⟨_, (pss_cons (ps_setLc (i := 1) (own := [("_law_ring", 2)]) (g := gName 2) rfl scMoveTextL.nd rfl rfl (sw_true rfl rfl rfl rfl) (pi_list (pe_d DCyclesL (hr1.le (by decide)) pass0 (pa_cons (pv 0) pa_nil))) (blkOk_by (N := ["_law_move", "_law_rings", "_law_ring", "_law_place"]) (sc := defScope sMoveTextL) (by decide +kernel)) (fun _ _ _ _ _ => pg_name (i := 2) scMoveTextL.nd rfl (Or.inl rfl)) (fun _ _ _ _ _ => (pts_one (pt_cmpR op_gt (pe_callB (cr_lenK (K := K) rfl) rfl T.f_len (by decide +kernel) (pa_cons (pv 2) pa_nil)) pe_int (nomark _)))) (fun _ _ _ _ _ => (pv 2)))
      (pss_one (ps_ret (pe_ifExp (pt_cmpR (op_neD hr.hu) (pv 1) (pe_lst pa_nil) (nomark _)) (pe_join pe_str (pe_lc (own := [("_law_ring", 2)]) (g := gName 2) (tt := tYes) rfl scMoveTextL.nd (pi_list (pv 1)) (blkOk_by (N := ["_law_move", "_law_rings", "_law_ring", "_law_place"]) (sc := defScope sMoveTextL) (by decide +kernel)) (fun _ _ _ _ _ => pg_name (i := 2) scMoveTextL.nd rfl (Or.inl rfl)) (fun _ _ _ _ _ => pts_nil) (fun _ _ _ _ _ => (pe_op op_add_str (pe_op op_add_str pe_str (show PE _ _ (tM1 (rJn K) _ _) from pe_join pe_str (pe_lc (own := [("_law_place", 3)]) (g := gName 3) (tt := tYes) rfl scMoveTextL.nd (show PI _ _ _ (iTup K _) from pi_tup (pv 2)) (blkOk_by (N := ["_law_move", "_law_rings", "_law_ring", "_law_place"]) (sc := _) (by kernel_rfl)) (fun _ _ _ _ _ => pg_name (i := 3) scMoveTextL.nd rfl (Or.inl rfl)) (fun _ _ _ _ _ => pts_nil) (fun _ _ _ _ _ => (pe_callTy call_str_int rfl T.f_str (by decide +kernel) (pa_cons (pv 3) pa_nil)))))) pe_str)))) pe_str)))), ?_⟩
    have pm := pm_of hm
    have m24 := hm.2.2.2
    have gd := rings_good pm m.length (Nat.le_refl _)
    have r24 : ∀ r ∈ rings (fn' m) m.length, r.length ≤ 24 ∧ ∀ x ∈ r, x < 24 := by
      intro r hr
      refine ⟨?_, fun x hx => ?_⟩
      · obtain ⟨p, hp, rfl⟩ := gd.each r hr
        rw [ringOf_len]
        have := (lenOf_ok pm hp).1
        omega
      · have := gd.below x (List.mem_flatten.mpr ⟨r, hr, hx⟩)
        omega
    have rl : (rings (fn' m) m.length).length ≤ 24 := by
      have := ringsTo_len (fn' m) m.length m.length
      show (ringsTo (fn' m) m.length m.length).length ≤ 24
      omega
    refine ⟨_, rfl, a, m, rfl, S, hm, fun H1 L us s1 L0 hL rf => ?_⟩
    have ul : us.length ≤ 24 := by
      have : us.length = _ := Paired.length rf
      omega
    generalize rings (fn' m) m.length = R at rf r24 rl
    refine ⟨L, rfl, ⟨_, .inl (.inl hL)⟩, fun D nD => ?_⟩
    refine lc_list (xs := us) (fun i H => ∃ (sel : List V) (R' : List (List Nat)), H = upd H1 D (.lst sel) ∧ Refs K H1 sel R' ∧ sel.length ≤ i ∧ ∀ r ∈ R', r ∈ R) ⟨[], [], rfl, .nil, Nat.le_refl _, fun r hr => by cases hr⟩
      (fun i H _ h => by
        obtain ⟨sel, R', rfl, _⟩ := h
        exact sql_new (.inl (.inl hL)) nD) ?_ ?_
    · rintro i x H2 hx ⟨sel, R', rfl, rf', ls, sub⟩
      obtain ⟨r, t, hr, rfl, St⟩ := rf.get hx
      have mr := List.mem_of_getElem? hr
      obtain ⟨lt, _⟩ := List.getElem?_eq_some_iff.mp hx
      refine ⟨wipe_one, ?_⟩
      refine ⟨_, rfl, t, _, rfl, .inr (sqt_new St nD), _, _, rfl, rfl, _, rfl, ite2 (fun _ => ?_) (fun _ => ?_)⟩
      · refine ⟨_, rfl, sel, upd_same, by rw [sizeLine_eq]; omega, ?_⟩
        refine ⟨sel ++ [.ref t], R' ++ [r], by rw [upd_upd], rf'.snoc St, by rw [List.length_append]; show sel.length + 1 ≤ i + 1; omega, fun r' h => ?_⟩
        rcases List.mem_append.mp h with h | h
        · exact sub r' h
        · rw [List.mem_singleton.mp h]
          exact mr
      · exact ⟨sel, R', rfl, rf', by omega, sub⟩
    · rintro H2 ⟨sel, R', rfl, rf', ls, sub⟩
      have S2 : Same H (upd H1 D (.lst sel)) := s1.trans (same_new nD)
      have eD : (upd H1 D (.lst sel)) D = some (.lst sel) := upd_same
      have rf2 := rf'.same (same_new nD (o := .lst sel))
      generalize upd H1 D _ = H2 at S2 eD rf2 ⊢
      refine ⟨_, rfl, by show 0 ≤ sizeLine; decide, fun E1 nE => ?_⟩
      have S3 := S2.trans (same_new nE (o := .lst []))
      have eD3 := same_new nE (o := .lst []) _ _ eD
      have rf3 := rf2.same (same_new nE (o := .lst []))
      refine ⟨.list (R'.map dM), .list [], .lst (.inl (.inl eD3)) (dp_refs rf3), .lst (.inl (.inl upd_same)) .nil, shaped_dml _, by decide, ?_⟩
      generalize upd H2 E1 _ = H3 at S3 eD3 rf3 ⊢
      refine ⟨_, rfl, ite2 (fun _ => ?_) (fun _ => ?_)⟩
      · refine ⟨⟨_, rfl⟩, _, rfl, D, rfl, ⟨_, .inl (.inl eD3)⟩, fun D2 nD2 => ?_⟩
        have DD2 : D ≠ D2 := ne_of_none eD3 nD2
        refine lc_list (xs := sel) (fun i H => Same H3 H ∧ ∃ ts : List Str, H D2 = some (.lst (ts.map V.str)) ∧ ts.length = i ∧ ∀ t ∈ ts, t.length ≤ 98) ⟨same_new nD2, [], upd_same, rfl, fun t ht => by cases ht⟩
          (fun i H _ h => .inl (.inl (h.1 _ _ eD3))) ?_ ?_
        · rintro i x H4 hx ⟨S4, ts, h4, lts, t98⟩
          obtain ⟨r, t, hr, rfl, St⟩ := rf3.get hx
          have mr := sub r (List.mem_of_getElem? hr)
          obtain ⟨rl24, rx⟩ := r24 r mr
          obtain ⟨lt, _⟩ := List.getElem?_eq_some_iff.mp hx
          refine ⟨wipe_one, ?_⟩
          refine ⟨⟨_, rfl⟩, _, rfl, t, rfl, ⟨_, same_sqt S4 St⟩, fun D3 nD3 => ?_⟩
          refine lc_tplF (fun _ => true) (fun x => match x with | .int i => .str (Str.ofString (toString i)) | _ => .non) (same_sqt S4 St) nD3 (by rw [mv_len, sizeLine_eq]; omega) (fun x acc hx Q' q' => q') ?_ ?_
          · intro x acc hx _ Q' q'
            obtain ⟨k, hk, rfl⟩ := List.mem_map.mp hx
            have := rx k hk
            refine ⟨_, rfl, (k : Int), rfl, ?_, q'⟩
            have k24 : ((k : Int)).natAbs < 24 := by omega
            exact Nat.lt_of_le_of_lt (Nat.log2_le_self _) (by omega)
          · have D2D3 : D2 ≠ D3 := ne_of_none h4 nD3
            have em : ((mv r).filter fun _ => true).map (fun x => match x with | .int i => V.str (Str.ofString (toString i)) | _ => .non) = (r.map fun (k : Nat) => Str.ofString (toString (k : Int))).map V.str := by
              rw [List.filter_eq_self.mpr (fun _ _ => rfl), List.map_map]
              unfold mv
              rw [List.map_map]
              rfl
            rw [em]
            have S5 : Same H3 (upd H4 D3 (.lst ((r.map fun (k : Nat) => Str.ofString (toString (k : Int))).map V.str))) := S4.trans (same_new nD3)
            have h5 : (upd H4 D3 (.lst ((r.map fun (k : Nat) => Str.ofString (toString (k : Int))).map V.str))) D2 = _ := (upd_ne D2D3).trans h4
            have e5 : (upd H4 D3 (.lst ((r.map fun (k : Nat) => Str.ofString (toString (k : Int))).map V.str))) D3 = _ := upd_same
            have b3 : ∀ y ∈ r.map fun (k : Nat) => Str.ofString (toString (k : Int)), y.length ≤ 3 := by
              intro y hy
              obtain ⟨k, hk, rfl⟩ := List.mem_map.mp hy
              have := rx k hk
              exact int_len (k := 2) (by omega) (by omega)
            have ln : (r.map fun (k : Nat) => Str.ofString (toString (k : Int))).length ≤ 24 := by rw [List.length_map]; exact rl24
            generalize (r.map fun (k : Nat) => Str.ofString (toString (k : Int))) = ys at S5 h5 e5 b3 ln ⊢
            generalize upd H4 D3 _ = H5 at S5 h5 e5 ⊢
            have j1 := join_len " " ys
            have j2 := sum_le b3
            have n1 : (" " : Str).length = 1 := rfl
            have n2 : ("(" : Str).length = 1 := rfl
            have n3 : (")" : Str).length = 1 := rfl
            rw [n1] at j1
            have jl : (Txt.join " " ys).length ≤ 96 := by omega
            have nn := sizeLine_eq
            refine ⟨_, D3, ys, rfl, rfl, .inl (.inl (.inl e5)), by rw [n1]; omega, _, _, rfl, rfl, by omega, _, _, rfl, rfl, by rw [app_len]; omega, _, h5, by rw [List.length_map]; omega, ?_⟩
            refine ⟨fun b o h => ?_, ts ++ ["(" ++ Txt.join " " ys ++ ")"], ?_, by rw [List.length_append, lts]; rfl, ?_⟩
            · rw [upd_ne (ne_of_none h nD2)]
              exact S5 b o h
            · rw [upd_same, List.map_append]
              rfl
            · intro t ht
              rcases List.mem_append.mp ht with ht | ht
              · exact t98 t ht
              · rw [List.mem_singleton.mp ht, app_len, app_len]
                omega
        · rintro H4 ⟨S4, ts, h4, lts, t98⟩
          have j1 := join_len "" ts
          have j2 := sum_le t98
          have n0 : ("" : Str).length = 0 := rfl
          rw [n0] at j1
          refine ⟨"", D2, ts, rfl, rfl, .inl (.inl (.inl h4)), by rw [n0]; omega, ?_⟩
          exact q _ _ (S3.trans S4) (by omega)
      · exact q _ _ S3 (by decide)
end
end K85


set_option Elab.async false
set_option linter.all false
set_option maxRecDepth 100000
set_option maxHeartbeats 2000000
namespace K85
open PySem PySem.Spec PyProof.Rows L2 MM PySem.NumText
/-! own words for the readings: a step, its side -/
local macro_rules | `(tactic| walk_at "side") => `(tactic| first
  | omega
  | exact ⟨by omega, by omega⟩
  | exact Or.inl ⟨by omega, by omega⟩
  | exact Or.inr ⟨by omega, by omega⟩
  | (show CPw _ _; decide +kernel)
  | (show (0 : Int) < _; decide +kernel)
  | (show CDivW _ _; first | assumption | exact ⟨by decide, by decide +kernel⟩))
local macro_rules | `(tactic| walk_at "here") => `(tactic| first
  | assumption
  | exact upd_same
  | exact Or.inl (Or.inl upd_same)
  | exact Or.inl upd_same)
local macro_rules | `(tactic| walk_at "one") => `(tactic| first
  | refine ⟨_, rfl, ?_⟩
  | refine Or.inl ⟨_, rfl, ?_⟩
  | refine Or.inr ⟨_, rfl, ?_⟩
  | refine ⟨_, _, rfl, rfl, (by walk_at "side"), ?_⟩
  | refine ⟨_, _, rfl, rfl, ?_⟩
  | refine ⟨_, _, rfl, Or.inl (by walk_at "here"), ?_⟩
  | refine ⟨_, _, rfl, Or.inr (by walk_at "here"), ?_⟩
  | refine ⟨_, _, rfl, (by walk_at "here"), ?_⟩
  | refine ⟨_, _, _, _, rfl, rfl, (by walk_at "here"), rfl, ?_⟩
  | refine ⟨_, _, rfl, ?_⟩
  | refine ifT (by rfl) ?_
  | refine ifF (by rfl) ?_
  | refine ifT (decide_eq_true (by omega)) ?_
  | refine ifF (decide_eq_false (by omega)) ?_)
local macro_rules | `(tactic| walk_at "st") => `(tactic| repeat (walk_at "one"))

/-! what a walk asks grows with what is wished -/
local macro_rules | `(tactic| walk_at "mono") => `(tactic| first
  | exact fun m h => m _ _ h
  | (refine MM.ite_mono ?_ ?_ <;> walk_at "mono")
  | (refine MM.or_mono ?_ ?_ <;> walk_at "mono")
  | (rintro m ⟨a, h⟩; refine ⟨a, ?_⟩; revert m h; walk_at "mono")
  | (intro m h z; have h2 := h z; clear h; revert m h2; walk_at "mono"))
section
variable {P : Program} {w : World} {K : PySem.W.Frag} {mg : Str → Option Value} {base : Heap}
/-! one sign of a text by its index -/
section
variable {z sg : Str} {k e c : Nat} {σ : L2.St} {H : Hp} {Qb : Bool → Hp → Prop}
theorem one_eq (lt : e < (cds z).length) (hs : sg = ⟨#[c]⟩) : decide (V.str ⟨#[(cds z)[e]]⟩ = V.str sg) = isAt (cds z) e c := by
  rw [hs]
  unfold isAt
  rw [List.getElem?_eq_getElem lt]
  refine decide_eq_decide.mpr ⟨fun h => ?_, fun h => ?_⟩
  · injection h with h
    injection h with h
    have h3 := congrArg Array.toList h
    congr 1
    simpa using h3
  · rw [Option.some.inj h]
theorem ix_eq (h0 : σ[0]? = some (some (.str z))) (hk : σ[k]? = some (some (.int (e : Int)))) (hz : z.length ≤ 4000) (lt : e < (cds z).length) (hs : sg = ⟨#[c]⟩) (q : Qb (isAt (cds z) e c) H) :
    tTest (tOp rEq (tOp rIxS (tVar 0) (tVar k)) (tC (V.str sg))) σ H Qb := by
  refine ⟨_, h0, _, hk, z, e, (cds z)[e], rfl, rfl, line4000 hz, atI_nat (List.getElem?_eq_getElem lt), rfl, ?_⟩
  rw [one_eq lt hs]
  exact ⟨_, rfl, q⟩
theorem ix_ne (h0 : σ[0]? = some (some (.str z))) (hk : σ[k]? = some (some (.int (e : Int)))) (hz : z.length ≤ 4000) (lt : e < (cds z).length) (hs : sg = ⟨#[c]⟩) (q : Qb (!isAt (cds z) e c) H) :
    tTest (tOp rNe (tOp rIxS (tVar 0) (tVar k)) (tC (V.str sg))) σ H Qb := by
  refine ⟨_, h0, _, hk, z, e, (cds z)[e], rfl, rfl, line4000 hz, atI_nat (List.getElem?_eq_getElem lt), rfl, ?_⟩
  rw [one_eq lt hs]
  exact ⟨_, rfl, q⟩
end
section
variable {cs : List Nat} {s : Nat}
/-- where the digits begin -/
def sgAt (cs : List Nat) (s : Nat) : Nat := if isAt cs s 45 = true then s + 1 else s
theorem signed_no (d : dg cs (sgAt cs s) = false) : signedR cs s = .error (sgAt cs s) := by
  unfold sgAt at d ⊢
  unfold signedR lessR
  cases b : isAt cs s 45 with
  | false =>
    rw [b] at d
    simp only [Bool.false_eq_true, if_false] at d ⊢
    unfold plainR
    rw [if_neg (by rw [d]; decide)]
  | true =>
    rw [b] at d
    simp only [if_true] at d ⊢
    cases b2 : isAt cs (s + 1) 48 with
    | true => rfl
    | false =>
      simp only [Bool.false_eq_true, if_false]
      unfold plainR
      rw [if_neg (by rw [d]; decide)]
theorem signed_zero (b : isAt cs s 45 = true) (b2 : isAt cs (s + 1) 48 = true) : signedR cs s = .error (s + 1) := by
  unfold signedR lessR
  rw [if_pos b, if_pos b2]
theorem signed_ok (d : dg cs (sgAt cs s) = true) (n : ¬ (isAt cs s 45 = true ∧ isAt cs (s + 1) 48 = true)) : signedR cs s = .ok (sgn (isAt cs s 45) (valP cs (sgAt cs s)), endP cs (sgAt cs s)) := by
  unfold sgAt at d ⊢
  unfold signedR lessR
  cases b : isAt cs s 45 with
  | false =>
    rw [b] at d
    simp only [Bool.false_eq_true, if_false] at d ⊢
    unfold plainR
    rw [if_pos d]
  | true =>
    rw [b] at d
    have b2 : isAt cs (s + 1) 48 = false := by
      cases h : isAt cs (s + 1) 48 with
      | false => rfl
      | true => exact absurd ⟨b, h⟩ n
    simp only [if_true, b2, Bool.false_eq_true, if_false] at d ⊢
    unfold plainR
    rw [if_pos d]
/-- a row from its next integer on -/
def rowIn (cs : List Nat) (f : Nat) (row : List Int) (s : Nat) : Rd (List Int) := match signedR cs s with
  | .error j => .error j
  | .ok (n, e) => rowGo cs f (row ++ [n]) e
theorem rowIn_no {f : Nat} {row : List Int} {j : Nat} (h : signedR cs s = .error j) : rowIn cs f row s = .error j := by
  unfold rowIn
  rw [h]
theorem rowIn_end {f : Nat} {row : List Int} {n : Int} {e : Nat} (h : signedR cs s = .ok (n, e)) (l : ¬ e < cs.length) : rowIn cs f row s = .ok (row ++ [n]) := by
  unfold rowIn
  rw [h]
  exact rowGo_end l
theorem rowIn_bad {f : Nat} {row : List Int} {n : Int} {e : Nat} (h : signedR cs s = .ok (n, e)) (l : e < cs.length) (b : isAt cs e 44 = false) : rowIn cs (f + 1) row s = .error e := by
  unfold rowIn
  rw [h]
  show (if _ then _ else _) = _
  rw [if_pos l, behind_no b]
theorem rowIn_step {f : Nat} {row : List Int} {n : Int} {e : Nat} (h : signedR cs s = .ok (n, e)) (l : e < cs.length) (b : isAt cs e 44 = true) : rowIn cs (f + 1) row s = rowIn cs f (row ++ [n]) (e + 1) := by
  unfold rowIn
  rw [h]
  show (if _ then _ else _) = _
  rw [if_pos l, behind_ok b]
  all_goals rfl
end
/-- what the law tells of a text -/
def rTell1 (x : Str) (H : Hp) (Q : VK) : Prop := ∀ H' u, Same H H' → H' u = some (.tup [.str x]) → Q (.ref u) H'
def rTell2 (j : Nat) (H : Hp) (Q : VK) : Prop := ∀ H' u, Same H H' → H' u = some (.tup [.str "parse", .int (j : Nat)]) → Q (.ref u) H'
def rTold (K : PySem.W.Frag) (xs : List V) (H : Hp) (Q : VK) : Prop := ∀ H' t u, Same H H' → SqT K H' t xs → H' u = some (.tup [.str "told", .ref t]) → Q (.ref u) H'
def spRowL (K : PySem.W.Frag) : Sp := fun vs H Q _ => ∃ z : Str, vs = [.str z] ∧ z.length ≤ 3000 ∧ match rowR (cds z) with
  | .error j => rTell2 j H Q
  | .ok row => if row.length ≤ 60 then rTold K (row.map V.int) H Q else rTell1 "row" H Q
theorem scRowReadL : FnScope ["_law_text", "_law_found", "_law_here", "_law_is_open", "_law_sign", "_law_size"] ["_law_text"] (defScope sRowReadL) :=
  ⟨rfl, rfl, rfl, by decide +kernel, rfl, by decide +kernel, by decide +kernel⟩
theorem dRowReadL (T : Tx K mg) (DFiguresL : Def P w K mg base CX0 1 "_law_figures" ["_law_text", "_law_at"] spFigs) : Def P w K mg base CX0 2 "_law_row_read" ["_law_text"] (spRowL K) := by
  refine T.t_law_row_read.def_ (N := ["_law_text", "_law_found", "_law_here", "_law_is_open", "_law_sign", "_law_size"]) scRowReadL (fun _ _ _ _ _ _ us hl => match us, hl with | [_], _ => rfl) ?_ ?_
  · intro vs H Q E h
    obtain ⟨z, rfl, _⟩ := h
    rfl
  · intro f cd A out s H vs Q E hr h
    have hr1 : Rm 1 _ := hr.le (by decide)
    obtain ⟨z, rfl, hz, q⟩ := h
    refine ⟨_, (pss_cons (ps_par3 (i := 1) (j := 2) (l := 3) rfl scRowReadL.nd rfl rfl rfl (by decide) (by decide) (by decide) rfl rfl rfl (pa_cons (pe_lst pa_nil) (pa_cons pe_int (pa_cons pe_bl pa_nil))) (by rfl))
      (pss_cons (ps_while PassesOwn.never (pt_val (pv 3))
        (pss_cons (ps_set (i := 4) scRowReadL.nd rfl (Or.inl rfl) pe_int)
        (pss_cons (ps_if (pt_cmpR op_eq (pe_slice sl_str (pv 0) (po_some (pv 2)) (po_some (pe_op op_add (pv 2) pe_int))) pe_str (nomark _)) (pss_one (ps_par (i := 4) (j := 2) rfl scRowReadL.nd rfl rfl (by decide) rfl rfl (pa_cons (pe_un un_neg pe_int) (pa_cons (pe_op op_add (pv 2) pe_int) pa_nil)) (by rfl))) pss_nil)
        (pss_cons (ps_set (i := 5) scRowReadL.nd rfl (Or.inl rfl) (pe_d DFiguresL (hr1.le (by decide)) pass0 (pa_cons (pv 0) (pa_cons (pv 2) pa_nil))))
        (pss_cons (ps_if (PW.pt (pw_or (pt_cmpR op_eq (pv 5) pe_int (nomark _)) (pw_or1 (PW.pt (pw_and (pt_cmpR op_lt (pv 4) pe_int (nomark _)) (pw_and1 (pt_cmpR op_eq (pe_ix ix_str (pv 0) (pv 2) (fun _ _ => rfl)) pe_str (nomark _)))))))) (pss_one (ps_ret (pe_tup (pa_cons pe_str (pa_cons (pv 2) pa_nil))))) pss_nil)
        (pss_cons (ps_expr (pe_bm PySem.F.plainAttrs_list PySem.F.slot_list_append PySem.F.type_list_append mt_append (pv 1) (pa_cons (pe_op op_mul (pv 4) (pe_callTy call_int_str rfl T.f_int (by decide +kernel) (pa_cons (pe_slice sl_str (pv 0) (po_some (pv 2)) (po_some (pe_op op_add (pv 2) (pv 5)))) pa_nil))) pa_nil)))
        (pss_cons (ps_set (i := 2) scRowReadL.nd rfl (Or.inl rfl) (pe_op op_add (pv 2) (pv 5)))
        (pss_cons (ps_if (pt_cmpR op_eq (pv 2) (pe_callB call_len_str rfl T.f_len (by decide +kernel) (pa_cons (pv 0) pa_nil)) (nomark _)) (pss_one (ps_ret (pe_ifExp (pt_cmpR op_le (pe_callB call_len_seq rfl T.f_len (by decide +kernel) (pa_cons (pv 1) pa_nil)) pe_int (nomark _)) (pe_tup (pa_cons pe_str (pa_cons (pe_callTy call_tuple_of rfl T.f_tuple (by decide +kernel) (pa_cons (pv 1) pa_nil)) pa_nil))) (pe_tup (pa_cons pe_str pa_nil))))) pss_nil)
        (pss_cons (ps_if (pt_cmpR op_ne (pe_ix ix_str (pv 0) (pv 2) (fun _ _ => rfl)) pe_str (nomark _)) (pss_one (ps_ret (pe_tup (pa_cons pe_str (pa_cons (pv 2) pa_nil))))) pss_nil)
        (pss_one (ps_set (i := 2) scRowReadL.nd rfl (Or.inl rfl) (pe_op op_add (pv 2) pe_int))))))))))))
      (pss_one (ps_ret (pe_tup (pa_cons pe_str pa_nil)))))), ?_⟩
    have hl := cds_len z
    have z4 : z.length ≤ 4000 := by omega
    have eR : rowR (cds z) = rowIn (cds z) (cds z).length [] 0 := rfl
    rw [eR] at q
    clear eR
    have hR : rowIn (cds z) ((cds z).length + 1) [] 0 = rowIn (cds z) (cds z).length [] 0 ∨ True := .inr trivial
    clear hR
    generalize hR : rowIn (cds z) (cds z).length [] 0 = R at q
    refine ⟨by show 0 ≤ sizeLine; decide, fun F fF => ?_⟩
    refine ⟨_, _, _, rfl, ?_⟩
    have fF0 : ∀ b o, H b = some o → b ≠ F := fun b o e => ne_of_none e fF
    have SF : Same H (upd H F (.lst [])) := same_new fF
    have eF : (upd H F (.lst [])) F = some (.lst (([] : List Int).map V.int)) := upd_same
    generalize upd H F _ = H1 at SF eF ⊢
    refine while_by (fun σ H3 => ∃ (row : List Int) (s f : Nat) (x4 x5 : Option V), σ = [some (.str z), some (.ref F), some (.int (s : Int)), some (.bl true), x4, x5] ∧ Same H H3 ∧ H3 F = some (.lst (row.map V.int)) ∧
        rowIn (cds z) f row s = R ∧ (cds z).length ≤ f + s ∧ row.length ≤ s ∧ s ≤ (cds z).length)
      (fun σ _ => match σ with | [_, _, some (.int e), _, _, _] => ((cds z).length - e).toNat | _ => 0) ?_ ?_ ?_
    · exact ⟨[], 0, (cds z).length, _, _, rfl, SF, eF, hR, by omega, Nat.zero_le _, Nat.zero_le _⟩
    · rintro σ H3 ⟨row, s, f, x4, x5, rfl, s3, h3, gR, fl, rl, sl⟩
      refine ⟨_, rfl, ?_⟩
      refine ⟨_, rfl, ?_⟩
      refine ifT rfl ?_
      refine at_eq (i := s) (c := 45) rfl rfl z4 (by decide +kernel) ?_
      cases b : isAt (cds z) s 45 with
      | false =>
        refine ifF rfl ?_
        have ea : sgAt (cds z) s = s := by
          unfold sgAt
          rw [b]
          rfl
        refine ⟨_, rfl, _, rfl, z, s, rfl, z4, ?_⟩
        refine ⟨_, rfl, rfl, _, rfl, ?_⟩
        cases d : dg (cds z) (s) with
        | false =>
          refine ifT (by rw [figs_no d]; rfl) ?_
          refine ifT rfl ?_
          rw [rowIn_no (signed_no (by rw [ea]; exact d))] at gR
          rw [← gR, ea] at q
          exact ⟨_, rfl, by show 2 ≤ sizeLine; decide, fun u fu => q _ u (s3.trans (same_new fu)) upd_same⟩
        | true =>
          obtain ⟨ef, ep, pl⟩ := figs_dg d
          obtain ⟨p1, p2⟩ := plainR_le pl
          refine ifF (by rw [decide_eq_false]; intro z0; injection z0; omega) ?_
          refine ⟨_, rfl, _, _, rfl, rfl, _, rfl, ?_⟩
          refine ifF rfl ?_
          refine ifF rfl ?_
          have nz : ¬ (isAt (cds z) s 45 = true ∧ isAt (cds z) (s + 1) 48 = true) := fun c => absurd (b.symm.trans c.1) (by decide)
          have sr : signedR (cds z) s = .ok (sgn false (valP (cds z) (s)), endP (cds z) (s)) := by
            have := signed_ok (cs := cds z) (s := s) (by rw [ea]; exact d) nz
            rw [ea, b] at this
            exact this
          have ee : ((s : Nat) : Int) + ((figs (cds z) (s) : Nat) : Int) = ((endP (cds z) (s) : Nat) : Int) := by omega
          obtain ⟨it, il⟩ := int_part (z := z) (endP_dg d) (by omega) (by have := endP_le (cds z) (s); omega)
          rw [← ee] at it il
          have room : (row.map V.int).length < sizeLine := by rw [List.length_map, sizeLine_eq]; omega
          refine ⟨_, rfl, .inl ⟨rfl, _, .inl (.inl h3)⟩, _, rfl, _, rfl, _, rfl, _, rfl, _, rfl, _, rfl, _, _, rfl, rfl, _, rfl, z, rfl, line4000 z4, _, _, rfl, it, il, _, _, rfl, rfl, .inl (by omega), F, _, _, rfl, rfl, h3, room, ?_⟩
          show tSeq _ _ _ _ (upd H3 F (.lst (row.map V.int ++ [V.int (1 * ((valP (cds z) (s) : Nat) : Int))])))
          have em : row.map V.int ++ [V.int (1 * ((valP (cds z) (s) : Nat) : Int))] = (row ++ [sgn false (valP (cds z) (s))]).map V.int := by
            rw [List.map_append]
            show _ = _ ++ [V.int (sgn false (valP (cds z) (s)))]
            unfold sgn
            congr 3
            simp
          rw [em]
          have s6 : Same H (upd H3 F (.lst ((row ++ [sgn false (valP (cds z) (s))]).map V.int))) := fun b o hb => (upd_ne (fF0 b o hb)).trans (s3 b o hb)
          have h6 : (upd H3 F (.lst ((row ++ [sgn false (valP (cds z) (s))]).map V.int))) F = some (.lst ((row ++ [sgn false (valP (cds z) (s))]).map V.int)) := upd_same
          have l6 : (row ++ [sgn false (valP (cds z) (s))]).length = row.length + 1 := by rw [List.length_append]; rfl
          generalize upd H3 F _ = H6 at s6 h6 ⊢
          refine ⟨_, rfl, _, rfl, _, _, rfl, rfl, ?_⟩
          show gName 2 (V.int (((s : Nat) : Int) + ((figs (cds z) (s) : Nat) : Int))) _ _ _
          rw [ee]
          clear it il em
          generalize sgn false (valP (cds z) (s)) = v at sr s6 h6 l6
          generalize endP (cds z) (s) = e at *
          refine ⟨_, rfl, _, rfl, z, rfl, line4000 z4, rfl, _, rfl, ?_⟩
          by_cases c : e < (cds z).length
          · refine ifF (by rw [decide_eq_false]; intro z0; injection z0; omega) ?_
            obtain ⟨f2, rfl⟩ : ∃ f2, f = f2 + 1 := ⟨f - 1, by omega⟩
            refine ix_ne (e := e) (c := 44) rfl rfl z4 c (by decide +kernel) ?_
            cases b44 : isAt (cds z) e 44 with
            | false =>
              refine ifT rfl ?_
              rw [rowIn_bad sr c b44] at gR
              rw [← gR] at q
              exact ⟨_, rfl, by show 2 ≤ sizeLine; decide, fun u fu => q _ u (s6.trans (same_new fu)) upd_same⟩
            | true =>
              refine ifF rfl ?_
              rw [rowIn_step sr c b44] at gR
              refine ⟨_, rfl, _, _, rfl, rfl, ?_⟩
              refine ⟨⟨row ++ [v], e + 1, f2, _, _, rfl, s6, h6, gR, by omega, by omega, by omega⟩, ?_⟩
              show (((cds z).length : Int) - ((e : Int) + 1)).toNat < (((cds z).length : Int) - (s : Int)).toNat
              omega
          · refine ifT (by rw [decide_eq_true]; congr 1; omega) ?_
            rw [rowIn_end sr c] at gR
            rw [← gR] at q
            replace q : if (row ++ [v]).length ≤ 60 then rTold K ((row ++ [v]).map V.int) H Q else rTell1 "row" H Q := q
            refine ⟨_, rfl, F, _, rfl, .inl (.inl (.inl h6)), _, _, rfl, rfl, _, rfl, ?_⟩
            by_cases c60 : (row ++ [v]).length ≤ 60
            · rw [if_pos c60] at q
              refine ifT (decide_eq_true (by rw [List.length_map]; omega)) ?_
              refine ⟨_, rfl, F, _, rfl, .inl ⟨.inl (.inl h6), fun t ft => ?_⟩⟩
              exact ⟨by show 2 ≤ sizeLine; decide, fun u fu => q _ t u ((s6.trans (same_new ft)).trans (same_new fu)) (same_sqt (same_new fu) (.inl (.inl upd_same))) upd_same⟩
            · rw [if_neg c60] at q
              refine ifF (decide_eq_false (by rw [List.length_map]; omega)) ?_
              exact ⟨by show 1 ≤ sizeLine; decide, fun u fu => q _ u (s6.trans (same_new fu)) upd_same⟩
      | true =>
        refine ifT rfl ?_
        refine ⟨_, rfl, _, rfl, _, _, rfl, rfl, ?_⟩
        refine ⟨_, _, rfl, ?_⟩
        have ea : sgAt (cds z) s = s + 1 := by
          unfold sgAt
          rw [b]
          rfl
        refine ⟨_, rfl, _, rfl, z, s + 1, rfl, z4, ?_⟩
        refine ⟨_, rfl, rfl, _, rfl, ?_⟩
        cases d : dg (cds z) (s + 1) with
        | false =>
          refine ifT (by rw [figs_no d]; rfl) ?_
          refine ifT rfl ?_
          rw [rowIn_no (signed_no (by rw [ea]; exact d))] at gR
          rw [← gR, ea] at q
          exact ⟨_, rfl, by show 2 ≤ sizeLine; decide, fun u fu => q _ u (s3.trans (same_new fu)) upd_same⟩
        | true =>
          obtain ⟨ef, ep, pl⟩ := figs_dg d
          obtain ⟨p1, p2⟩ := plainR_le pl
          refine ifF (by rw [decide_eq_false]; intro z0; injection z0; omega) ?_
          refine ⟨_, rfl, _, _, rfl, rfl, _, rfl, ?_⟩
          refine ifT rfl ?_
          refine ix_eq (e := s + 1) (c := 48) rfl rfl z4 (by omega) (by decide +kernel) ?_
          cases b0 : isAt (cds z) (s + 1) 48 with
          | true =>
            refine ifT rfl ?_
            rw [rowIn_no (signed_zero b b0)] at gR
            rw [← gR] at q
            exact ⟨_, rfl, by show 2 ≤ sizeLine; decide, fun u fu => q _ u (s3.trans (same_new fu)) upd_same⟩
          | false =>
          refine ifF rfl ?_
          have nz : ¬ (isAt (cds z) s 45 = true ∧ isAt (cds z) (s + 1) 48 = true) := fun c => absurd (b0.symm.trans c.2) (by decide)
          have sr : signedR (cds z) s = .ok (sgn true (valP (cds z) (s + 1)), endP (cds z) (s + 1)) := by
            have := signed_ok (cs := cds z) (s := s) (by rw [ea]; exact d) nz
            rw [ea, b] at this
            exact this
          have ee : ((s + 1 : Nat) : Int) + ((figs (cds z) (s + 1) : Nat) : Int) = ((endP (cds z) (s + 1) : Nat) : Int) := by omega
          obtain ⟨it, il⟩ := int_part (z := z) (endP_dg d) (by omega) (by have := endP_le (cds z) (s + 1); omega)
          rw [← ee] at it il
          have room : (row.map V.int).length < sizeLine := by rw [List.length_map, sizeLine_eq]; omega
          refine ⟨_, rfl, .inl ⟨rfl, _, .inl (.inl h3)⟩, _, rfl, _, rfl, _, rfl, _, rfl, _, rfl, _, rfl, _, _, rfl, rfl, _, rfl, z, rfl, line4000 z4, _, _, rfl, it, il, _, _, rfl, rfl, .inl (by omega), F, _, _, rfl, rfl, h3, room, ?_⟩
          show tSeq _ _ _ _ (upd H3 F (.lst (row.map V.int ++ [V.int (-1 * ((valP (cds z) (s + 1) : Nat) : Int))])))
          have em : row.map V.int ++ [V.int (-1 * ((valP (cds z) (s + 1) : Nat) : Int))] = (row ++ [sgn true (valP (cds z) (s + 1))]).map V.int := by
            rw [List.map_append]
            show _ = _ ++ [V.int (sgn true (valP (cds z) (s + 1)))]
            unfold sgn
            congr 3
            simp
          rw [em]
          have s6 : Same H (upd H3 F (.lst ((row ++ [sgn true (valP (cds z) (s + 1))]).map V.int))) := fun b o hb => (upd_ne (fF0 b o hb)).trans (s3 b o hb)
          have h6 : (upd H3 F (.lst ((row ++ [sgn true (valP (cds z) (s + 1))]).map V.int))) F = some (.lst ((row ++ [sgn true (valP (cds z) (s + 1))]).map V.int)) := upd_same
          have l6 : (row ++ [sgn true (valP (cds z) (s + 1))]).length = row.length + 1 := by rw [List.length_append]; rfl
          generalize upd H3 F _ = H6 at s6 h6 ⊢
          refine ⟨_, rfl, _, rfl, _, _, rfl, rfl, ?_⟩
          show gName 2 (V.int (((s + 1 : Nat) : Int) + ((figs (cds z) (s + 1) : Nat) : Int))) _ _ _
          rw [ee]
          clear it il em
          generalize sgn true (valP (cds z) (s + 1)) = v at sr s6 h6 l6
          generalize endP (cds z) (s + 1) = e at *
          refine ⟨_, rfl, _, rfl, z, rfl, line4000 z4, rfl, _, rfl, ?_⟩
          by_cases c : e < (cds z).length
          · refine ifF (by rw [decide_eq_false]; intro z0; injection z0; omega) ?_
            obtain ⟨f2, rfl⟩ : ∃ f2, f = f2 + 1 := ⟨f - 1, by omega⟩
            refine ix_ne (e := e) (c := 44) rfl rfl z4 c (by decide +kernel) ?_
            cases b44 : isAt (cds z) e 44 with
            | false =>
              refine ifT rfl ?_
              rw [rowIn_bad sr c b44] at gR
              rw [← gR] at q
              exact ⟨_, rfl, by show 2 ≤ sizeLine; decide, fun u fu => q _ u (s6.trans (same_new fu)) upd_same⟩
            | true =>
              refine ifF rfl ?_
              rw [rowIn_step sr c b44] at gR
              refine ⟨_, rfl, _, _, rfl, rfl, ?_⟩
              refine ⟨⟨row ++ [v], e + 1, f2, _, _, rfl, s6, h6, gR, by omega, by omega, by omega⟩, ?_⟩
              show (((cds z).length : Int) - ((e : Int) + 1)).toNat < (((cds z).length : Int) - (s : Int)).toNat
              omega
          · refine ifT (by rw [decide_eq_true]; congr 1; omega) ?_
            rw [rowIn_end sr c] at gR
            rw [← gR] at q
            replace q : if (row ++ [v]).length ≤ 60 then rTold K ((row ++ [v]).map V.int) H Q else rTell1 "row" H Q := q
            refine ⟨_, rfl, F, _, rfl, .inl (.inl (.inl h6)), _, _, rfl, rfl, _, rfl, ?_⟩
            by_cases c60 : (row ++ [v]).length ≤ 60
            · rw [if_pos c60] at q
              refine ifT (decide_eq_true (by rw [List.length_map]; omega)) ?_
              refine ⟨_, rfl, F, _, rfl, .inl ⟨.inl (.inl h6), fun t ft => ?_⟩⟩
              exact ⟨by show 2 ≤ sizeLine; decide, fun u fu => q _ t u ((s6.trans (same_new ft)).trans (same_new fu)) (same_sqt (same_new fu) (.inl (.inl upd_same))) upd_same⟩
            · rw [if_neg c60] at q
              refine ifF (decide_eq_false (by rw [List.length_map]; omega)) ?_
              exact ⟨by show 1 ≤ sizeLine; decide, fun u fu => q _ u (s6.trans (same_new fu)) upd_same⟩
    · rintro σ H2 Q1 Q2 mono hyp
      revert mono hyp
      walk_at "mono"
end
end K85


set_option Elab.async false
set_option linter.all false
set_option maxRecDepth 100000
set_option maxHeartbeats 2000000
namespace K85
open PySem PySem.Spec PyProof.Rows L2 MM PySem.NumText
/-! own words for the readings: a step, its side -/
local macro_rules | `(tactic| walk_at "side") => `(tactic| first
  | omega
  | exact ⟨by omega, by omega⟩
  | exact Or.inl ⟨by omega, by omega⟩
  | exact Or.inr ⟨by omega, by omega⟩
  | (show CPw _ _; decide +kernel)
  | (show (0 : Int) < _; decide +kernel)
  | (show CDivW _ _; first | assumption | exact ⟨by decide, by decide +kernel⟩))
local macro_rules | `(tactic| walk_at "here") => `(tactic| first
  | assumption
  | exact upd_same
  | exact Or.inl (Or.inl upd_same)
  | exact Or.inl upd_same)
local macro_rules | `(tactic| walk_at "one") => `(tactic| first
  | refine ⟨_, rfl, ?_⟩
  | refine Or.inl ⟨_, rfl, ?_⟩
  | refine Or.inr ⟨_, rfl, ?_⟩
  | refine ⟨_, _, rfl, rfl, (by walk_at "side"), ?_⟩
  | refine ⟨_, _, rfl, rfl, ?_⟩
  | refine ⟨_, _, rfl, Or.inl (by walk_at "here"), ?_⟩
  | refine ⟨_, _, rfl, Or.inr (by walk_at "here"), ?_⟩
  | refine ⟨_, _, rfl, (by walk_at "here"), ?_⟩
  | refine ⟨_, _, _, _, rfl, rfl, (by walk_at "here"), rfl, ?_⟩
  | refine ⟨_, _, rfl, ?_⟩
  | refine ifT (by rfl) ?_
  | refine ifF (by rfl) ?_
  | refine ifT (decide_eq_true (by omega)) ?_
  | refine ifF (decide_eq_false (by omega)) ?_)
local macro_rules | `(tactic| walk_at "st") => `(tactic| repeat (walk_at "one"))

section
variable {P : Program} {w : World} {K : PySem.W.Frag} {mg : Str → Option Value} {base : Heap}
/-! a term -/
theorem termR_of {cs : List Nat} {i m e : Nat} (h : headR cs i = .ok (m, e)) : termR cs i = match behindR cs e 91 with
    | .error j => .error j
    | .ok s => match plainR cs s with
      | .error j => .error j
      | .ok (x, e1) => match behindR cs e1 93 with
        | .error j => .error j
        | .ok e2 => .ok (x, m, e2) := by
  unfold termR
  rw [h]
  all_goals rfl
def spTermL : Sp := fun vs H Q _ => ∃ (z : Str) (i : Nat), vs = [.str z, .int (i : Int)] ∧ z.length ≤ 3000 ∧ match termR (cds z) i with
  | .error j => ∀ (u : Addr) H' (x y v : V), Same H H' → H' u = some (.tup [.int (j : Nat), x, y, v]) → Q (.ref u) H'
  | .ok (x, m, e) => ∀ (u : Addr) H', Same H H' → H' u = some (.tup [.non, .int (m : Nat), .int (x : Nat), .int (e : Nat)]) → Q (.ref u) H'
theorem scTermFromL : FnScope ["_law_text", "_law_here", "_law_number_here", "_law_size", "_law_behind"] ["_law_text", "_law_here"] (defScope sTermFromL) :=
  ⟨rfl, rfl, rfl, by decide +kernel, rfl, by decide +kernel, by decide +kernel⟩
theorem dTermFromL (T : Tx K mg) (DFiguresL : Def P w K mg base CX0 1 "_law_figures" ["_law_text", "_law_at"] spFigs) : Def P w K mg base CX0 2 "_law_term_from" ["_law_text", "_law_here"] spTermL := by
  refine T.t_law_term_from.def_ (N := ["_law_text", "_law_here", "_law_number_here", "_law_size", "_law_behind"]) scTermFromL (fun _ _ _ _ _ _ us hl => match us, hl with | [_, _], _ => rfl) ?_ ?_
  · intro vs H Q E h
    obtain ⟨z, i, rfl, _⟩ := h
    rfl
  · intro f cd A out s H vs Q E hr h
    have hr1 : Rm 1 _ := hr.le (by decide)
    obtain ⟨z, i, rfl, hz, q⟩ := h
    refine ⟨_, (pss_cons (ps_set (i := 2) scTermFromL.nd rfl (Or.inl rfl) pe_int)
      (pss_cons (ps_set (i := 3) scTermFromL.nd rfl (Or.inl rfl) (pe_d DFiguresL (hr1.le (by decide)) pass0 (pa_cons (pv 0) (pa_cons (pv 1) pa_nil))))
      (pss_cons (ps_if (pt_cmpR op_gt (pv 3) pe_int (nomark _)) (pss_one (ps_par (i := 2) (j := 1) rfl scTermFromL.nd rfl rfl (by decide) rfl rfl (pa_cons (pe_callTy call_int_str rfl T.f_int (by decide +kernel) (pa_cons (pe_slice sl_str (pv 0) (po_some (pv 1)) (po_some (pe_op op_add (pv 1) (pv 3)))) pa_nil)) (pa_cons (pe_op op_add (pv 1) (pv 3)) pa_nil)) (by rfl))) pss_nil)
      (pss_cons (ps_if (pt_cmpR op_ne (pe_slice sl_str (pv 0) (po_some (pv 1)) (po_some (pe_op op_add (pv 1) pe_int))) pe_str (nomark _)) (pss_one (ps_ret (pe_tup (pa_cons (pv 1) (pa_cons pe_int (pa_cons pe_int (pa_cons pe_int pa_nil))))))) pss_nil)
      (pss_cons (ps_set (i := 3) scTermFromL.nd rfl (Or.inl rfl) (pe_d DFiguresL (hr1.le (by decide)) pass0 (pa_cons (pv 0) (pa_cons (pe_op op_add (pv 1) pe_int) pa_nil))))
      (pss_cons (ps_if (pt_cmpR op_eq (pv 3) pe_int (nomark _)) (pss_one (ps_ret (pe_tup (pa_cons (pe_op op_add (pv 1) pe_int) (pa_cons pe_int (pa_cons pe_int (pa_cons pe_int pa_nil))))))) pss_nil)
      (pss_cons (ps_set (i := 4) scTermFromL.nd rfl (Or.inl rfl) (pe_op op_add (pe_op op_add (pv 1) pe_int) (pv 3)))
      (pss_one (ps_ret (pe_tup (pa_cons (pe_ifExp (pt_cmpR op_eq (pe_slice sl_str (pv 0) (po_some (pv 4)) (po_some (pe_op op_add (pv 4) pe_int))) pe_str (nomark _)) pe_non (pv 4)) (pa_cons (pv 2) (pa_cons (pe_callTy call_int_str rfl T.f_int (by decide +kernel) (pa_cons (pe_slice sl_str (pv 0) (po_some (pe_op op_add (pv 1) pe_int)) (po_some (pv 4))) pa_nil)) (pa_cons (pe_op op_add (pv 4) pe_int) pa_nil)))))))))))))), ?_⟩
    have hl := cds_len z
    have z4 : z.length ≤ 4000 := by omega
    refine ⟨_, rfl, _, rfl, z, i, rfl, z4, ?_⟩
    refine ⟨_, rfl, _, _, rfl, rfl, _, rfl, ?_⟩
    cases d : dg (cds z) i
    case' true =>
      obtain ⟨ef, ep, pl⟩ := figs_dg d
      have ee : (i : Int) + ((figs (cds z) i : Nat) : Int) = ((endP (cds z) i : Nat) : Int) := by omega
      obtain ⟨it, il⟩ := int_part (z := z) (endP_dg d) (by omega) (by have := endP_le (cds z) i; omega)
      rw [← ee] at it il
      refine ifT (decide_eq_true (by omega)) ?_
      refine ⟨_, rfl, _, rfl, _, rfl, _, rfl, _, rfl, _, _, rfl, rfl, _, rfl, z, rfl, line4000 z4, _, _, rfl, it, il, _, rfl, _, rfl, _, _, rfl, rfl, ?_⟩
      refine ⟨_, _, rfl, ?_⟩
      have no : isAt (cds z) i 91 = false := by
        obtain ⟨c, hc, h1, h2⟩ := dg_lt d
        unfold isAt
        rw [hc]
        exact decide_eq_false fun z => by injection z; omega
      have hd : headR (cds z) i = .ok (valP (cds z) i, endP (cds z) i) := by
        unfold headR
        rw [if_neg (by rw [no]; decide)]
        exact pl
      rw [termR_of hd] at q
      have hev : valP (cds z) i = digitsVal (((cds z).drop i).take (endP (cds z) i - i)) := rfl
      rw [← hev]
      show tSeq _ _ _ (([some (V.str z), some (V.int ((i : Int) + ((figs (cds z) i : Nat) : Int))), some (V.int ((valP (cds z) i : Nat) : Int)), some (V.int ((figs (cds z) i : Nat) : Int)), none] : L2.St)) _
      rw [ee]
      generalize endP (cds z) i = e at *
      generalize valP (cds z) i = m at *
      generalize (some (V.int ((figs (cds z) i : Nat) : Int)) : Option V) = x3
    case' false =>
      refine ifF (decide_eq_false (by rw [figs_no d]; decide)) ?_
      show tSeq _ _ _ (([some (V.str z), some (V.int (i : Int)), some (V.int ((1 : Nat) : Int)), some (V.int ((figs (cds z) i : Nat) : Int)), none] : L2.St)) _
      generalize (some (V.int ((figs (cds z) i : Nat) : Int)) : Option V) = x3
      obtain ⟨e, he⟩ : ∃ e, e = i := ⟨i, rfl⟩
      obtain ⟨m, hm1, hm⟩ : ∃ m : Nat, ((1 : Nat) : Int) = (m : Int) ∧ m = 1 := ⟨1, rfl, rfl⟩
      have q2 : match (match behindR (cds z) e 91 with
        | .error j => .error j
        | .ok s => match plainR (cds z) s with
          | .error j => .error j
          | .ok (x, e1) => match behindR (cds z) e1 93 with
            | .error j => .error j
            | .ok e2 => .ok (x, m, e2) : Rd (Nat × Nat × Nat)) with
        | .error j => ∀ (u : Addr) H' (x y v : V), Same H H' → H' u = some (.tup [.int (j : Nat), x, y, v]) → Q (.ref u) H'
        | .ok (x, m, e) => ∀ (u : Addr) H', Same H H' → H' u = some (.tup [.non, .int (m : Nat), .int (x : Nat), .int (e : Nat)]) → Q (.ref u) H' := by
        cases b : isAt (cds z) i 91 with
        | true =>
          rw [termR_of (m := 1) (e := i) (by unfold headR; rw [if_pos b])] at q
          rw [he, hm]
          exact q
        | false =>
          rw [he, behind_no b]
          have : termR (cds z) i = .error i := by
            unfold termR headR plainR
            rw [if_neg (by rw [b]; decide), if_neg (by rw [d]; decide)]
          rw [this] at q
          exact q
      replace q := q2
      clear q2
      rw [hm1, ← he]
    all_goals
      refine at_ne (i := e) (c := 91) rfl rfl z4 (by decide +kernel) ?_
      cases b : isAt (cds z) e 91 with
      | false =>
        refine ifT rfl ?_
        rw [behind_no b] at q
        exact ⟨_, rfl, by show 4 ≤ sizeLine; decide, fun u fu => q u _ _ _ _ (same_new fu) upd_same⟩
      | true =>
        refine ifF rfl ?_
        rw [behind_ok b] at q
        dsimp only at q
        refine ⟨_, rfl, _, rfl, _, _, rfl, rfl, z, e + 1, rfl, z4, ?_⟩
        refine ⟨_, rfl, rfl, _, rfl, ?_⟩
        cases d2 : dg (cds z) (e + 1) with
        | false =>
          refine ifT (by rw [figs_no d2]; rfl) ?_
          unfold plainR at q
          rw [if_neg (by rw [d2]; decide)] at q
          exact ⟨_, rfl, _, _, rfl, rfl, by show 4 ≤ sizeLine; decide, fun u fu => q u _ _ _ _ (same_new fu) upd_same⟩
        | true =>
          obtain ⟨ef2, ep2, pl2⟩ := figs_dg d2
          refine ifF (by rw [decide_eq_false]; intro z0; injection z0; omega) ?_
          rw [pl2] at q
          dsimp only at q
          have ee2 : (e : Int) + 1 + ((figs (cds z) (e + 1) : Nat) : Int) = ((endP (cds z) (e + 1) : Nat) : Int) := by omega
          obtain ⟨it2, il2⟩ := int_part (z := z) (endP_dg d2) (by omega) (by have := endP_le (cds z) (e + 1); omega)
          refine ⟨_, rfl, _, _, rfl, rfl, _, rfl, _, _, rfl, rfl, ?_⟩
          show gName 4 (V.int ((e : Int) + 1 + ((figs (cds z) (e + 1) : Nat) : Int))) _ _ _
          rw [ee2]
          have hev2 : valP (cds z) (e + 1) = digitsVal (((cds z).drop (e + 1)).take (endP (cds z) (e + 1) - (e + 1))) := rfl
          rw [← hev2] at it2
          generalize endP (cds z) (e + 1) = e1 at *
          generalize valP (cds z) (e + 1) = x at *
          refine at_eq (i := e1) (c := 93) rfl rfl z4 (by decide +kernel) ?_
          cases b3 : isAt (cds z) e1 93 with
          | true =>
            refine ifT rfl ?_
            rw [behind_ok b3] at q
            refine ⟨_, rfl, _, rfl, _, rfl, _, _, rfl, rfl, _, rfl, _, rfl, _, rfl, z, rfl, line4000 z4, _, _, rfl, it2, il2, _, rfl, _, _, rfl, rfl, by show 4 ≤ sizeLine; decide, fun u fu => ?_⟩
            exact q u _ (same_new fu) upd_same
          | false =>
            refine ifF rfl ?_
            rw [behind_no b3] at q
            refine ⟨_, rfl, _, rfl, _, rfl, _, rfl, _, _, rfl, rfl, _, rfl, _, rfl, _, rfl, z, rfl, line4000 z4, _, _, rfl, it2, il2, _, rfl, _, _, rfl, rfl, by show 4 ≤ sizeLine; decide, fun u fu => ?_⟩
            exact q u _ _ _ _ (same_new fu) upd_same
end
end K85


set_option Elab.async false
set_option linter.all false
set_option maxRecDepth 100000
set_option maxHeartbeats 2000000
namespace K85
open PySem PySem.Spec PyProof.Rows L2 MM PySem.NumText
/-! own words for the readings: a step, its side -/
local macro_rules | `(tactic| walk_at "side") => `(tactic| first
  | omega
  | exact ⟨by omega, by omega⟩
  | exact Or.inl ⟨by omega, by omega⟩
  | exact Or.inr ⟨by omega, by omega⟩
  | (show CPw _ _; decide +kernel)
  | (show (0 : Int) < _; decide +kernel)
  | (show CDivW _ _; first | assumption | exact ⟨by decide, by decide +kernel⟩))
local macro_rules | `(tactic| walk_at "here") => `(tactic| first
  | assumption
  | exact upd_same
  | exact Or.inl (Or.inl upd_same)
  | exact Or.inl upd_same)
local macro_rules | `(tactic| walk_at "one") => `(tactic| first
  | refine ⟨_, rfl, ?_⟩
  | refine Or.inl ⟨_, rfl, ?_⟩
  | refine Or.inr ⟨_, rfl, ?_⟩
  | refine ⟨_, _, rfl, rfl, (by walk_at "side"), ?_⟩
  | refine ⟨_, _, rfl, rfl, ?_⟩
  | refine ⟨_, _, rfl, Or.inl (by walk_at "here"), ?_⟩
  | refine ⟨_, _, rfl, Or.inr (by walk_at "here"), ?_⟩
  | refine ⟨_, _, rfl, (by walk_at "here"), ?_⟩
  | refine ⟨_, _, _, _, rfl, rfl, (by walk_at "here"), rfl, ?_⟩
  | refine ⟨_, _, rfl, ?_⟩
  | refine ifT (by rfl) ?_
  | refine ifF (by rfl) ?_
  | refine ifT (decide_eq_true (by omega)) ?_
  | refine ifF (decide_eq_false (by omega)) ?_)
local macro_rules | `(tactic| walk_at "st") => `(tactic| repeat (walk_at "one"))

/-! what a walk asks grows with what is wished -/
local macro_rules | `(tactic| walk_at "mono") => `(tactic| first
  | exact fun m h => m _ _ h
  | (refine MM.ite_mono ?_ ?_ <;> walk_at "mono")
  | (refine MM.or_mono ?_ ?_ <;> walk_at "mono")
  | (rintro m ⟨a, h⟩; refine ⟨a, ?_⟩; revert m h; walk_at "mono")
  | (intro m h z; have h2 := h z; clear h; revert m h2; walk_at "mono"))
section
variable {P : Program} {w : World} {K : PySem.W.Frag} {mg : Str → Option Value} {base : Heap}
/-! the law's terms: a number and an index, in tuples elsewhere than at l -/
def PL (K : PySem.W.Frag) (l : Addr) (H : Hp) (vs : List V) (ts : List (Nat × Int)) : Prop := Paired (fun v (p : Nat × Int) => ∃ a, v = .ref a ∧ a ≠ l ∧ H a = some (.tup [.int p.2, .int (p.1 : Nat)])) vs ts
theorem pl_same {l : Addr} {H H' : Hp} {vs : List V} {ts : List (Nat × Int)} (h : PL K l H vs ts) (s : Same H H') : PL K l H' vs ts :=
  pairedI h fun _ _ ⟨a, e, n, S⟩ => ⟨a, e, n, s _ _ S⟩
theorem pl_upd {l : Addr} {H : Hp} {o : HO} {vs : List V} {ts : List (Nat × Int)} (h : PL K l H vs ts) : PL K l (upd H l o) vs ts :=
  pairedI h fun _ _ ⟨a, e, n, S⟩ => ⟨a, e, n, by rw [upd_ne n]; exact S⟩
theorem pl_len {l : Addr} {H : Hp} : ∀ {vs : List V} {ts : List (Nat × Int)}, PL K l H vs ts → vs.length = ts.length
  | _, _, .nil => rfl
  | _, _, .cons _ h => congrArg (· + 1) (pl_len h)
theorem pl_add {l u : Addr} {H : Hp} {p : Nat × Int} : ∀ {vs : List V} {ts : List (Nat × Int)}, PL K l H vs ts → u ≠ l → H u = some (.tup [.int p.2, .int (p.1 : Nat)]) → PL K l H (vs ++ [.ref u]) (ts ++ [p])
  | _, _, .nil, n, e => .cons ⟨u, rfl, n, e⟩ .nil
  | _, _, .cons r h, n, e => .cons r (pl_add h n e)
/-- the terms from the next one on -/
def termIn (cs : List Nat) (f : Nat) (ts : List (Nat × Int)) (b : Bool) (s : Nat) : Rd (List (Nat × Int)) := match termR cs s with
  | .error j => .error j
  | .ok (x, m, e) => termsGo cs f (ts ++ [(x, sgn b m)]) e
section
variable {cs : List Nat} {f : Nat} {ts : List (Nat × Int)} {b : Bool} {s x m e : Nat}
theorem termIn_no {j : Nat} (h : termR cs s = .error j) : termIn cs f ts b s = .error j := by
  unfold termIn
  rw [h]
theorem termIn_end (h : termR cs s = .ok (x, m, e)) (l : ¬ e < cs.length) : termIn cs f ts b s = .ok (ts ++ [(x, sgn b m)]) := by
  unfold termIn
  rw [h]
  exact termsGo_end l
theorem go_eq {l : List (Nat × Int)} (h : e < cs.length) : termsGo cs (f + 1) l e = (match behindR cs e 32 with
      | .error j => .error j
      | .ok e1 => match behindR cs e1 (if isAt cs e1 45 = true then 45 else 43) with
        | .error j => .error j
        | .ok e2 => match behindR cs e2 32 with
          | .error j => .error j
          | .ok s => match termR cs s with
            | .error j => .error j
            | .ok (x, m, e3) => termsGo cs f (l ++ [(x, sgn (isAt cs e1 45) m)]) e3) := if_pos h
theorem termIn_b1 (h : termR cs s = .ok (x, m, e)) (l : e < cs.length) (a : isAt cs e 32 = false) : termIn cs (f + 1) ts b s = .error e := by
  unfold termIn
  rw [h]
  dsimp only
  rw [go_eq l, behind_no a]
theorem termIn_b2 (h : termR cs s = .ok (x, m, e)) (l : e < cs.length) (a : isAt cs e 32 = true) (a1 : isAt cs (e + 1) 43 = false) (a2 : isAt cs (e + 1) 45 = false) : termIn cs (f + 1) ts b s = .error (e + 1) := by
  unfold termIn
  rw [h]
  dsimp only
  rw [go_eq l, behind_ok a]
  dsimp only
  rw [if_neg (by rw [a2]; decide), behind_no a1]
theorem sign_behind (a : isAt cs e 43 = true ∨ isAt cs e 45 = true) : behindR cs e (if isAt cs e 45 = true then 45 else 43) = .ok (e + 1) := by
  by_cases c : isAt cs e 45 = true
  · rw [if_pos c, behind_ok c]
  · rw [if_neg c, behind_ok (a.resolve_right c)]
theorem termIn_b3 (h : termR cs s = .ok (x, m, e)) (l : e < cs.length) (a : isAt cs e 32 = true) (a1 : isAt cs (e + 1) 43 = true ∨ isAt cs (e + 1) 45 = true) (a2 : isAt cs (e + 2) 32 = false) : termIn cs (f + 1) ts b s = .error (e + 2) := by
  unfold termIn
  rw [h]
  dsimp only
  rw [go_eq l, behind_ok a]
  dsimp only
  rw [sign_behind a1]
  dsimp only
  rw [behind_no a2]
theorem termIn_step (h : termR cs s = .ok (x, m, e)) (l : e < cs.length) (a : isAt cs e 32 = true) (a1 : isAt cs (e + 1) 43 = true ∨ isAt cs (e + 1) 45 = true) (a2 : isAt cs (e + 2) 32 = true) :
    termIn cs (f + 1) ts b s = termIn cs f (ts ++ [(x, sgn b m)]) (isAt cs (e + 1) 45) (e + 3) := by
  unfold termIn
  rw [h]
  dsimp only
  rw [go_eq l, behind_ok a]
  dsimp only
  rw [sign_behind a1]
  dsimp only
  rw [behind_ok a2]
end
theorem cut_none (z : Str) (hi : Option Int) : cutS z none hi = cutS z (some ((0 : Nat) : Int)) hi := by
  unfold cutS
  rw [HT.sIx_none, HT.sIx_nat, Nat.zero_min]
theorem two_signs (z : Str) : decide (V.str (cutS z none (some 2)) = V.str "-0") = (isAt (cds z) 0 45 && isAt (cds z) 1 48) := by
  rw [cut_none, show (2 : Int) = ((2 : Nat) : Int) from rfl, cut_nat, List.drop_zero]
  unfold isAt
  rw [← Bool.decide_and]
  refine decide_eq_decide.mpr ?_
  generalize cds z = cs
  have e0 : ("-0" : Str) = ⟨#[45, 48]⟩ := by decide +kernel
  rw [e0]
  constructor
  · intro h
    injection h with h
    injection h with h
    have h2 := congrArg Array.toList h
    match cs, h2 with
    | [], h2 => cases h2
    | [a], h2 => cases h2
    | a :: c :: r, h2 =>
      injection h2 with h3 h4
      injection h4 with h4 h5
      rw [h3, h4]
      exact ⟨rfl, rfl⟩
  · rintro ⟨h1, h2⟩
    match cs, h1, h2 with
    | [], h1, _ => cases h1
    | [a], _, h2 => cases h2
    | a :: c :: r, h1, h2 =>
      injection h1 with h1
      injection h2 with h2
      rw [h1, h2]
      rfl
theorem in_pm (z : Str) (e : Nat) : inV (.str (cutS z (some ((e : Int) + 1)) (some ((e : Int) + 2)))) [.str "+", .str "-"] = (isAt (cds z) (e + 1) 43 || isAt (cds z) (e + 1) 45) := by
  have h : ∀ (s : Str) (c : Nat), s = ⟨#[c]⟩ → eqV (.str s) (.str (cutS z (some ((e : Int) + 1)) (some ((e : Int) + 2)))) = isAt (cds z) (e + 1) c := by
    intro s c hs
    have := cut_sgn (z := z) (i := e + 1) hs
    rw [← this]
    show (s == _) = _
    rw [show (e : Int) + 2 = ((e + 1 : Nat) : Int) + 1 by omega, show (e : Int) + 1 = ((e + 1 : Nat) : Int) by omega]
    rw [Bool.eq_iff_iff, beq_iff_eq, decide_eq_true_eq]
    exact ⟨fun h => by rw [h], fun h => by injection h with h; exact h.symm⟩
  show (_ || (_ || false)) = _
  dsimp only
  rw [h "+" 43 (by decide +kernel), h "-" 45 (by decide +kernel), Bool.or_false]
theorem all_isI (ks : List Int) (m : Int) (hm : m ∈ ks.map fun k => if k < 0 then -k else k) (hx : ∀ y ∈ ks.map (fun k => if k < 0 then -k else k), y ≤ m) : (ks.all fun k => isI (.int k)) = decide (m < 10 ^ 60) := by
  rw [Bool.eq_iff_iff, List.all_eq_true, decide_eq_true_eq]
  have e : ∀ k : Int, isI (.int k) = true ↔ -(10 ^ 60) < k ∧ k < 10 ^ 60 := fun k => by
    show (decide _ && decide _) = true ↔ _
    rw [Bool.and_eq_true, decide_eq_true_eq, decide_eq_true_eq]
  simp only [e]
  generalize (10 : Int) ^ 60 = B
  constructor
  · intro h
    obtain ⟨k, hk, rfl⟩ := List.mem_map.mp hm
    have := h k hk
    split <;> omega
  · intro h k hk
    have := hx _ (List.mem_map.mpr ⟨k, hk, rfl⟩)
    split at this <;> omega
def spKindsL (K : PySem.W.Frag) : Sp := fun vs H Q _ => ∃ (z : Str) (n : Nat), vs = [.str z, .int (n : Int)] ∧ z.length ≤ 3000 ∧ 1 ≤ n ∧ n ≤ 60 ∧ match kindsT (cds z) with
  | .error j => rTell2 j H Q
  | .ok ts => match addT (List.replicate n 0) ts with
    | none => rTell1 "kinds" H Q
    | some ks => if (ks.all fun k => isI (.int k)) = true then rTold K (ks.map V.int) H Q else rTell1 "kinds" H Q
theorem scKindsReadL : FnScope ["_law_text", "_law_length", "_law_sign", "_law_here", "_law_terms", "_law_is_open", "_law_wrong", "_law_number_here", "_law_index", "_law_behind", "_law_found"] ["_law_text", "_law_length"] (defScope sKindsReadL) :=
  ⟨rfl, rfl, rfl, by decide +kernel, rfl, by decide +kernel, by decide +kernel⟩
theorem dKindsReadL (T : Tx K mg) (DTermFromL : Def P w K mg base CX0 2 "_law_term_from" ["_law_text", "_law_here"] spTermL) : Def P w K mg base CX0 3 "_law_kinds_read" ["_law_text", "_law_length"] (spKindsL K) := by
  refine T.t_law_kinds_read.def_ (N := ["_law_text", "_law_length", "_law_sign", "_law_here", "_law_terms", "_law_is_open", "_law_wrong", "_law_number_here", "_law_index", "_law_behind", "_law_found"]) scKindsReadL (fun _ _ _ _ _ _ us hl => match us, hl with | [_, _], _ => rfl) ?_ ?_
  · intro vs H Q E h
    obtain ⟨z, n, rfl, _⟩ := h
    rfl
  · intro f cd A out s H vs Q E hr h
    have hr1 : Rm 2 _ := hr.le (by decide)
    obtain ⟨z, n, rfl, hz, n1, n60, q⟩ := h
    refine ⟨_, (pss_cons (ps_if (pt_cmpR op_eq (pv 0) pe_str (nomark _)) (pss_one (ps_ret (pe_tup (pa_cons pe_str (pa_cons (pe_op op_repV (pe_tup (pa_cons pe_int pa_nil)) (pv 1)) pa_nil))))) pss_nil)
      (pss_cons (ps_asg (pe_tup (pa_cons pe_int (pa_cons pe_int (pa_cons (pe_lst pa_nil) (pa_cons pe_bl pa_nil))))) (pg_tup rfl (pgs_cons (pg_name (i := 2) scKindsReadL.nd rfl (Or.inl rfl)) (pgs_cons (pg_name (i := 3) scKindsReadL.nd rfl (Or.inl rfl)) (pgs_cons (pg_name (i := 4) scKindsReadL.nd rfl (Or.inl rfl)) (pgs_cons (pg_name (i := 5) scKindsReadL.nd rfl (Or.inl rfl)) pgs_nil))))))
      (pss_cons (ps_if (pt_cmpR op_eq (pe_slice sl_str (pv 0) po_none (po_some pe_int)) pe_str (nomark _)) (pss_one (ps_asg (pe_tup (pa_cons (pe_un un_neg pe_int) (pa_cons pe_int pa_nil))) (pg_tup rfl (pgs_cons (pg_name (i := 2) scKindsReadL.nd rfl (Or.inl rfl)) (pgs_cons (pg_name (i := 3) scKindsReadL.nd rfl (Or.inl rfl)) pgs_nil))))) pss_nil)
      (pss_cons (ps_if (pt_cmpR op_eq (pe_slice sl_str (pv 0) po_none (po_some pe_int)) pe_str (nomark _)) (pss_one (ps_ret (pe_tup (pa_cons pe_str (pa_cons pe_int pa_nil))))) pss_nil)
      (pss_cons (ps_while PassesOwn.never (pt_val (pv 5))
        (pss_cons (ps_asg (pe_d DTermFromL (hr1.le (by decide)) pass0 (pa_cons (pv 0) (pa_cons (pv 3) pa_nil))) (pg_tup rfl (pgs_cons (pg_name (i := 6) scKindsReadL.nd rfl (Or.inl rfl)) (pgs_cons (pg_name (i := 7) scKindsReadL.nd rfl (Or.inl rfl)) (pgs_cons (pg_name (i := 8) scKindsReadL.nd rfl (Or.inl rfl)) (pgs_cons (pg_name (i := 9) scKindsReadL.nd rfl (Or.inl rfl)) pgs_nil))))))
        (pss_cons (ps_if (pt_cmpR op_notN (pv 6) pe_non (nomark _)) (pss_one (ps_ret (pe_tup (pa_cons pe_str (pa_cons (pv 6) pa_nil))))) pss_nil)
        (pss_cons (ps_expr (pe_bm PySem.F.plainAttrs_list PySem.F.slot_list_append PySem.F.type_list_append mt_append (pv 4) (pa_cons (pe_tup (pa_cons (pe_op op_mul (pv 2) (pv 7)) (pa_cons (pv 8) pa_nil))) pa_nil)))
        (pss_cons (ps_set (i := 5) scKindsReadL.nd rfl (Or.inl rfl) (pe_cmpR op_lt (pv 9) (pe_callB call_len_str rfl T.f_len (by decide +kernel) (pa_cons (pv 0) pa_nil)) (nomark _)))
        (pss_one (ps_if (pt_val (pv 5)) (pss_cons (ps_if (pt_cmpR op_ne (pe_ix ix_str (pv 0) (pv 9) (fun _ _ => rfl)) pe_str (nomark _)) (pss_one (ps_ret (pe_tup (pa_cons pe_str (pa_cons (pv 9) pa_nil))))) pss_nil)
          (pss_cons (ps_if (pt_cmpR op_notIn_seq (pe_slice sl_str (pv 0) (po_some (pe_op op_add (pv 9) pe_int)) (po_some (pe_op op_add (pv 9) pe_int))) (pe_tup (pa_cons pe_str (pa_cons pe_str pa_nil))) rfl) (pss_one (ps_ret (pe_tup (pa_cons pe_str (pa_cons (pe_op op_add (pv 9) pe_int) pa_nil))))) pss_nil)
          (pss_cons (ps_if (pt_cmpR op_ne (pe_slice sl_str (pv 0) (po_some (pe_op op_add (pv 9) pe_int)) (po_some (pe_op op_add (pv 9) pe_int))) pe_str (nomark _)) (pss_one (ps_ret (pe_tup (pa_cons pe_str (pa_cons (pe_op op_add (pv 9) pe_int) pa_nil))))) pss_nil)
          (pss_one (ps_par (i := 2) (j := 3) rfl scKindsReadL.nd rfl rfl (by decide) rfl rfl (pa_cons (pe_ifExp (pt_cmpR op_eq (pe_ix ix_str (pv 0) (pe_op op_add (pv 9) pe_int) (fun _ _ => rfl)) pe_str (nomark _)) pe_int (pe_un un_neg pe_int)) (pa_cons (pe_op op_add (pv 9) pe_int) pa_nil)) (by rfl)))))) pss_nil)))))))
      (pss_cons (ps_set (i := 10) scKindsReadL.nd rfl (Or.inl rfl) (pe_op op_rep (pe_lst (pa_cons pe_int pa_nil)) (pv 1)))
      (pss_cons (ps_for PassesOwn.never rfl (pi_list (pv 4)) (pg_tup rfl (pgs_cons (pg_name (i := 7) scKindsReadL.nd rfl (Or.inl rfl)) (pgs_cons (pg_name (i := 8) scKindsReadL.nd rfl (Or.inl rfl)) pgs_nil)))
        (pss_cons (ps_if (pt_cmpR op_ge (pv 8) (pv 1) (nomark _)) (pss_one (ps_ret (pe_tup (pa_cons pe_str pa_nil)))) pss_nil)
        (pss_one (ps_asg (pe_op op_add (pe_ix ix_list (pv 10) (pv 8) (fun _ _ => rfl)) (pv 7)) (pg_sub (pv 10) (pv 8) set_list)))))
      (pss_one (ps_ret (pe_ifExp (pt_cmpR op_lt (pe_callB (cr_max rfl) rfl T.f_max (by decide +kernel) (pa_cons (pe_lc (own := [("_law_number_here", 7)]) (g := gName 7) (tt := tYes) rfl scKindsReadL.nd (pi_list (pv 10)) (blkOk_by (N := ["_law_text", "_law_length", "_law_sign", "_law_here", "_law_terms", "_law_is_open", "_law_wrong", "_law_number_here", "_law_index", "_law_behind", "_law_found"]) (sc := defScope sKindsReadL) (by decide +kernel)) (fun _ _ _ _ _ => pg_name (i := 7) scKindsReadL.nd rfl (Or.inl rfl)) (fun _ _ _ _ _ => pts_nil) (fun _ _ _ _ _ => (pe_callB call_abs rfl T.f_abs (by decide +kernel) (pa_cons (pv 7) pa_nil)))) pa_nil)) (pe_op op_pw pe_int pe_int) (nomark _)) (pe_tup (pa_cons pe_str (pa_cons (pe_callTy call_tuple_of rfl T.f_tuple (by decide +kernel) (pa_cons (pv 10) pa_nil)) pa_nil))) (pe_tup (pa_cons pe_str pa_nil)))))))))))), ?_⟩
    have hl := cds_len z
    have z4 : z.length ≤ 4000 := by omega
    refine ⟨_, rfl, rfl, _, rfl, ?_⟩
    rw [zero_text]
    by_cases c0 : cds z = [48]
    · refine ifT (decide_eq_true c0) ?_
      unfold kindsT at q
      rw [if_pos c0] at q
      replace q : if ((List.replicate n (0 : Int)).all fun k => isI (.int k)) = true then rTold K ((List.replicate n (0 : Int)).map V.int) H Q else rTell1 "kinds" H Q := q
      rw [if_pos (List.all_eq_true.mpr fun k hk => by rw [List.eq_of_mem_replicate hk]; decide +kernel)] at q
      refine ⟨by show 1 ≤ sizeLine; decide, fun t ft => ?_⟩
      refine ⟨_, rfl, t, (n : Int), [.int 0], rfl, rfl, .inl (.inl upd_same), by simp, by omega, by omega, by show 1 ≤ 1000; omega, fun H2 t2 s2 st2 => ?_⟩
      refine ⟨by show 2 ≤ sizeLine; decide, fun u fu => ?_⟩
      refine q _ t2 u (((same_new ft).trans s2).trans (same_new fu)) ?_ upd_same
      have er : (List.replicate n (0 : Int)).map V.int = (List.replicate (n : Int).toNat [V.int 0]).flatten := by
        rw [Int.toNat_natCast, List.map_replicate, List.flatten_replicate_singleton]
      rw [er]
      exact same_sqt (same_new fu) st2
    refine ifF (decide_eq_false c0) ?_
    unfold kindsT at q
    rw [if_neg c0] at q
    refine ⟨by show 0 ≤ sizeLine; decide, fun L fL => ?_⟩
    have SL : Same H (upd H L (.lst [])) := same_new fL
    have eL : (upd H L (.lst [])) L = some (.lst []) := upd_same
    generalize upd H L _ = H1 at SL eL ⊢
    refine ⟨by show 4 ≤ sizeLine; decide, fun T1 fT1 => ?_⟩
    refine ⟨T1, _, rfl, .inl (.inl upd_same), rfl, _, _, rfl, ?_⟩
    refine ⟨_, _, rfl, ?_⟩
    refine ⟨_, _, rfl, ?_⟩
    refine ⟨_, _, rfl, rfl, ?_⟩
    have SL2 := SL.trans (same_new fT1 (o := .tup [.int 1, .int 0, .ref L, .bl true]))
    have eL2 := same_new fT1 (o := .tup [.int 1, .int 0, .ref L, .bl true]) _ _ eL
    generalize upd H1 T1 _ = H2 at SL2 eL2 ⊢
    refine ⟨_, rfl, _, rfl, z, rfl, line4000 z4, rfl, ?_⟩
    have e1 : decide (V.str (cutS z none (some 1)) = V.str "-") = isAt (cds z) 0 45 := by
      rw [cut_none]
      exact cut_sgn (z := z) (i := 0) (c := 45) (by decide +kernel)
    rw [e1]
    refine ⟨_, rfl, ?_⟩
    have lessC : ∀ b, isAt (cds z) 0 45 = b → (b && isAt (cds z) 1 48) = false → termsR (cds z) = termIn (cds z) (cds z).length [] b (if b = true then 1 else 0) := by
      intro b hb h2
      unfold termsR lessR
      cases b with
      | false => rw [hb]; rfl
      | true =>
        rw [Bool.true_and] at h2
        rw [hb, h2]
        rfl
    cases b45 : isAt (cds z) 0 45
    case' true =>
      refine ifT rfl ?_
      refine ⟨_, rfl, by show 2 ≤ sizeLine; decide, fun T2 fT2 => ?_⟩
      refine ⟨T2, _, rfl, .inl (.inl upd_same), rfl, _, _, rfl, ?_⟩
      refine ⟨_, _, rfl, rfl, ?_⟩
      have SL3 := SL2.trans (same_new fT2 (o := .tup [.int (-1), .int 1]))
      have eL3 := same_new fT2 (o := .tup [.int (-1), .int 1]) _ _ eL2
      generalize upd H2 T2 _ = H3 at SL3 eL3 ⊢
    case' false =>
      refine ifF rfl ?_
      have SL3 := SL2
      have eL3 := eL2
      obtain ⟨H3, h23⟩ : ∃ H3, H3 = H2 := ⟨_, rfl⟩
      rw [← h23] at SL3 eL3 ⊢
    all_goals
      refine ⟨_, rfl, _, rfl, z, rfl, line4000 z4, rfl, ?_⟩
      rw [two_signs, b45]
      refine ⟨_, rfl, ?_⟩
      cases b2 : isAt (cds z) 1 48
    case true.true =>
      refine ifT rfl ?_
      have : termsR (cds z) = .error 1 := by
        unfold termsR lessR
        rw [if_pos b45, if_pos b2]
      rw [this] at q
      exact ⟨by show 2 ≤ sizeLine; decide, fun u fu => q _ u (SL3.trans (same_new fu)) upd_same⟩
    all_goals
      refine ifF rfl ?_
      rw [lessC _ b45 (by rw [b2]; rfl)] at q
      clear lessC e1 SL eL SL2 eL2
      generalize hR : termIn (cds z) (cds z).length [] _ _ = R at q
      refine while_by (fun σ H4 => ∃ (b op : Bool) (s f : Nat) (vs : List V) (ts : List (Nat × Int)) (x6 x7 x8 x9 x10 : Option V), σ = [some (.str z), some (.int (n : Int)), some (.int (if b = true then -1 else 1)), some (.int (s : Int)), some (.ref L), some (.bl op), x6, x7, x8, x9, x10] ∧
          Same H H4 ∧ H4 L = some (.lst vs) ∧ PL K L H4 vs ts ∧ (op = true → termIn (cds z) f ts b s = R ∧ (cds z).length ≤ f + s ∧ vs.length ≤ s ∧ s ≤ (cds z).length) ∧ (op = false → R = .ok ts ∧ vs.length ≤ 4000))
        (fun σ _ => match σ with | [_, _, _, some (.int e), _, some (.bl op), _, _, _, _, _] => if op = true then 1 + ((cds z).length - e).toNat else 0 | _ => 0) ?_ ?_ ?_
      · first
          | exact ⟨false, true, 0, (cds z).length, [], [], _, _, _, _, _, rfl, SL3, eL3, .nil, fun _ => ⟨hR, by omega, Nat.zero_le _, Nat.zero_le _⟩, fun c => absurd c (by decide)⟩
          | exact ⟨true, true, 1, (cds z).length, [], [], _, _, _, _, _, rfl, SL3, eL3, .nil, fun _ => ⟨hR, by omega, Nat.zero_le _, by have := isAt_lt b45; omega⟩, fun c => absurd c (by decide)⟩
      · rintro σ H4 ⟨b, op, s, f, vs, ts, x6, x7, x8, x9, x10, rfl, S4, h4, p4, qo, qc⟩
        refine ⟨_, rfl, ?_⟩
        refine ⟨_, rfl, ?_⟩
        cases op with
        | true =>
          refine ifT rfl ?_
          obtain ⟨gR, lf, lv, ls⟩ := qo rfl
          clear qo qc
          refine ⟨_, rfl, _, rfl, z, s, rfl, hz, ?_⟩
          cases et : termR (cds z) s with
          | error j =>
            rw [termIn_no et] at gR
            rw [← gR] at q
            intro u H5 x y v s5 hu
            refine ⟨u, _, rfl, .inl (.inl hu), rfl, _, _, rfl, ?_⟩
            refine ⟨_, _, rfl, ?_⟩
            refine ⟨_, _, rfl, ?_⟩
            refine ⟨_, _, rfl, rfl, ?_⟩
            refine ⟨_, rfl, rfl, _, rfl, ?_⟩
            refine ifT rfl ?_
            exact ⟨_, rfl, by show 2 ≤ sizeLine; decide, fun u fu => q _ u ((S4.trans s5).trans (same_new fu)) upd_same⟩
          | ok r =>
            obtain ⟨x, m, e⟩ := r
            have gt := termR_gt et
            intro u H5 s5 hu
            refine ⟨u, _, rfl, .inl (.inl hu), rfl, _, _, rfl, ?_⟩
            refine ⟨_, _, rfl, ?_⟩
            refine ⟨_, _, rfl, ?_⟩
            refine ⟨_, _, rfl, rfl, ?_⟩
            refine ⟨_, rfl, rfl, _, rfl, ?_⟩
            refine ifF rfl ?_
            have h5 := s5 _ _ h4
            have S5 := S4.trans s5
            have p5 := pl_same p4 s5
            refine ⟨_, rfl, .inl ⟨rfl, _, .inl (.inl h5)⟩, _, rfl, _, rfl, _, _, rfl, rfl, .inl (by cases b <;> decide), _, rfl, by show 2 ≤ sizeLine; decide, fun T3 fT3 => ?_⟩
            have LT : T3 ≠ L := (ne_of_none h5 fT3).symm
            refine ⟨L, vs, _, rfl, rfl, (upd_ne LT.symm).trans h5, by rw [sizeLine_eq]; omega, ?_⟩
            have sg : (if b = true then (-1 : Int) else 1) * (m : Int) = sgn b m := by
              unfold sgn
              cases b <;> simp
            have S6 : Same H (upd (upd H5 T3 (.tup [.int ((if b = true then (-1 : Int) else 1) * (m : Int)), .int (x : Nat)])) L (.lst (vs ++ [.ref T3]))) := fun a o h => by
              rw [upd_ne (ne_of_none h fL)]
              exact same_new fT3 _ _ (S5 a o h)
            have p6 : PL K L (upd (upd H5 T3 (.tup [.int ((if b = true then (-1 : Int) else 1) * (m : Int)), .int (x : Nat)])) L (.lst (vs ++ [.ref T3]))) (vs ++ [.ref T3]) (ts ++ [(x, sgn b m)]) :=
              pl_upd (pl_add (pl_same p5 (same_new fT3)) LT (by rw [upd_same, sg]))
            have h6 : (upd (upd H5 T3 (.tup [.int ((if b = true then (-1 : Int) else 1) * (m : Int)), .int (x : Nat)])) L (.lst (vs ++ [.ref T3]))) L = some (.lst (vs ++ [.ref T3])) := upd_same
            generalize upd (upd H5 T3 _) L _ = H6 at S6 p6 h6 ⊢
            have lv6 : (vs ++ [V.ref T3]).length = vs.length + 1 := by rw [List.length_append]; rfl
            generalize vs ++ [V.ref T3] = vs2 at p6 h6 lv6
            refine ⟨_, rfl, _, rfl, z, rfl, line4000 z4, _, _, rfl, rfl, ?_⟩
            show gName 5 (V.bl (decide ((e : Int) < (z.length : Int)))) _ _ _
            by_cases c : e < (cds z).length
            · rw [show decide ((e : Int) < (z.length : Int)) = true from decide_eq_true (by rw [hl]; omega)]
              refine ⟨_, rfl, ?_⟩
              refine ⟨_, rfl, ?_⟩
              refine ifT rfl ?_
              obtain ⟨f2, rfl⟩ : ∃ f2, f = f2 + 1 := ⟨f - 1, by omega⟩
              refine ix_ne (e := e) (c := 32) rfl rfl z4 c (by decide +kernel) ?_
              cases a : isAt (cds z) e 32 with
              | false =>
                refine ifT rfl ?_
                rw [termIn_b1 et c a] at gR
                rw [← gR] at q
                exact ⟨_, rfl, by show 2 ≤ sizeLine; decide, fun u fu => q _ u (S6.trans (same_new fu)) upd_same⟩
              | true =>
              refine ifF rfl ?_
              refine ⟨_, rfl, _, rfl, _, _, rfl, rfl, _, rfl, _, rfl, _, _, rfl, rfl, _, rfl, z, rfl, line4000 z4, by show 2 ≤ sizeLine; decide, fun T4 fT4 => ?_⟩
              have h7 := same_new fT4 (o := .tup [.str "+", .str "-"]) _ _ h6
              have p7 := pl_same p6 (same_new fT4 (o := .tup [.str "+", .str "-"]))
              have S7 := S6.trans (same_new fT4 (o := .tup [.str "+", .str "-"]))
              refine ⟨T4, _, rfl, .inr (.inl (.inl upd_same)), rfl, rfl, ?_⟩
              generalize upd H6 T4 _ = H7 at h7 p7 S7 ⊢
              refine ⟨_, rfl, ?_⟩
              rw [if_pos rfl, in_pm]
              by_cases a1 : isAt (cds z) (e + 1) 43 = true ∨ isAt (cds z) (e + 1) 45 = true
              · refine ifF (by rcases a1 with a1 | a1 <;> rw [a1] <;> cases isAt (cds z) (e + 1) 43 <;> rfl) ?_
                have l1 : e + 1 < (cds z).length := a1.elim isAt_lt isAt_lt
                refine far_ne (i := e) (c := 32) 2 rfl rfl rfl z4 (by decide +kernel) ?_
                cases a2 : isAt (cds z) (e + 2) 32 with
                | false =>
                  refine ifT rfl ?_
                  rw [termIn_b3 et c a a1 a2] at gR
                  rw [← gR] at q
                  exact ⟨_, rfl, _, _, rfl, rfl, by show 2 ≤ sizeLine; decide, fun u fu => q _ u (S7.trans (same_new fu)) upd_same⟩
                | true =>
                refine ifF rfl ?_
                have l2 := isAt_lt a2
                rw [termIn_step et c a a1 a2] at gR
                refine ⟨_, rfl, _, rfl, _, _, rfl, rfl, z, _, (cds z)[e + 1], rfl, rfl, line4000 z4, ?_, rfl, ?_⟩
                · exact atI_nat (j := e + 1) (List.getElem?_eq_getElem l1)
                rw [one_eq l1 (c := 43) (by decide +kernel)]
                refine ⟨_, rfl, ?_⟩
                cases a3 : isAt (cds z) (e + 1) 43 with
                | true =>
                  rw [isAt_two a3 (by decide)] at gR
                  refine ifT rfl ?_
                  refine ⟨_, rfl, _, _, rfl, rfl, ?_⟩
                  refine ⟨_, _, rfl, ?_⟩
                  refine ⟨⟨false, true, e + 3, f2, vs2, _, _, _, _, _, _, rfl, S7, h7, p7, fun _ => ⟨gR, by omega, by omega, by omega⟩, fun c => absurd c (by decide)⟩, ?_⟩
                  show 1 + (((cds z).length : Int) - ((e : Int) + 3)).toNat < 1 + (((cds z).length : Int) - (s : Int)).toNat
                  omega
                | false =>
                  rw [a1.resolve_left (by rw [a3]; decide)] at gR
                  refine ifF rfl ?_
                  refine ⟨_, rfl, _, rfl, _, _, rfl, rfl, ?_⟩
                  refine ⟨_, _, rfl, ?_⟩
                  refine ⟨⟨true, true, e + 3, f2, vs2, _, _, _, _, _, _, rfl, S7, h7, p7, fun _ => ⟨gR, by omega, by omega, by omega⟩, fun c => absurd c (by decide)⟩, ?_⟩
                  show 1 + (((cds z).length : Int) - ((e : Int) + 3)).toNat < 1 + (((cds z).length : Int) - (s : Int)).toNat
                  omega
              · have a43 : isAt (cds z) (e + 1) 43 = false := by
                  cases h : isAt (cds z) (e + 1) 43 with
                  | false => rfl
                  | true => exact absurd (.inl h) a1
                have a45 : isAt (cds z) (e + 1) 45 = false := by
                  cases h : isAt (cds z) (e + 1) 45 with
                  | false => rfl
                  | true => exact absurd (.inr h) a1
                refine ifT (by rw [a43, a45]; rfl) ?_
                rw [termIn_b2 et c a a43 a45] at gR
                rw [← gR] at q
                exact ⟨_, rfl, _, _, rfl, rfl, by show 2 ≤ sizeLine; decide, fun u fu => q _ u (S7.trans (same_new fu)) upd_same⟩
            · rw [show decide ((e : Int) < (z.length : Int)) = false from decide_eq_false (by rw [hl]; omega)]
              refine ⟨_, rfl, ?_⟩
              refine ⟨_, rfl, ?_⟩
              refine ifF rfl ?_
              rw [termIn_end et c] at gR
              refine ⟨⟨b, false, s, f, _, _, _, _, _, _, _, rfl, S6, h6, p6, fun c => absurd c (by decide), fun _ => ⟨gR.symm, by omega⟩⟩, ?_⟩
              show 0 < 1 + (((cds z).length : Int) - (s : Int)).toNat
              omega
        | false =>
          refine ifF rfl ?_
          obtain ⟨gR, lv⟩ := qc rfl
          clear qo qc
          rw [gR] at q
          dsimp only at q
          have tl := pl_len p4
          refine ⟨by show 1 ≤ sizeLine; decide, fun L0 fL0 => ?_⟩
          have Sb := S4.trans (same_new fL0 (o := .lst [.int 0]))
          have hb := same_new fL0 (o := .lst [.int 0]) _ _ h4
          have pb := pl_same p4 (same_new fL0 (o := .lst [.int 0]))
          have e0 : (upd H4 L0 (.lst [.int 0])) L0 = some (.lst [.int 0]) := upd_same
          refine ⟨_, rfl, L0, (n : Int), [.int 0], rfl, rfl, e0, by omega, by omega, by rw [sizeLine_eq]; show 1 * (n : Int).toNat ≤ _; omega, fun F nF => ?_⟩
          have er : (List.replicate (n : Int).toNat [V.int 0]).flatten = (List.replicate n (0 : Int)).map V.int := by
            rw [Int.toNat_natCast, List.map_replicate, List.flatten_replicate_singleton]
          rw [er]
          generalize upd H4 L0 _ = Hb at Sb hb pb nF ⊢
          have SF : Same Hb (upd Hb F (.lst ((List.replicate n (0 : Int)).map V.int))) := same_new nF
          have eF : (upd Hb F (.lst ((List.replicate n (0 : Int)).map V.int))) F = some (.lst ((List.replicate n (0 : Int)).map V.int)) := upd_same
          generalize upd Hb F _ = H8 at SF eF ⊢
          have kl0 : (List.replicate n (0 : Int)).length = n := List.length_replicate
          generalize List.replicate n (0 : Int) = k0 at q eF kl0
          generalize hA : addT k0 ts = A at q
          refine ⟨_, rfl, L, rfl, ⟨_, .inl (.inl (SF _ _ hb))⟩, for_list (K := K) (a := L) (xs := vs) (fun i σ H9 => Same Hb H9 ∧ (∃ ks : List Int, H9 F = some (.lst (ks.map V.int)) ∧ ks.length = n ∧ addT ks (ts.drop i) = A) ∧
              ∃ y2 y3 y5 y6 y7 y8 y9, σ = [some (.str z), some (.int (n : Int)), y2, y3, some (.ref L), y5, y6, y7, y8, y9, some (.ref F)])
            ⟨SF, ⟨k0, eF, kl0, hA⟩, _, _, _, _, _, _, _, rfl⟩ (fun i σ H9 _ h => .inl (.inl (h.1 _ _ hb))) ?_ ?_⟩
          · rintro i v σ H9 hv ⟨S9, ⟨ks, hF, kl, gA⟩, y2, y3, y5, y6, y7, y8, y9, rfl⟩
            obtain ⟨lv9, _⟩ := List.getElem?_eq_some_iff.mp hv
            have lt : i < ts.length := by omega
            obtain ⟨p, hp, a, rfl, na, ea⟩ := paired_at pb hv
            have dr : ts.drop i = p :: ts.drop (i + 1) := by
              obtain ⟨lt2, e2⟩ := List.getElem?_eq_some_iff.mp hp
              rw [← e2]
              exact List.drop_eq_getElem_cons lt2
            rw [dr] at gA
            obtain ⟨ix, m⟩ := p
            refine ⟨a, _, rfl, .inl (.inl (S9 _ _ ea)), rfl, _, _, rfl, ?_⟩
            refine ⟨_, _, rfl, rfl, ?_⟩
            refine ⟨_, rfl, _, rfl, _, _, rfl, rfl, _, rfl, ?_⟩
            by_cases c : ix < n
            · refine ifF (decide_eq_false (by omega)) ?_
              rw [show addT ks ((ix, m) :: ts.drop (i + 1)) = addT (ks.set ix (ks.getD ix 0 + m)) (ts.drop (i + 1)) from if_pos (by rw [kl]; exact c)] at gA
              have gd : (ks.map V.int)[ix]? = some (.int (ks.getD ix 0)) := by
                rw [List.getElem?_map, List.getD_eq_getElem?_getD, List.getElem?_eq_getElem (by omega)]
                rfl
              refine ⟨_, rfl, _, rfl, F, _, _, _, rfl, rfl, .inl (.inl hF), atI_nat gd, _, rfl, _, _, rfl, rfl, ?_⟩
              refine ⟨_, rfl, _, rfl, F, _, (ix : Int), ix, rfl, rfl, hF, ixN_in (by rw [List.length_map]; omega), ?_⟩
              refine ⟨?_, ⟨ks.set ix (ks.getD ix 0 + m), ?_, by rw [List.length_set]; exact kl, gA⟩, _, _, _, _, _, _, _, rfl⟩
              · intro b o hb
                rw [upd_ne (ne_of_none hb nF)]
                exact S9 _ _ hb
              · rw [upd_same, List.map_set]
            · refine ifT (decide_eq_true (by omega)) ?_
              rw [show addT ks ((ix, m) :: ts.drop (i + 1)) = none from if_neg (by rw [kl]; exact c)] at gA
              rw [← gA] at q
              exact ⟨by show 1 ≤ sizeLine; decide, fun u fu => q _ u ((Sb.trans S9).trans (same_new fu)) upd_same⟩
          · rintro σ H9 ⟨S9, ⟨ks, hF, kl, gA⟩, y2, y3, y5, y6, y7, y8, y9, rfl⟩
            rw [tl, List.drop_length] at gA
            replace gA : some ks = A := gA
            rw [← gA] at q
            replace q : if (ks.all fun k => isI (.int k)) = true then rTold K (ks.map V.int) H Q else rTell1 "kinds" H Q := q
            refine ⟨_, rfl, F, rfl, ⟨_, .inl (.inl hF)⟩, fun D2 nD2 => ?_⟩
            refine lc_seq (fun x => match x with | .int i => .int (if i < 0 then -i else i) | _ => .non) (.inl (.inl hF)) nD2 (by rw [List.length_map, kl]; exact Nat.le_trans n60 (by decide)) ?_ ?_
            · intro x acc hx Q' q'
              obtain ⟨k, _, rfl⟩ := List.mem_map.mp hx
              exact ⟨_, rfl, k, rfl, q'⟩
            have em : ((ks.map V.int).map fun x => match x with | .int i => V.int (if i < 0 then -i else i) | _ => .non) = (ks.map fun k => if k < 0 then -k else k).map V.int := by
              rw [List.map_map, List.map_map]
              rfl
            rw [em]
            have S10 := (Sb.trans S9).trans (same_new nD2 (o := .lst ((ks.map fun k => if k < 0 then -k else k).map V.int)))
            have hF10 := same_new nD2 (o := .lst ((ks.map fun k => if k < 0 then -k else k).map V.int)) _ _ hF
            have eD : (upd H9 D2 (.lst ((ks.map fun k => if k < 0 then -k else k).map V.int))) D2 = _ := upd_same
            generalize upd H9 D2 _ = H10 at S10 hF10 eD ⊢
            refine ⟨D2, _, rfl, .inl (.inl eD), by rw [List.length_map, kl]; omega, fun mx hm hx => ?_⟩
            rw [all_isI ks mx hm hx] at q
            refine ⟨10, 60, rfl, rfl, (by show CPw _ _; decide +kernel), _, _, rfl, rfl, _, rfl, ?_⟩
            show if decide (mx < 10 ^ 60) = true then _ else _
            cases hc : decide (mx < 10 ^ 60) with
            | true =>
              rw [hc, if_pos rfl] at q
              refine ifT rfl ?_
              refine ⟨_, rfl, F, _, rfl, .inl ⟨.inl (.inl hF10), fun t ft => ?_⟩⟩
              exact ⟨by show 2 ≤ sizeLine; decide, fun u fu => q _ t u ((S10.trans (same_new ft)).trans (same_new fu)) (same_sqt (same_new fu) (.inl (.inl upd_same))) upd_same⟩
            | false =>
              rw [hc, if_neg (by decide)] at q
              refine ifF rfl ?_
              exact ⟨by show 1 ≤ sizeLine; decide, fun u fu => q _ u (S10.trans (same_new fu)) upd_same⟩
      · rintro σ H2 Q1 Q2 mono hyp
        revert mono hyp
        walk_at "mono"
end
end K85


set_option Elab.async false
set_option linter.all false
set_option maxRecDepth 100000
set_option maxHeartbeats 2000000
namespace K85
open PySem PySem.Spec PyProof.Rows L2 MM LamX
/-! texts put together -/
def rAddS : R2 := fun x y H Q => ∃ i j, x = .str i ∧ y = .str j ∧ i.length + j.length ≤ sizeLine ∧ Q (.str (i ++ j)) H
/-- a short text, many times -/
def manyS (z : Str) (n : Nat) : Str := ⟨((List.replicate n z.cps.toList).flatten).toArray⟩
def rRepB : R2 := fun x y H Q => ∃ (z : Str) (n : Nat), x = .str z ∧ y = .int (n : Int) ∧ 1 ≤ n ∧ n ≤ 5000 ∧ 1 ≤ z.length ∧ z.length ≤ 100 ∧ Q (.str (manyS z n)) H
theorem fold_many (a : Array Nat) : ∀ (n : Nat) (acc : Array Nat), List.foldl (· ++ ·) acc (List.replicate n a) = acc ++ ((List.replicate n a.toList).flatten).toArray
  | 0, acc => by simp
  | n + 1, acc => by
    rw [List.replicate_succ, List.foldl_cons, fold_many a n, List.replicate_succ, List.flatten_cons]
    apply Array.ext'
    simp
theorem manyS_len (z : Str) (n : Nat) : (manyS z n).length = n * z.length := by
  show ((List.replicate n z.cps.toList).flatten).toArray.size = _
  rw [List.size_toArray, PyProof.Rows.lm_len_rep_flat]
  rfl
theorem op_repB {X : Cx} : OpR X (binaryOp .Mult) rRepB := by
  rintro pins s σ H _ _ v u Q I rx ry ⟨z, n, rfl, rfl, n1, n2, z1, z2, q⟩
  obtain ⟨t, rfl⟩ := rx
  obtain ⟨t', rfl⟩ := ry
  have small : z.length * n ≤ 100 * 5000 := Nat.mul_le_mul z2 n2
  have e : List.foldl (· ++ ·) #[] (List.replicate ((n : Int)).toNat z.cps) = (manyS z n).cps := by
    rw [fold_many, Int.toNat_natCast]
    show #[] ++ _ = _
    simp [manyS]
  refine PySem.P.mul_str ?_ (fun _ _ => ?_) (fun _ _ => ?_) ?_
  · rw [decide_eq_false (by omega), decide_eq_false (by omega)]
    rfl
  · have sm : (z.length : Int) * (n : Int) ≤ 2 ^ 63 - 1 := by
      rw [← Int.natCast_mul]
      omega
    have := Int.le_ediv_of_mul_le (by omega) sm
    omega
  · show decide (_ > sizeLine) = false
    refine decide_eq_false ?_
    rw [sizeLine_eq]
    have : (z.length : Int) * (n : Int) = ((z.length * n : Nat) : Int) := (Int.natCast_mul _ _).symm
    first | omega | (rw [Int.toNat_natCast]; omega)
  · rw [if_neg (by omega)]
    split
    · rename_i h
      have n1' : n = 1 := by
        rcases Bool.or_eq_true_iff.mp h with h | h
        · have := eq_of_beq h
          omega
        · have := eq_of_beq h
          omega
      have ez : manyS z n = z := by
        rw [n1']
        obtain ⟨c⟩ := z
        unfold manyS
        simp
      rw [ez] at q
      exact ⟨.str z, H, I, ⟨t, rfl⟩, q⟩
    · refine ⟨?_, .str _, H, I.tok _, ⟨_, rfl⟩, ?_⟩
      · show (List.foldl (· ++ ·) #[] (List.replicate ((n : Int)).toNat z.cps)).size ≤ sizeLine
        rw [e, sizeLine_eq]
        show (manyS z n).length ≤ _
        rw [manyS_len, Nat.mul_comm]
        omega
      · show Q (.str ⟨List.foldl (· ++ ·) #[] (List.replicate ((n : Int)).toNat z.cps)⟩) H
        rw [e]
        exact q
end K85

set_option Elab.async false
set_option linter.all false
set_option maxRecDepth 100000
set_option maxHeartbeats 2000000
namespace K85
open PySem PySem.Spec PyProof.Rows L2 MM LamX
/-! own words for the readings: a step, its side -/
local macro_rules | `(tactic| walk_at "side") => `(tactic| first
  | omega
  | exact ⟨by omega, by omega⟩
  | exact Or.inl ⟨by omega, by omega⟩
  | exact Or.inr ⟨by omega, by omega⟩
  | (show CPw _ _; decide +kernel)
  | (show (0 : Int) < _; decide +kernel)
  | (show CDivW _ _; first | assumption | exact ⟨by decide, by decide +kernel⟩))
local macro_rules | `(tactic| walk_at "here") => `(tactic| first
  | assumption
  | exact upd_same
  | exact Or.inl (Or.inl upd_same)
  | exact Or.inl upd_same)
local macro_rules | `(tactic| walk_at "one") => `(tactic| first
  | refine ⟨_, rfl, ?_⟩
  | refine Or.inl ⟨_, rfl, ?_⟩
  | refine Or.inr ⟨_, rfl, ?_⟩
  | refine ⟨_, _, rfl, rfl, (by walk_at "side"), ?_⟩
  | refine ⟨_, _, rfl, rfl, ?_⟩
  | refine ⟨_, _, rfl, Or.inl (by walk_at "here"), ?_⟩
  | refine ⟨_, _, rfl, Or.inr (by walk_at "here"), ?_⟩
  | refine ⟨_, _, rfl, (by walk_at "here"), ?_⟩
  | refine ⟨_, _, _, _, rfl, rfl, (by walk_at "here"), rfl, ?_⟩
  | refine ⟨_, _, rfl, ?_⟩
  | refine ifT (by rfl) ?_
  | refine ifF (by rfl) ?_
  | refine ifT (decide_eq_true (by omega)) ?_
  | refine ifF (decide_eq_false (by omega)) ?_)
local macro_rules | `(tactic| walk_at "st") => `(tactic| repeat (walk_at "one"))

section
variable {P : Program} {w : World} {K : PySem.W.Frag} {mg : Str → Option Value} {base : Heap}
/-! heaps in which tables of code objects grow -/
theorem sqtE {H H' : Hp} {a : Addr} {xs : List V} (h : SqT K H a xs) (e : ExtN H H') : SqT K H' a xs := by
  rcases h with (h | ⟨o, h⟩) | h
  · exact .inl (.inl (e _ _ h (fun ps z => by cases z)))
  · exact .inl (.inr ⟨o, e _ _ h (fun ps z => by cases z)⟩)
  · exact .inr h
theorem sqlE {H H' : Hp} {a : Addr} {xs : List V} (h : SqL K H a xs) (e : ExtN H H') : SqL K H' a xs := by
  rcases h with (h | ⟨o, h⟩) | h
  · exact .inl (.inl (e _ _ h (fun ps z => by cases z)))
  · exact .inl (.inr ⟨o, e _ _ h (fun ps z => by cases z)⟩)
  · exact .inr h
theorem kdE {H H' : Hp} {x : V} {n : Kn} (h : Kd K H x n) (e : ExtN H H') : Kd K H' x n := by
  cases h with
  | non => exact .non
  | bl b => exact .bl b
  | int i => exact .int i
  | str z => exact .str z
  | lst h => exact .lst (sqlE h e)
  | tup h => exact .tup (sqtE h e)
  | dct h => exact .dct (e _ _ h (fun ps z => by cases z))
theorem ext_same {H H' : Hp} (s : Same H H') : ExtN H H' := fun b o h _ => s b o h
mutual
theorem dpE {H H' : Hp} (e : ExtN H H') : ∀ (d : PyData) (v : V), Dp K H v d → Dp K H' v d
  | .none, _, h => by cases h; exact .non
  | .bool b, _, h => by cases h; exact .bl b
  | .int i, _, h => by cases h; exact .int i
  | .str z, _, h => by cases h; exact .str z
  | .list ds, _, h => by
    cases h with
    | lst h1 h2 => exact .lst (sqlE h1 e) (dpsE e ds _ h2)
  | .tuple ds, _, h => by
    cases h with
    | tup h1 h2 => exact .tup (sqtE h1 e) (dpsE e ds _ h2)
  | .dict _, _, h => nomatch h
theorem dpsE {H H' : Hp} (e : ExtN H H') : ∀ (ds : List PyData) (vs : List V), DpAll K H vs ds → DpAll K H' vs ds
  | [], _, h => by cases h; exact .nil
  | d :: ds, _, h => by
    cases h with
    | cons h1 h2 => exact .cons (dpE e d _ h1) (dpsE e ds _ h2)
end
/-- without p -/
def wo (H : Hp) (p : Addr) : Hp := fun b => if b = p then none else H b
theorem wo_ne {H : Hp} {p b : Addr} (h : b ≠ p) : wo H p b = H b := if_neg h
theorem wo_some {H : Hp} {g b : Addr} {o : HO} (h : wo H g b = some o) : b ≠ g ∧ H b = some o := by
  by_cases e : b = g
  · have : wo H g b = none := if_pos e
    rw [this] at h
    cases h
  · rw [wo_ne e] at h
    exact ⟨e, h⟩
/-! what the law's call of a lambda tells -/
/-- what the clauses make of an error -/
def Caught (K : PySem.W.Frag) (Q : VK) : XK := fun cls d H' =>
  (cls = .ref (ga K "ParseError") ∧ ∃ (dd : Addr) (i : Int), d = some dd ∧ H' dd = some (.xd [("index", .int i)]) ∧ ∀ t, H' t = none → Q (.ref t) (upd H' t (.tup [.str "parse", .int i]))) ∨
  (cls = .ref (ga K "InvalidMove") ∧ ∀ t, H' t = none → Q (.ref t) (upd H' t (.tup [.str "move"]))) ∨
  (cls = .ref (ga K "InvalidRow") ∧ ∀ t, H' t = none → Q (.ref t) (upd H' t (.tup [.str "row"]))) ∨
  (cls = .ref (ga K "InvalidKinds") ∧ ∀ t, H' t = none → Q (.ref t) (upd H' t (.tup [.str "kinds"])))
def Told (Q : VK) : VK := fun v H' => 2 ≤ sizeLine ∧ ∀ t, H' t = none → Q (.ref t) (upd H' t (.tup [.str "told", v]))
def TTW (K : PySem.W.Frag) : (XK → Hp → VK → Prop) → Hp → VK → Prop := fun tl H Q => tl (Caught K Q) H (Told Q)
theorem scWord : FnScope ["_law_call", "error"] ["_law_call"] (defScope sMetL) :=
  ⟨rfl, rfl, rfl, by decide +kernel, rfl, by decide +kernel, by decide +kernel⟩
theorem word_gives {X : Cx} {k : Nat} {q : Str} {g : Addr} {cd : Value} (T : Tx X.K X.mg) (Y : Ex X.K X.mg) (hr : Rm (k + 1) X.A) :
    GivesTo X ["_law_call", "error"] "_law_met" (defScope sMetL) g cd (defBody sMetL) "_law_call" q (TTW X.K) := by
  intro f c' s H Q tl act hc h
  have hrd : Rm k (X.A.deeper (envOfC "_law_met" (defScope sMetL) s.heap.objs.size g cd)) := hr.down
  have fl : ∀ i j, i < 4 → j < i → PySem.W.exmOne X.K (.ref (ga X.K (cn i))) (.ref (ga X.K (cn j))) = some false := fun i j hi hj => by
    rw [Y.exm i hi j (Nat.le_of_lt hj), decide_eq_false (by omega)]
  have tr : ∀ i, i < 4 → PySem.W.exmOne X.K (.ref (ga X.K (cn i))) (.ref (ga X.K (cn i))) = some true := fun i hi => by
    rw [Y.exm i hi i (Nat.le_refl _), decide_eq_true rfl]
  refine ⟨_, pss_one (ME.ps_try_cl (X := (cxOf C8.CX0 X.prog X.w X.K X.mg X.base ["_law_call", "error"] "_law_met" (defScope sMetL) g cd X.A X.stack s H C8.E0).nox)
    (Wout := fun _ _ _ _ => False)
    (tb := fun W D σ H => ∃ Ech : XK, (∀ cls d σ' H', Ech cls d H' → W cls d σ' H') ∧ σ[0]? = some (some (.ref f)) ∧ H c' = some (CodeO c' q) ∧ tl Ech H (Told D.rt))
    rfl rfl takes0
    (.as_ (i := 1) (c := .ref (ga X.K "ParseError")) ⟨rfl, by decide, .inl Y.par.glo⟩ scWord.nd rfl rfl
      (fun a oe cls d pn hz hf => pss_one (ps_ret (pe_tup (pa_cons pe_str (pa_cons (pe_xf Y.par.field Y.par.none_ hz hf (pv 1)) pa_nil)))))
      (.no (c := .ref (ga X.K "InvalidMove")) ⟨rfl, by decide, .inl Y.mv.glo⟩ (fun _ _ _ _ _ _ _ => pss_one (ps_ret (pe_tup (pa_cons pe_str pa_nil))))
        (.no (c := .ref (ga X.K "InvalidRow")) ⟨rfl, by decide, .inl Y.rw.glo⟩ (fun _ _ _ _ _ _ _ => pss_one (ps_ret (pe_tup (pa_cons pe_str pa_nil))))
          (.no (c := .ref (ga X.K "InvalidKinds")) ⟨rfl, by decide, .inl Y.ks.glo⟩ (fun _ _ _ _ _ _ _ => pss_one (ps_ret (pe_tup (pa_cons pe_str pa_nil))))
            .nil))))
    (fun W pn xe tk _ => ?_)), ?_⟩
  · refine ⟨fun pins s' σ H' D I h' => ?_⟩
    obtain ⟨Ech, hW, h1, h2, h3⟩ := h'
    exact (pss_one (ps_ret (pe_tup (pa_cons pe_str (pa_cons (act W pn xe Ech _ _ tk hW) pa_nil))))).run pins s' σ H' D I ⟨h1, h2, h3⟩
  · refine ⟨Caught X.K Q, ?_, rfl, hc, h⟩
    rintro cls d σ' H' (⟨rfl, dd, i, rfl, ed, z⟩ | ⟨rfl, z⟩ | ⟨rfl, z⟩ | ⟨rfl, z⟩)
    · refine ⟨true, tr 0 (by decide), fun _ a na len => ?_, fun n => nomatch n⟩
      have e1 : (σ'.set 1 (some (V.ref a)))[1]? = some (some (V.ref a)) := by
        have l2 : σ'.length = 2 := len
        rw [List.getElem?_set_self (by omega)]
      exact ⟨_, e1, rfl, rfl, dd, _, _, rfl, ed, rfl, by show 2 ≤ sizeLine; decide, z⟩
    · exact ⟨false, fl 1 0 (by decide) (by decide), (fun n => nomatch n), fun _ => ⟨true, tr 1 (by decide), fun _ _ _ => ⟨by show 1 ≤ sizeLine; decide, z⟩, fun n => nomatch n⟩⟩
    · exact ⟨false, fl 2 0 (by decide) (by decide), (fun n => nomatch n), fun _ => ⟨false, fl 2 1 (by decide) (by decide), (fun n => nomatch n), fun _ => ⟨true, tr 2 (by decide), fun _ _ _ => ⟨by show 1 ≤ sizeLine; decide, z⟩, fun n => nomatch n⟩⟩⟩
    · exact ⟨false, fl 3 0 (by decide) (by decide), (fun n => nomatch n), fun _ => ⟨false, fl 3 1 (by decide) (by decide), (fun n => nomatch n), fun _ => ⟨false, fl 3 2 (by decide) (by decide), (fun n => nomatch n), fun _ => ⟨true, tr 3 (by decide), fun _ _ _ => ⟨by show 1 ≤ sizeLine; decide, z⟩, fun n => nomatch n⟩⟩⟩⟩
section
variable {CX : CXT} {k : Nat} {x : Str} {ps : List Str} {sp : Sp} {st : Stmt}
/-- a def whose body makes lambdas: its code object is known -/
theorem defC {N : List Str} (T : At K mg x st) (S : FnScope N ps (defScope st))
    (hb : ∀ (kV doc pm : Value) (an : Option Addr) (cd ct : Value) (us : List Value), us.length = ps.length →
      bindArgs (PySem.W.fnOf x x (defArgs st) (defBody st) (defScope st) .none kV doc pm an cd ct) ⟨us, []⟩ = pure (ps.zip us))
    (arity : ∀ vs H Q E, sp vs H Q E → vs.length = ps.length)
    (body : ∀ (f : Addr) (cd : Value) (A : Around) (out : List Env) (s : Shared) (H : Hp) (vs : List V) (Q : VK) (E : XK),
      cd = .ref (He.codeOf K (x, none)) → Rm k (A.deeper (envOfC x (defScope st) s.heap.objs.size f cd)) → sp vs H Q E →
      ∃ t, PSs (cxOf CX P w K mg base N x (defScope st) f cd A out s H E).nox (defBody st) t ∧
        t { nx := fun _ H' => Q .non H', rt := Q } (start N vs) H) : Def P w K mg base CX (k + 1) x ps sp := by
  obtain ⟨fd, F⟩ := T.fn
  have F' := F
  have bnd := F.bindsN hb
  obtain ⟨oc, od, dV, kV, doc, pm, an, cd, ct, osl, rfl, lk, hcd, _, _⟩ := F.ex
  have ec : cd = .ref (He.codeOf K (x, none)) := by
    obtain ⟨c, rfl⟩ := He.codeIn_ref hcd
    rw [He.codeOf_eq (p := (x, none)) lk rfl]
  refine ⟨_, _, ⟨fun h => arity _ _ _ _ h, ?_⟩, T.glo, F'.kp, bnd, oc, od, osl, lk⟩
  intro A out s H ar us vs Q E hr e0 hbd hv h
  have nv := arity _ _ _ _ h
  have inK : K.In s.heap := e0.mod.kin.keeps (fun b o e => (e0.bs b o e).1)
  have nl : s.heap.NoLimit := e0.mod.nolimit.keeps (fun b o e => (e0.bs b o e).1)
  have kd : ∀ y ∈ ps.zip us, (defScope st).names.lookup y.1 = some .local ∨
      ((defScope st).names.lookup y.1 = some .cell ∧ ((cellsFrom (s.heap.objs.size + 1) (defScope st).names []).lookup y.1).isSome = true) := by
    rintro ⟨n, v⟩ hy
    cases S.par n (List.of_mem_zip hy).1 with
    | inl q => exact .inl q
    | inr q => exact .inr ⟨q, PySem.W.cellsFrom_some _ _ _ (.inl q)⟩
  refine codeAny_call_function hr.room.depth (inK _ _ lk) rfl S.co S.gen rfl (PySem.W.codeRec_of inK hcd) (hbd _ _ _ _ ?_)
  refine wpAny_newFunctionEnv_cells S.kind kd (fun env he s1 xc => ?_)
  subst he
  refine ⟨nl.keeps xc.toInCall.keep, codeAny_func ?_⟩
  obtain ⟨t, ht, hq⟩ := body _ cd A out s H vs Q E ec hr.down h
  have I := inv_start (CX := CX) (P := P) (w := w) (qual := x) (cd := cd) (f := He.ga K x) (E := E) S hr.room.hd e0 nv hv xc
  refine wpAny_mono (ht.nox.run [] s1 (start N vs) H _ I hq) (fun fl s' hs => ?_) (fun e s' hs => hs)
  cases fl with
  | ret u =>
    obtain ⟨v, σ', H', J, rv, q⟩ := hs
    exact ⟨v, H', J.os, J.bare, J.base, J.hok, rv, q⟩
  | next =>
    obtain ⟨σ', H', J, q⟩ := hs
    exact ⟨.non, H', J.os, J.bare, J.base, J.hok, rfl, q⟩
  | brk =>
    obtain ⟨_, _, _, q⟩ := hs
    exact q.elim
  | cont =>
    obtain ⟨_, _, _, q⟩ := hs
    exact q.elim
end
abbrev q1 : Str := (envOfC sMr (defScope sMovesRightL) 0 0 .none).qual ++ "<lambda>"
abbrev q2 : Str := (envOfC sRr (defScope sRowsRightL) 0 0 .none).qual ++ "<lambda>"
abbrev q3 : Str := (envOfC sKr (defScope sKindsRightL) 0 0 .none).qual ++ "<lambda>"
abbrev q4 : Str := (envOfC sLw (defScope sLaw) 0 0 .none).qual ++ "<lambda>"
abbrev TL (K : PySem.W.Frag) : List (Addr × Str) := [((cd1 K).2, q1), ((cd2 K).2, q2), ((cd3 K).2, q3), ((cd4 K).2, q4)]
structure Ap (K : PySem.W.Frag) : Prop where
  n12 : (cd1 K).2 ≠ (cd2 K).2
  n13 : (cd1 K).2 ≠ (cd3 K).2
  n14 : (cd1 K).2 ≠ (cd4 K).2
  n23 : (cd2 K).2 ≠ (cd3 K).2
  n24 : (cd2 K).2 ≠ (cd4 K).2
  n34 : (cd3 K).2 ≠ (cd4 K).2
structure Tb (K : PySem.W.Frag) (mg : Str → Option Value) (base : Heap) : Prop where
  t1 : TabB base mg (cd1 K).1 (cd1 K).2
  t2 : TabB base mg (cd2 K).1 (cd2 K).2
  t3 : TabB base mg (cd3 K).1 (cd3 K).2
  t4 : TabB base mg (cd4 K).1 (cd4 K).2
  ap : Ap K
theorem tl_mem {p : Addr × Str} (h : p ∈ TL K) : p = ((cd1 K).2, q1) ∨ p = ((cd2 K).2, q2) ∨ p = ((cd3 K).2, q3) ∨ p = ((cd4 K).2, q4) := by
  simpa only [List.mem_cons, List.not_mem_nil, or_false] using h
theorem Tb.u1 (h : Tb K mg base) : ∀ p ∈ TL K, p.1 = (cd1 K).2 → p.2 = q1 := by
  intro p hp e
  rcases tl_mem hp with rfl | rfl | rfl | rfl
  · rfl
  · exact absurd e.symm h.ap.n12
  · exact absurd e.symm h.ap.n13
  · exact absurd e.symm h.ap.n14
theorem Tb.u2 (h : Tb K mg base) : ∀ p ∈ TL K, p.1 = (cd2 K).2 → p.2 = q2 := by
  intro p hp e
  rcases tl_mem hp with rfl | rfl | rfl | rfl
  · exact absurd e h.ap.n12
  · rfl
  · exact absurd e.symm h.ap.n23
  · exact absurd e.symm h.ap.n24
theorem Tb.u3 (h : Tb K mg base) : ∀ p ∈ TL K, p.1 = (cd3 K).2 → p.2 = q3 := by
  intro p hp e
  rcases tl_mem hp with rfl | rfl | rfl | rfl
  · exact absurd e h.ap.n13
  · exact absurd e h.ap.n23
  · rfl
  · exact absurd e.symm h.ap.n34
theorem Tb.u4 (h : Tb K mg base) : ∀ p ∈ TL K, p.1 = (cd4 K).2 → p.2 = q4 := by
  intro p hp e
  rcases tl_mem hp with rfl | rfl | rfl | rfl
  · exact absurd e h.ap.n14
  · exact absurd e h.ap.n24
  · exact absurd e h.ap.n34
  · rfl
theorem m1 : ((cd1 K).2, q1) ∈ TL K := List.mem_cons_self
theorem m2 : ((cd2 K).2, q2) ∈ TL K := List.mem_cons_of_mem _ List.mem_cons_self
theorem m3 : ((cd3 K).2, q3) ∈ TL K := List.mem_cons_of_mem _ (List.mem_cons_of_mem _ List.mem_cons_self)
theorem m4 : ((cd4 K).2, q4) ∈ TL K := List.mem_cons_of_mem _ (List.mem_cons_of_mem _ (List.mem_cons_of_mem _ List.mem_cons_self))
/-! answers -/
inductive Ans where
  | par (j : Nat)
  | wd (s : Str)
  | told (ns : List Int)
def dA : Ans → PyData
  | .par j => .tuple [.str "parse", .int (j : Int)]
  | .wd s => .tuple [.str s]
  | .told ns => .tuple [.str "told", .tuple (ns.map .int)]
def IsA (K : PySem.W.Frag) (H : Hp) (u : Addr) : Ans → Prop
  | .par j => SqT K H u [.str "parse", .int (j : Int)]
  | .wd s => SqT K H u [.str s]
  | .told ns => ∃ t, SqT K H u [.str "told", .ref t] ∧ SqT K H t (ns.map V.int)
theorem isA_ext {H H' : Hp} {u : Addr} (e : ExtN H H') : ∀ {a : Ans}, IsA K H u a → IsA K H' u a
  | .par _, h => sqtE h e
  | .wd _, h => sqtE h e
  | .told _, ⟨t, h1, h2⟩ => ⟨t, sqtE h1 e, sqtE h2 e⟩
theorem isA_lst {H : Hp} {u p : Addr} {ys zs : List V} (e : H p = some (.lst zs)) : ∀ {a : Ans}, IsA K H u a → IsA K (upd H p (.lst ys)) u a
  | .par _, h => sqt_lst h e
  | .wd _, h => sqt_lst h e
  | .told _, ⟨t, h1, h2⟩ => ⟨t, sqt_lst h1 e, sqt_lst h2 e⟩
theorem isA_dp {H : Hp} {u : Addr} : ∀ {a : Ans}, IsA K H u a → Dp K H (.ref u) (dA a)
  | .par _, h => .tup h (.cons (.str _) (.cons (.int _) .nil))
  | .wd _, h => .tup h (.cons (.str _) .nil)
  | .told ns, ⟨_, h1, h2⟩ => .tup h1 (.cons (.str _) (.cons (.tup h2 (dp_ints ns)) .nil))
def okA : Ans → Prop
  | .wd s => PyData.strOk s = true
  | _ => True
theorem lay_str {s : Str} (h : PyData.strOk s = true) : PyData.canLay0 (.str s) = true := by
  unfold PyData.canLay0
  exact h
theorem lay_int (i : Int) : PyData.canLay0 (.int i) = true := by
  have := lay_ints [i]
  simpa [PyData.canLayAll0] using this
theorem lay_A : ∀ (a : Ans), okA a → PyData.canLay0 (dA a) = true
  | .par j, _ => by
    show (PyData.canLay0 (.str "parse") && (PyData.canLay0 (.int (j : Int)) && true)) = true
    rw [lay_str (by decide +kernel), lay_int]
    rfl
  | .wd s, h => by
    show (PyData.canLay0 (.str s) && true) = true
    rw [lay_str h]
    rfl
  | .told ns, _ => by
    show (PyData.canLay0 (.str "told") && (PyData.canLay0 (.tuple (ns.map .int)) && true)) = true
    rw [lay_str (by decide +kernel), show PyData.canLay0 (.tuple (ns.map .int)) = true from lay_ints ns]
    rfl
theorem dep_A : ∀ a : Ans, PyData.depth (dA a) ≤ 4
  | .par j => by
    simp only [dA, PyData.depth, PyData.depthAll]
    omega
  | .wd s => by
    simp only [dA, PyData.depth, PyData.depthAll]
    omega
  | .told ns => by
    have := dep_ints ns
    simp only [dA, PyData.depth, PyData.depthAll]
    omega
theorem shapedA (a : Ans) (h : okA a) : SeqAt.shaped (dA a) = true := by
  unfold SeqAt.shaped
  have := dep_A a
  rw [lay_A a h, Bool.true_and]
  exact decide_eq_true (by omega)
theorem eqvA : ∀ a : Ans, PyData.eqv (dA a) (dA a) = true
  | .par j => by
    show (("parse" : Str) == "parse" && (((j : Int) == (j : Int)) && true)) = true
    rw [beq_self_eq_true, beq_self_eq_true]
    rfl
  | .wd s => by
    show ((s == s) && true) = true
    rw [beq_self_eq_true]
    rfl
  | .told ns => by
    show (("told" : Str) == "told" && (PyData.eqvAll (ns.map .int) (ns.map .int) && true)) = true
    rw [beq_self_eq_true, eqvAll_ints, decide_eq_true rfl]
    rfl
/-- what an answer's value promises -/
def RetA (K : PySem.W.Frag) (H1 : Hp) (Q : VK) (a : Ans) : Prop := ∀ H2 u, Same H1 H2 → IsA K H2 u a → Q (.ref u) H2
section
variable {H1 : Hp} {Q : VK}
theorem ret_par {j : Nat} (q : RetA K H1 Q (.par j)) : rPar K H1 j (Caught K Q) :=
  fun H' d s fd ed => .inl ⟨rfl, d, _, rfl, ed, fun t ft => q _ t (s.trans (same_new ft)) (.inl (.inl upd_same))⟩
theorem ret_mv (q : RetA K H1 Q (.wd "move")) : rMv K H1 (Caught K Q) := fun _ s => .inr (.inl ⟨rfl, fun t ft => q _ t (s.trans (same_new ft)) (.inl (.inl upd_same))⟩)
theorem ret_rw (q : RetA K H1 Q (.wd "row")) : rRw K H1 (Caught K Q) := fun _ s => .inr (.inr (.inl ⟨rfl, fun t ft => q _ t (s.trans (same_new ft)) (.inl (.inl upd_same))⟩))
theorem ret_ks (q : RetA K H1 Q (.wd "kinds")) : rKs K H1 (Caught K Q) := fun _ s => .inr (.inr (.inr ⟨rfl, fun t ft => q _ t (s.trans (same_new ft)) (.inl (.inl upd_same))⟩))
theorem ret_told {ns : List Int} (q : RetA K H1 Q (.told ns)) {H' : Hp} {t : Addr} (s : Same H1 H') (S : SqT K H' t (ns.map V.int)) : Told Q (.ref t) H' :=
  ⟨by decide, fun u fu => q _ u (s.trans (same_new fu)) ⟨t, .inl (.inl upd_same), same_sqt (same_new fu) S⟩⟩
/-! what the texts tell -/
def ansM (cs : List Nat) (n : Nat) : Ans := match moveR cs with
  | .error j => .par j
  | .ok R => if okR n R then .told (((List.range n).map (goOf R)).map fun k : Nat => (k : Int)) else .wd "move"
def ansR (cs : List Nat) : Ans := match rowR cs with
  | .error j => .par j
  | .ok row => if row.length ≤ 60 then .told row else .wd "row"
def ansK (cs : List Nat) (n : Nat) : Ans := match kindsT cs with
  | .error j => .par j
  | .ok ts => match addT (List.replicate n 0) ts with
    | none => .wd "kinds"
    | some ks => if (ks.all fun k => isI (.int k)) = true then .told ks else .wd "kinds"
theorem okM (cs : List Nat) (n : Nat) : okA (ansM cs n) := by
  unfold ansM
  split
  · trivial
  · split
    · trivial
    · show PyData.strOk _ = true
      decide +kernel
theorem okRw (cs : List Nat) : okA (ansR cs) := by
  unfold ansR
  split
  · trivial
  · split
    · trivial
    · show PyData.strOk _ = true
      decide +kernel
theorem okK (cs : List Nat) (n : Nat) : okA (ansK cs n) := by
  unfold ansK
  split
  · trivial
  · split
    · show PyData.strOk _ = true
      decide +kernel
    · split
      · trivial
      · show PyData.strOk _ = true
        decide +kernel
theorem moveCall {z : Str} {n : Nat} (hz : z.length ≤ 3000) (n1 : 1 ≤ n) (n24 : n ≤ 24) (q : RetA K H1 Q (ansM (cds z) n)) : spReadMove K [.str z, .int (n : Int)] H1 (Told Q) (Caught K Q) := by
  have ok : okT (.str z) = true := decide_eq_true hz
  refine ⟨.str z, _, n, rfl, .str z, (fun z' e => by cases e; omega), n1, n24, (fun b => absurd (b.symm.trans ok) (by decide)), fun z' e _ => ?_⟩
  cases e
  unfold ansM at q
  cases h : moveR (cds z) with
  | error j =>
    rw [h] at q
    exact ret_par q
  | ok R =>
    rw [h] at q
    dsimp only at q
    refine ⟨fun no => ?_, fun ok H' t s S => ?_⟩
    · rw [if_neg no] at q
      exact ret_mv q
    · rw [if_pos ok] at q
      rw [mv_ints] at S
      exact ret_told q s S
theorem rowCall {z : Str} (hz : z.length ≤ 3000) (q : RetA K H1 Q (ansR (cds z))) : spReadRow K [.str z] H1 (Told Q) (Caught K Q) := by
  have ok : okT (.str z) = true := decide_eq_true hz
  refine ⟨.str z, _, rfl, .str z, (fun z' e => by cases e; omega), (fun b => absurd (b.symm.trans ok) (by decide)), fun z' e _ => ?_⟩
  cases e
  unfold ansR at q
  cases h : rowR (cds z) with
  | error j =>
    rw [h] at q
    exact ret_par q
  | ok row =>
    rw [h] at q
    dsimp only at q
    refine ⟨fun c H' t s S => ?_, fun c => ?_⟩
    · rw [if_pos c] at q
      exact ret_told q s S
    · rw [if_neg (by omega)] at q
      exact ret_rw q
theorem kindsCall {z : Str} {n : Nat} (hz : z.length ≤ 3000) (n1 : 1 ≤ n) (n60 : n ≤ 60) (q : RetA K H1 Q (ansK (cds z) n)) : spReadKinds K [.str z, .int (n : Int)] H1 (Told Q) (Caught K Q) := by
  have ok : okT (.str z) = true := decide_eq_true hz
  have b2 : isB (.int (n : Int)) 1 60 = true := by
    show (decide (1 ≤ (n : Int)) && decide ((n : Int) ≤ 60)) = true
    rw [decide_eq_true (by omega), decide_eq_true (by omega)]
    rfl
  refine ⟨.str z, _, .int (n : Int), _, rfl, .str z, .int _, (fun z' e => by cases e; omega), (fun b => absurd (b.symm.trans ok) (by decide)), (fun _ b => absurd (b.symm.trans b2) (by decide)), fun z' len e _ e2 _ _ => ?_⟩
  cases e
  obtain rfl : n = len := by injection e2 with e2; omega
  unfold ansK at q
  cases h : kindsT (cds z) with
  | error j =>
    rw [h] at q
    exact ret_par q
  | ok ts =>
    rw [h] at q
    dsimp only at q
    show endK K H1 (Told Q) (Caught K Q) (addT (List.replicate n 0) ts)
    cases h2 : addT (List.replicate n 0) ts with
    | none =>
      rw [h2] at q
      exact ret_ks q
    | some ks =>
      rw [h2] at q
      dsimp only at q
      unfold endK
      dsimp only
      split
      · rename_i c
        rw [if_pos c] at q
        exact fun H' t s S => ret_told q s S
      · rename_i c
        rw [if_neg c] at q
        exact ret_ks q
/-! the law's own reading tells the same -/
theorem moveOwn {z : Str} {n : Nat} (hz : z.length ≤ 3000) (n1 : 1 ≤ n) (n24 : n ≤ 24) (q : RetA K H1 Q (ansM (cds z) n)) : spMvRead K [.str z, .int (n : Int)] H1 Q E0 := by
  refine ⟨z, n, rfl, hz, n1, n24, ?_⟩
  unfold ansM at q
  cases h : moveR (cds z) with
  | error j =>
    rw [h] at q
    exact fun H' u s e => q _ u s (.inl (.inl e))
  | ok R =>
    rw [h] at q
    dsimp only at q
    refine ⟨fun no H' u s e => ?_, fun ok H' t u s S e => ?_⟩
    · rw [if_neg no] at q
      exact q _ u s (.inl (.inl e))
    · rw [if_pos ok] at q
      rw [mv_ints] at S
      exact q _ u s ⟨t, .inl (.inl e), S⟩
theorem rowOwn {z : Str} (hz : z.length ≤ 3000) (q : RetA K H1 Q (ansR (cds z))) : spRowL K [.str z] H1 Q E0 := by
  refine ⟨z, rfl, hz, ?_⟩
  unfold ansR at q
  cases h : rowR (cds z) with
  | error j =>
    rw [h] at q
    exact fun H' u s e => q _ u s (.inl (.inl e))
  | ok row =>
    rw [h] at q
    dsimp only at q ⊢
    split
    · rename_i c
      rw [if_pos c] at q
      exact fun H' t u s S e => q _ u s ⟨t, .inl (.inl e), S⟩
    · rename_i c
      rw [if_neg c] at q
      exact fun H' u s e => q _ u s (.inl (.inl e))
theorem kindsOwn {z : Str} {n : Nat} (hz : z.length ≤ 3000) (n1 : 1 ≤ n) (n60 : n ≤ 60) (q : RetA K H1 Q (ansK (cds z) n)) : spKindsL K [.str z, .int (n : Int)] H1 Q E0 := by
  refine ⟨z, n, rfl, hz, n1, n60, ?_⟩
  unfold ansK at q
  cases h : kindsT (cds z) with
  | error j =>
    rw [h] at q
    exact fun H' u s e => q _ u s (.inl (.inl e))
  | ok ts =>
    rw [h] at q
    dsimp only at q ⊢
    cases h2 : addT (List.replicate n 0) ts with
    | none =>
      rw [h2] at q
      exact fun H' u s e => q _ u s (.inl (.inl e))
    | some ks =>
      rw [h2] at q
      dsimp only at q ⊢
      split
      · rename_i c
        rw [if_pos c] at q
        exact fun H' t u s S e => q _ u s ⟨t, .inl (.inl e), S⟩
      · rename_i c
        rw [if_neg c] at q
        exact fun H' u s e => q _ u s (.inl (.inl e))
theorem eqA {H : Hp} {u v : Addr} {a : Ans} (h : IsA K H u a) (h2 : IsA K H v a) (ok : okA a) (q : Q (.bl true) H) : rEqD K (.ref u) (.ref v) H Q :=
  ⟨dA a, dA a, isA_dp h, isA_dp h2, shapedA a ok, shapedA a ok, by rw [eqvA]; exact q⟩
end
theorem tab_upto {g : Addr} {H1 H2 : Hp} (t : Tabs (TL K) H1) (b : BagAt H1 g) (u : Upto g H1 H2) : Tabs (TL K) H2 := by
  obtain ⟨x, y, z, eb⟩ := b
  intro q hq
  obtain ⟨ps, h1, h2, h3⟩ := t q hq
  have nq : q.1 ≠ g := by
    intro z
    rw [z, eb] at h1
    cases h1
  refine ⟨ps, u.same _ _ nq h1, h2, fun pos cv hc => ?_⟩
  obtain ⟨c, e1, e2⟩ := h3 pos cv hc
  have nc : c ≠ g := by
    rintro rfl
    rw [eb] at e2
    unfold CodeO at e2
    cases e2
  exact ⟨c, e1, u.same _ _ nc e2⟩
theorem bag_ext {g : Addr} {H H1 : Hp} (b : BagAt H g) (e : ExtN H H1) : BagAt H1 g :=
  let ⟨x, y, z, h⟩ := b
  ⟨x, y, z, e _ _ h (fun ps z => by cases z)⟩
theorem up_ext {H H' : Hp} {g : Addr} (u : Upto g H H') : ExtN (wo H g) (wo H' g) := by
  intro b o h _
  obtain ⟨n, e⟩ := wo_some h
  rw [wo_ne n]
  exact u.same _ _ n e
/-- a draw behind what is laid for it -/
theorem draw_up {H J : Hp} {g : Addr} {a b c : Int} (s : Same H J) (bag : BagAt H g) : Upto g H (upd J g (.lst [.int a, .int b, .int c])) := ⟨fun x o n e => by rw [upd_ne n]; exact s _ _ e, ⟨a, b, c, upd_same⟩⟩
end
end K85


set_option Elab.async false
set_option linter.all false
set_option maxRecDepth 100000
set_option maxHeartbeats 4000000
namespace K85
open PySem PySem.Spec PyProof.Rows L2 MM LamX
/-! own words for the readings: a step, its side -/
local macro_rules | `(tactic| walk_at "side") => `(tactic| first
  | omega
  | exact ⟨by omega, by omega⟩
  | exact Or.inl ⟨by omega, by omega⟩
  | exact Or.inr ⟨by omega, by omega⟩
  | (show CPw _ _; decide +kernel)
  | (show (0 : Int) < _; decide +kernel)
  | (show CDivW _ _; first | assumption | exact ⟨by decide, by decide +kernel⟩))
local macro_rules | `(tactic| walk_at "here") => `(tactic| first
  | assumption
  | exact upd_same
  | exact Or.inl (Or.inl upd_same)
  | exact Or.inl upd_same)
local macro_rules | `(tactic| walk_at "one") => `(tactic| first
  | refine ⟨_, rfl, ?_⟩
  | refine Or.inl ⟨_, rfl, ?_⟩
  | refine Or.inr ⟨_, rfl, ?_⟩
  | refine ⟨_, _, rfl, rfl, (by walk_at "side"), ?_⟩
  | refine ⟨_, _, rfl, rfl, ?_⟩
  | refine ⟨_, _, rfl, Or.inl (by walk_at "here"), ?_⟩
  | refine ⟨_, _, rfl, Or.inr (by walk_at "here"), ?_⟩
  | refine ⟨_, _, rfl, (by walk_at "here"), ?_⟩
  | refine ⟨_, _, _, _, rfl, rfl, (by walk_at "here"), rfl, ?_⟩
  | refine ⟨_, _, rfl, ?_⟩
  | refine ifT (by rfl) ?_
  | refine ifF (by rfl) ?_
  | refine ifT (decide_eq_true (by omega)) ?_
  | refine ifF (decide_eq_false (by omega)) ?_)
local macro_rules | `(tactic| walk_at "st") => `(tactic| repeat (walk_at "one"))

section
variable {P : Program} {w : World} {K : PySem.W.Frag} {mg : Str → Option Value} {base : Heap}
theorem low_ext {H H' : Hp} {g : Addr} (e : ExtN H H') : ExtN (wo H g) H' := fun b o h nt => e _ _ (wo_some h).2 nt
/-- a bag of draws gives a turn that holds -/
def spRight (K : PySem.W.Frag) : Sp := fun vs H Q _ => ∃ (g : Addr), vs = [.ref g] ∧ BagAt H g ∧ Tabs (TL K) H ∧ ∀ H', ExtN (wo H g) H' → BagAt H' g → Tabs (TL K) H' → Q (.bl true) H'
theorem scMovesRightL : FnScope ["_law_bag_here", "_law_places", "_law_text", "_law_turn"] ["_law_bag_here"] (defScope sMovesRightL) :=
  ⟨rfl, rfl, rfl, by decide +kernel, rfl, by decide +kernel, by decide +kernel⟩
theorem dMovesRightL (T : Tx K mg) (Y : Ex K mg) (TB : Tb K mg base) (DGrabL : Def P w K mg base CX0 1 "_law_grab" ["_law_bag_here", "_law_total"] spGrab) (DMoveTextL : Def P w K mg base CX0 2 "_law_move_text" ["_law_move"] (spMText K)) (DMoveDrawnL : Def P w K mg base CX0 2 "_law_move_drawn" ["_law_bag_here", "_law_places"] (spDrawn K)) (DNearTextL : Def P w K mg base CX0 3 "_law_near_text" ["_law_bag_here", "_law_text", "_law_signs"] (spNear K)) (DMoveReadL : Def P w K mg base CX0 3 "_law_move_read" ["_law_text", "_law_places"] (spMvRead K)) (CReadMove : Def P w K mg base (L2.CX P w) 7 "read_move" ["text", "places"] (spReadMove K)) : Def P w K mg base CX0 10 "_law_moves_right" ["_law_bag_here"] (spRight K) := by
  refine defC T.t_law_moves_right (N := ["_law_bag_here", "_law_places", "_law_text", "_law_turn"]) scMovesRightL (fun _ _ _ _ _ _ us hl => match us, hl with | [_], _ => rfl) ?_ ?_
  · intro vs H Q E h
    obtain ⟨g, rfl, _⟩ := h
    rfl
  · intro f cd A out s H vs Q E ec hr h
    subst ec
    have hr1 : Rm 3 _ := hr.le (by decide)
    obtain ⟨g, rfl, bag, hT, q⟩ := h
    refine ⟨_, (pss_cons (ps_set (i := 1) scMovesRightL.nd rfl (Or.inr rfl) (pe_op op_add pe_int (pe_d DGrabL (hr1.le (by decide)) pass0 (pa_cons (pv 0) (pa_cons pe_int pa_nil)))))
      (pss_cons (ps_set (i := 2) scMovesRightL.nd rfl (Or.inr rfl) (pe_d DMoveTextL (hr1.le (by decide)) pass0 (pa_cons (pe_d DMoveDrawnL (hr1.le (by decide)) pass0 (pa_cons (pv 0) (pa_cons (pv 1) pa_nil))) pa_nil)))
      (pss_cons (ps_for PassesOwn.never rfl (pi_range1 rfl T.f_range (pa_cons (pe_d DGrabL (hr1.le (by decide)) pass0 (pa_cons (pv 0) (pa_cons pe_int pa_nil))) pa_nil)) (pg_name (i := 3) scMovesRightL.nd rfl (Or.inl rfl))
        (pss_one (ps_set (i := 2) scMovesRightL.nd rfl (Or.inr rfl) (pe_d DNearTextL (hr1.le (by decide)) pass0 (pa_cons (pv 0) (pa_cons (pv 2) (pa_cons (pe_lst (pa_cons pe_str (pa_cons pe_str (pa_cons pe_str (pa_cons pe_str (pa_cons pe_str (pa_cons pe_str (pa_cons pe_str (pa_cons pe_str (pa_cons pe_str (pa_cons pe_str (pa_cons pe_str (pa_cons pe_str (pa_cons pe_str (pa_cons (pe_op op_repB pe_str pe_int) (pa_cons pe_str pa_nil)))))))))))))))) pa_nil)))))))
      (pss_one (ps_ret (pe_cmpR (op_eqD hr.hu) (ME.pe_lam (T := TL K) (TT := TTW K) (k := 7) (t := fun E1 => (ME.tDS (spReadMove K) (fun _ => E1) (tCons (tVar 2) (tCons (tVar 1) tNil)))) T.t_law_met (fun _ _ _ _ _ _ us hl => match us, hl with | [_], _ => rfl) scWord rfl (Or.inl rfl) (fun g cd => word_gives (k := 1) T Y (hr.le (by decide))) TB.t1 rfl m1 TB.u1 (hr.le (by decide)) (show LamS _ _ from lamS_by (sc := defScope sMovesRightL) (by decide +kernel)) rfl (fun _ _ _ _ _ => rfl) (fun A1 o1 s1 H1 E1 f1 c1 hr9 => (show PE _ _ (ME.tDS (spReadMove K) (fun _ => E1) (tCons (tVar 2) (tCons (tVar 1) tNil))) from ME.pe_dS CReadMove (hr9.le (by decide)) (passAt (takes_of rfl rfl rfl rfl)) (pa_cons (pv 2) (pa_cons (pv 1) pa_nil))))) (pe_d DMoveReadL (hr1.le (by decide)) pass0 (pa_cons (pv 2) (pa_cons (pv 1) pa_nil))) (nomark _))))))), ?_⟩
    obtain ⟨b0, b1, b2, eg⟩ := id bag
    refine ⟨_, rfl, g, 12, b0, b1, b2, rfl, eg, div_small (n := 12) (by omega) (by omega), fun r g1 m1 c1 h0 h1 => ?_⟩
    refine ⟨_, _, rfl, rfl, ?_⟩
    obtain ⟨k, rfl⟩ : ∃ k : Nat, r = (k : Int) := ⟨r.toNat, by omega⟩
    show gName 1 (V.int (1 + (k : Int))) _ _ _
    rw [show (1 : Int) + (k : Int) = ((k + 1 : Nat) : Int) by omega]
    have U1 : Upto g H (upd H g (.lst [.int g1, .int m1, .int c1])) := (Upto.refl bag).draw
    generalize upd H g _ = H1 at U1 ⊢
    refine ⟨_, rfl, _, rfl, g, k + 1, rfl, U1.bag, by omega, by omega, fun H2 t m u2 tp S hm lm => ?_⟩
    refine ⟨t, m, rfl, S, hm, fun H3 z s3 hz => ?_⟩
    have U3 := (U1.trans u2).keep s3
    clear U1 u2 s3 S
    obtain ⟨d0, d1, d2, e3⟩ := id U3.bag
    refine ⟨_, rfl, g, 3, d0, d1, d2, rfl, e3, div_small (n := 3) (by omega) (by omega), fun r2 g2 m2 c2 h2 h3 => ?_⟩
    refine ⟨r2, rfl, by omega, by omega, for_range (fun i σ H' => Upto g H H' ∧ ∃ (z : Str) (x : Option V), σ = [some (.ref g), some (.int ((k + 1 : Nat) : Int)), some (.str z), x] ∧ z.length ≤ 2400 + 61 * i)
      ⟨U3.draw, z, _, rfl, by omega⟩ ?_ ?_⟩
    · rintro i σ H4 hi ⟨U4, z, x, rfl, lz⟩
      refine ⟨_, rfl, _, rfl, "1", 61, rfl, rfl, by decide, by decide, by decide, by decide, by show 15 ≤ sizeLine; decide, fun l fl => ?_⟩
      have U5 := U4.new (o := .lst ((["(", ")", " ", "0", "1", "2", "9", "-", "x", "()", "(0 1)", "  ", ",", manyS "1" 61, "\n"] : List Str).map V.str)) fl
      obtain ⟨ln, _⟩ := U4.free fl
      refine ⟨g, l, z, ["(", ")", " ", "0", "1", "2", "9", "-", "x", "()", "(0 1)", "  ", ",", manyS "1" 61, "\n"], rfl, U5.bag, .inl (.inl upd_same), ln, by decide, by decide, by decide +kernel, by omega, fun H6 z' u6 l6 => ?_⟩
      exact ⟨U5.trans u6, z', _, rfl, by omega⟩
    · rintro σ H4 ⟨U4, z, x, rfl, lz⟩
      have z3 : z.length ≤ 3000 := by omega
      refine ⟨tab_upto hT bag U4, fun H6 e6 t6 => ?_⟩
      refine ⟨_, rfl, _, rfl, moveCall z3 (by omega) (by omega) fun H7 u s7 ia => ?_⟩
      refine ⟨_, rfl, _, rfl, ?_⟩
      simp only [tNil]
      refine moveOwn z3 (by omega) (by omega) fun H8 v s8 ib => ?_
      exact eqA (isA_ext (ext_same s8) ia) ib (okM _ _) (q _ (((up_ext U4).trans (low_ext e6)).trans (ext_same (s7.trans s8))) (bag_ext (bag_ext U4.bag e6) (ext_same (s7.trans s8))) ((t6.ext s7).ext s8))
end
end K85


set_option Elab.async false
set_option linter.all false
set_option maxRecDepth 100000
set_option maxHeartbeats 4000000
namespace K85
open PySem PySem.Spec PyProof.Rows L2 MM LamX
/-! own words for the readings: a step, its side -/
local macro_rules | `(tactic| walk_at "side") => `(tactic| first
  | omega
  | exact ⟨by omega, by omega⟩
  | exact Or.inl ⟨by omega, by omega⟩
  | exact Or.inr ⟨by omega, by omega⟩
  | (show CPw _ _; decide +kernel)
  | (show (0 : Int) < _; decide +kernel)
  | (show CDivW _ _; first | assumption | exact ⟨by decide, by decide +kernel⟩))
local macro_rules | `(tactic| walk_at "here") => `(tactic| first
  | assumption
  | exact upd_same
  | exact Or.inl (Or.inl upd_same)
  | exact Or.inl upd_same)
local macro_rules | `(tactic| walk_at "one") => `(tactic| first
  | refine ⟨_, rfl, ?_⟩
  | refine Or.inl ⟨_, rfl, ?_⟩
  | refine Or.inr ⟨_, rfl, ?_⟩
  | refine ⟨_, _, rfl, rfl, (by walk_at "side"), ?_⟩
  | refine ⟨_, _, rfl, rfl, ?_⟩
  | refine ⟨_, _, rfl, Or.inl (by walk_at "here"), ?_⟩
  | refine ⟨_, _, rfl, Or.inr (by walk_at "here"), ?_⟩
  | refine ⟨_, _, rfl, (by walk_at "here"), ?_⟩
  | refine ⟨_, _, _, _, rfl, rfl, (by walk_at "here"), rfl, ?_⟩
  | refine ⟨_, _, rfl, ?_⟩
  | refine ifT (by rfl) ?_
  | refine ifF (by rfl) ?_
  | refine ifT (decide_eq_true (by omega)) ?_
  | refine ifF (decide_eq_false (by omega)) ?_)
local macro_rules | `(tactic| walk_at "st") => `(tactic| repeat (walk_at "one"))

section
variable {P : Program} {w : World} {K : PySem.W.Frag} {mg : Str → Option Value} {base : Heap}
theorem log_small {i : Int} (h : i.natAbs < 10 ^ 61) : i.natAbs.log2 < 1920 := by
  by_cases z : i.natAbs = 0
  · rw [z]
    decide
  · rw [Nat.log2_lt z]
    exact Nat.lt_trans h (by decide +kernel)
theorem scRowsRightL : FnScope ["_law_bag_here", "_law_many", "_law_text", "_law_turn"] ["_law_bag_here"] (defScope sRowsRightL) :=
  ⟨rfl, rfl, rfl, by decide +kernel, rfl, by decide +kernel, by decide +kernel⟩
theorem dRowsRightL (T : Tx K mg) (Y : Ex K mg) (TB : Tb K mg base) (DOneOfL : Def P w K mg base CX0 2 "_law_one_of" ["_law_bag_here", "_law_items"] (spOneOf K)) (DNumberL : Def P w K mg base CX0 3 "_law_number" ["_law_bag_here"] (spNumber K)) (DGrabL : Def P w K mg base CX0 1 "_law_grab" ["_law_bag_here", "_law_total"] spGrab) (DNearTextL : Def P w K mg base CX0 3 "_law_near_text" ["_law_bag_here", "_law_text", "_law_signs"] (spNear K)) (DRowReadL : Def P w K mg base CX0 2 "_law_row_read" ["_law_text"] (spRowL K)) (CReadRow : Def P w K mg base (L2.CX P w) 5 "read_row" ["text"] (spReadRow K)) : Def P w K mg base CX0 10 "_law_rows_right" ["_law_bag_here"] (spRight K) := by
  refine defC T.t_law_rows_right (N := ["_law_bag_here", "_law_many", "_law_text", "_law_turn"]) scRowsRightL (fun _ _ _ _ _ _ us hl => match us, hl with | [_], _ => rfl) ?_ ?_
  · intro vs H Q E h
    obtain ⟨g, rfl, _⟩ := h
    rfl
  · intro f cd A out s H vs Q E ec hr h
    subst ec
    have hr1 : Rm 3 _ := hr.le (by decide)
    obtain ⟨g, rfl, bag, hT, q⟩ := h
    refine ⟨_, (pss_cons (ps_set (i := 1) scRowsRightL.nd rfl (Or.inl rfl) (pe_d DOneOfL (hr1.le (by decide)) pass0 (pa_cons (pv 0) (pa_cons (pe_lst (pa_cons pe_int (pa_cons pe_int (pa_cons pe_int (pa_cons pe_int (pa_cons pe_int (pa_cons pe_int (pa_cons pe_int (pa_cons pe_int (pa_cons pe_int pa_nil)))))))))) pa_nil))))
      (pss_cons (ps_set (i := 2) scRowsRightL.nd rfl (Or.inr rfl) (pe_join pe_str (pe_lc (own := [("_law_turn", 3)]) (g := gName 3) (tt := tYes) rfl scRowsRightL.nd (pi_range1 rfl T.f_range (pa_cons (pv 1) pa_nil)) (blkOk_by (N := ["_law_bag_here", "_law_many", "_law_text", "_law_turn"]) (sc := defScope sRowsRightL) (by decide +kernel)) (fun _ _ _ _ _ => pg_name (i := 3) scRowsRightL.nd rfl (Or.inl rfl)) (fun _ _ _ _ _ => pts_nil) (fun _ _ _ _ _ => (pe_callTy call_str_int rfl T.f_str (by decide +kernel) (pa_cons (pe_d DNumberL (hr1.le (by decide)) pass0 (pa_cons (pv 0) pa_nil)) pa_nil))))))
      (pss_cons (ps_for PassesOwn.never rfl (pi_range1 rfl T.f_range (pa_cons (pe_d DGrabL (hr1.le (by decide)) pass0 (pa_cons (pv 0) (pa_cons pe_int pa_nil))) pa_nil)) (pg_name (i := 3) scRowsRightL.nd rfl (Or.inl rfl))
        (pss_one (ps_set (i := 2) scRowsRightL.nd rfl (Or.inr rfl) (pe_d DNearTextL (hr1.le (by decide)) pass0 (pa_cons (pv 0) (pa_cons (pv 2) (pa_cons (pe_lst (pa_cons pe_str (pa_cons pe_str (pa_cons pe_str (pa_cons pe_str (pa_cons pe_str (pa_cons pe_str (pa_cons pe_str (pa_cons pe_str (pa_cons pe_str (pa_cons pe_str (pa_cons pe_str (pa_cons pe_str (pa_cons (pe_op op_repB pe_str pe_int) (pa_cons (pe_op op_repB pe_str pe_int) pa_nil))))))))))))))) pa_nil)))))))
      (pss_one (ps_ret (pe_cmpR (op_eqD hr.hu) (ME.pe_lam (T := TL K) (TT := TTW K) (k := 7) (t := fun E1 => (ME.tDS (spReadRow K) (fun _ => E1) (tCons (tSl rSlS (tVar 2) tNoPart (tPart (tC (.int 3000)))) tNil))) T.t_law_met (fun _ _ _ _ _ _ us hl => match us, hl with | [_], _ => rfl) scWord rfl (Or.inl rfl) (fun g cd => word_gives (k := 1) T Y (hr.le (by decide))) TB.t2 rfl m2 TB.u2 (hr.le (by decide)) (show LamS _ _ from lamS_by (sc := defScope sRowsRightL) (by decide +kernel)) rfl (fun _ _ _ _ _ => rfl) (fun A1 o1 s1 H1 E1 f1 c1 hr9 => (show PE _ _ (ME.tDS (spReadRow K) (fun _ => E1) (tCons (tSl rSlS (tVar 2) tNoPart (tPart (tC (.int 3000)))) tNil)) from ME.pe_dS CReadRow (hr9.le (by decide)) (passAt (takes_of rfl rfl rfl rfl)) (pa_cons (pe_slice sl_str (pv 2) po_none (po_some pe_int)) pa_nil)))) (pe_d DRowReadL (hr1.le (by decide)) pass0 (pa_cons (pe_slice sl_str (pv 2) po_none (po_some pe_int)) pa_nil)) (nomark _))))))), ?_⟩
    obtain ⟨b0, b1, b2, eg⟩ := id bag
    refine ⟨_, rfl, by show 9 ≤ sizeLine; decide, fun l0 fl0 => ?_⟩
    have n0 : l0 ≠ g := bag_ne eg fl0
    refine ⟨g, l0, b0, b1, b2, _, rfl, same_new fl0 _ _ eg, .inl (.inl upd_same), n0, by show 0 < 9; omega, by show 9 ≤ 1000; omega, fun v g1 m1 c1 hv => ?_⟩
    obtain ⟨k, rfl, k61⟩ : ∃ k : Nat, v = .int (k : Int) ∧ k ≤ 61 := by
      simp only [List.mem_cons, List.not_mem_nil, or_false] at hv
      rcases hv with rfl | rfl | rfl | rfl | rfl | rfl | rfl | rfl | rfl
      · exact ⟨1, rfl, by omega⟩
      · exact ⟨2, rfl, by omega⟩
      · exact ⟨3, rfl, by omega⟩
      · exact ⟨3, rfl, by omega⟩
      · exact ⟨5, rfl, by omega⟩
      · exact ⟨8, rfl, by omega⟩
      · exact ⟨59, rfl, by omega⟩
      · exact ⟨60, rfl, by omega⟩
      · exact ⟨61, rfl, by omega⟩
    have U1 : Upto g H (upd (upd H l0 (.lst [.int 1, .int 2, .int 3, .int 3, .int 5, .int 8, .int 59, .int 60, .int 61])) g (.lst [.int g1, .int m1, .int c1])) := ((Upto.refl bag).new fl0).draw
    generalize upd (upd H l0 _) g _ = H1 at U1 ⊢
    clear hv
    refine ⟨⟨_, rfl⟩, _, rfl, (k : Int), rfl, by omega, by omega, fun D nD => ?_⟩
    obtain ⟨Dg, fD⟩ := U1.free nD
    refine lc_range (Pv := fun i H4 => Upto g H H4 ∧ ∃ ts : List Str, H4 D = some (.lst (ts.map V.str)) ∧ ts.length = i ∧ ∀ t ∈ ts, t.length ≤ 62)
      ⟨U1.new nD, [], upd_same, rfl, fun t ht => by cases ht⟩ ?_ ?_
    · rintro i H4 hi ⟨U4, ts, h4, lts, t62⟩
      have ik : i < k := by simpa using hi
      refine ⟨wipe_one, yes_ ?_⟩
      refine ⟨_, rfl, g, rfl, U4.bag, fun H5 j u5 hj => ?_⟩
      refine ⟨j, rfl, log_small hj, ts.map V.str, (u5.same _ _ Dg h4), by rw [List.length_map, sizeLine_eq]; omega, ?_⟩
      refine ⟨(U4.trans u5).put Dg fD, ts ++ [Str.ofString (toString j)], by rw [upd_same, List.map_append]; rfl, by rw [List.length_append, lts]; rfl, fun t ht => ?_⟩
      rcases List.mem_append.mp ht with ht | ht
      · exact t62 t ht
      · rw [List.mem_singleton.mp ht]
        exact int_len (k := 61) (by omega) hj
    · rintro H4 ⟨U4, ts, h4, lts, t62⟩
      have j1 := join_len "," ts
      have j2 := sum_le t62
      have n1 : ("," : Str).length = 1 := rfl
      have lk : ts.length = k := by rw [lts]; exact Int.toNat_natCast k
      rw [n1] at j1
      refine ⟨",", D, ts, rfl, rfl, .inl (.inl (.inl h4)), by rw [n1]; omega, ?_⟩
      have lz : (Txt.join "," ts).length ≤ 3843 := by omega
      generalize Txt.join "," ts = z at lz
      obtain ⟨d0, d1, d2, e4⟩ := id U4.bag
      refine ⟨_, rfl, g, 3, d0, d1, d2, rfl, e4, div_small (n := 3) (by omega) (by omega), fun r2 g2 m2 c2 h2 h3 => ?_⟩
      refine ⟨r2, rfl, by omega, by omega, for_range (fun i σ H' => Upto g H H' ∧ ∃ (z : Str) (x : Option V), σ = [some (.ref g), some (.int (k : Int)), some (.str z), x] ∧ z.length ≤ 3843 + 61 * i)
        ⟨U4.draw, z, _, rfl, by omega⟩ ?_ ?_⟩
      · rintro i σ H5 hi ⟨U5, z, x, rfl, lz⟩
        refine ⟨_, rfl, _, rfl, "1", 61, rfl, rfl, by decide, by decide, by decide, by decide, "0", 3, rfl, rfl, by decide, by decide, by decide, by decide, by show 14 ≤ sizeLine; decide, fun l fl => ?_⟩
        have U6 := U5.new (o := .lst (([",", "-", "0", "1", "9", " ", "+", "x", ",,", ",3", "-0", "00", manyS "1" 61, manyS "0" 3] : List Str).map V.str)) fl
        obtain ⟨ln, _⟩ := U5.free fl
        refine ⟨g, l, z, [",", "-", "0", "1", "9", " ", "+", "x", ",,", ",3", "-0", "00", manyS "1" 61, manyS "0" 3], rfl, U6.bag, .inl (.inl upd_same), ln, by decide, by decide, by decide +kernel, by omega, fun H6 z' u6 l6 => ?_⟩
        exact ⟨U6.trans u6, z', _, rfl, by omega⟩
      · rintro σ H5 ⟨U5, z, x, rfl, lz⟩
        have zl : z.length ≤ sizeLine := by rw [sizeLine_eq]; omega
        have z3 : (cutS z none (some 3000)).length ≤ 3000 := cut_lo z 3000
        refine ⟨tab_upto hT bag U5, fun H6 e6 t6 => ?_⟩
        refine ⟨_, rfl, _, rfl, z, rfl, zl, rowCall z3 fun H7 u s7 ia => ?_⟩
        refine ⟨_, rfl, _, rfl, z, rfl, zl, ?_⟩
        simp only [tNil]
        refine rowOwn z3 fun H8 v s8 ib => ?_
        exact eqA (isA_ext (ext_same s8) ia) ib (okRw _) (q _ (((up_ext U5).trans (low_ext e6)).trans (ext_same (s7.trans s8))) (bag_ext (bag_ext U5.bag e6) (ext_same (s7.trans s8))) ((t6.ext s7).ext s8))
theorem scKindsRightL : FnScope ["_law_bag_here", "_law_length", "_law_text", "_law_turn"] ["_law_bag_here"] (defScope sKindsRightL) :=
  ⟨rfl, rfl, rfl, by decide +kernel, rfl, by decide +kernel, by decide +kernel⟩
theorem dKindsRightL (T : Tx K mg) (Y : Ex K mg) (TB : Tb K mg base) (DGrabL : Def P w K mg base CX0 1 "_law_grab" ["_law_bag_here", "_law_total"] spGrab) (DKindsTextL : Def P w K mg base CX0 1 "_law_kinds_text" ["_law_kinds"] (spKText K)) (DNumberL : Def P w K mg base CX0 3 "_law_number" ["_law_bag_here"] (spNumber K)) (DNearTextL : Def P w K mg base CX0 3 "_law_near_text" ["_law_bag_here", "_law_text", "_law_signs"] (spNear K)) (DKindsReadL : Def P w K mg base CX0 3 "_law_kinds_read" ["_law_text", "_law_length"] (spKindsL K)) (CReadKinds : Def P w K mg base (L2.CX P w) 6 "read_kinds" ["text", "length"] (spReadKinds K)) : Def P w K mg base CX0 10 "_law_kinds_right" ["_law_bag_here"] (spRight K) := by
  refine defC T.t_law_kinds_right (N := ["_law_bag_here", "_law_length", "_law_text", "_law_turn"]) scKindsRightL (fun _ _ _ _ _ _ us hl => match us, hl with | [_], _ => rfl) ?_ ?_
  · intro vs H Q E h
    obtain ⟨g, rfl, _⟩ := h
    rfl
  · intro f cd A out s H vs Q E ec hr h
    subst ec
    have hr1 : Rm 3 _ := hr.le (by decide)
    obtain ⟨g, rfl, bag, hT, q⟩ := h
    refine ⟨_, (pss_cons (ps_set (i := 1) scKindsRightL.nd rfl (Or.inr rfl) (pe_op op_add pe_int (pe_d DGrabL (hr1.le (by decide)) pass0 (pa_cons (pv 0) (pa_cons pe_int pa_nil)))))
      (pss_cons (ps_set (i := 2) scKindsRightL.nd rfl (Or.inr rfl) (pe_d DKindsTextL (hr1.le (by decide)) pass0 (pa_cons (pe_callTy call_tuple_of rfl T.f_tuple (by decide +kernel) (pa_cons (pe_lc (own := [("_law_turn", 3)]) (g := gName 3) (tt := tYes) rfl scKindsRightL.nd (pi_range1 rfl T.f_range (pa_cons (pv 1) pa_nil)) (blkOk_by (N := ["_law_bag_here", "_law_length", "_law_text", "_law_turn"]) (sc := defScope sKindsRightL) (by decide +kernel)) (fun _ _ _ _ _ => pg_name (i := 3) scKindsRightL.nd rfl (Or.inl rfl)) (fun _ _ _ _ _ => pts_nil) (fun _ _ _ _ _ => (pe_d DNumberL (hr1.le (by decide)) pass0 (pa_cons (pv 0) pa_nil)))) pa_nil)) pa_nil)))
      (pss_cons (ps_if (pt_cmpR op_eq (pe_d DGrabL (hr1.le (by decide)) pass0 (pa_cons (pv 0) (pa_cons pe_int pa_nil))) pe_int (nomark _)) (pss_one (ps_set (i := 2) scKindsRightL.nd rfl (Or.inr rfl) (pe_op (show OpR _ _ rAddS from op_add_str) (pe_op (show OpR _ _ rAddS from op_add_str) (pe_op (show OpR _ _ rAddS from op_add_str) (pe_op (show OpR _ _ rAddS from op_add_str) (pe_op (show OpR _ _ rAddS from op_add_str) (pv 2) pe_str) (pe_callTy call_str_int rfl T.f_str (by decide +kernel) (pa_cons (pe_op op_sub (pe_op op_pw pe_int pe_int) pe_int) pa_nil))) pe_str) (pe_callTy call_str_int rfl T.f_str (by decide +kernel) (pa_cons (pe_d DGrabL (hr1.le (by decide)) pass0 (pa_cons (pv 0) (pa_cons (pe_op op_add (pv 1) pe_int) pa_nil))) pa_nil))) pe_str))) pss_nil)
      (pss_cons (ps_for PassesOwn.never rfl (pi_range1 rfl T.f_range (pa_cons (pe_d DGrabL (hr1.le (by decide)) pass0 (pa_cons (pv 0) (pa_cons pe_int pa_nil))) pa_nil)) (pg_name (i := 3) scKindsRightL.nd rfl (Or.inl rfl))
        (pss_one (ps_set (i := 2) scKindsRightL.nd rfl (Or.inr rfl) (pe_d DNearTextL (hr1.le (by decide)) pass0 (pa_cons (pv 0) (pa_cons (pv 2) (pa_cons (pe_lst (pa_cons pe_str (pa_cons pe_str (pa_cons pe_str (pa_cons pe_str (pa_cons pe_str (pa_cons pe_str (pa_cons pe_str (pa_cons pe_str (pa_cons pe_str (pa_cons pe_str (pa_cons pe_str (pa_cons pe_str (pa_cons (pe_op op_repB pe_str pe_int) (pa_cons pe_str (pa_cons pe_str pa_nil)))))))))))))))) pa_nil)))))))
      (pss_one (ps_ret (pe_cmpR (op_eqD hr.hu) (ME.pe_lam (T := TL K) (TT := TTW K) (k := 7) (t := fun E1 => (ME.tDS (spReadKinds K) (fun _ => E1) (tCons (tVar 2) (tCons (tVar 1) tNil)))) T.t_law_met (fun _ _ _ _ _ _ us hl => match us, hl with | [_], _ => rfl) scWord rfl (Or.inl rfl) (fun g cd => word_gives (k := 1) T Y (hr.le (by decide))) TB.t3 rfl m3 TB.u3 (hr.le (by decide)) (show LamS _ _ from lamS_by (sc := defScope sKindsRightL) (by decide +kernel)) rfl (fun _ _ _ _ _ => rfl) (fun A1 o1 s1 H1 E1 f1 c1 hr9 => (show PE _ _ (ME.tDS (spReadKinds K) (fun _ => E1) (tCons (tVar 2) (tCons (tVar 1) tNil))) from ME.pe_dS CReadKinds (hr9.le (by decide)) (passAt (takes_of rfl rfl rfl rfl)) (pa_cons (pv 2) (pa_cons (pv 1) pa_nil))))) (pe_d DKindsReadL (hr1.le (by decide)) pass0 (pa_cons (pv 2) (pa_cons (pv 1) pa_nil))) (nomark _)))))))), ?_⟩
    obtain ⟨b0, b1, b2, eg⟩ := id bag
    refine ⟨_, rfl, g, 7, b0, b1, b2, rfl, eg, div_small (n := 7) (by omega) (by omega), fun r g1 m1 c1 h0 h1 => ?_⟩
    refine ⟨_, _, rfl, rfl, ?_⟩
    obtain ⟨k, rfl⟩ : ∃ k : Nat, r = (k : Int) := ⟨r.toNat, by omega⟩
    show gName 1 (V.int (1 + (k : Int))) _ _ _
    rw [show (1 : Int) + (k : Int) = ((k + 1 : Nat) : Int) by omega]
    have U1 : Upto g H (upd H g (.lst [.int g1, .int m1, .int c1])) := (Upto.refl bag).draw
    generalize upd H g _ = H1 at U1 ⊢
    obtain ⟨n, hn⟩ : ∃ n, n = k + 1 := ⟨_, rfl⟩
    rw [← hn]
    have n8 : n ≤ 7 ∧ 1 ≤ n := by omega
    clear h0 h1 hn
    refine ⟨_, rfl, (n : Int), rfl, by omega, by omega, fun D nD => ?_⟩
    obtain ⟨Dg, fD⟩ := U1.free nD
    refine lc_range (Pv := fun i H4 => Upto g H H4 ∧ ∃ ks : List Int, H4 D = some (.lst (ks.map V.int)) ∧ ks.length = i ∧ ∀ j ∈ ks, j.natAbs < 10 ^ 61)
      ⟨U1.new nD, [], upd_same, rfl, fun t ht => by cases ht⟩ ?_ ?_
    · rintro i H4 hi ⟨U4, ks, h4, lks, k61⟩
      have ik : i < n := by simpa using hi
      refine ⟨wipe_one, yes_ ?_⟩
      refine ⟨_, rfl, g, rfl, U4.bag, fun H5 j u5 hj => ?_⟩
      refine ⟨ks.map V.int, (u5.same _ _ Dg h4), by rw [List.length_map, sizeLine_eq]; omega, ?_⟩
      refine ⟨(U4.trans u5).put Dg fD, ks ++ [j], by rw [upd_same, List.map_append]; rfl, by rw [List.length_append, lks]; rfl, fun t ht => ?_⟩
      rcases List.mem_append.mp ht with ht | ht
      · exact k61 t ht
      · rw [List.mem_singleton.mp ht]
        exact hj
    rintro H4 ⟨U4, ks, h4, lks, k61⟩
    have lk : ks.length = n := by rw [lks]; exact Int.toNat_natCast n
    refine ⟨D, _, rfl, .inl ⟨.inl (.inl h4), fun t ft => ?_⟩⟩
    refine ⟨t, ks, rfl, .inl (.inl upd_same), by omega, k61, fun H5 z s5 hz => ?_⟩
    have U5 := U4.keep ((same_new ft).trans s5)
    clear U1 U4 h4 lks k61 s5 ft nD fD
    obtain ⟨d0, d1, d2, e5⟩ := id U5.bag
    refine ⟨_, rfl, g, 4, d0, d1, d2, rfl, e5, div_small (n := 4) (by omega) (by omega), fun r2 g2 m2 c2 _ _ => ?_⟩
    have U6 := U5.draw (a := g2) (b := m2) (c := c2)
    generalize upd H5 g _ = H6 at U6 ⊢
    obtain ⟨d0, d1, d2, e6⟩ := id U6.bag
    have nn := sizeLine_eq
    have n1 : (" + " : Str).length = 3 := rfl
    have n2 : ("[" : Str).length = 1 := rfl
    have n3 : ("]" : Str).length = 1 := rfl
    refine ⟨rfl, _, rfl, ite2 (fun _ => ?a) (fun _ => ?b)⟩
    case' a =>
      have lb : ((10 : Int) ^ (60 : Int).toNat - 1).natAbs < 10 ^ 61 := by decide +kernel
      have ls : (Str.ofString (toString ((10 : Int) ^ (60 : Int).toNat - 1))).length ≤ 62 := int_len (k := 61) (by omega) lb
      refine ⟨_, rfl, _, _, rfl, rfl, by omega, 10, 60, rfl, rfl, (by show CPw _ _; decide +kernel), _, _, rfl, rfl, _, rfl, log_small lb, _, _, rfl, rfl, by rw [app_len]; omega, _, _, rfl, rfl, by rw [app_len, app_len]; omega,
        _, rfl, _, rfl, _, _, rfl, rfl, g, ((n + 1 : Nat) : Int), d0, d1, d2, rfl, e6, div_small (n := n + 1) (by omega) (by omega), fun r3 g3 m3 c3 h30 h31 => ?_⟩
      have l3 : r3.natAbs < 10 ^ 61 := Nat.lt_of_lt_of_le (by omega : r3.natAbs < 10) (by decide +kernel)
      have l3s : (Str.ofString (toString r3)).length ≤ 2 := int_len (k := 1) (by omega) (by omega)
      refine ⟨r3, rfl, log_small l3, _, _, rfl, rfl, by rw [app_len, app_len, app_len]; omega, _, _, rfl, rfl, by rw [app_len, app_len, app_len, app_len]; omega, ?_⟩
      have U7 := U6.draw (a := g3) (b := m3) (c := c3)
      generalize upd H6 g _ = H7 at U7 ⊢
      have lz : (z ++ " + " ++ Str.ofString (toString ((10 : Int) ^ (60 : Int).toNat - 1)) ++ "[" ++ Str.ofString (toString r3) ++ "]").length ≤ 700 := by
        rw [app_len, app_len, app_len, app_len, app_len]
        omega
      show gName 2 (V.str (z ++ " + " ++ Str.ofString (toString ((10 : Int) ^ (60 : Int).toNat - 1)) ++ "[" ++ Str.ofString (toString r3) ++ "]")) _ _ _
      generalize z ++ " + " ++ Str.ofString (toString ((10 : Int) ^ (60 : Int).toNat - 1)) ++ "[" ++ Str.ofString (toString r3) ++ "]" = z2 at lz
    case' b =>
      obtain ⟨H7, h67⟩ : ∃ H7, H7 = H6 := ⟨_, rfl⟩
      rw [← h67] at U6 ⊢
      have U7 := U6
      obtain ⟨z2, hz2⟩ : ∃ z2, z2 = z := ⟨_, rfl⟩
      rw [← hz2] at hz ⊢
      have lz : z2.length ≤ 700 := by omega
    all_goals
      obtain ⟨f0, f1, f2, e7⟩ := id U7.bag
      refine ⟨_, rfl, g, 3, f0, f1, f2, rfl, e7, div_small (n := 3) (by omega) (by omega), fun r2 g2 m2 c2 h2 h3 => ?_⟩
      refine ⟨r2, rfl, by omega, by omega, for_range (fun i σ H' => Upto g H H' ∧ ∃ (z : Str) (x : Option V), σ = [some (.ref g), some (.int (n : Int)), some (.str z), x] ∧ z.length ≤ 700 + 61 * i)
        ⟨U7.draw, z2, _, rfl, by omega⟩ ?_ ?_⟩
      · rintro i σ H8 hi ⟨U8, z, x, rfl, lz⟩
        refine ⟨_, rfl, _, rfl, "1", 61, rfl, rfl, by decide, by decide, by decide, by decide, by show 15 ≤ sizeLine; decide, fun l fl => ?_⟩
        have U9 := U8.new (o := .lst ((["[", "]", " ", "+", "-", "0", "1", "[0]", " + [1]", " - ", "x", "[01]", manyS "1" 61, "-0", "2"] : List Str).map V.str)) fl
        obtain ⟨ln, _⟩ := U8.free fl
        refine ⟨g, l, z, ["[", "]", " ", "+", "-", "0", "1", "[0]", " + [1]", " - ", "x", "[01]", manyS "1" 61, "-0", "2"], rfl, U9.bag, .inl (.inl upd_same), ln, by decide, by decide, by decide +kernel, by omega, fun H6 z' u6 l6 => ?_⟩
        exact ⟨U9.trans u6, z', _, rfl, by omega⟩
      · rintro σ H8 ⟨U8, z, x, rfl, lz⟩
        have z3 : z.length ≤ 3000 := by omega
        refine ⟨tab_upto hT bag U8, fun H9 e9 t9 => ?_⟩
        refine ⟨_, rfl, _, rfl, kindsCall z3 (by omega) (by omega) fun Ha u s7 ia => ?_⟩
        refine ⟨_, rfl, _, rfl, ?_⟩
        simp only [tNil]
        refine kindsOwn z3 (by omega) (by omega) fun Hb v s8 ib => ?_
        exact eqA (isA_ext (ext_same s8) ia) ib (okK _ _) (q _ (((up_ext U8).trans (low_ext e9)).trans (ext_same (s7.trans s8))) (bag_ext (bag_ext U8.bag e9) (ext_same (s7.trans s8))) ((t9.ext s7).ext s8))
end
end K85


set_option Elab.async false
set_option linter.all false
set_option maxRecDepth 100000
set_option maxHeartbeats 4000000
namespace K85
open PySem PySem.Spec PyProof.Rows L2 MM LamX
/-! own words for the readings: a step, its side -/
local macro_rules | `(tactic| walk_at "side") => `(tactic| first
  | omega
  | exact ⟨by omega, by omega⟩
  | exact Or.inl ⟨by omega, by omega⟩
  | exact Or.inr ⟨by omega, by omega⟩
  | (show CPw _ _; decide +kernel)
  | (show (0 : Int) < _; decide +kernel)
  | (show CDivW _ _; first | assumption | exact ⟨by decide, by decide +kernel⟩))
local macro_rules | `(tactic| walk_at "here") => `(tactic| first
  | assumption
  | exact upd_same
  | exact Or.inl (Or.inl upd_same)
  | exact Or.inl upd_same)
local macro_rules | `(tactic| walk_at "one") => `(tactic| first
  | refine ⟨_, rfl, ?_⟩
  | refine Or.inl ⟨_, rfl, ?_⟩
  | refine Or.inr ⟨_, rfl, ?_⟩
  | refine ⟨_, _, rfl, rfl, (by walk_at "side"), ?_⟩
  | refine ⟨_, _, rfl, rfl, ?_⟩
  | refine ⟨_, _, rfl, Or.inl (by walk_at "here"), ?_⟩
  | refine ⟨_, _, rfl, Or.inr (by walk_at "here"), ?_⟩
  | refine ⟨_, _, rfl, (by walk_at "here"), ?_⟩
  | refine ⟨_, _, _, _, rfl, rfl, (by walk_at "here"), rfl, ?_⟩
  | refine ⟨_, _, rfl, ?_⟩
  | refine ifT (by rfl) ?_
  | refine ifF (by rfl) ?_
  | refine ifT (decide_eq_true (by omega)) ?_
  | refine ifF (decide_eq_false (by omega)) ?_)
local macro_rules | `(tactic| walk_at "st") => `(tactic| repeat (walk_at "one"))

section
variable {P : Program} {w : World} {K : PySem.W.Frag} {mg : Str → Option Value} {base : Heap}
theorem wo_ext2 {H H' : Hp} {g : Addr} (e : ExtN (wo H g) H') : ExtN (wo H g) (wo H' g) := by
  intro b o h nt
  have n := (wo_some h).1
  rw [wo_ne n]
  exact e _ _ h nt
/-! the list of what is told -/
def PA (K : PySem.W.Frag) (H : Hp) (us : List V) (as : List Ans) : Prop := Paired (fun v a => ∃ u, v = V.ref u ∧ IsA K H u a) us as
theorem pa_ext {H H' : Hp} {us : List V} {as : List Ans} (h : PA K H us as) (e : ExtN H H') : PA K H' us as := pairedI h fun _ _ ⟨u, x, i⟩ => ⟨u, x, isA_ext e i⟩
theorem pa_lst {H : Hp} {us : List V} {as : List Ans} {q : Addr} {ys zs : List V} (h : PA K H us as) (e : H q = some (.lst zs)) : PA K (upd H q (.lst ys)) us as := pairedI h fun _ _ ⟨u, x, i⟩ => ⟨u, x, isA_lst e i⟩
theorem pa_add {H : Hp} {u : Addr} {a : Ans} (i : IsA K H u a) : ∀ {us : List V} {as : List Ans}, PA K H us as → PA K H (us ++ [.ref u]) (as ++ [a])
  | _, _, .nil => .cons ⟨u, rfl, i⟩ .nil
  | _, _, .cons r h => .cons r (pa_add i h)
theorem pa_dp {H : Hp} : ∀ {us : List V} {as : List Ans}, PA K H us as → DpAll K H us (as.map dA)
  | _, _, .nil => .nil
  | _, _, .cons ⟨u, e, i⟩ h => .cons (by rw [e]; exact isA_dp i) (pa_dp h)
theorem pa_len {H : Hp} : ∀ {us : List V} {as : List Ans}, PA K H us as → us.length = as.length
  | _, _, .nil => rfl
  | _, _, .cons _ h => congrArg (· + 1) (pa_len h)
/-- the list at q tells as, and the tables stand -/
structure On (K : PySem.W.Frag) (q : Addr) (as : List Ans) (H : Hp) : Prop where
  wd : ∃ us : List V, H q = some (.lst us) ∧ PA K H us as
  tab : Tabs (TL K) H
theorem tab_lst {H : Hp} {q : Addr} {ys zs : List V} (t : Tabs (TL K) H) (e : H q = some (.lst zs)) : Tabs (TL K) (upd H q (.lst ys)) := by
  intro r hr
  obtain ⟨ps, h1, h2, h3⟩ := t r hr
  have nq : r.1 ≠ q := by
    intro z
    rw [z, e] at h1
    cases h1
  refine ⟨ps, by rw [upd_ne nq]; exact h1, h2, fun pos cv hc => ?_⟩
  obtain ⟨c, e1, e2⟩ := h3 pos cv hc
  have nc : c ≠ q := by
    rintro rfl
    rw [e] at e2
    unfold CodeO at e2
    cases e2
  exact ⟨c, e1, by rw [upd_ne nc]; exact e2⟩
theorem On.same {q : Addr} {as : List Ans} {H H' : Hp} (h : On K q as H) (s : Same H H') : On K q as H' :=
  let ⟨us, e, p⟩ := h.wd
  ⟨⟨us, s _ _ e, pa_ext p (ext_same s)⟩, h.tab.ext s⟩
/-- told.append(met(lambda: ..)) -/
theorem stepM {H : Hp} {q : Addr} {as : List Ans} {a : Ans} {σ : L2.St} {i : Nat} {t : XK → TE} {D : Ends} (h : On K q as H)
    (hi : σ[i]? = some (some (.ref q))) (sz : as.length < 100)
    (call : ∀ (H1 : Hp), ∀ Q : VK, RetA K H1 Q a → TTW K (fun E H' Q' => t E σ H' Q') H1 Q)
    (next : ∀ H', On K q (as ++ [a]) H' → D.nx σ H') :
    tDrop (tBM K "list" rAppend (tVar i) (tCons (tLam (TL K) (TTW K) t) tNil)) D σ H := by
  obtain ⟨us, e, pa⟩ := h.wd
  refine ⟨_, hi, .inl ⟨rfl, _, .inl (.inl e)⟩, ?_⟩
  refine ⟨h.tab, fun H1 e1 t1 => call H1 _ fun H2 u s2 ia => ?_⟩
  have e2 : H2 q = some (.lst us) := s2 _ _ (e1 _ _ e (by nofun))
  have pa2 := pa_ext (pa_ext pa e1) (ext_same s2)
  have len := pa_len pa
  refine ⟨q, us, _, rfl, rfl, e2, ?_, next _ ⟨⟨us ++ [.ref u], upd_same, pa_lst (pa_add ia pa2) e2⟩, tab_lst (t1.ext s2) e2⟩⟩
  exact Nat.lt_of_lt_of_le (by omega : us.length < 100) (by decide)
def dL (as : List Ans) : PyData := .list (as.map dA)
theorem lay_As : ∀ as : List Ans, (∀ a ∈ as, okA a) → PyData.canLayAll0 (as.map dA) = true
  | [], _ => rfl
  | a :: r, h => by
    show (PyData.canLay0 (dA a) && PyData.canLayAll0 (r.map dA)) = true
    rw [lay_As r (fun z hz => h z (List.mem_cons_of_mem _ hz)), lay_A a (h a List.mem_cons_self)]
    rfl
theorem dep_As : ∀ as : List Ans, PyData.depthAll (as.map dA) ≤ 4
  | [] => by decide
  | a :: r => by
    have := dep_As r
    have := dep_A a
    simp only [List.map_cons, PyData.depthAll]
    omega
theorem shapedL (as : List Ans) (h : ∀ a ∈ as, okA a) : SeqAt.shaped (dL as) = true := by
  unfold SeqAt.shaped dL
  have := dep_As as
  rw [show PyData.canLay0 (.list (as.map dA)) = true from lay_As as h, Bool.true_and]
  refine decide_eq_true ?_
  simp only [PyData.depth]
  omega
theorem eqvL : ∀ as : List Ans, PyData.eqvAll (as.map dA) (as.map dA) = true
  | [] => rfl
  | a :: r => by
    show (PyData.eqv (dA a) (dA a) && PyData.eqvAll (r.map dA) (r.map dA)) = true
    rw [eqvA, eqvL r]
    rfl
theorem eqL {H : Hp} {p r : Addr} {us vs : List V} {as : List Ans} {Q : VK} (h : H p = some (.lst us)) (h2 : H r = some (.lst vs)) (pa : PA K H us as) (pb : PA K H vs as) (ok : ∀ a ∈ as, okA a) (q : Q (.bl true) H) : rEqD K (.ref p) (.ref r) H Q :=
  ⟨dL as, dL as, .lst (.inl (.inl h)) (pa_dp pa), .lst (.inl (.inl h2)) (pa_dp pb), shapedL as ok, shapedL as ok, by
    rw [show PyData.eqv (dL as) (dL as) = true from eqvL as]
    exact q⟩
def spLawT (K : PySem.W.Frag) : Sp := fun vs H Q _ => ∃ (a : Addr) (ns : List Int), vs = [.ref a] ∧ SqL K H a (ns.map V.int) ∧ ns.length ≤ 1000 ∧ Tabs (TL K) H ∧ ∀ H', Q (.bl true) H'
theorem scLaw : FnScope ["_law_script", "_law_spot", "_law_bag_here", "_law_turn", "_law_told", "_law_due"] ["_law_script"] (defScope sLaw) :=
  ⟨rfl, rfl, rfl, by decide +kernel, rfl, by decide +kernel, by decide +kernel⟩
theorem dLaw (T : Tx K mg) (Y : Ex K mg) (TB : Tb K mg base) (DBagL : Def P w K mg base CX0 1 "_law_bag" ["_law_script", "_law_spot"] (spBag K)) (DKindsRightL : Def P w K mg base CX0 10 "_law_kinds_right" ["_law_bag_here"] (spRight K)) (DRowsRightL : Def P w K mg base CX0 10 "_law_rows_right" ["_law_bag_here"] (spRight K)) (DMovesRightL : Def P w K mg base CX0 10 "_law_moves_right" ["_law_bag_here"] (spRight K)) (CReadMove : Def P w K mg base (L2.CX P w) 7 "read_move" ["text", "places"] (spReadMove K)) (CReadRow : Def P w K mg base (L2.CX P w) 5 "read_row" ["text"] (spReadRow K)) (CReadKinds : Def P w K mg base (L2.CX P w) 6 "read_kinds" ["text", "length"] (spReadKinds K)) : Def P w K mg base CX0 11 "law" ["_law_script"] (spLawT K) := by
  refine defC T.t_law (N := ["_law_script", "_law_spot", "_law_bag_here", "_law_turn", "_law_told", "_law_due"]) scLaw (fun _ _ _ _ _ _ us hl => match us, hl with | [_], _ => rfl) ?_ ?_
  · intro vs H Q E h
    obtain ⟨a, ns, rfl, _⟩ := h
    rfl
  · intro f cd A out s H vs Q E ec hr h
    subst ec
    have hr1 : Rm 10 _ := hr.le (by decide)
    obtain ⟨a, ns, rfl, hS, hl, hT, q⟩ := h
    refine ⟨_, (pss_cons (ps_for PassesOwn.never rfl (pi_range1 rfl T.f_range (pa_cons (pe_callB (call_max2 rfl) rfl T.f_max (by decide +kernel) (pa_cons pe_int (pa_cons (pe_callB (call_min2 rfl) rfl T.f_min (by decide +kernel) (pa_cons pe_int (pa_cons (pe_callB call_len_seq rfl T.f_len (by decide +kernel) (pa_cons (pv 0) pa_nil)) pa_nil))) pa_nil))) pa_nil)) (pg_name (i := 1) scLaw.nd rfl (Or.inl rfl))
        (pss_cons (ps_set (i := 2) scLaw.nd rfl (Or.inl rfl) (pe_d DBagL (hr1.le (by decide)) pass0 (pa_cons (pv 0) (pa_cons (pv 1) pa_nil))))
        (pss_one (ps_for PassesOwn.never rfl (pi_range1 rfl T.f_range (pa_cons pe_int pa_nil)) (pg_name (i := 3) scLaw.nd rfl (Or.inl rfl))
          (pss_one (ps_if (PW.pt (pw_or (pt_not (pt_val (pe_d DMovesRightL (hr1.le (by decide)) pass0 (pa_cons (pv 2) pa_nil)))) (pw_or (pt_not (pt_val (pe_d DRowsRightL (hr1.le (by decide)) pass0 (pa_cons (pv 2) pa_nil)))) (pw_or1 (pt_not (pt_val (pe_d DKindsRightL (hr1.le (by decide)) pass0 (pa_cons (pv 2) pa_nil)))))))) (pss_one (ps_ret pe_bl)) pss_nil))))))
      (pss_cons (ps_set (i := 4) scLaw.nd rfl (Or.inl rfl) (pe_lst (pa_cons (ME.pe_lam (T := TL K) (TT := TTW K) (k := 7) (t := fun E1 => (ME.tDS (spReadMove K) (fun _ => E1) (tCons (tC (.str "(0 1)(2 1)")) (tCons (tC (.int 4)) tNil)))) T.t_law_met (fun _ _ _ _ _ _ us hl => match us, hl with | [_], _ => rfl) scWord rfl (Or.inl rfl) (fun g cd => word_gives (k := 1) T Y (hr.le (by decide))) TB.t4 rfl m4 TB.u4 (hr.le (by decide)) (show LamS _ _ from lamS_by (sc := defScope sLaw) (by decide +kernel)) rfl (fun _ _ _ _ _ => rfl) (fun A1 o1 s1 H1 E1 f1 c1 hr9 => (show PE _ _ (ME.tDS (spReadMove K) (fun _ => E1) (tCons (tC (.str "(0 1)(2 1)")) (tCons (tC (.int 4)) tNil))) from ME.pe_dS CReadMove (hr9.le (by decide)) (passAt (takes_of rfl rfl rfl rfl)) (pa_cons pe_str (pa_cons pe_int pa_nil))))) pa_nil)))
      (pss_cons (ps_expr (pe_bm PySem.F.plainAttrs_list PySem.F.slot_list_append PySem.F.type_list_append mt_append (pv 4) (pa_cons (ME.pe_lam (T := TL K) (TT := TTW K) (k := 7) (t := fun E1 => (ME.tDS (spReadRow K) (fun _ => E1) (tCons (tC (.str "1,,2")) tNil))) T.t_law_met (fun _ _ _ _ _ _ us hl => match us, hl with | [_], _ => rfl) scWord rfl (Or.inl rfl) (fun g cd => word_gives (k := 1) T Y (hr.le (by decide))) TB.t4 rfl m4 TB.u4 (hr.le (by decide)) (show LamS _ _ from lamS_by (sc := defScope sLaw) (by decide +kernel)) rfl (fun _ _ _ _ _ => rfl) (fun A1 o1 s1 H1 E1 f1 c1 hr9 => (show PE _ _ (ME.tDS (spReadRow K) (fun _ => E1) (tCons (tC (.str "1,,2")) tNil)) from ME.pe_dS CReadRow (hr9.le (by decide)) (passAt (takes_of rfl rfl rfl rfl)) (pa_cons pe_str pa_nil)))) pa_nil)))
      (pss_cons (ps_expr (pe_bm PySem.F.plainAttrs_list PySem.F.slot_list_append PySem.F.type_list_append mt_append (pv 4) (pa_cons (ME.pe_lam (T := TL K) (TT := TTW K) (k := 7) (t := fun E1 => (ME.tDS (spReadKinds K) (fun _ => E1) (tCons (tC (.str "2[0] +[1]")) (tCons (tC (.int 2)) tNil)))) T.t_law_met (fun _ _ _ _ _ _ us hl => match us, hl with | [_], _ => rfl) scWord rfl (Or.inl rfl) (fun g cd => word_gives (k := 1) T Y (hr.le (by decide))) TB.t4 rfl m4 TB.u4 (hr.le (by decide)) (show LamS _ _ from lamS_by (sc := defScope sLaw) (by decide +kernel)) rfl (fun _ _ _ _ _ => rfl) (fun A1 o1 s1 H1 E1 f1 c1 hr9 => (show PE _ _ (ME.tDS (spReadKinds K) (fun _ => E1) (tCons (tC (.str "2[0] +[1]")) (tCons (tC (.int 2)) tNil))) from ME.pe_dS CReadKinds (hr9.le (by decide)) (passAt (takes_of rfl rfl rfl rfl)) (pa_cons pe_str (pa_cons pe_int pa_nil))))) pa_nil)))
      (pss_cons (ps_expr (pe_bm PySem.F.plainAttrs_list PySem.F.slot_list_append PySem.F.type_list_append mt_append (pv 4) (pa_cons (ME.pe_lam (T := TL K) (TT := TTW K) (k := 7) (t := fun E1 => (ME.tDS (spReadMove K) (fun _ => E1) (tCons (tC (.str "(0 1")) (tCons (tC (.int 2)) tNil)))) T.t_law_met (fun _ _ _ _ _ _ us hl => match us, hl with | [_], _ => rfl) scWord rfl (Or.inl rfl) (fun g cd => word_gives (k := 1) T Y (hr.le (by decide))) TB.t4 rfl m4 TB.u4 (hr.le (by decide)) (show LamS _ _ from lamS_by (sc := defScope sLaw) (by decide +kernel)) rfl (fun _ _ _ _ _ => rfl) (fun A1 o1 s1 H1 E1 f1 c1 hr9 => (show PE _ _ (ME.tDS (spReadMove K) (fun _ => E1) (tCons (tC (.str "(0 1")) (tCons (tC (.int 2)) tNil))) from ME.pe_dS CReadMove (hr9.le (by decide)) (passAt (takes_of rfl rfl rfl rfl)) (pa_cons pe_str (pa_cons pe_int pa_nil))))) pa_nil)))
      (pss_cons (ps_expr (pe_bm PySem.F.plainAttrs_list PySem.F.slot_list_append PySem.F.type_list_append mt_append (pv 4) (pa_cons (ME.pe_lam (T := TL K) (TT := TTW K) (k := 7) (t := fun E1 => (ME.tDS (spReadMove K) (fun _ => E1) (tCons (tC (.str "()()")) (tCons (tC (.int 2)) tNil)))) T.t_law_met (fun _ _ _ _ _ _ us hl => match us, hl with | [_], _ => rfl) scWord rfl (Or.inl rfl) (fun g cd => word_gives (k := 1) T Y (hr.le (by decide))) TB.t4 rfl m4 TB.u4 (hr.le (by decide)) (show LamS _ _ from lamS_by (sc := defScope sLaw) (by decide +kernel)) rfl (fun _ _ _ _ _ => rfl) (fun A1 o1 s1 H1 E1 f1 c1 hr9 => (show PE _ _ (ME.tDS (spReadMove K) (fun _ => E1) (tCons (tC (.str "()()")) (tCons (tC (.int 2)) tNil))) from ME.pe_dS CReadMove (hr9.le (by decide)) (passAt (takes_of rfl rfl rfl rfl)) (pa_cons pe_str (pa_cons pe_int pa_nil))))) pa_nil)))
      (pss_cons (ps_expr (pe_bm PySem.F.plainAttrs_list PySem.F.slot_list_append PySem.F.type_list_append mt_append (pv 4) (pa_cons (ME.pe_lam (T := TL K) (TT := TTW K) (k := 7) (t := fun E1 => (ME.tDS (spReadKinds K) (fun _ => E1) (tCons (tC (.str "-0[1]")) (tCons (tC (.int 2)) tNil)))) T.t_law_met (fun _ _ _ _ _ _ us hl => match us, hl with | [_], _ => rfl) scWord rfl (Or.inl rfl) (fun g cd => word_gives (k := 1) T Y (hr.le (by decide))) TB.t4 rfl m4 TB.u4 (hr.le (by decide)) (show LamS _ _ from lamS_by (sc := defScope sLaw) (by decide +kernel)) rfl (fun _ _ _ _ _ => rfl) (fun A1 o1 s1 H1 E1 f1 c1 hr9 => (show PE _ _ (ME.tDS (spReadKinds K) (fun _ => E1) (tCons (tC (.str "-0[1]")) (tCons (tC (.int 2)) tNil))) from ME.pe_dS CReadKinds (hr9.le (by decide)) (passAt (takes_of rfl rfl rfl rfl)) (pa_cons pe_str (pa_cons pe_int pa_nil))))) pa_nil)))
      (pss_cons (ps_expr (pe_bm PySem.F.plainAttrs_list PySem.F.slot_list_append PySem.F.type_list_append mt_append (pv 4) (pa_cons (ME.pe_lam (T := TL K) (TT := TTW K) (k := 7) (t := fun E1 => (ME.tDS (spReadKinds K) (fun _ => E1) (tCons (tC (.str "[2]")) (tCons (tC (.int 2)) tNil)))) T.t_law_met (fun _ _ _ _ _ _ us hl => match us, hl with | [_], _ => rfl) scWord rfl (Or.inl rfl) (fun g cd => word_gives (k := 1) T Y (hr.le (by decide))) TB.t4 rfl m4 TB.u4 (hr.le (by decide)) (show LamS _ _ from lamS_by (sc := defScope sLaw) (by decide +kernel)) rfl (fun _ _ _ _ _ => rfl) (fun A1 o1 s1 H1 E1 f1 c1 hr9 => (show PE _ _ (ME.tDS (spReadKinds K) (fun _ => E1) (tCons (tC (.str "[2]")) (tCons (tC (.int 2)) tNil))) from ME.pe_dS CReadKinds (hr9.le (by decide)) (passAt (takes_of rfl rfl rfl rfl)) (pa_cons pe_str (pa_cons pe_int pa_nil))))) pa_nil)))
      (pss_cons (ps_expr (pe_bm PySem.F.plainAttrs_list PySem.F.slot_list_append PySem.F.type_list_append mt_append (pv 4) (pa_cons (ME.pe_lam (T := TL K) (TT := TTW K) (k := 7) (t := fun E1 => (ME.tDS (spReadRow K) (fun _ => E1) (tCons (tC (.str "01")) tNil))) T.t_law_met (fun _ _ _ _ _ _ us hl => match us, hl with | [_], _ => rfl) scWord rfl (Or.inl rfl) (fun g cd => word_gives (k := 1) T Y (hr.le (by decide))) TB.t4 rfl m4 TB.u4 (hr.le (by decide)) (show LamS _ _ from lamS_by (sc := defScope sLaw) (by decide +kernel)) rfl (fun _ _ _ _ _ => rfl) (fun A1 o1 s1 H1 E1 f1 c1 hr9 => (show PE _ _ (ME.tDS (spReadRow K) (fun _ => E1) (tCons (tC (.str "01")) tNil)) from ME.pe_dS CReadRow (hr9.le (by decide)) (passAt (takes_of rfl rfl rfl rfl)) (pa_cons pe_str pa_nil)))) pa_nil)))
      (pss_cons (ps_expr (pe_bm PySem.F.plainAttrs_list PySem.F.slot_list_append PySem.F.type_list_append mt_append (pv 4) (pa_cons (ME.pe_lam (T := TL K) (TT := TTW K) (k := 7) (t := fun E1 => (ME.tDS (spReadMove K) (fun _ => E1) (tCons (tC (.str "(0)")) (tCons (tC (.int 1)) tNil)))) T.t_law_met (fun _ _ _ _ _ _ us hl => match us, hl with | [_], _ => rfl) scWord rfl (Or.inl rfl) (fun g cd => word_gives (k := 1) T Y (hr.le (by decide))) TB.t4 rfl m4 TB.u4 (hr.le (by decide)) (show LamS _ _ from lamS_by (sc := defScope sLaw) (by decide +kernel)) rfl (fun _ _ _ _ _ => rfl) (fun A1 o1 s1 H1 E1 f1 c1 hr9 => (show PE _ _ (ME.tDS (spReadMove K) (fun _ => E1) (tCons (tC (.str "(0)")) (tCons (tC (.int 1)) tNil))) from ME.pe_dS CReadMove (hr9.le (by decide)) (passAt (takes_of rfl rfl rfl rfl)) (pa_cons pe_str (pa_cons pe_int pa_nil))))) pa_nil)))
      (pss_cons (ps_set (i := 5) scLaw.nd rfl (Or.inl rfl) (pe_lst (pa_cons (pe_tup (pa_cons pe_str pa_nil)) (pa_cons (pe_tup (pa_cons pe_str (pa_cons pe_int pa_nil))) (pa_cons (pe_tup (pa_cons pe_str (pa_cons pe_int pa_nil))) (pa_cons (pe_tup (pa_cons pe_str (pa_cons pe_int pa_nil))) (pa_cons (pe_tup (pa_cons pe_str (pa_cons pe_int pa_nil))) (pa_cons (pe_tup (pa_cons pe_str (pa_cons pe_int pa_nil))) (pa_cons (pe_tup (pa_cons pe_str pa_nil)) pa_nil)))))))))
      (pss_one (ps_ret (pe_cmpR (op_eqD hr.hu) (pv 4) (pe_op op_cat (pv 5) (pe_lst (pa_cons (pe_tup (pa_cons pe_str (pa_cons pe_int pa_nil))) (pa_cons (pe_tup (pa_cons pe_str (pa_cons pe_int pa_nil))) pa_nil)))) (nomark _))))))))))))))), ?_⟩
    refine ⟨_, rfl, a, _, rfl, .inl hS, _, _, rfl, _, _, rfl, ?_⟩
    obtain ⟨j, ej, j1, j2⟩ : ∃ j : Int, j = (if (if ((ns.map V.int).length : Int) < 2 then ((ns.map V.int).length : Int) else 2) > 1 then (if ((ns.map V.int).length : Int) < 2 then ((ns.map V.int).length : Int) else 2) else 1) ∧ 1 ≤ j ∧ j ≤ 2 := by
      refine ⟨_, rfl, ?_, ?_⟩
      all_goals
        split
        · split <;> omega
        · omega
    refine ⟨j, by rw [ej], by omega, by omega, for_range (fun i σ H' => SqL K H' a (ns.map V.int) ∧ Tabs (TL K) H' ∧ ∃ x1 x2 x3 x4 x5, σ = [some (.ref a), x1, x2, x3, x4, x5]) ⟨hS, hT, none, none, none, none, none, rfl⟩ ?_ ?_⟩
    · rintro i σ H0 hi ⟨hS, hT, x1, x2, x3, x4, x5, rfl⟩
      refine ⟨_, rfl, _, rfl, a, i, ns, ?_, hS, by omega, fun H1 p sm np hb => ?_⟩
      · show [V.ref a, V.int (0 + (i : Int))] = _
        rw [Int.zero_add]
      have E0 : ExtN H0 (wo H1 p) := by
        intro b o h _
        have nb : b ≠ p := ne_of_none h np
        rw [wo_ne nb]
        exact sm _ _ h
      refine ⟨6, rfl, by omega, by omega, for_range (fun i σ H' => SqL K (wo H' p) a (ns.map V.int) ∧ BagAt H' p ∧ Tabs (TL K) H' ∧ ∃ y x3 x4 x5, σ = [some (.ref a), y, some (.ref p), x3, x4, x5]) ⟨sqlE hS E0, hb, hT.ext sm, _, _, _, _, rfl⟩ ?_ ?_⟩
      · rintro i2 σ H2 _ ⟨hS2, hb2, hT2, y, x3, x4, x5, rfl⟩
        refine ⟨_, rfl, p, rfl, hb2, hT2, fun HA eA bA TA' => ?_⟩
        refine ⟨_, rfl, ?_⟩
        refine ifF rfl ?_
        refine ⟨_, rfl, p, rfl, bA, TA', fun HB eB bB TB' => ?_⟩
        refine ⟨_, rfl, ?_⟩
        refine ifF rfl ?_
        refine ⟨_, rfl, p, rfl, bB, TB', fun HC eC bC TC => ?_⟩
        refine ⟨_, rfl, ?_⟩
        refine ifF rfl ?_
        exact ⟨sqlE hS2 (((wo_ext2 eA).trans (wo_ext2 eB)).trans (wo_ext2 eC)), bC, TC, _, _, _, _, rfl⟩
      · rintro σ H2 ⟨hS2, hb2, hT2, y, x3, x4, x5, rfl⟩
        exact ⟨sqlE hS2 (low_ext (ext_same (Same.refl H2))), hT2, _, _, _, _, _, rfl⟩
    · rintro σ H0 ⟨_, hT, x1, x2, x3, x4, x5, rfl⟩
      clear hS
      refine ⟨hT, fun H6 e6 t6 => ?_⟩
      refine moveCall (z := "(0 1)(2 1)") (n := 4) (by decide) (by omega) (by omega) (?_ : RetA K H6 _ _)
      rw [show ansM (cds "(0 1)(2 1)") 4 = .wd "move" by kernel_rfl]
      intro H7 u s7 ia
      refine ⟨by show 1 ≤ sizeLine; decide, fun q0 fq => ?_⟩
      have o1 : On K q0 [.wd "move"] (upd H7 q0 (.lst [.ref u])) := ⟨⟨[.ref u], upd_same, .cons ⟨u, rfl, isA_ext (ext_same (same_new fq)) ia⟩ .nil⟩, (t6.ext s7).ext (same_new fq)⟩
      generalize upd H7 q0 _ = H8 at o1 ⊢
      clear s7 t6 fq e6 ia hT
      refine stepM (a := .par 2) o1 rfl (by show 1 < 100; decide) (fun H4 Q' q' => ?_) (fun H9 o2 => ?_)
      · refine rowCall (z := "1,,2") (by decide) ?_
        rw [show ansR (cds "1,,2") = .par 2 by kernel_rfl]
        exact q'
      refine stepM (a := .par 6) o2 rfl (by show 2 < 100; decide) (fun H4 Q' q' => ?_) (fun H10 o3 => ?_)
      · refine kindsCall (z := "2[0] +[1]") (n := 2) (by decide) (by omega) (by omega) ?_
        rw [show ansK (cds "2[0] +[1]") 2 = .par 6 by kernel_rfl]
        exact q'
      refine stepM (a := .par 4) o3 rfl (by show 3 < 100; decide) (fun H4 Q' q' => ?_) (fun H11 o4 => ?_)
      · refine moveCall (z := "(0 1") (n := 2) (by decide) (by omega) (by omega) ?_
        rw [show ansM (cds "(0 1") 2 = .par 4 by kernel_rfl]
        exact q'
      refine stepM (a := .par 2) o4 rfl (by show 4 < 100; decide) (fun H4 Q' q' => ?_) (fun H12 o5 => ?_)
      · refine moveCall (z := "()()") (n := 2) (by decide) (by omega) (by omega) ?_
        rw [show ansM (cds "()()") 2 = .par 2 by kernel_rfl]
        exact q'
      refine stepM (a := .par 1) o5 rfl (by show 5 < 100; decide) (fun H4 Q' q' => ?_) (fun H13 o6 => ?_)
      · refine kindsCall (z := "-0[1]") (n := 2) (by decide) (by omega) (by omega) ?_
        rw [show ansK (cds "-0[1]") 2 = .par 1 by kernel_rfl]
        exact q'
      refine stepM (a := .wd "kinds") o6 rfl (by show 6 < 100; decide) (fun H4 Q' q' => ?_) (fun H14 o7 => ?_)
      · refine kindsCall (z := "[2]") (n := 2) (by decide) (by omega) (by omega) ?_
        rw [show ansK (cds "[2]") 2 = .wd "kinds" by kernel_rfl]
        exact q'
      refine stepM (a := .par 1) o7 rfl (by show 7 < 100; decide) (fun H4 Q' q' => ?_) (fun H15 o8 => ?_)
      · refine rowCall (z := "01") (by decide) ?_
        rw [show ansR (cds "01") = .par 1 by kernel_rfl]
        exact q'
      refine stepM (a := .par 2) o8 rfl (by show 8 < 100; decide) (fun H4 Q' q' => ?_) (fun H16 o9 => ?_)
      · refine moveCall (z := "(0)") (n := 1) (by decide) (by omega) (by omega) ?_
        rw [show ansM (cds "(0)") 1 = .par 2 by kernel_rfl]
        exact q'
      show tSeq _ _ _ _ H16
      refine ⟨by show 1 ≤ sizeLine; decide, fun d1 fd1 => ?_⟩
      have i1 : IsA K (upd H16 d1 (.tup [.str "move"])) d1 (.wd "move") := .inl (.inl upd_same)
      have o9 := o9.same (same_new fd1 (o := .tup [.str "move"]))
      generalize upd H16 d1 _ = J1 at i1 o9 ⊢
      refine ⟨by show 2 ≤ sizeLine; decide, fun d2 fd2 => ?_⟩
      have i2 : IsA K (upd J1 d2 (.tup [.str "parse", .int 2])) d2 (.par 2) := .inl (.inl upd_same)
      have o9 := o9.same (same_new fd2 (o := .tup [.str "parse", .int 2]))
      have i1 := isA_ext (ext_same (same_new fd2 (o := .tup [.str "parse", .int 2]))) i1
      generalize upd J1 d2 _ = J2 at i2 o9 i1 ⊢
      refine ⟨by show 2 ≤ sizeLine; decide, fun d3 fd3 => ?_⟩
      have i3 : IsA K (upd J2 d3 (.tup [.str "parse", .int 6])) d3 (.par 6) := .inl (.inl upd_same)
      have o9 := o9.same (same_new fd3 (o := .tup [.str "parse", .int 6]))
      have i1 := isA_ext (ext_same (same_new fd3 (o := .tup [.str "parse", .int 6]))) i1
      have i2 := isA_ext (ext_same (same_new fd3 (o := .tup [.str "parse", .int 6]))) i2
      generalize upd J2 d3 _ = J3 at i3 o9 i1 i2 ⊢
      refine ⟨by show 2 ≤ sizeLine; decide, fun d4 fd4 => ?_⟩
      have i4 : IsA K (upd J3 d4 (.tup [.str "parse", .int 4])) d4 (.par 4) := .inl (.inl upd_same)
      have o9 := o9.same (same_new fd4 (o := .tup [.str "parse", .int 4]))
      have i1 := isA_ext (ext_same (same_new fd4 (o := .tup [.str "parse", .int 4]))) i1
      have i2 := isA_ext (ext_same (same_new fd4 (o := .tup [.str "parse", .int 4]))) i2
      have i3 := isA_ext (ext_same (same_new fd4 (o := .tup [.str "parse", .int 4]))) i3
      generalize upd J3 d4 _ = J4 at i4 o9 i1 i2 i3 ⊢
      refine ⟨by show 2 ≤ sizeLine; decide, fun d5 fd5 => ?_⟩
      have i5 : IsA K (upd J4 d5 (.tup [.str "parse", .int 2])) d5 (.par 2) := .inl (.inl upd_same)
      have o9 := o9.same (same_new fd5 (o := .tup [.str "parse", .int 2]))
      have i1 := isA_ext (ext_same (same_new fd5 (o := .tup [.str "parse", .int 2]))) i1
      have i2 := isA_ext (ext_same (same_new fd5 (o := .tup [.str "parse", .int 2]))) i2
      have i3 := isA_ext (ext_same (same_new fd5 (o := .tup [.str "parse", .int 2]))) i3
      have i4 := isA_ext (ext_same (same_new fd5 (o := .tup [.str "parse", .int 2]))) i4
      generalize upd J4 d5 _ = J5 at i5 o9 i1 i2 i3 i4 ⊢
      refine ⟨by show 2 ≤ sizeLine; decide, fun d6 fd6 => ?_⟩
      have i6 : IsA K (upd J5 d6 (.tup [.str "parse", .int 1])) d6 (.par 1) := .inl (.inl upd_same)
      have o9 := o9.same (same_new fd6 (o := .tup [.str "parse", .int 1]))
      have i1 := isA_ext (ext_same (same_new fd6 (o := .tup [.str "parse", .int 1]))) i1
      have i2 := isA_ext (ext_same (same_new fd6 (o := .tup [.str "parse", .int 1]))) i2
      have i3 := isA_ext (ext_same (same_new fd6 (o := .tup [.str "parse", .int 1]))) i3
      have i4 := isA_ext (ext_same (same_new fd6 (o := .tup [.str "parse", .int 1]))) i4
      have i5 := isA_ext (ext_same (same_new fd6 (o := .tup [.str "parse", .int 1]))) i5
      generalize upd J5 d6 _ = J6 at i6 o9 i1 i2 i3 i4 i5 ⊢
      refine ⟨by show 1 ≤ sizeLine; decide, fun d7 fd7 => ?_⟩
      have i7 : IsA K (upd J6 d7 (.tup [.str "kinds"])) d7 (.wd "kinds") := .inl (.inl upd_same)
      have o9 := o9.same (same_new fd7 (o := .tup [.str "kinds"]))
      have i1 := isA_ext (ext_same (same_new fd7 (o := .tup [.str "kinds"]))) i1
      have i2 := isA_ext (ext_same (same_new fd7 (o := .tup [.str "kinds"]))) i2
      have i3 := isA_ext (ext_same (same_new fd7 (o := .tup [.str "kinds"]))) i3
      have i4 := isA_ext (ext_same (same_new fd7 (o := .tup [.str "kinds"]))) i4
      have i5 := isA_ext (ext_same (same_new fd7 (o := .tup [.str "kinds"]))) i5
      have i6 := isA_ext (ext_same (same_new fd7 (o := .tup [.str "kinds"]))) i6
      generalize upd J6 d7 _ = J7 at i7 o9 i1 i2 i3 i4 i5 i6 ⊢
      refine ⟨by show 7 ≤ sizeLine; decide, fun L fL => ?_⟩
      have eL : (upd J7 L (.lst [.ref d1, .ref d2, .ref d3, .ref d4, .ref d5, .ref d6, .ref d7])) L = some (.lst [.ref d1, .ref d2, .ref d3, .ref d4, .ref d5, .ref d6, .ref d7]) := upd_same
      have o9 := o9.same (same_new fL (o := .lst [.ref d1, .ref d2, .ref d3, .ref d4, .ref d5, .ref d6, .ref d7]))
      have i1 := isA_ext (ext_same (same_new fL (o := .lst [.ref d1, .ref d2, .ref d3, .ref d4, .ref d5, .ref d6, .ref d7]))) i1
      have i2 := isA_ext (ext_same (same_new fL (o := .lst [.ref d1, .ref d2, .ref d3, .ref d4, .ref d5, .ref d6, .ref d7]))) i2
      have i3 := isA_ext (ext_same (same_new fL (o := .lst [.ref d1, .ref d2, .ref d3, .ref d4, .ref d5, .ref d6, .ref d7]))) i3
      have i4 := isA_ext (ext_same (same_new fL (o := .lst [.ref d1, .ref d2, .ref d3, .ref d4, .ref d5, .ref d6, .ref d7]))) i4
      have i5 := isA_ext (ext_same (same_new fL (o := .lst [.ref d1, .ref d2, .ref d3, .ref d4, .ref d5, .ref d6, .ref d7]))) i5
      have i6 := isA_ext (ext_same (same_new fL (o := .lst [.ref d1, .ref d2, .ref d3, .ref d4, .ref d5, .ref d6, .ref d7]))) i6
      have i7 := isA_ext (ext_same (same_new fL (o := .lst [.ref d1, .ref d2, .ref d3, .ref d4, .ref d5, .ref d6, .ref d7]))) i7
      generalize upd J7 L _ = JL at eL o9 i1 i2 i3 i4 i5 i6 i7 ⊢
      refine ⟨_, rfl, _, rfl, ?_⟩
      refine ⟨by show 2 ≤ sizeLine; decide, fun d8 fd8 => ?_⟩
      have i8 : IsA K (upd JL d8 (.tup [.str "parse", .int 1])) d8 (.par 1) := .inl (.inl upd_same)
      have eL := same_new fd8 (o := .tup [.str "parse", .int 1]) _ _ eL
      have o9 := o9.same (same_new fd8 (o := .tup [.str "parse", .int 1]))
      have i1 := isA_ext (ext_same (same_new fd8 (o := .tup [.str "parse", .int 1]))) i1
      have i2 := isA_ext (ext_same (same_new fd8 (o := .tup [.str "parse", .int 1]))) i2
      have i3 := isA_ext (ext_same (same_new fd8 (o := .tup [.str "parse", .int 1]))) i3
      have i4 := isA_ext (ext_same (same_new fd8 (o := .tup [.str "parse", .int 1]))) i4
      have i5 := isA_ext (ext_same (same_new fd8 (o := .tup [.str "parse", .int 1]))) i5
      have i6 := isA_ext (ext_same (same_new fd8 (o := .tup [.str "parse", .int 1]))) i6
      have i7 := isA_ext (ext_same (same_new fd8 (o := .tup [.str "parse", .int 1]))) i7
      generalize upd JL d8 _ = J8 at i8 eL o9 i1 i2 i3 i4 i5 i6 i7 ⊢
      refine ⟨by show 2 ≤ sizeLine; decide, fun d9 fd9 => ?_⟩
      have i9 : IsA K (upd J8 d9 (.tup [.str "parse", .int 2])) d9 (.par 2) := .inl (.inl upd_same)
      have eL := same_new fd9 (o := .tup [.str "parse", .int 2]) _ _ eL
      have o9 := o9.same (same_new fd9 (o := .tup [.str "parse", .int 2]))
      have i1 := isA_ext (ext_same (same_new fd9 (o := .tup [.str "parse", .int 2]))) i1
      have i2 := isA_ext (ext_same (same_new fd9 (o := .tup [.str "parse", .int 2]))) i2
      have i3 := isA_ext (ext_same (same_new fd9 (o := .tup [.str "parse", .int 2]))) i3
      have i4 := isA_ext (ext_same (same_new fd9 (o := .tup [.str "parse", .int 2]))) i4
      have i5 := isA_ext (ext_same (same_new fd9 (o := .tup [.str "parse", .int 2]))) i5
      have i6 := isA_ext (ext_same (same_new fd9 (o := .tup [.str "parse", .int 2]))) i6
      have i7 := isA_ext (ext_same (same_new fd9 (o := .tup [.str "parse", .int 2]))) i7
      have i8 := isA_ext (ext_same (same_new fd9 (o := .tup [.str "parse", .int 2]))) i8
      generalize upd J8 d9 _ = J9 at i9 eL o9 i1 i2 i3 i4 i5 i6 i7 i8 ⊢
      refine ⟨by show 2 ≤ sizeLine; decide, fun L2 fL2 => ?_⟩
      have eL2 : (upd J9 L2 (.lst [.ref d8, .ref d9])) L2 = some (.lst [.ref d8, .ref d9]) := upd_same
      have eL := same_new fL2 (o := .lst [.ref d8, .ref d9]) _ _ eL
      have o9 := o9.same (same_new fL2 (o := .lst [.ref d8, .ref d9]))
      have i1 := isA_ext (ext_same (same_new fL2 (o := .lst [.ref d8, .ref d9]))) i1
      have i2 := isA_ext (ext_same (same_new fL2 (o := .lst [.ref d8, .ref d9]))) i2
      have i3 := isA_ext (ext_same (same_new fL2 (o := .lst [.ref d8, .ref d9]))) i3
      have i4 := isA_ext (ext_same (same_new fL2 (o := .lst [.ref d8, .ref d9]))) i4
      have i5 := isA_ext (ext_same (same_new fL2 (o := .lst [.ref d8, .ref d9]))) i5
      have i6 := isA_ext (ext_same (same_new fL2 (o := .lst [.ref d8, .ref d9]))) i6
      have i7 := isA_ext (ext_same (same_new fL2 (o := .lst [.ref d8, .ref d9]))) i7
      have i8 := isA_ext (ext_same (same_new fL2 (o := .lst [.ref d8, .ref d9]))) i8
      have i9 := isA_ext (ext_same (same_new fL2 (o := .lst [.ref d8, .ref d9]))) i9
      generalize upd J9 L2 _ = JM at eL eL2 o9 i1 i2 i3 i4 i5 i6 i7 i8 i9 ⊢
      refine ⟨L, L2, _, _, rfl, rfl, eL, eL2, by show 9 ≤ sizeLine; decide, fun L3 fL3 => ?_⟩
      have e3 : (upd JM L3 (.lst ([.ref d1, .ref d2, .ref d3, .ref d4, .ref d5, .ref d6, .ref d7] ++ [.ref d8, .ref d9]))) L3 = some (.lst [.ref d1, .ref d2, .ref d3, .ref d4, .ref d5, .ref d6, .ref d7, .ref d8, .ref d9]) := upd_same
      have o9 := o9.same (same_new fL3 (o := .lst ([.ref d1, .ref d2, .ref d3, .ref d4, .ref d5, .ref d6, .ref d7] ++ [.ref d8, .ref d9])))
      have i1 := isA_ext (ext_same (same_new fL3 (o := .lst ([.ref d1, .ref d2, .ref d3, .ref d4, .ref d5, .ref d6, .ref d7] ++ [.ref d8, .ref d9])))) i1
      have i2 := isA_ext (ext_same (same_new fL3 (o := .lst ([.ref d1, .ref d2, .ref d3, .ref d4, .ref d5, .ref d6, .ref d7] ++ [.ref d8, .ref d9])))) i2
      have i3 := isA_ext (ext_same (same_new fL3 (o := .lst ([.ref d1, .ref d2, .ref d3, .ref d4, .ref d5, .ref d6, .ref d7] ++ [.ref d8, .ref d9])))) i3
      have i4 := isA_ext (ext_same (same_new fL3 (o := .lst ([.ref d1, .ref d2, .ref d3, .ref d4, .ref d5, .ref d6, .ref d7] ++ [.ref d8, .ref d9])))) i4
      have i5 := isA_ext (ext_same (same_new fL3 (o := .lst ([.ref d1, .ref d2, .ref d3, .ref d4, .ref d5, .ref d6, .ref d7] ++ [.ref d8, .ref d9])))) i5
      have i6 := isA_ext (ext_same (same_new fL3 (o := .lst ([.ref d1, .ref d2, .ref d3, .ref d4, .ref d5, .ref d6, .ref d7] ++ [.ref d8, .ref d9])))) i6
      have i7 := isA_ext (ext_same (same_new fL3 (o := .lst ([.ref d1, .ref d2, .ref d3, .ref d4, .ref d5, .ref d6, .ref d7] ++ [.ref d8, .ref d9])))) i7
      have i8 := isA_ext (ext_same (same_new fL3 (o := .lst ([.ref d1, .ref d2, .ref d3, .ref d4, .ref d5, .ref d6, .ref d7] ++ [.ref d8, .ref d9])))) i8
      have i9 := isA_ext (ext_same (same_new fL3 (o := .lst ([.ref d1, .ref d2, .ref d3, .ref d4, .ref d5, .ref d6, .ref d7] ++ [.ref d8, .ref d9])))) i9
      generalize upd JM L3 _ = JN at e3 o9 i1 i2 i3 i4 i5 i6 i7 i8 i9 ⊢
      obtain ⟨ws, ew, pw⟩ := o9.wd
      refine eqL (as := [.wd "move", .par 2, .par 6, .par 4, .par 2, .par 1, .wd "kinds", .par 1, .par 2]) ew e3 pw (.cons ⟨d1, rfl, i1⟩ (.cons ⟨d2, rfl, i2⟩ (.cons ⟨d3, rfl, i3⟩ (.cons ⟨d4, rfl, i4⟩ (.cons ⟨d5, rfl, i5⟩ (.cons ⟨d6, rfl, i6⟩ (.cons ⟨d7, rfl, i7⟩ (.cons ⟨d8, rfl, i8⟩ (.cons ⟨d9, rfl, i9⟩ (.nil)))))))))) ?_ (q _)
      intro a ha
      simp only [List.mem_cons, List.not_mem_nil, or_false] at ha
      rcases ha with rfl | rfl | rfl | rfl | rfl | rfl | rfl | rfl | rfl
      all_goals first
        | trivial
        | (show PyData.strOk _ = true; decide +kernel)
end
end K85


set_option Elab.async false
set_option linter.all false
set_option maxRecDepth 100000
set_option maxHeartbeats 2000000
namespace K85
open PySem PySem.Spec PyProof.Rows L2 MM LamX
theorem kepRow_ok {K : PySem.W.Frag} {C : Addr} {top : List Value} {newId : String} (h : kepRow K C top newId = true) : ∃ nm q N bs bm sn sub ab col dd k0 k1 k2 k3 k5,
    K.lookup C = some (excClassObj nm q C N bs bm true sn sub ab col dd k0 k1 k2 k3 k5 newId) ∧ PySem.W.excTail top bm = true := by
  unfold kepRow at h
  split at h
  · rename_i dd cd sl lk
    obtain ⟨nm, bs, mro, ns, qn, hd, sn, sub, ab, col, del⟩ := cd
    simp only [Bool.and_eq_true, Bool.not_eq_true'] at h
    obtain ⟨⟨⟨h1, h2⟩, h3⟩, h4⟩ := h
    subst h3 h4
    split at h1
    · rename_i C' bm
      rw [Bool.and_eq_true, decide_eq_true_eq] at h1
      obtain ⟨rfl, ht⟩ := h1
      split at h2
      · rename_i k0 k1 k2 k3 n k5 e2
        have e3 : n = newId := of_decide_eq_true h2
        subst e3
        have e4 : sl = #[k0, k1, k2, k3, some (.builtin n), k5] := by
          obtain ⟨l⟩ := sl
          simp only at e2
          rw [e2]
        subst e4
        exact ⟨nm, qn, ns, bs, bm, sn, sub, ab, col, dd, k0, k1, k2, k3, k5, lk, ht⟩
      · cases h2
    · cases h1
  · cases h
theorem kep_ok {K : PySem.W.Frag} {mg : Str → Option Value} {x f : Str} (g : mg x = some (.ref (ga K x))) {B newId initId : String} {top : List Value} {st : Stmt} (h : kepB K x f top newId = true) (hb : PySem.HandSPX.Bs B newId initId top)
    (hp : StoreFacts B top "object.__setattr__" "object")
    (F : ∃ fd, FunD K "__init__" (x ++ ".__init__") (defArgs st) (defBody st) (defScope st) [] [] (He.ma K (ga K x) "__init__") fd) : Kep K mg x f B newId initId top st := by
  unfold kepB at h
  simp only [Bool.and_eq_true, decide_eq_true_eq] at h
  obtain ⟨⟨⟨⟨⟨⟨⟨⟨r1, r2⟩, r3⟩, r4⟩, r5⟩, r6⟩, r7⟩, r8⟩, r9⟩ := h
  obtain ⟨fd, F⟩ := F
  exact ⟨g, ⟨hb, hp, kepRow_ok r1, r2, r3, r4, r5⟩, r6, xfB_ok r7, ⟨_, fd, r8, r9, F⟩⟩
theorem ask_ok {K : PySem.W.Frag} (h : askB K = true) : MD.Asks K (ga K "MarkError") "ValueError.__init__" := by
  unfold askB at h
  simp only [Bool.and_eq_true, decide_eq_true_eq] at h
  obtain ⟨⟨a, b⟩, c⟩ := h
  refine ⟨a, b, ?_⟩
  split at c
  · rename_i n e
    have e3 : n = "ValueError.__init__" := of_decide_eq_true c
    subst e3
    exact e
  · cases c
theorem ex_ok {K : PySem.W.Frag} {mg : Str → Option Value} (h : allB K = true) (g1 : mg "InvalidMove" = some (.ref (ga K "InvalidMove")))
    (g3 : mg "InvalidRow" = some (.ref (ga K "InvalidRow"))) (g4 : mg "InvalidKinds" = some (.ref (ga K "InvalidKinds"))) (g5 : mg "MarkError" = some (.ref (ga K "MarkError")))
    (g6 : mg "ParseError" = some (.ref (ga K "ParseError"))) (g7 : mg "InvalidNumber" = some (.ref (ga K "InvalidNumber")))
    (ie : mg "IndexError" = none)
    (F1 : ∃ fd, FunD K "__init__" ("ParseError" ++ ".__init__") (defArgs sIniP) (defBody sIniP) (defScope sIniP) [] [] (He.ma K (ga K "ParseError") "__init__") fd)
    (F2 : ∃ fd, FunD K "__init__" ("InvalidNumber" ++ ".__init__") (defArgs sIniN) (defBody sIniN) (defScope sIniN) [] [] (He.ma K (ga K "InvalidNumber") "__init__") fd) :
    Ex K mg ∧ Ap K := by
  unfold allB at h
  simp only [Bool.and_eq_true] at h
  obtain ⟨p1, p3, p4, as, k1, k2, ex, d12, d13, d14, d23, d24, d34⟩ := h
  rw [List.all_eq_true] at ex
  exact ⟨{
    mv := plain_ok g1 p1
    rw := plain_ok g3 p3
    ks := plain_ok g4 p4
    ask := ask_ok as
    mark := g5
    ie := ie
    par := kep_ok g6 k1 (PySem.HandSPX.Bs.of PySem.F.excBase_ValueError) PySem.F.store_ValueError F1
    num := kep_ok g7 k2 (PySem.HandSPX.Bs.of PySem.F.excBase_IndexError) PySem.F.store_IndexError F2
    exm := fun i hi j hj => of_decide_eq_true ((List.all_eq_true.mp (ex i (List.mem_range.mpr hi))) j (List.mem_range.mpr (by omega))) },
    ⟨of_decide_eq_true d12, of_decide_eq_true d13, of_decide_eq_true d14, of_decide_eq_true d23, of_decide_eq_true d24, of_decide_eq_true d34⟩⟩
end K85

set_option Elab.async false
set_option linter.all false
set_option maxRecDepth 100000
set_option maxHeartbeats 0
namespace K85
open PySem PySem.Spec PyProof.Rows L2 MM LamX
theorem law_def {P : Program} {w : World} {K : PySem.W.Frag} {mg : Str → Option Value} {base : Heap} (T : Tx K mg) (Y : Ex K mg) (TB : Tb K mg base) : Def P w K mg base CX0 11 "law" ["_law_script"] (spLawT K) := by
  have DBagL := dBagL (P := P) (w := w) (base := base) T 
  have DGrabL := dGrabL (P := P) (w := w) (base := base) T 
  have DOneOfL := dOneOfL (P := P) (w := w) (base := base) T DGrabL
  have DIsWhole := dIsWhole (P := P) (w := w) (base := base) T 
  have DIsInteger := dIsInteger (P := P) (w := w) (base := base) T DIsWhole
  have DIsBetween := dIsBetween (P := P) (w := w) (base := base) T DIsWhole
  have DNeedBetween := dNeedBetween (P := P) (w := w) (base := base) T DIsBetween
  have DIsAt := dIsAt (P := P) (w := w) (base := base) T 
  have DIsDigitAt := dIsDigitAt (P := P) (w := w) (base := base) T 
  have BReadPlain := bReadPlain (P := P) (w := w) (base := base) T Y DIsDigitAt DIsAt
  have BNeedText := bNeedText (P := P) (w := w) (base := base) T Y 
  have BBehind := bBehind (P := P) (w := w) (base := base) T Y DIsAt
  have BReadLess := bReadLess (P := P) (w := w) (base := base) T Y DIsAt
  have BReadSigned := bReadSigned (P := P) (w := w) (base := base) T Y BReadLess BReadPlain
  have BReadRow := bReadRow (P := P) (w := w) (base := base) T Y BNeedText BReadSigned BBehind
  have BReadTerm := bReadTerm (P := P) (w := w) (base := base) T Y DIsAt BReadPlain BBehind
  have BReadTerms := bReadTerms (P := P) (w := w) (base := base) T Y DIsAt BReadLess BReadTerm BBehind
  have BNeedBetween := bNeedBetween (P := P) (w := w) (base := base) T Y DIsBetween
  have BReadKinds := bReadKinds (P := P) (w := w) (base := base) T Y DIsInteger BNeedText BNeedBetween BReadTerms
  have DNeedPlaces := dNeedPlaces (P := P) (w := w) (base := base) T DNeedBetween
  have DNeedRings := dNeedRings (P := P) (w := w) (base := base) T DIsBetween
  have DMoveOfCycles := dMoveOfCycles (P := P) (w := w) (base := base) T DNeedPlaces DNeedRings
  have BReadRing := bReadRing (P := P) (w := w) (base := base) T Y DIsAt BReadPlain BBehind
  have BReadRings := bReadRings (P := P) (w := w) (base := base) T Y DIsAt BReadRing
  have BMoveOf := bMoveOf (P := P) (w := w) (base := base) T Y DMoveOfCycles
  have BReadMove := bReadMove (P := P) (w := w) (base := base) T Y DNeedPlaces BNeedText BReadRings BMoveOf
  have DCyclesL := dCyclesL (P := P) (w := w) (base := base) T 
  have DMoveDrawnL := dMoveDrawnL (P := P) (w := w) (base := base) T DGrabL
  have DFiguresL := dFiguresL (P := P) (w := w) (base := base) T 
  have DCyclesFromL := dCyclesFromL (P := P) (w := w) (base := base) T DFiguresL
  have DMoveOfL := dMoveOfL (P := P) (w := w) (base := base) T 
  have DMoveReadL := dMoveReadL (P := P) (w := w) (base := base) T DCyclesFromL DMoveOfL
  have DNumberL := dNumberL (P := P) (w := w) (base := base) T DOneOfL DGrabL
  have DNearTextL := dNearTextL (P := P) (w := w) (base := base) T DGrabL DOneOfL
  have DKindsTextL := dKindsTextL (P := P) (w := w) (base := base) T 
  have DMoveTextL := dMoveTextL (P := P) (w := w) (base := base) T DCyclesL
  have DRowReadL := dRowReadL (P := P) (w := w) (base := base) T DFiguresL
  have DTermFromL := dTermFromL (P := P) (w := w) (base := base) T DFiguresL
  have DKindsReadL := dKindsReadL (P := P) (w := w) (base := base) T DTermFromL
  have DMovesRightL := dMovesRightL (P := P) (w := w) (base := base) T Y TB DGrabL DMoveTextL DMoveDrawnL DNearTextL DMoveReadL BReadMove
  have DRowsRightL := dRowsRightL (P := P) (w := w) (base := base) T Y TB DOneOfL DNumberL DGrabL DNearTextL DRowReadL BReadRow
  have DKindsRightL := dKindsRightL (P := P) (w := w) (base := base) T Y TB DGrabL DKindsTextL DNumberL DNearTextL DKindsReadL BReadKinds
  exact dLaw T Y TB DBagL DKindsRightL DRowsRightL DMovesRightL BReadMove BReadRow BReadKinds
theorem tx {K : PySem.W.Frag} {h : Heap} {mg : Str → Option Value} (X : K.In h) (G : h.Ns mainGlobals mg) (c : He.SaysD fa fn K) (ez : ex K = true) : Tx K mg := by
  have e := (He.ba ez).2
  exact {
    t_is_whole := ⟨c.def_ 0 rfl, He.glo_ok X G (c.fact 0 rfl)⟩
    t_is_integer := ⟨c.def_ 1 rfl, He.glo_ok X G (c.fact 1 rfl)⟩
    t_is_between := ⟨c.def_ 2 rfl, He.glo_ok X G (c.fact 2 rfl)⟩
    t_need_between := ⟨c.def_ 3 rfl, He.glo_ok X G (c.fact 3 rfl)⟩
    t_need_places := ⟨c.def_ 4 rfl, He.glo_ok X G (c.fact 4 rfl)⟩
    t_need_rings := ⟨c.def_ 5 rfl, He.glo_ok X G (c.fact 5 rfl)⟩
    t_move_of_cycles := ⟨c.def_ 6 rfl, He.glo_ok X G (c.fact 6 rfl)⟩
    t_need_text := ⟨c.def_ 7 rfl, He.glo_ok X G (c.fact 7 rfl)⟩
    t_is_at := ⟨c.def_ 8 rfl, He.glo_ok X G (c.fact 8 rfl)⟩
    t_behind := ⟨c.def_ 9 rfl, He.glo_ok X G (c.fact 9 rfl)⟩
    t_is_digit_at := ⟨c.def_ 10 rfl, He.glo_ok X G (c.fact 10 rfl)⟩
    t_read_plain := ⟨c.def_ 11 rfl, He.glo_ok X G (c.fact 11 rfl)⟩
    t_read_less := ⟨c.def_ 12 rfl, He.glo_ok X G (c.fact 12 rfl)⟩
    t_read_ring := ⟨c.def_ 13 rfl, He.glo_ok X G (c.fact 13 rfl)⟩
    t_read_rings := ⟨c.def_ 14 rfl, He.glo_ok X G (c.fact 14 rfl)⟩
    t_move_of := ⟨c.def_ 15 rfl, He.glo_ok X G (c.fact 15 rfl)⟩
    t_read_move := ⟨c.def_ 16 rfl, He.glo_ok X G (c.fact 16 rfl)⟩
    t_read_signed := ⟨c.def_ 17 rfl, He.glo_ok X G (c.fact 17 rfl)⟩
    t_read_row := ⟨c.def_ 18 rfl, He.glo_ok X G (c.fact 18 rfl)⟩
    t_read_term := ⟨c.def_ 19 rfl, He.glo_ok X G (c.fact 19 rfl)⟩
    t_read_terms := ⟨c.def_ 20 rfl, He.glo_ok X G (c.fact 20 rfl)⟩
    t_read_kinds := ⟨c.def_ 21 rfl, He.glo_ok X G (c.fact 21 rfl)⟩
    t_law_bag := ⟨c.def_ 22 rfl, He.glo_ok X G (c.fact 22 rfl)⟩
    t_law_grab := ⟨c.def_ 23 rfl, He.glo_ok X G (c.fact 23 rfl)⟩
    t_law_one_of := ⟨c.def_ 24 rfl, He.glo_ok X G (c.fact 24 rfl)⟩
    t_law_cycles := ⟨c.def_ 25 rfl, He.glo_ok X G (c.fact 25 rfl)⟩
    t_law_move_drawn := ⟨c.def_ 26 rfl, He.glo_ok X G (c.fact 26 rfl)⟩
    t_law_figures := ⟨c.def_ 27 rfl, He.glo_ok X G (c.fact 27 rfl)⟩
    t_law_cycles_from := ⟨c.def_ 28 rfl, He.glo_ok X G (c.fact 28 rfl)⟩
    t_law_move_of := ⟨c.def_ 29 rfl, He.glo_ok X G (c.fact 29 rfl)⟩
    t_law_move_text := ⟨c.def_ 30 rfl, He.glo_ok X G (c.fact 30 rfl)⟩
    t_law_move_read := ⟨c.def_ 31 rfl, He.glo_ok X G (c.fact 31 rfl)⟩
    t_law_near_text := ⟨c.def_ 32 rfl, He.glo_ok X G (c.fact 32 rfl)⟩
    t_law_kinds_text := ⟨c.def_ 33 rfl, He.glo_ok X G (c.fact 33 rfl)⟩
    t_law_met := ⟨c.def_ 34 rfl, He.glo_ok X G (c.fact 34 rfl)⟩
    t_law_row_read := ⟨c.def_ 35 rfl, He.glo_ok X G (c.fact 35 rfl)⟩
    t_law_term_from := ⟨c.def_ 36 rfl, He.glo_ok X G (c.fact 36 rfl)⟩
    t_law_kinds_read := ⟨c.def_ 37 rfl, He.glo_ok X G (c.fact 37 rfl)⟩
    t_law_moves_right := ⟨c.def_ 38 rfl, He.glo_ok X G (c.fact 38 rfl)⟩
    t_law_number := ⟨c.def_ 39 rfl, He.glo_ok X G (c.fact 39 rfl)⟩
    t_law_rows_right := ⟨c.def_ 40 rfl, He.glo_ok X G (c.fact 40 rfl)⟩
    t_law_kinds_right := ⟨c.def_ 41 rfl, He.glo_ok X G (c.fact 41 rfl)⟩
    t_law := ⟨c.def_ 42 rfl, He.glo_ok X G (c.fact 42 rfl)⟩
    f_IndexError := He.free_ok X G (c.fact 43 rfl)
    f_abs := He.free_ok X G (c.fact 44 rfl)
    f_all := He.free_ok X G (c.fact 45 rfl)
    f_bool := He.free_ok X G (c.fact 46 rfl)
    f_enumerate := He.free_ok X G (c.fact 47 rfl)
    f_int := He.free_ok X G (c.fact 48 rfl)
    f_isinstance := He.free_ok X G (c.fact 49 rfl)
    f_len := He.free_ok X G (c.fact 50 rfl)
    f_list := He.free_ok X G (c.fact 51 rfl)
    f_max := He.free_ok X G (c.fact 52 rfl)
    f_min := He.free_ok X G (c.fact 53 rfl)
    f_range := He.free_ok X G (c.fact 54 rfl)
    f_set := He.free_ok X G (c.fact 55 rfl)
    f_str := He.free_ok X G (c.fact 56 rfl)
    f_sum := He.free_ok X G (c.fact 57 rfl)
    f_tuple := He.free_ok X G (c.fact 58 rfl)
    c_TOO_LONG := by
      obtain ⟨t, e⟩ := He.int_ok X G (c.fact 59 rfl)
      exact ⟨_, e, t, rfl⟩
    c_MAX_PLACES := by
      obtain ⟨t, e⟩ := He.int_ok X G (c.fact 60 rfl)
      exact ⟨_, e, t, rfl⟩
    c_MOST_SIGNS := by
      obtain ⟨t, e⟩ := He.int_ok X G (c.fact 61 rfl)
      exact ⟨_, e, t, rfl⟩
    c_MOST_MEMBERS := by
      obtain ⟨t, e⟩ := He.int_ok X G (c.fact 62 rfl)
      exact ⟨_, e, t, rfl⟩
    c_DIGITS := by
      obtain ⟨t, e⟩ := He.str_ok X G (c.fact 63 rfl)
      exact ⟨_, e, t, rfl⟩
    c_MOST_DIGITS := by
      obtain ⟨t, e⟩ := He.int_ok X G (c.fact 64 rfl)
      exact ⟨_, e, t, rfl⟩
    }
theorem exs {K : PySem.W.Frag} {h : Heap} {mg : Str → Option Value} (X : K.In h) (G : h.Ns mainGlobals mg) (c : He.SaysD fa fn K) (e : ex K = true) : Ex K mg ∧ Ap K :=
  ex_ok (He.ba e).1 (He.glo_ok X G (c.fact 65 rfl)) (He.glo_ok X G (c.fact 66 rfl)) (He.glo_ok X G (c.fact 67 rfl)) (He.glo_ok X G (c.fact 68 rfl)) (He.glo_ok X G (c.fact 69 rfl)) (He.glo_ok X G (c.fact 70 rfl)) (tx X G c e).f_IndexError (c.def_ 43 rfl) (c.def_ 44 rfl)
theorem law_ends {P : Program} {w : World} {K : PySem.W.Frag} {h : Heap} {mg : Str → Option Value} {f : Addr} (X : K.In h) (G : h.Ns mainGlobals mg) (hfa : mg ("law" : Str) = some (.ref f)) (c : He.SaysD fa fn K) (e : ex K = true) :
    ∃ fd : FuncData, (∀ (s : Shared) (v : Value), BindsTo s fd ⟨[v], []⟩ [("_law_script", v)]) ∧ ∀ base : Heap, K.In base → base.Ns mainGlobals mg → (∀ p ∈ cs K, TabB base mg p.1 p.2) → FnG P w K mg base CX0 11 f fd ["_law_script"] (spLawT K) := by
  have T : Tx K mg := tx X G c e
  obtain ⟨Y, ap⟩ := exs X G c e
  obtain ⟨fd, F⟩ := T.t_law.fn
  have b := FunD.bindsA (ps := ["_law_script"]) F fun _ _ _ _ _ _ us hl => match us, hl with | [_], _ => rfl
  refine ⟨fd, fun s v => b s [v] rfl, fun base _ _ tb => ?_⟩
  have TB : Tb K mg base := ⟨tb (cd1 K) List.mem_cons_self, tb (cd2 K) (List.mem_cons_of_mem _ List.mem_cons_self), tb (cd3 K) (List.mem_cons_of_mem _ (List.mem_cons_of_mem _ List.mem_cons_self)), tb (cd4 K) (List.mem_cons_of_mem _ (List.mem_cons_of_mem _ (List.mem_cons_of_mem _ List.mem_cons_self))), ap⟩
  obtain ⟨oc, od, _, _, _, _, _, _, _, osl, _, lk, _⟩ := F.ex
  obtain ⟨f2, fd2, F2, hm, _, _, oc2, od2, sl2, lk2⟩ := law_def (P := P) (w := w) (base := base) T Y TB
  have e1 : f2 = f := by
    rw [hfa] at hm
    injection hm with hm
    injection hm with hm
    exact hm.symm
  have e2 : He.ga K "law" = f := by
    have g := T.t_law.glo
    rw [hfa] at g
    injection g with g
    injection g with g
    exact g.symm
  subst e1
  rw [e2] at lk
  rw [lk] at lk2
  injection lk2 with lk2
  injection lk2 with z1 z2 z3 z4
  injection z3 with z3
  subst z3
  exact F2
end K85

set_option Elab.async false
set_option linter.all false
set_option maxRecDepth 100000
set_option maxHeartbeats 0
namespace K85
open PySem PySem.Spec PyProof.Rows L2 MM
end K85
open PySem PySem.W PySem.Calls PyProof.Rows
theorem PySem.Challenge.cw_movemarks_k85_whole_texts_with_faults_holds : PySem.Challenge.rw_movemarks_k85_whole_texts_with_faults.Holds := by
  w_on; o_law
  refine HandSHeadRun.head_imp (r := OpenLaw.row PySem.Challenge.rw_movemarks_k85_whole_texts_with_faults) (q := view (OpenLaw.row PySem.Challenge.rw_movemarks_k85_whole_texts_with_faults).prog [60]) (H := K85.hk) (ob := K85.ob) (M := 20000) (loose := K85.names)
    (d := HandSHeadRun.topDef (OpenLaw.row PySem.Challenge.rw_movemarks_k85_whole_texts_with_faults).prog 60) (kwd := []) K85.ob_eq K85.run9 (by kernel_rfl) (by kernel_rfl) (by kernel_rfl) (by rfl) (by first | assumption | decide +kernel) (by decide +kernel) ⟨rfl, rfl, rfl, rfl, rfl, by decide +kernel⟩ ?hw ?hc
  case hw => w_witness2
  case hc =>
    refine ME.walk_tab (l := PySem.Challenge.rw_movemarks_k85_whole_texts_with_faults) (n := 63) (k := 11) (x := "_law_script") (CX := fun _ => L2.CX0) rfl (by decide) (by kernel_rfl) ⟨⟨rfl, by decide, by decide⟩, rfl⟩ ?F (fun _ _ _ _ _ z => z)
    intro w mg fa h Y G hmg0
    obtain ⟨K, KX, c⟩ := Y
    have hmg : mg ("law" : PySem.Str) = some (.ref fa) := by
      have e : (HandSHeadRun.topDef (OpenLaw.row PySem.Challenge.rw_movemarks_k85_whole_texts_with_faults).prog 60).name = ("law" : PySem.Str) := by kernel_rfl
      rw [← e]
      exact hmg0
    obtain ⟨fd, hb, hF⟩ := K85.law_ends (P := (PySem.Challenge.rw_movemarks_k85_whole_texts_with_faults).prog) (w := w) KX G hmg c.t.d c.more
    have m1 : ((K85.sMr, none) : He.Defn) ∈ K85.tf := List.mem_cons_self
    have m2 : ((K85.sRr, none) : He.Defn) ∈ K85.tf := List.mem_cons_of_mem _ List.mem_cons_self
    have m3 : ((K85.sKr, none) : He.Defn) ∈ K85.tf := List.mem_cons_of_mem _ (List.mem_cons_of_mem _ List.mem_cons_self)
    have m4 : ((K85.sLw, none) : He.Defn) ∈ K85.tf := List.mem_cons_of_mem _ (List.mem_cons_of_mem _ (List.mem_cons_of_mem _ List.mem_cons_self))
    have all4 : ∀ (φ : PySem.Addr × PySem.Addr → Prop), φ (K85.cd1 K) → φ (K85.cd2 K) → φ (K85.cd3 K) → φ (K85.cd4 K) → ∀ p ∈ K85.cs K, φ p := by
      intro φ a b c d p hp
      have hp2 : p = K85.cd1 K ∨ p = K85.cd2 K ∨ p = K85.cd3 K ∨ p = K85.cd4 K := by simpa only [List.mem_cons, List.not_mem_nil, or_false] using hp
      rcases hp2 with rfl | rfl | rfl | rfl
      · exact a
      · exact b
      · exact c
      · exact d
    refine ⟨K, fd, K85.spLawT K, K85.cs K, KX, all4 _ (c.empty _ m1) (c.empty _ m2) (c.empty _ m3) (c.empty _ m4), all4 _ (c.out _ m1) (c.out _ m2) (c.out _ m3) (c.out _ m4),
      all4 _ (PySem.W.codeHd_of_K KX (c.hd _ m1)) (PySem.W.codeHd_of_K KX (c.hd _ m2)) (PySem.W.codeHd_of_K KX (c.hd _ m3)) (PySem.W.codeHd_of_K KX (c.hd _ m4)), hb, fun H a ns hl ht hS => ?_, hF⟩
    refine ⟨a, ns, rfl, hS, by omega, ?_, fun _ => rfl⟩
    intro p hp
    rcases K85.tl_mem hp with rfl | rfl | rfl | rfl
    · exact LamX.TabS.nil (ht (K85.cd1 K) List.mem_cons_self)
    · exact LamX.TabS.nil (ht (K85.cd2 K) (List.mem_cons_of_mem _ List.mem_cons_self))
    · exact LamX.TabS.nil (ht (K85.cd3 K) (List.mem_cons_of_mem _ (List.mem_cons_of_mem _ List.mem_cons_self)))
    · exact LamX.TabS.nil (ht (K85.cd4 K) (List.mem_cons_of_mem _ (List.mem_cons_of_mem _ (List.mem_cons_of_mem _ List.mem_cons_self))))
